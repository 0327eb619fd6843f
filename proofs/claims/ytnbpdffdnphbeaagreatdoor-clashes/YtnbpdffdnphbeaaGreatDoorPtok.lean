import Derived.Test.YtnbpdffdnphbeaaGreatDoorLex4
set_option maxHeartbeats 1000000
namespace Go.Proofs.YtnbpdffdnphbeaaGreatDoor
open Go
variable(s l:Bs)(b:Bool)(w:World)
def DO:List Bs:=[[110,117,109],[102,108,97,103],[114,117,108,101],[111,118,101,114],[119,104,101,110],[111,114],[97,110,100],[110,111,116],[104,97,115],[97,108,119,97,121,115]]
def VI:List Bs:=[[58],[61],[46,46],[59],[40],[41],[60],[60,61],[33,61],[62,61],[62],[43],[45],[42]]
def qG(s:Bs):Bool:=DO.contains s
def vG(s:Bs):Bool:=VI.contains s
def xD:Int->Bs->Int
 | a,[]=>a
 | a,c::r=>xD (10*a+((c.toNat:Int)-48)) r
def vU(s:Bs):Int :=
 if so (s.getD 0 0)=1 then (if 8<s.length then 1 else if qG s=true then 4 else 2)
 else if so (s.getD 0 0)=2 then (if 4<s.length\/1<s.length/\s.getD 0 0=48 then 1 else 3)
 else if vG s=true then 4 else 1
def pY(s:Bs):Int:=if vU s=3 then xD 0 s else 0
def zCD(t:Nat × Bs):List Value:=[.int .i64 (vU t.2),.string ⟨t.2.toArray⟩,.int .i64 (pY t.2),.int .i64 t.1]
def KD(len:Nat):List Value:=[.int .i64 0,.string ⟨#[]⟩,.int .i64 0,.int .i64 len]
def Yz(ts:zG):List Value:=ts.flatMap zCD
theorem CN(ts:zG)(t:Nat × Bs):Yz (ts++[t])=Yz ts++zCD t:=by simp[Yz]
open Go.RowKit
theorem zA{p:Prop}(h:p):Hid p:=h
theorem uc{c:UInt8}(h:so c=2):(48:Int)<=(c.toNat:Int)/\(c.toNat:Int)<=57:=by
 unfold so tV at h;split at h
 ·omega
 ·split at h
  ·assumption
  ·split at h <;> omega
theorem C9 :
 Calls Tryz.prog 243 #[.string ⟨s.toArray⟩] w fun e w'=>e=.returned (.bool (qG s))/\w'=w:=by
 by_cases c0:s=[110,117,109]
 ·subst c0
  have HF:Hid (qG [110,117,109]=true):=by unfold Hid;decide
  go_enter Tryz.func243,Tryz.ntmps243
  go_wp2
  go_ret;exact⟨zE HF.out.symm,rfl⟩
 by_cases c1:s=[102,108,97,103]
 ·subst c1
  have HF:Hid (qG [102,108,97,103]=true):=by unfold Hid;decide
  go_enter Tryz.func243,Tryz.ntmps243
  go_wp2
  go_ret;exact⟨zE HF.out.symm,rfl⟩
 by_cases c2:s=[114,117,108,101]
 ·subst c2
  have HF:Hid (qG [114,117,108,101]=true):=by unfold Hid;decide
  go_enter Tryz.func243,Tryz.ntmps243
  go_wp2
  go_ret;exact⟨zE HF.out.symm,rfl⟩
 by_cases c3:s=[111,118,101,114]
 ·subst c3
  have HF:Hid (qG [111,118,101,114]=true):=by unfold Hid;decide
  go_enter Tryz.func243,Tryz.ntmps243
  go_wp2
  go_ret;exact⟨zE HF.out.symm,rfl⟩
 by_cases c4:s=[119,104,101,110]
 ·subst c4
  have HF:Hid (qG [119,104,101,110]=true):=by unfold Hid;decide
  go_enter Tryz.func243,Tryz.ntmps243
  go_wp2
  go_ret;exact⟨zE HF.out.symm,rfl⟩
 by_cases c5:s=[111,114]
 ·subst c5
  have HF:Hid (qG [111,114]=true):=by unfold Hid;decide
  go_enter Tryz.func243,Tryz.ntmps243
  go_wp2
  go_ret;exact⟨zE HF.out.symm,rfl⟩
 by_cases c6:s=[97,110,100]
 ·subst c6
  have HF:Hid (qG [97,110,100]=true):=by unfold Hid;decide
  go_enter Tryz.func243,Tryz.ntmps243
  go_wp2
  go_ret;exact⟨zE HF.out.symm,rfl⟩
 by_cases c7:s=[110,111,116]
 ·subst c7
  have HF:Hid (qG [110,111,116]=true):=by unfold Hid;decide
  go_enter Tryz.func243,Tryz.ntmps243
  go_wp2
  go_ret;exact⟨zE HF.out.symm,rfl⟩
 by_cases c8:s=[104,97,115]
 ·subst c8
  have HF:Hid (qG [104,97,115]=true):=by unfold Hid;decide
  go_enter Tryz.func243,Tryz.ntmps243
  go_wp2
  go_ret;exact⟨zE HF.out.symm,rfl⟩
 by_cases c9:s=[97,108,119,97,121,115]
 ·subst c9
  have HF:Hid (qG [97,108,119,97,121,115]=true):=by unfold Hid;decide
  go_enter Tryz.func243,Tryz.ntmps243
  go_wp2
  go_ret;exact⟨zE HF.out.symm,rfl⟩
 have HF:Hid (qG s=false):=by simp[Hid,qG,DO,c0,c1,c2,c3,c4,c5,c6,c7,c8,c9]
 have b0:(s==[110,117,109])=false:=by simpa using c0
 have b1:(s==[102,108,97,103])=false:=by simpa using c1
 have b2:(s==[114,117,108,101])=false:=by simpa using c2
 have b3:(s==[111,118,101,114])=false:=by simpa using c3
 have b4:(s==[119,104,101,110])=false:=by simpa using c4
 have b5:(s==[111,114])=false:=by simpa using c5
 have b6:(s==[97,110,100])=false:=by simpa using c6
 have b7:(s==[110,111,116])=false:=by simpa using c7
 have b8:(s==[104,97,115])=false:=by simpa using c8
 have b9:(s==[97,108,119,97,121,115])=false:=by simpa using c9
 clear c0 c1 c2 c3 c4 c5 c6 c7 c8 c9
 go_enter Tryz.func243,Tryz.ntmps243
 go_wp2
 go_ret;exact⟨zE HF.out.symm,rfl⟩
theorem C8 :
 Calls Tryz.prog 245 #[.string ⟨s.toArray⟩] w fun e w'=>e=.returned (.bool (vG s))/\w'=w:=by
 by_cases c0:s=[58]
 ·subst c0
  have HF:Hid (vG [58]=true):=by unfold Hid;decide
  go_enter Tryz.func245,Tryz.ntmps245
  go_wp2
  go_ret;exact⟨zE HF.out.symm,rfl⟩
 by_cases c1:s=[61]
 ·subst c1
  have HF:Hid (vG [61]=true):=by unfold Hid;decide
  go_enter Tryz.func245,Tryz.ntmps245
  go_wp2
  go_ret;exact⟨zE HF.out.symm,rfl⟩
 by_cases c2:s=[46,46]
 ·subst c2
  have HF:Hid (vG [46,46]=true):=by unfold Hid;decide
  go_enter Tryz.func245,Tryz.ntmps245
  go_wp2
  go_ret;exact⟨zE HF.out.symm,rfl⟩
 by_cases c3:s=[59]
 ·subst c3
  have HF:Hid (vG [59]=true):=by unfold Hid;decide
  go_enter Tryz.func245,Tryz.ntmps245
  go_wp2
  go_ret;exact⟨zE HF.out.symm,rfl⟩
 by_cases c4:s=[40]
 ·subst c4
  have HF:Hid (vG [40]=true):=by unfold Hid;decide
  go_enter Tryz.func245,Tryz.ntmps245
  go_wp2
  go_ret;exact⟨zE HF.out.symm,rfl⟩
 by_cases c5:s=[41]
 ·subst c5
  have HF:Hid (vG [41]=true):=by unfold Hid;decide
  go_enter Tryz.func245,Tryz.ntmps245
  go_wp2
  go_ret;exact⟨zE HF.out.symm,rfl⟩
 by_cases c6:s=[60]
 ·subst c6
  have HF:Hid (vG [60]=true):=by unfold Hid;decide
  go_enter Tryz.func245,Tryz.ntmps245
  go_wp2
  go_ret;exact⟨zE HF.out.symm,rfl⟩
 by_cases c7:s=[60,61]
 ·subst c7
  have HF:Hid (vG [60,61]=true):=by unfold Hid;decide
  go_enter Tryz.func245,Tryz.ntmps245
  go_wp2
  go_ret;exact⟨zE HF.out.symm,rfl⟩
 by_cases c8:s=[33,61]
 ·subst c8
  have HF:Hid (vG [33,61]=true):=by unfold Hid;decide
  go_enter Tryz.func245,Tryz.ntmps245
  go_wp2
  go_ret;exact⟨zE HF.out.symm,rfl⟩
 by_cases c9:s=[62,61]
 ·subst c9
  have HF:Hid (vG [62,61]=true):=by unfold Hid;decide
  go_enter Tryz.func245,Tryz.ntmps245
  go_wp2
  go_ret;exact⟨zE HF.out.symm,rfl⟩
 by_cases c10:s=[62]
 ·subst c10
  have HF:Hid (vG [62]=true):=by unfold Hid;decide
  go_enter Tryz.func245,Tryz.ntmps245
  go_wp2
  go_ret;exact⟨zE HF.out.symm,rfl⟩
 by_cases c11:s=[43]
 ·subst c11
  have HF:Hid (vG [43]=true):=by unfold Hid;decide
  go_enter Tryz.func245,Tryz.ntmps245
  go_wp2
  go_ret;exact⟨zE HF.out.symm,rfl⟩
 by_cases c12:s=[45]
 ·subst c12
  have HF:Hid (vG [45]=true):=by unfold Hid;decide
  go_enter Tryz.func245,Tryz.ntmps245
  go_wp2
  go_ret;exact⟨zE HF.out.symm,rfl⟩
 by_cases c13:s=[42]
 ·subst c13
  have HF:Hid (vG [42]=true):=by unfold Hid;decide
  go_enter Tryz.func245,Tryz.ntmps245
  go_wp2
  go_ret;exact⟨zE HF.out.symm,rfl⟩
 have HF:Hid (vG s=false):=by simp[Hid,vG,VI,c0,c1,c2,c3,c4,c5,c6,c7,c8,c9,c10,c11,c12,c13]
 have b0:(s==[58])=false:=by simpa using c0
 have b1:(s==[61])=false:=by simpa using c1
 have b2:(s==[46,46])=false:=by simpa using c2
 have b3:(s==[59])=false:=by simpa using c3
 have b4:(s==[40])=false:=by simpa using c4
 have b5:(s==[41])=false:=by simpa using c5
 have b6:(s==[60])=false:=by simpa using c6
 have b7:(s==[60,61])=false:=by simpa using c7
 have b8:(s==[33,61])=false:=by simpa using c8
 have b9:(s==[62,61])=false:=by simpa using c9
 have b10:(s==[62])=false:=by simpa using c10
 have b11:(s==[43])=false:=by simpa using c11
 have b12:(s==[45])=false:=by simpa using c12
 have b13:(s==[42])=false:=by simpa using c13
 clear c0 c1 c2 c3 c4 c5 c6 c7 c8 c9 c10 c11 c12 c13
 go_enter Tryz.func245,Tryz.ntmps245
 go_wp2
 go_ret;exact⟨zE HF.out.symm,rfl⟩
theorem aA(hs:s.length<=4)(hd:∀i,i<s.length->so (s.getD i 0)=2) :
 Calls Tryz.prog 244 #[.string ⟨s.toArray⟩] w fun e w'=>e=.returned (.int .i64 (xD 0 s))/\w'=w:=by
 have HD:=zA hd;clear hd
 go_enter Tryz.func244,Tryz.ntmps244
 go_wp2
 go_loop [3,4] (fun sv iv=>∃(i:Nat) (a:Int),i<=s.length/\sv=.int .i64 a/\iv=.int .i64 i/\0<=a/\(i<=0->a<=0)/\(i<=1->a<=9)/\(i<=2->a<=99)/\(i<=3->a<=999)/\a<=9999/\Hid (xD a (s.drop i)=xD 0 s)) (fun _ iv=>s.length-(intOf iv).toNat)
 case atStart=>exact⟨0,0,tr _,rfl,rfl,by omega,by omega,by omega,by omega,by omega,by omega,rfl⟩
 case round =>
  obtain⟨i,a,hi,rfl,rfl,ha0,k0,k1,k2,k3,k4,HI⟩:=hrel;by_cases zI6:i<s.length
  ·have hd:=HD.out i zI6
   have hx:=oJ s i;have hdc:s.drop i=s.getD i 0::s.drop (i+1):=nP s i zI6;have HI2:Hid (xD (10*a+(((s.getD i 0).toNat:Int)-48)) (s.drop (i+1))=xD 0 s):=by have:=HI.out;rw[hdc,xD]at this;exact this
   have hc:(48:Int)<=((s.getD i 0).toNat:Int)/\((s.getD i 0).toNat:Int)<=57:=uc hd;generalize ((s.getD i 0).toNat:Int)=c at *;obtain⟨hc1,hc2⟩:=hc;clear hd hdc HI HD;have k5:a<=999:=by omega
   go_wp2
   go_round
   case rel=>exact⟨i+1,10*a+(c-48),by omega,rfl,by go_num,by omega,by omega,by omega,by omega,by omega,by omega,HI2.out⟩
   case measure=>simp[intOf];omega
  ·have hd:s.drop i=[]:=tu (by omega)
   have HE:Hid (xD 0 s=a):=by have:=HI.out;rw[hd,xD]at this;exact this.symm
   clear hd HI HD
   go_wp2
   go_ret;exact⟨zY HE.out.symm,rfl⟩
def qP(k:Int)(t:Bs)(v:Int)(p:Nat):Value:=.agg #[.int .i64 k,.string ⟨t.toArray⟩,.int .i64 v,.int .i64 p]
theorem pB(c:Int)(b:Bool)(h:fY c=b)(w:World) :
 Calls Tryz.prog 206 #[.int .u8 c] w fun e w'=>e=.returned (.bool b)/\w'=w:=by subst h;exact K4 c w
theorem mR(c:Int)(b:Bool)(h:sP c=b)(w:World) :
 Calls Tryz.prog 208 #[.int .u8 c] w fun e w'=>e=.returned (.bool b)/\w'=w:=by subst h;exact Ub c w
theorem aH(h:qG s=b)(w:World) :
 Calls Tryz.prog 243 #[.string ⟨s.toArray⟩] w fun e w'=>e=.returned (.bool b)/\w'=w:=by subst h;exact C9 s w
theorem bV(h:vG s=b)(w:World) :
 Calls Tryz.prog 245 #[.string ⟨s.toArray⟩] w fun e w'=>e=.returned (.bool b)/\w'=w:=by subst h;exact C8 s w
theorem G8(c:UInt8):fY (c.toNat:Int)=decide (so c=1):=by
 unfold fY so tV;by_cases h:(97:Int)<=c.toNat/\(c.toNat:Int)<=122
 ·rw[tl h];simp[h]
 ·rw[tg h]
  have:¬(if (48:Int)<=c.toNat/\(c.toNat:Int)<=57 then (2:Int) else if (c.toNat:Int)=32\/(c.toNat:Int)=10 then 3 else 0)=1:=by split <;> (try split) <;> decide
  simp only[this,dt,fj,bk];omega
theorem zAG(c:UInt8):sP (c.toNat:Int)=decide (so c=2):=by
 unfold sP so tV;by_cases h:(48:Int)<=c.toNat/\(c.toNat:Int)<=57
 ·rw[tg (by omega),tl h];simp[h]
 ·rw[tg h]
  have:¬(if (97:Int)<=c.toNat/\(c.toNat:Int)<=122 then (1:Int) else if (c.toNat:Int)=32\/(c.toNat:Int)=10 then 3 else 0)=2:=by split <;> (try split) <;> decide
  simp only[this,dt,fj,bk];omega
theorem ZZ{l:Bs}{b:Bool}{i:Nat}(h:decide (so (l.getD i 0)=1)=b):∀h:i<(ByteArray.mk l.toArray).size,fY (((ByteArray.mk l.toArray)[i]'h).toNat:Int)=b:=by
 intro h0;rw[oI,G8,h]
theorem Qs{l:Bs}{b:Bool}{i:Nat}(h:decide (so (l.getD i 0)=2)=b):∀h:i<(ByteArray.mk l.toArray).size,sP (((ByteArray.mk l.toArray)[i]'h).toNat:Int)=b:=by
 intro h0;rw[oI,zAG,h]
theorem vb(p:Nat)(w:World)(hl:l.length<=4000)(hp:p<l.length)(hk:so (l.getD p 0)=1) :
 Calls Tryz.prog 207 #[.string ⟨l.toArray⟩,.int .i64 p] w fun e w'=>e=.returned (qP (vU ((l.drop p).take (uC (l.drop p)))) ((l.drop p).take (uC (l.drop p))) (pY ((l.drop p).take (uC (l.drop p)))) p)/\Below w.heap.size w w':=by
 have hn:uC (l.drop p)=1+tJ 1 ((l.drop p).drop 1):=by unfold uC;rw[bZ,pq,tg (by omega),hk]
 rw[List.drop_drop]at hn;have HN:=zA hn
 have hh:∀n,1<=n->((l.drop p).take n).getD 0 0=l.getD p 0:=by
  intro n hn1;simp only[List.getD,bv,List.getElem?_drop,pq];rw[tl (by omega)]
 have HH:=zA hh;clear hn hh
 go_enter Tryz.func207,Tryz.ntmps207
 go_wp2_with fail
 go_loop [5] (fun nv=>∃i:Nat,p+1<=i/\i<=l.length/\nv=.int .i64 i/\Hid (i+tJ 1 (l.drop i)=p+1+tJ 1 (l.drop (p+1)))) (fun nv=>l.length-(intOf nv).toNat)
 case atStart=>exact⟨p+1,t9 _,by omega,by go_num,rfl⟩
 case round =>
  obtain⟨i,h1,hi,rfl,HI⟩:=hrel;by_cases hgo:i<l.length/\so (l.getD i 0)=1
  ·obtain⟨zI6,hq⟩:=hgo
   have HQ:=zA (ZZ (b:=true) (by rw[hq];rfl):∀h:i<(ByteArray.mk l.toArray).size,fY (((ByteArray.mk l.toArray)[i]'h).toNat:Int)=true);have HI2:Hid (i+1+tJ 1 (l.drop (i+1))=p+1+tJ 1 (l.drop (p+1))):=by have:=HI.out;rw[Kd zI6 hq]at this;exact this
   clear hq HI
   go_wp2_with (go_at_call 206;refine(pB _ true (HQ.out _) _).mono ?_;rintro e w' ⟨rfl,hw⟩;obtain rfl:=hw.symm)
   go_round
   case rel=>exact⟨i+1,by omega,by omega,by go_num,HI2.out⟩
   case measure=>simp[intOf];omega
  ·have hstop:i+tJ 1 (l.drop i)=i:=by
    by_cases zI6:i<l.length
    ·exact Xx zI6 (fun h=>hgo ⟨zI6,h⟩)
    ·exact Xy zI6
   have hni:uC (l.drop p)=i-p:=by have h2:=HI.out;have h3:=HN.out;omega
   obtain⟨t,ht⟩:∃t,(l.drop p).take (i-p)=t:=⟨_,rfl⟩;have hx1:(ByteArray.mk l.toArray).extract p i=⟨t.toArray⟩:=by rw[ByteArray.extract_mk,<-ht]
   have htn:t.length=i-p:=by rw[<-ht,p9,ty];omega
   have hth:so (t.getD 0 0)=1:=by rw[<-ht,HH.out (i-p) (by omega)];exact hk
   have HT:Hid ((l.drop p).take (uC (l.drop p))=t):=by unfold Hid;rw[hni];exact ht
   have HV:Hid (pY t=0):=by unfold Hid pY;rw[tg];unfold vU;rw[tl hth];split <;> (try split) <;> decide
   have HK:Hid (vU t=if 8<t.length then 1 else if qG t=true then 4 else 2):=by unfold Hid vU;rw[tl hth]
   clear hni HN HH ht hth hstop HI hk;by_cases zI6:i<l.length
   ·have hq:¬so (l.getD i 0)=1:=fun h=>hgo ⟨zI6,h⟩
    have HQ:=zA (ZZ (b:=false) (by simp only[hq,dt]):∀h:i<(ByteArray.mk l.toArray).size,fY (((ByteArray.mk l.toArray)[i]'h).toNat:Int)=false);clear hq hgo;by_cases h8:8<t.length
    ·have HK2:Hid (vU t=1):=by unfold Hid;rw[HK.out,tl h8]
     go_wp2_with (go_at_call 206;refine(pB _ false (HQ.out _) _).mono ?_;rintro e w' ⟨rfl,hw⟩;obtain rfl:=hw.symm)
     refine ph (v:=qP 1 t 0 p) (by simp[results,Tryz.results207,go_sem,qP]) rfl ⟨?_,?_⟩
     ·rw[HT.out,HV.out,HK2.out]
     ·exact ge (t9 _) _
    ·cases hkp:qG t
     ·have HKe:=zA hkp
      have HK2:Hid (vU t=2):=by unfold Hid;rw[HK.out,tg h8,tg (by simp[hkp])]
      clear hkp
      go_wp2_with (first|(go_at_call 206;refine(pB _ false (HQ.out _) _).mono ?_;rintro e w' ⟨rfl,hw⟩;obtain rfl:=hw.symm)|(go_at_call 243;refine(aH t false HKe.out _).mono ?_;rintro e w' ⟨rfl,hw⟩;obtain rfl:=hw.symm))
      refine ph (v:=qP 2 t 0 p) (by simp[results,Tryz.results207,go_sem,qP]) rfl ⟨?_,?_⟩
      ·rw[HT.out,HV.out,HK2.out]
      ·exact ge (t9 _) _
     ·have HKe:=zA hkp
      have HK2:Hid (vU t=4):=by unfold Hid;rw[HK.out,tg h8,tl hkp]
      clear hkp
      go_wp2_with (first|(go_at_call 206;refine(pB _ false (HQ.out _) _).mono ?_;rintro e w' ⟨rfl,hw⟩;obtain rfl:=hw.symm)|(go_at_call 243;refine(aH t true HKe.out _).mono ?_;rintro e w' ⟨rfl,hw⟩;obtain rfl:=hw.symm))
      refine ph (v:=qP 4 t 0 p) (by simp[results,Tryz.results207,go_sem,qP]) rfl ⟨?_,?_⟩
      ·rw[HT.out,HV.out,HK2.out]
      ·exact ge (t9 _) _
   ·clear hgo
    by_cases h8:8<t.length
    ·have HK2:Hid (vU t=1):=by unfold Hid;rw[HK.out,tl h8]
     go_wp2_with (fail)
     refine ph (v:=qP 1 t 0 p) (by simp[results,Tryz.results207,go_sem,qP]) rfl ⟨?_,?_⟩
     ·rw[HT.out,HV.out,HK2.out]
     ·exact ge (t9 _) _
    ·cases hkp:qG t
     ·have HKe:=zA hkp
      have HK2:Hid (vU t=2):=by unfold Hid;rw[HK.out,tg h8,tg (by simp[hkp])]
      clear hkp
      go_wp2_with (go_at_call 243;refine(aH t false HKe.out _).mono ?_;rintro e w' ⟨rfl,hw⟩;obtain rfl:=hw.symm)
      refine ph (v:=qP 2 t 0 p) (by simp[results,Tryz.results207,go_sem,qP]) rfl ⟨?_,?_⟩
      ·rw[HT.out,HV.out,HK2.out]
      ·exact ge (t9 _) _
     ·have HKe:=zA hkp
      have HK2:Hid (vU t=4):=by unfold Hid;rw[HK.out,tg h8,tl hkp]
      clear hkp
      go_wp2_with (go_at_call 243;refine(aH t true HKe.out _).mono ?_;rintro e w' ⟨rfl,hw⟩;obtain rfl:=hw.symm)
      refine ph (v:=qP 4 t 0 p) (by simp[results,Tryz.results207,go_sem,qP]) rfl ⟨?_,?_⟩
      ·rw[HT.out,HV.out,HK2.out]
      ·exact ge (t9 _) _
theorem um(k:Int)(l:Bs):∀j,j<tJ k l->so (l.getD j 0)=k:=by
 induction l with
 | nil=>intro j h;simp[tJ]at h
 | cons c r ih =>
   intro j h;rw[tJ]at h;split at h
   ·rename_i hc
    cases j with
    | zero=>simpa using hc
    | succ j=>simpa using ih j (by omega)
   ·omega
theorem Cg(p:Nat)(w:World)(hl:l.length<=4000)(hp:p<l.length)(hk:so (l.getD p 0)=2) :
 Calls Tryz.prog 209 #[.string ⟨l.toArray⟩,.int .i64 p] w fun e w'=>e=.returned (qP (vU ((l.drop p).take (uC (l.drop p)))) ((l.drop p).take (uC (l.drop p))) (pY ((l.drop p).take (uC (l.drop p)))) p)/\Below w.heap.size w w':=by
 have hn:uC (l.drop p)=1+tJ 2 ((l.drop p).drop 1):=by unfold uC;rw[bZ,pq,tg (by omega),hk]
 rw[List.drop_drop]at hn
 have hall:∀j,j<uC (l.drop p)->so (((l.drop p).take (uC (l.drop p))).getD j 0)=2:=by
  intro j hj
  have e:((l.drop p).take (uC (l.drop p))).getD j 0=l.getD (p+j) 0:=by
   simp only[List.getD,bv,List.getElem?_drop];rw[tl hj]
  rw[e]
  cases j with
  | zero=>exact hk
  | succ j =>
    have:=um 2 (l.drop (p+1)) j (by omega);rw[bZ]at this;rw[show p+(j+1)=p+1+j by omega];exact this
 have HA:=zA hall;have HN:=zA hn
 have hh:∀n,1<=n->((l.drop p).take n).getD 0 0=l.getD p 0:=by
  intro n hn1;simp only[List.getD,bv,List.getElem?_drop,pq];rw[tl (by omega)]
 have HH:=zA hh;clear hn hh hall
 go_enter Tryz.func209,Tryz.ntmps209
 go_wp2_with fail
 go_loop [5] (fun nv=>∃i:Nat,p+1<=i/\i<=l.length/\nv=.int .i64 i/\Hid (i+tJ 2 (l.drop i)=p+1+tJ 2 (l.drop (p+1)))) (fun nv=>l.length-(intOf nv).toNat)
 case atStart=>exact⟨p+1,t9 _,by omega,by go_num,rfl⟩
 case round =>
  obtain⟨i,h1,hi,rfl,HI⟩:=hrel;by_cases hgo:i<l.length/\so (l.getD i 0)=2
  ·obtain⟨zI6,hq⟩:=hgo
   have HQ:=zA (Qs (b:=true) (by rw[hq];rfl):∀h:i<(ByteArray.mk l.toArray).size,sP (((ByteArray.mk l.toArray)[i]'h).toNat:Int)=true);have HI2:Hid (i+1+tJ 2 (l.drop (i+1))=p+1+tJ 2 (l.drop (p+1))):=by have:=HI.out;rw[Kd zI6 hq]at this;exact this
   clear hq HI
   go_wp2_with (go_at_call 208;refine(mR _ true (HQ.out _) _).mono ?_;rintro e w' ⟨rfl,hw⟩;obtain rfl:=hw.symm)
   go_round
   case rel=>exact⟨i+1,by omega,by omega,by go_num,HI2.out⟩
   case measure=>simp[intOf];omega
  ·have hstop:i+tJ 2 (l.drop i)=i:=by
    by_cases zI6:i<l.length
    ·exact Xx zI6 (fun h=>hgo ⟨zI6,h⟩)
    ·exact Xy zI6
   have hni:uC (l.drop p)=i-p:=by have h2:=HI.out;have h3:=HN.out;omega
   obtain⟨t,ht⟩:∃t,(l.drop p).take (i-p)=t:=⟨_,rfl⟩;have hx1:(ByteArray.mk l.toArray).extract p i=⟨t.toArray⟩:=by rw[ByteArray.extract_mk,<-ht]
   have htn:t.length=i-p:=by rw[<-ht,p9,ty];omega
   have HH2:Hid (t.getD 0 0=l.getD p 0):=by rw[<-ht];exact HH.out (i-p) (by omega)
   have hth:so (t.getD 0 0)=2:=by rw[HH2.out];exact hk
   have HT:Hid ((l.drop p).take (uC (l.drop p))=t):=by unfold Hid;rw[hni];exact ht
   have HAll:Hid (∀j,j<t.length->so (t.getD j 0)=2):=by
    have h2:=HA.out;rw[HT.out,hni,<-htn]at h2;exact h2
   have HK:Hid (vU t=if 4<t.length\/1<t.length/\t.getD 0 0=48 then 1 else 3):=by unfold Hid vU;rw[tg (by omega),tl hth]
   clear hni HN HH ht hth hstop HI hk HA;by_cases zI6:i<l.length
   ·have hq:¬so (l.getD i 0)=2:=fun h=>hgo ⟨zI6,h⟩
    have HQ:=zA (Qs (b:=false) (by simp only[hq,dt]):∀h:i<(ByteArray.mk l.toArray).size,sP (((ByteArray.mk l.toArray)[i]'h).toNat:Int)=false);clear hq hgo;by_cases h4:4<t.length
    ·have HK2:Hid (vU t=1):=by unfold Hid;rw[HK.out,tl (.inl h4)]
     have HV:Hid (pY t=0):=by unfold Hid pY;rw[HK2.out,tg (by decide)]
     go_wp2_with (go_at_call 208;refine(mR _ false (HQ.out _) _).mono ?_;rintro e w' ⟨rfl,hw⟩;obtain rfl:=hw.symm)
     refine ph (v:=qP 1 t 0 p) (by simp[results,Tryz.results209,go_sem,qP]) rfl ⟨?_,?_⟩
     ·rw[HT.out,HV.out,HK2.out]
     ·exact ge (t9 _) _
    ·by_cases h1':1<t.length
     ·by_cases hz:l.getD p 0=48
      ·have HK2:Hid (vU t=1):=by unfold Hid;rw[HK.out,tl (.inr ⟨h1',by rw[HH2.out];exact hz⟩)]
       have HV:Hid (pY t=0):=by unfold Hid pY;rw[HK2.out,tg (by decide)]
       have hc:∀h,(((ByteArray.mk l.toArray)[p]'h).toNat:Int)=48:=by intro h;rw[oJ,hz];rfl
       clear hz
       go_wp2_with (go_at_call 208;refine(mR _ false (HQ.out _) _).mono ?_;rintro e w' ⟨rfl,hw⟩;obtain rfl:=hw.symm)
       refine ph (v:=qP 1 t 0 p) (by simp[results,Tryz.results209,go_sem,qP]) rfl ⟨?_,?_⟩
       ·rw[HT.out,HV.out,HK2.out]
       ·exact ge (t9 _) _
      ·have HK2:Hid (vU t=3):=by unfold Hid;rw[HK.out,tg (by intro hh;rcases hh with hh|hh;exact h4 hh;rw[HH2.out]at hh;exact hz hh.2)]
       have HV:Hid (pY t=xD 0 t):=by unfold Hid pY;rw[HK2.out,tl rfl]
       have hc:∀h,((((ByteArray.mk l.toArray)[p]'h).toNat:Int)==48)=false:=by
        intro h;rw[ff];intro hh;apply hz;rw[oJ]at hh;exact(Xe _ 48).1 hh
       clear hz
       go_wp2_with (first|(go_at_call 208;refine(mR _ false (HQ.out _) _).mono ?_;rintro e w' ⟨rfl,hw⟩;obtain rfl:=hw.symm)|(go_at_call 244;refine(aA t _ (by omega) HAll.out).mono ?_;rintro e w' ⟨rfl,hw⟩;obtain rfl:=hw.symm))
       refine ph (v:=qP 3 t (xD 0 t) p) (by simp[results,Tryz.results209,go_sem,qP]) rfl ⟨?_,?_⟩
       ·rw[HT.out,HV.out,HK2.out]
       ·exact ge (t9 _) _
     ·have HK2:Hid (vU t=3):=by unfold Hid;rw[HK.out,tg (by intro hh;rcases hh with hh|hh;exact h4 hh;exact h1' hh.1)]
      have HV:Hid (pY t=xD 0 t):=by unfold Hid pY;rw[HK2.out,tl rfl]
      go_wp2_with (first|(go_at_call 208;refine(mR _ false (HQ.out _) _).mono ?_;rintro e w' ⟨rfl,hw⟩;obtain rfl:=hw.symm)|(go_at_call 244;refine(aA t _ (by omega) HAll.out).mono ?_;rintro e w' ⟨rfl,hw⟩;obtain rfl:=hw.symm))
      refine ph (v:=qP 3 t (xD 0 t) p) (by simp[results,Tryz.results209,go_sem,qP]) rfl ⟨?_,?_⟩
      ·rw[HT.out,HV.out,HK2.out]
      ·exact ge (t9 _) _
   ·clear hgo
    by_cases h4:4<t.length
    ·have HK2:Hid (vU t=1):=by unfold Hid;rw[HK.out,tl (.inl h4)]
     have HV:Hid (pY t=0):=by unfold Hid pY;rw[HK2.out,tg (by decide)]
     go_wp2_with (fail)
     refine ph (v:=qP 1 t 0 p) (by simp[results,Tryz.results209,go_sem,qP]) rfl ⟨?_,?_⟩
     ·rw[HT.out,HV.out,HK2.out]
     ·exact ge (t9 _) _
    ·by_cases h1':1<t.length
     ·by_cases hz:l.getD p 0=48
      ·have HK2:Hid (vU t=1):=by unfold Hid;rw[HK.out,tl (.inr ⟨h1',by rw[HH2.out];exact hz⟩)]
       have HV:Hid (pY t=0):=by unfold Hid pY;rw[HK2.out,tg (by decide)]
       have hc:∀h,(((ByteArray.mk l.toArray)[p]'h).toNat:Int)=48:=by intro h;rw[oJ,hz];rfl
       clear hz
       go_wp2_with (fail)
       refine ph (v:=qP 1 t 0 p) (by simp[results,Tryz.results209,go_sem,qP]) rfl ⟨?_,?_⟩
       ·rw[HT.out,HV.out,HK2.out]
       ·exact ge (t9 _) _
      ·have HK2:Hid (vU t=3):=by unfold Hid;rw[HK.out,tg (by intro hh;rcases hh with hh|hh;exact h4 hh;rw[HH2.out]at hh;exact hz hh.2)]
       have HV:Hid (pY t=xD 0 t):=by unfold Hid pY;rw[HK2.out,tl rfl]
       have hc:∀h,((((ByteArray.mk l.toArray)[p]'h).toNat:Int)==48)=false:=by
        intro h;rw[ff];intro hh;apply hz;rw[oJ]at hh;exact(Xe _ 48).1 hh
       clear hz
       go_wp2_with (go_at_call 244;refine(aA t _ (by omega) HAll.out).mono ?_;rintro e w' ⟨rfl,hw⟩;obtain rfl:=hw.symm)
       refine ph (v:=qP 3 t (xD 0 t) p) (by simp[results,Tryz.results209,go_sem,qP]) rfl ⟨?_,?_⟩
       ·rw[HT.out,HV.out,HK2.out]
       ·exact ge (t9 _) _
     ·have HK2:Hid (vU t=3):=by unfold Hid;rw[HK.out,tg (by intro hh;rcases hh with hh|hh;exact h4 hh;exact h1' hh.1)]
      have HV:Hid (pY t=xD 0 t):=by unfold Hid pY;rw[HK2.out,tl rfl]
      go_wp2_with (go_at_call 244;refine(aA t _ (by omega) HAll.out).mono ?_;rintro e w' ⟨rfl,hw⟩;obtain rfl:=hw.symm)
      refine ph (v:=qP 3 t (xD 0 t) p) (by simp[results,Tryz.results209,go_sem,qP]) rfl ⟨?_,?_⟩
      ·rw[HT.out,HV.out,HK2.out]
      ·exact ge (t9 _) _
end Go.Proofs.YtnbpdffdnphbeaaGreatDoor
