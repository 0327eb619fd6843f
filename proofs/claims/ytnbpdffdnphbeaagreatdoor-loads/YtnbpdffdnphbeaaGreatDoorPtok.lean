import Derived.Test.YtnbpdffdnphbeaaGreatDoorLex4
set_option maxHeartbeats 1000000
namespace Go.Proofs.YtnbpdffdnphbeaaGreatDoor
open Go
variable(s l:Bs)(b:Bool)(w:World)
def DK:List Bs:=[[110,117,109],[102,108,97,103],[114,117,108,101],[111,118,101,114],[119,104,101,110],[111,114],[97,110,100],[110,111,116],[104,97,115],[97,108,119,97,121,115]]
def VA:List Bs:=[[58],[61],[46,46],[59],[40],[41],[60],[60,61],[33,61],[62,61],[62],[43],[45],[42]]
def qC(s:Bs):Bool:=DK.contains s
def vE(s:Bs):Bool:=VA.contains s
def xF:Int->Bs->Int
 | a,[]=>a
 | a,c::r=>xF (10*a+((c.toNat:Int)-48)) r
def vS(s:Bs):Int :=
 if so (s.getD 0 0)=1 then (if 8<s.length then 1 else if qC s=true then 4 else 2)
 else if so (s.getD 0 0)=2 then (if 4<s.length\/1<s.length/\s.getD 0 0=48 then 1 else 3)
 else if vE s=true then 4 else 1
def pX(s:Bs):Int:=if vS s=3 then xF 0 s else 0
def zCJ(t:Nat × Bs):List Value:=[.int .i64 (vS t.2),.string ⟨t.2.toArray⟩,.int .i64 (pX t.2),.int .i64 t.1]
def KA(len:Nat):List Value:=[.int .i64 0,.string ⟨#[]⟩,.int .i64 0,.int .i64 len]
def Yu(ts:zG):List Value:=ts.flatMap zCJ
theorem CC(ts:zG)(t:Nat × Bs):Yu (ts++[t])=Yu ts++zCJ t:=by simp[Yu]
open Go.RowKit
theorem zA{p:Prop}(h:p):Hid p:=h
theorem ua{c:UInt8}(h:so c=2):(48:Int)<=(c.toNat:Int)/\(c.toNat:Int)<=57:=by
 unfold so tS at h;split at h
 ·omega
 ·split at h
  ·assumption
  ·split at h <;> omega
theorem Cz :
 Calls Tryz.prog 243 #[.string ⟨s.toArray⟩] w fun e w'=>e=.returned (.bool (qC s))/\w'=w:=by
 by_cases c0:s=[110,117,109]
 ·subst c0
  have HF:Hid (qC [110,117,109]=true):=by unfold Hid;decide
  go_enter Tryz.func243,Tryz.ntmps243
  go_wp2
  go_ret;exact⟨zE HF.out.symm,rfl⟩
 by_cases c1:s=[102,108,97,103]
 ·subst c1
  have HF:Hid (qC [102,108,97,103]=true):=by unfold Hid;decide
  go_enter Tryz.func243,Tryz.ntmps243
  go_wp2
  go_ret;exact⟨zE HF.out.symm,rfl⟩
 by_cases c2:s=[114,117,108,101]
 ·subst c2
  have HF:Hid (qC [114,117,108,101]=true):=by unfold Hid;decide
  go_enter Tryz.func243,Tryz.ntmps243
  go_wp2
  go_ret;exact⟨zE HF.out.symm,rfl⟩
 by_cases c3:s=[111,118,101,114]
 ·subst c3
  have HF:Hid (qC [111,118,101,114]=true):=by unfold Hid;decide
  go_enter Tryz.func243,Tryz.ntmps243
  go_wp2
  go_ret;exact⟨zE HF.out.symm,rfl⟩
 by_cases c4:s=[119,104,101,110]
 ·subst c4
  have HF:Hid (qC [119,104,101,110]=true):=by unfold Hid;decide
  go_enter Tryz.func243,Tryz.ntmps243
  go_wp2
  go_ret;exact⟨zE HF.out.symm,rfl⟩
 by_cases c5:s=[111,114]
 ·subst c5
  have HF:Hid (qC [111,114]=true):=by unfold Hid;decide
  go_enter Tryz.func243,Tryz.ntmps243
  go_wp2
  go_ret;exact⟨zE HF.out.symm,rfl⟩
 by_cases c6:s=[97,110,100]
 ·subst c6
  have HF:Hid (qC [97,110,100]=true):=by unfold Hid;decide
  go_enter Tryz.func243,Tryz.ntmps243
  go_wp2
  go_ret;exact⟨zE HF.out.symm,rfl⟩
 by_cases c7:s=[110,111,116]
 ·subst c7
  have HF:Hid (qC [110,111,116]=true):=by unfold Hid;decide
  go_enter Tryz.func243,Tryz.ntmps243
  go_wp2
  go_ret;exact⟨zE HF.out.symm,rfl⟩
 by_cases c8:s=[104,97,115]
 ·subst c8
  have HF:Hid (qC [104,97,115]=true):=by unfold Hid;decide
  go_enter Tryz.func243,Tryz.ntmps243
  go_wp2
  go_ret;exact⟨zE HF.out.symm,rfl⟩
 by_cases c9:s=[97,108,119,97,121,115]
 ·subst c9
  have HF:Hid (qC [97,108,119,97,121,115]=true):=by unfold Hid;decide
  go_enter Tryz.func243,Tryz.ntmps243
  go_wp2
  go_ret;exact⟨zE HF.out.symm,rfl⟩
 have HF:Hid (qC s=false):=by simp[Hid,qC,DK,c0,c1,c2,c3,c4,c5,c6,c7,c8,c9]
 have b0:(s==[110,117,109])=false:=by simpa using c0
 have b1:(s==[102,108,97,103])=false:=by simpa using c1
 have b2:(s==[114,117,108,101])=false:=by simpa using c2
 have b3:(s==[111,118,101,114])=false:=by simpa using c3
 have b4:(s==[119,104,101,110])=false:=by simpa using c4
 have b5:(s==[111,114])=false:=by simpa using c5
 have b6:(s==[97,110,100])=false:=by simpa using c6
 have b7:(s==[110,111,116])=false:=by simpa using c7
 have b8:(s==[104,97,115])=false:=by simpa using c8
 have b9:(s==[97,108,119,97,121,115])=false:=by simpa using c9
 clear c0 c1 c2 c3 c4 c5 c6 c7 c8 c9
 go_enter Tryz.func243,Tryz.ntmps243
 go_wp2
 go_ret;exact⟨zE HF.out.symm,rfl⟩
theorem Cy :
 Calls Tryz.prog 245 #[.string ⟨s.toArray⟩] w fun e w'=>e=.returned (.bool (vE s))/\w'=w:=by
 by_cases c0:s=[58]
 ·subst c0
  have HF:Hid (vE [58]=true):=by unfold Hid;decide
  go_enter Tryz.func245,Tryz.ntmps245
  go_wp2
  go_ret;exact⟨zE HF.out.symm,rfl⟩
 by_cases c1:s=[61]
 ·subst c1
  have HF:Hid (vE [61]=true):=by unfold Hid;decide
  go_enter Tryz.func245,Tryz.ntmps245
  go_wp2
  go_ret;exact⟨zE HF.out.symm,rfl⟩
 by_cases c2:s=[46,46]
 ·subst c2
  have HF:Hid (vE [46,46]=true):=by unfold Hid;decide
  go_enter Tryz.func245,Tryz.ntmps245
  go_wp2
  go_ret;exact⟨zE HF.out.symm,rfl⟩
 by_cases c3:s=[59]
 ·subst c3
  have HF:Hid (vE [59]=true):=by unfold Hid;decide
  go_enter Tryz.func245,Tryz.ntmps245
  go_wp2
  go_ret;exact⟨zE HF.out.symm,rfl⟩
 by_cases c4:s=[40]
 ·subst c4
  have HF:Hid (vE [40]=true):=by unfold Hid;decide
  go_enter Tryz.func245,Tryz.ntmps245
  go_wp2
  go_ret;exact⟨zE HF.out.symm,rfl⟩
 by_cases c5:s=[41]
 ·subst c5
  have HF:Hid (vE [41]=true):=by unfold Hid;decide
  go_enter Tryz.func245,Tryz.ntmps245
  go_wp2
  go_ret;exact⟨zE HF.out.symm,rfl⟩
 by_cases c6:s=[60]
 ·subst c6
  have HF:Hid (vE [60]=true):=by unfold Hid;decide
  go_enter Tryz.func245,Tryz.ntmps245
  go_wp2
  go_ret;exact⟨zE HF.out.symm,rfl⟩
 by_cases c7:s=[60,61]
 ·subst c7
  have HF:Hid (vE [60,61]=true):=by unfold Hid;decide
  go_enter Tryz.func245,Tryz.ntmps245
  go_wp2
  go_ret;exact⟨zE HF.out.symm,rfl⟩
 by_cases c8:s=[33,61]
 ·subst c8
  have HF:Hid (vE [33,61]=true):=by unfold Hid;decide
  go_enter Tryz.func245,Tryz.ntmps245
  go_wp2
  go_ret;exact⟨zE HF.out.symm,rfl⟩
 by_cases c9:s=[62,61]
 ·subst c9
  have HF:Hid (vE [62,61]=true):=by unfold Hid;decide
  go_enter Tryz.func245,Tryz.ntmps245
  go_wp2
  go_ret;exact⟨zE HF.out.symm,rfl⟩
 by_cases c10:s=[62]
 ·subst c10
  have HF:Hid (vE [62]=true):=by unfold Hid;decide
  go_enter Tryz.func245,Tryz.ntmps245
  go_wp2
  go_ret;exact⟨zE HF.out.symm,rfl⟩
 by_cases c11:s=[43]
 ·subst c11
  have HF:Hid (vE [43]=true):=by unfold Hid;decide
  go_enter Tryz.func245,Tryz.ntmps245
  go_wp2
  go_ret;exact⟨zE HF.out.symm,rfl⟩
 by_cases c12:s=[45]
 ·subst c12
  have HF:Hid (vE [45]=true):=by unfold Hid;decide
  go_enter Tryz.func245,Tryz.ntmps245
  go_wp2
  go_ret;exact⟨zE HF.out.symm,rfl⟩
 by_cases c13:s=[42]
 ·subst c13
  have HF:Hid (vE [42]=true):=by unfold Hid;decide
  go_enter Tryz.func245,Tryz.ntmps245
  go_wp2
  go_ret;exact⟨zE HF.out.symm,rfl⟩
 have HF:Hid (vE s=false):=by simp[Hid,vE,VA,c0,c1,c2,c3,c4,c5,c6,c7,c8,c9,c10,c11,c12,c13]
 have b0:(s==[58])=false:=by simpa using c0
 have b1:(s==[61])=false:=by simpa using c1
 have b2:(s==[46,46])=false:=by simpa using c2
 have b3:(s==[59])=false:=by simpa using c3
 have b4:(s==[40])=false:=by simpa using c4
 have b5:(s==[41])=false:=by simpa using c5
 have b6:(s==[60])=false:=by simpa using c6
 have b7:(s==[60,61])=false:=by simpa using c7
 have b8:(s==[33,61])=false:=by simpa using c8
 have b9:(s==[62,61])=false:=by simpa using c9
 have b10:(s==[62])=false:=by simpa using c10
 have b11:(s==[43])=false:=by simpa using c11
 have b12:(s==[45])=false:=by simpa using c12
 have b13:(s==[42])=false:=by simpa using c13
 clear c0 c1 c2 c3 c4 c5 c6 c7 c8 c9 c10 c11 c12 c13
 go_enter Tryz.func245,Tryz.ntmps245
 go_wp2
 go_ret;exact⟨zE HF.out.symm,rfl⟩
theorem sX(hs:s.length<=4)(hd:∀i,i<s.length->so (s.getD i 0)=2) :
 Calls Tryz.prog 244 #[.string ⟨s.toArray⟩] w fun e w'=>e=.returned (.int .i64 (xF 0 s))/\w'=w:=by
 have HD:=zA hd;clear hd
 go_enter Tryz.func244,Tryz.ntmps244
 go_wp2
 go_loop [3,4] (fun sv iv=>∃(i:Nat) (a:Int),i<=s.length/\sv=.int .i64 a/\iv=.int .i64 i/\0<=a/\(i<=0->a<=0)/\(i<=1->a<=9)/\(i<=2->a<=99)/\(i<=3->a<=999)/\a<=9999/\Hid (xF a (s.drop i)=xF 0 s)) (fun _ iv=>s.length-(intOf iv).toNat)
 case atStart=>exact⟨0,0,tr _,rfl,rfl,by omega,by omega,by omega,by omega,by omega,by omega,rfl⟩
 case round =>
  obtain⟨i,a,hi,rfl,rfl,ha0,k0,k1,k2,k3,k4,HI⟩:=hrel;by_cases zIB:i<s.length
  ·have hd:=HD.out i zIB
   have hx:=oG s i;have hdc:s.drop i=s.getD i 0::s.drop (i+1):=nK s i zIB;have HI2:Hid (xF (10*a+(((s.getD i 0).toNat:Int)-48)) (s.drop (i+1))=xF 0 s):=by have:=HI.out;rw[hdc,xF]at this;exact this
   have hc:(48:Int)<=((s.getD i 0).toNat:Int)/\((s.getD i 0).toNat:Int)<=57:=ua hd;generalize ((s.getD i 0).toNat:Int)=c at *;obtain⟨hc1,hc2⟩:=hc;clear hd hdc HI HD;have k5:a<=999:=by omega
   go_wp2
   go_round
   case rel=>exact⟨i+1,10*a+(c-48),by omega,rfl,by go_num,by omega,by omega,by omega,by omega,by omega,by omega,HI2.out⟩
   case measure=>simp[intOf];omega
  ·have hd:s.drop i=[]:=tu (by omega)
   have HE:Hid (xF 0 s=a):=by have:=HI.out;rw[hd,xF]at this;exact this.symm
   clear hd HI HD
   go_wp2
   go_ret;exact⟨zY HE.out.symm,rfl⟩
def qM(k:Int)(t:Bs)(v:Int)(p:Nat):Value:=.agg #[.int .i64 k,.string ⟨t.toArray⟩,.int .i64 v,.int .i64 p]
theorem tY(c:Int)(b:Bool)(h:fV c=b)(w:World) :
 Calls Tryz.prog 206 #[.int .u8 c] w fun e w'=>e=.returned (.bool b)/\w'=w:=by subst h;exact K1 c w
theorem mQ(c:Int)(b:Bool)(h:sM c=b)(w:World) :
 Calls Tryz.prog 208 #[.int .u8 c] w fun e w'=>e=.returned (.bool b)/\w'=w:=by subst h;exact VV c w
theorem aH(h:qC s=b)(w:World) :
 Calls Tryz.prog 243 #[.string ⟨s.toArray⟩] w fun e w'=>e=.returned (.bool b)/\w'=w:=by subst h;exact Cz s w
theorem bT(h:vE s=b)(w:World) :
 Calls Tryz.prog 245 #[.string ⟨s.toArray⟩] w fun e w'=>e=.returned (.bool b)/\w'=w:=by subst h;exact Cy s w
theorem G4(c:UInt8):fV (c.toNat:Int)=decide (so c=1):=by
 unfold fV so tS;by_cases h:(97:Int)<=c.toNat/\(c.toNat:Int)<=122
 ·rw[tj h];simp[h]
 ·rw[tg h]
  have:¬(if (48:Int)<=c.toNat/\(c.toNat:Int)<=57 then (2:Int) else if (c.toNat:Int)=32\/(c.toNat:Int)=10 then 3 else 0)=1:=by split <;> (try split) <;> decide
  simp only[this,du,fk,bk];omega
theorem zAM(c:UInt8):sM (c.toNat:Int)=decide (so c=2):=by
 unfold sM so tS;by_cases h:(48:Int)<=c.toNat/\(c.toNat:Int)<=57
 ·rw[tg (by omega),tj h];simp[h]
 ·rw[tg h]
  have:¬(if (97:Int)<=c.toNat/\(c.toNat:Int)<=122 then (1:Int) else if (c.toNat:Int)=32\/(c.toNat:Int)=10 then 3 else 0)=2:=by split <;> (try split) <;> decide
  simp only[this,du,fk,bk];omega
theorem ZV{l:Bs}{b:Bool}{i:Nat}(h:decide (so (l.getD i 0)=1)=b):∀h:i<(ByteArray.mk l.toArray).size,fV (((ByteArray.mk l.toArray)[i]'h).toNat:Int)=b:=by
 intro h0;rw[oF,G4,h]
theorem Qk{l:Bs}{b:Bool}{i:Nat}(h:decide (so (l.getD i 0)=2)=b):∀h:i<(ByteArray.mk l.toArray).size,sM (((ByteArray.mk l.toArray)[i]'h).toNat:Int)=b:=by
 intro h0;rw[oF,zAM,h]
theorem xw(p:Nat)(w:World)(hl:l.length<=4000)(hp:p<l.length)(hk:so (l.getD p 0)=1) :
 Calls Tryz.prog 207 #[.string ⟨l.toArray⟩,.int .i64 p] w fun e w'=>e=.returned (qM (vS ((l.drop p).take (vZ (l.drop p)))) ((l.drop p).take (vZ (l.drop p))) (pX ((l.drop p).take (vZ (l.drop p)))) p)/\Below w.heap.size w w':=by
 have hn:vZ (l.drop p)=1+tH 1 ((l.drop p).drop 1):=by unfold vZ;rw[bX,pq,tg (by omega),hk]
 rw[List.drop_drop]at hn;have HN:=zA hn
 have hh:∀n,1<=n->((l.drop p).take n).getD 0 0=l.getD p 0:=by
  intro n hn1;simp only[List.getD,bv,List.getElem?_drop,pq];rw[tj (by omega)]
 have HH:=zA hh;clear hn hh
 go_enter Tryz.func207,Tryz.ntmps207
 go_wp2_with fail
 go_loop [5] (fun nv=>∃i:Nat,p+1<=i/\i<=l.length/\nv=.int .i64 i/\Hid (i+tH 1 (l.drop i)=p+1+tH 1 (l.drop (p+1)))) (fun nv=>l.length-(intOf nv).toNat)
 case atStart=>exact⟨p+1,t9 _,by omega,by go_num,rfl⟩
 case round =>
  obtain⟨i,h1,hi,rfl,HI⟩:=hrel;by_cases hgo:i<l.length/\so (l.getD i 0)=1
  ·obtain⟨zIB,hq⟩:=hgo
   have HQ:=zA (ZV (b:=true) (by rw[hq];rfl):∀h:i<(ByteArray.mk l.toArray).size,fV (((ByteArray.mk l.toArray)[i]'h).toNat:Int)=true);have HI2:Hid (i+1+tH 1 (l.drop (i+1))=p+1+tH 1 (l.drop (p+1))):=by have:=HI.out;rw[Kb zIB hq]at this;exact this
   clear hq HI
   go_wp2_with (go_at_call 206;refine(tY _ true (HQ.out _) _).mono ?_;rintro e w' ⟨rfl,hw⟩;obtain rfl:=hw.symm)
   go_round
   case rel=>exact⟨i+1,by omega,by omega,by go_num,HI2.out⟩
   case measure=>simp[intOf];omega
  ·have hstop:i+tH 1 (l.drop i)=i:=by
    by_cases zIB:i<l.length
    ·exact Xq zIB (fun h=>hgo ⟨zIB,h⟩)
    ·exact Xr zIB
   have hni:vZ (l.drop p)=i-p:=by have h2:=HI.out;have h3:=HN.out;omega
   obtain⟨t,ht⟩:∃t,(l.drop p).take (i-p)=t:=⟨_,rfl⟩;have hx1:(ByteArray.mk l.toArray).extract p i=⟨t.toArray⟩:=by rw[ByteArray.extract_mk,<-ht]
   have htn:t.length=i-p:=by rw[<-ht,p9,ty];omega
   have hth:so (t.getD 0 0)=1:=by rw[<-ht,HH.out (i-p) (by omega)];exact hk
   have HT:Hid ((l.drop p).take (vZ (l.drop p))=t):=by unfold Hid;rw[hni];exact ht
   have HV:Hid (pX t=0):=by unfold Hid pX;rw[tg];unfold vS;rw[tj hth];split <;> (try split) <;> decide
   have HK:Hid (vS t=if 8<t.length then 1 else if qC t=true then 4 else 2):=by unfold Hid vS;rw[tj hth]
   clear hni HN HH ht hth hstop HI hk;by_cases zIB:i<l.length
   ·have hq:¬so (l.getD i 0)=1:=fun h=>hgo ⟨zIB,h⟩
    have HQ:=zA (ZV (b:=false) (by simp only[hq,du]):∀h:i<(ByteArray.mk l.toArray).size,fV (((ByteArray.mk l.toArray)[i]'h).toNat:Int)=false);clear hq hgo;by_cases h8:8<t.length
    ·have HK2:Hid (vS t=1):=by unfold Hid;rw[HK.out,tj h8]
     go_wp2_with (go_at_call 206;refine(tY _ false (HQ.out _) _).mono ?_;rintro e w' ⟨rfl,hw⟩;obtain rfl:=hw.symm)
     refine ph (v:=qM 1 t 0 p) (by simp[results,Tryz.results207,go_sem,qM]) rfl ⟨?_,?_⟩
     ·rw[HT.out,HV.out,HK2.out]
     ·exact gj (t9 _) _
    ·cases hkp:qC t
     ·have HKe:=zA hkp
      have HK2:Hid (vS t=2):=by unfold Hid;rw[HK.out,tg h8,tg (by simp[hkp])]
      clear hkp
      go_wp2_with (first|(go_at_call 206;refine(tY _ false (HQ.out _) _).mono ?_;rintro e w' ⟨rfl,hw⟩;obtain rfl:=hw.symm)|(go_at_call 243;refine(aH t false HKe.out _).mono ?_;rintro e w' ⟨rfl,hw⟩;obtain rfl:=hw.symm))
      refine ph (v:=qM 2 t 0 p) (by simp[results,Tryz.results207,go_sem,qM]) rfl ⟨?_,?_⟩
      ·rw[HT.out,HV.out,HK2.out]
      ·exact gj (t9 _) _
     ·have HKe:=zA hkp
      have HK2:Hid (vS t=4):=by unfold Hid;rw[HK.out,tg h8,tj hkp]
      clear hkp
      go_wp2_with (first|(go_at_call 206;refine(tY _ false (HQ.out _) _).mono ?_;rintro e w' ⟨rfl,hw⟩;obtain rfl:=hw.symm)|(go_at_call 243;refine(aH t true HKe.out _).mono ?_;rintro e w' ⟨rfl,hw⟩;obtain rfl:=hw.symm))
      refine ph (v:=qM 4 t 0 p) (by simp[results,Tryz.results207,go_sem,qM]) rfl ⟨?_,?_⟩
      ·rw[HT.out,HV.out,HK2.out]
      ·exact gj (t9 _) _
   ·clear hgo
    by_cases h8:8<t.length
    ·have HK2:Hid (vS t=1):=by unfold Hid;rw[HK.out,tj h8]
     go_wp2_with (fail)
     refine ph (v:=qM 1 t 0 p) (by simp[results,Tryz.results207,go_sem,qM]) rfl ⟨?_,?_⟩
     ·rw[HT.out,HV.out,HK2.out]
     ·exact gj (t9 _) _
    ·cases hkp:qC t
     ·have HKe:=zA hkp
      have HK2:Hid (vS t=2):=by unfold Hid;rw[HK.out,tg h8,tg (by simp[hkp])]
      clear hkp
      go_wp2_with (go_at_call 243;refine(aH t false HKe.out _).mono ?_;rintro e w' ⟨rfl,hw⟩;obtain rfl:=hw.symm)
      refine ph (v:=qM 2 t 0 p) (by simp[results,Tryz.results207,go_sem,qM]) rfl ⟨?_,?_⟩
      ·rw[HT.out,HV.out,HK2.out]
      ·exact gj (t9 _) _
     ·have HKe:=zA hkp
      have HK2:Hid (vS t=4):=by unfold Hid;rw[HK.out,tg h8,tj hkp]
      clear hkp
      go_wp2_with (go_at_call 243;refine(aH t true HKe.out _).mono ?_;rintro e w' ⟨rfl,hw⟩;obtain rfl:=hw.symm)
      refine ph (v:=qM 4 t 0 p) (by simp[results,Tryz.results207,go_sem,qM]) rfl ⟨?_,?_⟩
      ·rw[HT.out,HV.out,HK2.out]
      ·exact gj (t9 _) _
theorem uk(k:Int)(l:Bs):∀j,j<tH k l->so (l.getD j 0)=k:=by
 induction l with
 | nil=>intro j h;simp[tH]at h
 | cons c r ih =>
   intro j h;rw[tH]at h;split at h
   ·rename_i hc
    cases j with
    | zero=>simpa using hc
    | succ j=>simpa using ih j (by omega)
   ·omega
theorem BY(p:Nat)(w:World)(hl:l.length<=4000)(hp:p<l.length)(hk:so (l.getD p 0)=2) :
 Calls Tryz.prog 209 #[.string ⟨l.toArray⟩,.int .i64 p] w fun e w'=>e=.returned (qM (vS ((l.drop p).take (vZ (l.drop p)))) ((l.drop p).take (vZ (l.drop p))) (pX ((l.drop p).take (vZ (l.drop p)))) p)/\Below w.heap.size w w':=by
 have hn:vZ (l.drop p)=1+tH 2 ((l.drop p).drop 1):=by unfold vZ;rw[bX,pq,tg (by omega),hk]
 rw[List.drop_drop]at hn
 have hall:∀j,j<vZ (l.drop p)->so (((l.drop p).take (vZ (l.drop p))).getD j 0)=2:=by
  intro j hj
  have e:((l.drop p).take (vZ (l.drop p))).getD j 0=l.getD (p+j) 0:=by
   simp only[List.getD,bv,List.getElem?_drop];rw[tj hj]
  rw[e]
  cases j with
  | zero=>exact hk
  | succ j =>
    have:=uk 2 (l.drop (p+1)) j (by omega);rw[bX]at this;rw[show p+(j+1)=p+1+j by omega];exact this
 have HA:=zA hall;have HN:=zA hn
 have hh:∀n,1<=n->((l.drop p).take n).getD 0 0=l.getD p 0:=by
  intro n hn1;simp only[List.getD,bv,List.getElem?_drop,pq];rw[tj (by omega)]
 have HH:=zA hh;clear hn hh hall
 go_enter Tryz.func209,Tryz.ntmps209
 go_wp2_with fail
 go_loop [5] (fun nv=>∃i:Nat,p+1<=i/\i<=l.length/\nv=.int .i64 i/\Hid (i+tH 2 (l.drop i)=p+1+tH 2 (l.drop (p+1)))) (fun nv=>l.length-(intOf nv).toNat)
 case atStart=>exact⟨p+1,t9 _,by omega,by go_num,rfl⟩
 case round =>
  obtain⟨i,h1,hi,rfl,HI⟩:=hrel;by_cases hgo:i<l.length/\so (l.getD i 0)=2
  ·obtain⟨zIB,hq⟩:=hgo
   have HQ:=zA (Qk (b:=true) (by rw[hq];rfl):∀h:i<(ByteArray.mk l.toArray).size,sM (((ByteArray.mk l.toArray)[i]'h).toNat:Int)=true);have HI2:Hid (i+1+tH 2 (l.drop (i+1))=p+1+tH 2 (l.drop (p+1))):=by have:=HI.out;rw[Kb zIB hq]at this;exact this
   clear hq HI
   go_wp2_with (go_at_call 208;refine(mQ _ true (HQ.out _) _).mono ?_;rintro e w' ⟨rfl,hw⟩;obtain rfl:=hw.symm)
   go_round
   case rel=>exact⟨i+1,by omega,by omega,by go_num,HI2.out⟩
   case measure=>simp[intOf];omega
  ·have hstop:i+tH 2 (l.drop i)=i:=by
    by_cases zIB:i<l.length
    ·exact Xq zIB (fun h=>hgo ⟨zIB,h⟩)
    ·exact Xr zIB
   have hni:vZ (l.drop p)=i-p:=by have h2:=HI.out;have h3:=HN.out;omega
   obtain⟨t,ht⟩:∃t,(l.drop p).take (i-p)=t:=⟨_,rfl⟩;have hx1:(ByteArray.mk l.toArray).extract p i=⟨t.toArray⟩:=by rw[ByteArray.extract_mk,<-ht]
   have htn:t.length=i-p:=by rw[<-ht,p9,ty];omega
   have HH2:Hid (t.getD 0 0=l.getD p 0):=by rw[<-ht];exact HH.out (i-p) (by omega)
   have hth:so (t.getD 0 0)=2:=by rw[HH2.out];exact hk
   have HT:Hid ((l.drop p).take (vZ (l.drop p))=t):=by unfold Hid;rw[hni];exact ht
   have HAll:Hid (∀j,j<t.length->so (t.getD j 0)=2):=by
    have h2:=HA.out;rw[HT.out,hni,<-htn]at h2;exact h2
   have HK:Hid (vS t=if 4<t.length\/1<t.length/\t.getD 0 0=48 then 1 else 3):=by unfold Hid vS;rw[tg (by omega),tj hth]
   clear hni HN HH ht hth hstop HI hk HA;by_cases zIB:i<l.length
   ·have hq:¬so (l.getD i 0)=2:=fun h=>hgo ⟨zIB,h⟩
    have HQ:=zA (Qk (b:=false) (by simp only[hq,du]):∀h:i<(ByteArray.mk l.toArray).size,sM (((ByteArray.mk l.toArray)[i]'h).toNat:Int)=false);clear hq hgo;by_cases h4:4<t.length
    ·have HK2:Hid (vS t=1):=by unfold Hid;rw[HK.out,tj (.inl h4)]
     have HV:Hid (pX t=0):=by unfold Hid pX;rw[HK2.out,tg (by decide)]
     go_wp2_with (go_at_call 208;refine(mQ _ false (HQ.out _) _).mono ?_;rintro e w' ⟨rfl,hw⟩;obtain rfl:=hw.symm)
     refine ph (v:=qM 1 t 0 p) (by simp[results,Tryz.results209,go_sem,qM]) rfl ⟨?_,?_⟩
     ·rw[HT.out,HV.out,HK2.out]
     ·exact gj (t9 _) _
    ·by_cases h1':1<t.length
     ·by_cases hz:l.getD p 0=48
      ·have HK2:Hid (vS t=1):=by unfold Hid;rw[HK.out,tj (.inr ⟨h1',by rw[HH2.out];exact hz⟩)]
       have HV:Hid (pX t=0):=by unfold Hid pX;rw[HK2.out,tg (by decide)]
       have hc:∀h,(((ByteArray.mk l.toArray)[p]'h).toNat:Int)=48:=by intro h;rw[oG,hz];rfl
       clear hz
       go_wp2_with (go_at_call 208;refine(mQ _ false (HQ.out _) _).mono ?_;rintro e w' ⟨rfl,hw⟩;obtain rfl:=hw.symm)
       refine ph (v:=qM 1 t 0 p) (by simp[results,Tryz.results209,go_sem,qM]) rfl ⟨?_,?_⟩
       ·rw[HT.out,HV.out,HK2.out]
       ·exact gj (t9 _) _
      ·have HK2:Hid (vS t=3):=by unfold Hid;rw[HK.out,tg (by intro hh;rcases hh with hh|hh;exact h4 hh;rw[HH2.out]at hh;exact hz hh.2)]
       have HV:Hid (pX t=xF 0 t):=by unfold Hid pX;rw[HK2.out,tj rfl]
       have hc:∀h,((((ByteArray.mk l.toArray)[p]'h).toNat:Int)==48)=false:=by
        intro h;rw[fg];intro hh;apply hz;rw[oG]at hh;exact(YY _ 48).1 hh
       clear hz
       go_wp2_with (first|(go_at_call 208;refine(mQ _ false (HQ.out _) _).mono ?_;rintro e w' ⟨rfl,hw⟩;obtain rfl:=hw.symm)|(go_at_call 244;refine(sX t _ (by omega) HAll.out).mono ?_;rintro e w' ⟨rfl,hw⟩;obtain rfl:=hw.symm))
       refine ph (v:=qM 3 t (xF 0 t) p) (by simp[results,Tryz.results209,go_sem,qM]) rfl ⟨?_,?_⟩
       ·rw[HT.out,HV.out,HK2.out]
       ·exact gj (t9 _) _
     ·have HK2:Hid (vS t=3):=by unfold Hid;rw[HK.out,tg (by intro hh;rcases hh with hh|hh;exact h4 hh;exact h1' hh.1)]
      have HV:Hid (pX t=xF 0 t):=by unfold Hid pX;rw[HK2.out,tj rfl]
      go_wp2_with (first|(go_at_call 208;refine(mQ _ false (HQ.out _) _).mono ?_;rintro e w' ⟨rfl,hw⟩;obtain rfl:=hw.symm)|(go_at_call 244;refine(sX t _ (by omega) HAll.out).mono ?_;rintro e w' ⟨rfl,hw⟩;obtain rfl:=hw.symm))
      refine ph (v:=qM 3 t (xF 0 t) p) (by simp[results,Tryz.results209,go_sem,qM]) rfl ⟨?_,?_⟩
      ·rw[HT.out,HV.out,HK2.out]
      ·exact gj (t9 _) _
   ·clear hgo
    by_cases h4:4<t.length
    ·have HK2:Hid (vS t=1):=by unfold Hid;rw[HK.out,tj (.inl h4)]
     have HV:Hid (pX t=0):=by unfold Hid pX;rw[HK2.out,tg (by decide)]
     go_wp2_with (fail)
     refine ph (v:=qM 1 t 0 p) (by simp[results,Tryz.results209,go_sem,qM]) rfl ⟨?_,?_⟩
     ·rw[HT.out,HV.out,HK2.out]
     ·exact gj (t9 _) _
    ·by_cases h1':1<t.length
     ·by_cases hz:l.getD p 0=48
      ·have HK2:Hid (vS t=1):=by unfold Hid;rw[HK.out,tj (.inr ⟨h1',by rw[HH2.out];exact hz⟩)]
       have HV:Hid (pX t=0):=by unfold Hid pX;rw[HK2.out,tg (by decide)]
       have hc:∀h,(((ByteArray.mk l.toArray)[p]'h).toNat:Int)=48:=by intro h;rw[oG,hz];rfl
       clear hz
       go_wp2_with (fail)
       refine ph (v:=qM 1 t 0 p) (by simp[results,Tryz.results209,go_sem,qM]) rfl ⟨?_,?_⟩
       ·rw[HT.out,HV.out,HK2.out]
       ·exact gj (t9 _) _
      ·have HK2:Hid (vS t=3):=by unfold Hid;rw[HK.out,tg (by intro hh;rcases hh with hh|hh;exact h4 hh;rw[HH2.out]at hh;exact hz hh.2)]
       have HV:Hid (pX t=xF 0 t):=by unfold Hid pX;rw[HK2.out,tj rfl]
       have hc:∀h,((((ByteArray.mk l.toArray)[p]'h).toNat:Int)==48)=false:=by
        intro h;rw[fg];intro hh;apply hz;rw[oG]at hh;exact(YY _ 48).1 hh
       clear hz
       go_wp2_with (go_at_call 244;refine(sX t _ (by omega) HAll.out).mono ?_;rintro e w' ⟨rfl,hw⟩;obtain rfl:=hw.symm)
       refine ph (v:=qM 3 t (xF 0 t) p) (by simp[results,Tryz.results209,go_sem,qM]) rfl ⟨?_,?_⟩
       ·rw[HT.out,HV.out,HK2.out]
       ·exact gj (t9 _) _
     ·have HK2:Hid (vS t=3):=by unfold Hid;rw[HK.out,tg (by intro hh;rcases hh with hh|hh;exact h4 hh;exact h1' hh.1)]
      have HV:Hid (pX t=xF 0 t):=by unfold Hid pX;rw[HK2.out,tj rfl]
      go_wp2_with (go_at_call 244;refine(sX t _ (by omega) HAll.out).mono ?_;rintro e w' ⟨rfl,hw⟩;obtain rfl:=hw.symm)
      refine ph (v:=qM 3 t (xF 0 t) p) (by simp[results,Tryz.results209,go_sem,qM]) rfl ⟨?_,?_⟩
      ·rw[HT.out,HV.out,HK2.out]
      ·exact gj (t9 _) _
end Go.Proofs.YtnbpdffdnphbeaaGreatDoor
