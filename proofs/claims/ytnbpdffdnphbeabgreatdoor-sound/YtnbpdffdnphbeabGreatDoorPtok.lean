import Derived.Test.YtnbpdffdnphbeabGreatDoorTokens
set_option maxHeartbeats 1000000
namespace Go.Proofs.YtnbpdffdnphbeabGreatDoor
open Go
variable(s l:Bs)(b:Bool)(w:World)
def CU:List Bs:=[[110,117,109],[102,108,97,103],[114,117,108,101],[111,118,101,114],[119,104,101,110],[111,114],[97,110,100],[110,111,116],[104,97,115],[97,108,119,97,121,115]]
def KU:List Bs:=[[58],[61],[46,46],[59],[40],[41],[60],[60,61],[33,61],[62,61],[62],[43],[45],[42]]
def uJ(s:Bs):Bool:=CU.contains s
def xS(s:Bs):Bool:=KU.contains s
def qA:Int->Bs->Int
 | a,[]=>a
 | a,c::r=>qA (10*a+((c.toNat:Int)-48)) r
def yA(s:Bs):Int :=
 if so (s.getD 0 0)=1 then (if 8<s.length then 1 else if uJ s=true then 4 else 2)
 else if so (s.getD 0 0)=2 then (if 4<s.length\/1<s.length/\s.getD 0 0=48 then 1 else 3)
 else if xS s=true then 4 else 1
def qS(s:Bs):Int:=if yA s=3 then qA 0 s else 0
def zD1(t:Nat × Bs):List Value:=[.int .i64 (yA t.2),.string ⟨t.2.toArray⟩,.int .i64 (qS t.2),.int .i64 t.1]
def JQ(len:Nat):List Value:=[.int .i64 0,.string ⟨#[]⟩,.int .i64 0,.int .i64 len]
def Z7(ts:zT):List Value:=ts.flatMap zD1
theorem BK(ts:zT)(t:Nat × Bs):Z7 (ts++[t])=Z7 ts++zD1 t:=by simp[Z7]
open Go.RowKit
theorem zA{p:Prop}(h:p):Hid p:=h
theorem yy{c:UInt8}(h:so c=2):(48:Int)<=(c.toNat:Int)/\(c.toNat:Int)<=57:=by
 unfold so Y6 at h;split at h
 ·omega
 ·split at h
  ·assumption
  ·split at h <;> omega
theorem B6 :
 Calls Tryz.prog 177 #[.string ⟨s.toArray⟩] w fun e w'=>e=.returned (.bool (uJ s))/\w'=w:=by
 by_cases c0:s=[110,117,109]
 ·subst c0
  have HF:Hid (uJ [110,117,109]=true):=by unfold Hid;decide
  go_enter Tryz.func177,Tryz.ntmps177
  go_wp2
  go_ret;exact⟨zF HF.out.symm,rfl⟩
 by_cases c1:s=[102,108,97,103]
 ·subst c1
  have HF:Hid (uJ [102,108,97,103]=true):=by unfold Hid;decide
  go_enter Tryz.func177,Tryz.ntmps177
  go_wp2
  go_ret;exact⟨zF HF.out.symm,rfl⟩
 by_cases c2:s=[114,117,108,101]
 ·subst c2
  have HF:Hid (uJ [114,117,108,101]=true):=by unfold Hid;decide
  go_enter Tryz.func177,Tryz.ntmps177
  go_wp2
  go_ret;exact⟨zF HF.out.symm,rfl⟩
 by_cases c3:s=[111,118,101,114]
 ·subst c3
  have HF:Hid (uJ [111,118,101,114]=true):=by unfold Hid;decide
  go_enter Tryz.func177,Tryz.ntmps177
  go_wp2
  go_ret;exact⟨zF HF.out.symm,rfl⟩
 by_cases c4:s=[119,104,101,110]
 ·subst c4
  have HF:Hid (uJ [119,104,101,110]=true):=by unfold Hid;decide
  go_enter Tryz.func177,Tryz.ntmps177
  go_wp2
  go_ret;exact⟨zF HF.out.symm,rfl⟩
 by_cases c5:s=[111,114]
 ·subst c5
  have HF:Hid (uJ [111,114]=true):=by unfold Hid;decide
  go_enter Tryz.func177,Tryz.ntmps177
  go_wp2
  go_ret;exact⟨zF HF.out.symm,rfl⟩
 by_cases c6:s=[97,110,100]
 ·subst c6
  have HF:Hid (uJ [97,110,100]=true):=by unfold Hid;decide
  go_enter Tryz.func177,Tryz.ntmps177
  go_wp2
  go_ret;exact⟨zF HF.out.symm,rfl⟩
 by_cases c7:s=[110,111,116]
 ·subst c7
  have HF:Hid (uJ [110,111,116]=true):=by unfold Hid;decide
  go_enter Tryz.func177,Tryz.ntmps177
  go_wp2
  go_ret;exact⟨zF HF.out.symm,rfl⟩
 by_cases c8:s=[104,97,115]
 ·subst c8
  have HF:Hid (uJ [104,97,115]=true):=by unfold Hid;decide
  go_enter Tryz.func177,Tryz.ntmps177
  go_wp2
  go_ret;exact⟨zF HF.out.symm,rfl⟩
 by_cases c9:s=[97,108,119,97,121,115]
 ·subst c9
  have HF:Hid (uJ [97,108,119,97,121,115]=true):=by unfold Hid;decide
  go_enter Tryz.func177,Tryz.ntmps177
  go_wp2
  go_ret;exact⟨zF HF.out.symm,rfl⟩
 have HF:Hid (uJ s=false):=by simp[Hid,uJ,CU,c0,c1,c2,c3,c4,c5,c6,c7,c8,c9]
 have b0:(s==[110,117,109])=false:=by simpa using c0
 have b1:(s==[102,108,97,103])=false:=by simpa using c1
 have b2:(s==[114,117,108,101])=false:=by simpa using c2
 have b3:(s==[111,118,101,114])=false:=by simpa using c3
 have b4:(s==[119,104,101,110])=false:=by simpa using c4
 have b5:(s==[111,114])=false:=by simpa using c5
 have b6:(s==[97,110,100])=false:=by simpa using c6
 have b7:(s==[110,111,116])=false:=by simpa using c7
 have b8:(s==[104,97,115])=false:=by simpa using c8
 have b9:(s==[97,108,119,97,121,115])=false:=by simpa using c9
 clear c0 c1 c2 c3 c4 c5 c6 c7 c8 c9
 go_enter Tryz.func177,Tryz.ntmps177
 go_wp2
 go_ret;exact⟨zF HF.out.symm,rfl⟩
theorem B5 :
 Calls Tryz.prog 179 #[.string ⟨s.toArray⟩] w fun e w'=>e=.returned (.bool (xS s))/\w'=w:=by
 by_cases c0:s=[58]
 ·subst c0
  have HF:Hid (xS [58]=true):=by unfold Hid;decide
  go_enter Tryz.func179,Tryz.ntmps179
  go_wp2
  go_ret;exact⟨zF HF.out.symm,rfl⟩
 by_cases c1:s=[61]
 ·subst c1
  have HF:Hid (xS [61]=true):=by unfold Hid;decide
  go_enter Tryz.func179,Tryz.ntmps179
  go_wp2
  go_ret;exact⟨zF HF.out.symm,rfl⟩
 by_cases c2:s=[46,46]
 ·subst c2
  have HF:Hid (xS [46,46]=true):=by unfold Hid;decide
  go_enter Tryz.func179,Tryz.ntmps179
  go_wp2
  go_ret;exact⟨zF HF.out.symm,rfl⟩
 by_cases c3:s=[59]
 ·subst c3
  have HF:Hid (xS [59]=true):=by unfold Hid;decide
  go_enter Tryz.func179,Tryz.ntmps179
  go_wp2
  go_ret;exact⟨zF HF.out.symm,rfl⟩
 by_cases c4:s=[40]
 ·subst c4
  have HF:Hid (xS [40]=true):=by unfold Hid;decide
  go_enter Tryz.func179,Tryz.ntmps179
  go_wp2
  go_ret;exact⟨zF HF.out.symm,rfl⟩
 by_cases c5:s=[41]
 ·subst c5
  have HF:Hid (xS [41]=true):=by unfold Hid;decide
  go_enter Tryz.func179,Tryz.ntmps179
  go_wp2
  go_ret;exact⟨zF HF.out.symm,rfl⟩
 by_cases c6:s=[60]
 ·subst c6
  have HF:Hid (xS [60]=true):=by unfold Hid;decide
  go_enter Tryz.func179,Tryz.ntmps179
  go_wp2
  go_ret;exact⟨zF HF.out.symm,rfl⟩
 by_cases c7:s=[60,61]
 ·subst c7
  have HF:Hid (xS [60,61]=true):=by unfold Hid;decide
  go_enter Tryz.func179,Tryz.ntmps179
  go_wp2
  go_ret;exact⟨zF HF.out.symm,rfl⟩
 by_cases c8:s=[33,61]
 ·subst c8
  have HF:Hid (xS [33,61]=true):=by unfold Hid;decide
  go_enter Tryz.func179,Tryz.ntmps179
  go_wp2
  go_ret;exact⟨zF HF.out.symm,rfl⟩
 by_cases c9:s=[62,61]
 ·subst c9
  have HF:Hid (xS [62,61]=true):=by unfold Hid;decide
  go_enter Tryz.func179,Tryz.ntmps179
  go_wp2
  go_ret;exact⟨zF HF.out.symm,rfl⟩
 by_cases c10:s=[62]
 ·subst c10
  have HF:Hid (xS [62]=true):=by unfold Hid;decide
  go_enter Tryz.func179,Tryz.ntmps179
  go_wp2
  go_ret;exact⟨zF HF.out.symm,rfl⟩
 by_cases c11:s=[43]
 ·subst c11
  have HF:Hid (xS [43]=true):=by unfold Hid;decide
  go_enter Tryz.func179,Tryz.ntmps179
  go_wp2
  go_ret;exact⟨zF HF.out.symm,rfl⟩
 by_cases c12:s=[45]
 ·subst c12
  have HF:Hid (xS [45]=true):=by unfold Hid;decide
  go_enter Tryz.func179,Tryz.ntmps179
  go_wp2
  go_ret;exact⟨zF HF.out.symm,rfl⟩
 by_cases c13:s=[42]
 ·subst c13
  have HF:Hid (xS [42]=true):=by unfold Hid;decide
  go_enter Tryz.func179,Tryz.ntmps179
  go_wp2
  go_ret;exact⟨zF HF.out.symm,rfl⟩
 have HF:Hid (xS s=false):=by simp[Hid,xS,KU,c0,c1,c2,c3,c4,c5,c6,c7,c8,c9,c10,c11,c12,c13]
 have b0:(s==[58])=false:=by simpa using c0
 have b1:(s==[61])=false:=by simpa using c1
 have b2:(s==[46,46])=false:=by simpa using c2
 have b3:(s==[59])=false:=by simpa using c3
 have b4:(s==[40])=false:=by simpa using c4
 have b5:(s==[41])=false:=by simpa using c5
 have b6:(s==[60])=false:=by simpa using c6
 have b7:(s==[60,61])=false:=by simpa using c7
 have b8:(s==[33,61])=false:=by simpa using c8
 have b9:(s==[62,61])=false:=by simpa using c9
 have b10:(s==[62])=false:=by simpa using c10
 have b11:(s==[43])=false:=by simpa using c11
 have b12:(s==[45])=false:=by simpa using c12
 have b13:(s==[42])=false:=by simpa using c13
 clear c0 c1 c2 c3 c4 c5 c6 c7 c8 c9 c10 c11 c12 c13
 go_enter Tryz.func179,Tryz.ntmps179
 go_wp2
 go_ret;exact⟨zF HF.out.symm,rfl⟩
theorem oV(hs:s.length<=4)(hd:∀i,i<s.length->so (s.getD i 0)=2) :
 Calls Tryz.prog 178 #[.string ⟨s.toArray⟩] w fun e w'=>e=.returned (.int .i64 (qA 0 s))/\w'=w:=by
 have HD:=zA hd;clear hd
 go_enter Tryz.func178,Tryz.ntmps178
 go_wp2
 go_loop [3,4] (fun sv iv=>∃(i:Nat) (a:Int),i<=s.length/\sv=.int .i64 a/\iv=.int .i64 i/\0<=a/\(i<=0->a<=0)/\(i<=1->a<=9)/\(i<=2->a<=99)/\(i<=3->a<=999)/\a<=9999/\Hid (qA a (s.drop i)=qA 0 s)) (fun _ iv=>s.length-(intOf iv).toNat)
 case atStart=>exact⟨0,0,p7 _,rfl,rfl,by omega,by omega,by omega,by omega,by omega,by omega,rfl⟩
 case round =>
  obtain⟨i,a,hi,rfl,rfl,ha0,k0,k1,k2,k3,k4,HI⟩:=hrel;by_cases zJS:i<s.length
  ·have hd:=HD.out i zJS
   have hx:=iH s i;have hdc:s.drop i=s.getD i 0::s.drop (i+1):=wY s i zJS;have HI2:Hid (qA (10*a+(((s.getD i 0).toNat:Int)-48)) (s.drop (i+1))=qA 0 s):=by have:=HI.out;rw[hdc,qA]at this;exact this
   have hc:(48:Int)<=((s.getD i 0).toNat:Int)/\((s.getD i 0).toNat:Int)<=57:=yy hd;generalize ((s.getD i 0).toNat:Int)=c at *;obtain⟨hc1,hc2⟩:=hc;clear hd hdc HI HD;have k5:a<=999:=by omega
   go_wp2
   go_round
   case rel=>exact⟨i+1,10*a+(c-48),by omega,rfl,by go_num,by omega,by omega,by omega,by omega,by omega,by omega,HI2.out⟩
   case measure=>simp[intOf];omega
  ·have hd:s.drop i=[]:=pe (by omega)
   have HE:Hid (qA 0 s=a):=by have:=HI.out;rw[hd,qA]at this;exact this.symm
   clear hd HI HD
   go_wp2
   go_ret;exact⟨yR HE.out.symm,rfl⟩
def uO(k:Int)(t:Bs)(v:Int)(p:Nat):Value:=.agg #[.int .i64 k,.string ⟨t.toArray⟩,.int .i64 v,.int .i64 p]
theorem tB(c:Int)(b:Bool)(h:cY c=b)(w:World) :
 Calls Tryz.prog 144 #[.int .u8 c] w fun e w'=>e=.returned (.bool b)/\w'=w:=by subst h;exact JF c w
theorem pJ(c:Int)(b:Bool)(h:oL c=b)(w:World) :
 Calls Tryz.prog 146 #[.int .u8 c] w fun e w'=>e=.returned (.bool b)/\w'=w:=by subst h;exact Vj c w
theorem rF(h:uJ s=b)(w:World) :
 Calls Tryz.prog 177 #[.string ⟨s.toArray⟩] w fun e w'=>e=.returned (.bool b)/\w'=w:=by subst h;exact B6 s w
theorem lB(h:xS s=b)(w:World) :
 Calls Tryz.prog 179 #[.string ⟨s.toArray⟩] w fun e w'=>e=.returned (.bool b)/\w'=w:=by subst h;exact B5 s w
theorem FG(c:UInt8):cY (c.toNat:Int)=decide (so c=1):=by
 unfold cY so Y6;by_cases h:(97:Int)<=c.toNat/\(c.toNat:Int)<=122
 ·rw[tr h];simp[h]
 ·rw[tj h]
  have:¬(if (48:Int)<=c.toNat/\(c.toNat:Int)<=57 then (2:Int) else if (c.toNat:Int)=32\/(c.toNat:Int)=10 then 3 else 0)=1:=by split <;> (try split) <;> decide
  simp only[this,dq,f8,di];omega
theorem zA2(c:UInt8):oL (c.toNat:Int)=decide (so c=2):=by
 unfold oL so Y6;by_cases h:(48:Int)<=c.toNat/\(c.toNat:Int)<=57
 ·rw[tj (by omega),tr h];simp[h]
 ·rw[tj h]
  have:¬(if (97:Int)<=c.toNat/\(c.toNat:Int)<=122 then (1:Int) else if (c.toNat:Int)=32\/(c.toNat:Int)=10 then 3 else 0)=2:=by split <;> (try split) <;> decide
  simp only[this,dq,f8,di];omega
theorem Zh{l:Bs}{b:Bool}{i:Nat}(h:decide (so (l.getD i 0)=1)=b):∀h:i<(ByteArray.mk l.toArray).size,cY (((ByteArray.mk l.toArray)[i]'h).toNat:Int)=b:=by
 intro h0;rw[JK,FG,h]
theorem X2{l:Bs}{b:Bool}{i:Nat}(h:decide (so (l.getD i 0)=2)=b):∀h:i<(ByteArray.mk l.toArray).size,oL (((ByteArray.mk l.toArray)[i]'h).toNat:Int)=b:=by
 intro h0;rw[JK,zA2,h]
theorem GW(p:Nat)(w:World)(hl:l.length<=4000)(hp:p<l.length)(hk:so (l.getD p 0)=1) :
 Calls Tryz.prog 145 #[.string ⟨l.toArray⟩,.int .i64 p] w fun e w'=>e=.returned (uO (yA ((l.drop p).take (uD (l.drop p)))) ((l.drop p).take (uD (l.drop p))) (qS ((l.drop p).take (uD (l.drop p)))) p)/\Below w.heap.size w w':=by
 have hn:uD (l.drop p)=1+tZ 1 ((l.drop p).drop 1):=by unfold uD;rw[bQ,mz,tj (by omega),hk]
 rw[List.drop_drop]at hn;have HN:=zA hn
 have hh:∀n,1<=n->((l.drop p).take n).getD 0 0=l.getD p 0:=by
  intro n hn1;simp only[List.getD,List.getElem?_take,List.getElem?_drop,mz];rw[tr (by omega)]
 have HH:=zA hh;clear hn hh
 go_enter Tryz.func145,Tryz.ntmps145
 go_wp2_with fail
 go_loop [5] (fun nv=>∃i:Nat,p+1<=i/\i<=l.length/\nv=.int .i64 i/\Hid (i+tZ 1 (l.drop i)=p+1+tZ 1 (l.drop (p+1)))) (fun nv=>l.length-(intOf nv).toNat)
 case atStart=>exact⟨p+1,tg _,by omega,by go_num,rfl⟩
 case round =>
  obtain⟨i,h1,hi,rfl,HI⟩:=hrel;by_cases hgo:i<l.length/\so (l.getD i 0)=1
  ·obtain⟨zJS,hq⟩:=hgo
   have HQ:=zA (Zh (b:=true) (by rw[hq];rfl):∀h:i<(ByteArray.mk l.toArray).size,cY (((ByteArray.mk l.toArray)[i]'h).toNat:Int)=true);have HI2:Hid (i+1+tZ 1 (l.drop (i+1))=p+1+tZ 1 (l.drop (p+1))):=by have:=HI.out;rw[C7 zJS hq]at this;exact this
   clear hq HI
   go_wp2_with (go_at_call 144;refine(tB _ true (HQ.out _) _).mono ?_;rintro e w' ⟨rfl,hw⟩;obtain rfl:=hw.symm)
   go_round
   case rel=>exact⟨i+1,by omega,by omega,by go_num,HI2.out⟩
   case measure=>simp[intOf];omega
  ·have hstop:i+tZ 1 (l.drop i)=i:=by
    by_cases zJS:i<l.length
    ·exact K5 zJS (fun h=>hgo ⟨zJS,h⟩)
    ·exact K6 zJS
   have hni:uD (l.drop p)=i-p:=by have h2:=HI.out;have h3:=HN.out;omega
   obtain⟨t,ht⟩:∃t,(l.drop p).take (i-p)=t:=⟨_,rfl⟩;have hx1:(ByteArray.mk l.toArray).extract p i=⟨t.toArray⟩:=by rw[ByteArray.extract_mk,<-ht]
   have htn:t.length=i-p:=by rw[<-ht,cb,bw];omega
   have hth:so (t.getD 0 0)=1:=by rw[<-ht,HH.out (i-p) (by omega)];exact hk
   have HT:Hid ((l.drop p).take (uD (l.drop p))=t):=by unfold Hid;rw[hni];exact ht
   have HV:Hid (qS t=0):=by unfold Hid qS;rw[tj];unfold yA;rw[tr hth];split <;> (try split) <;> decide
   have HK:Hid (yA t=if 8<t.length then 1 else if uJ t=true then 4 else 2):=by unfold Hid yA;rw[tr hth]
   clear hni HN HH ht hth hstop HI hk;by_cases zJS:i<l.length
   ·have hq:¬so (l.getD i 0)=1:=fun h=>hgo ⟨zJS,h⟩
    have HQ:=zA (Zh (b:=false) (by simp only[hq,dq]):∀h:i<(ByteArray.mk l.toArray).size,cY (((ByteArray.mk l.toArray)[i]'h).toNat:Int)=false);clear hq hgo;by_cases h8:8<t.length
    ·have HK2:Hid (yA t=1):=by unfold Hid;rw[HK.out,tr h8]
     go_wp2_with (go_at_call 144;refine(tB _ false (HQ.out _) _).mono ?_;rintro e w' ⟨rfl,hw⟩;obtain rfl:=hw.symm)
     refine pm (v:=uO 1 t 0 p) (by simp[results,Tryz.results145,go_sem,uO]) rfl ⟨?_,?_⟩
     ·rw[HT.out,HV.out,HK2.out]
     ·exact fe (tg _) _
    ·cases hkp:uJ t
     ·have HKe:=zA hkp
      have HK2:Hid (yA t=2):=by unfold Hid;rw[HK.out,tj h8,tj (by simp[hkp])]
      clear hkp
      go_wp2_with (first|(go_at_call 144;refine(tB _ false (HQ.out _) _).mono ?_;rintro e w' ⟨rfl,hw⟩;obtain rfl:=hw.symm)|(go_at_call 177;refine(rF t false HKe.out _).mono ?_;rintro e w' ⟨rfl,hw⟩;obtain rfl:=hw.symm))
      refine pm (v:=uO 2 t 0 p) (by simp[results,Tryz.results145,go_sem,uO]) rfl ⟨?_,?_⟩
      ·rw[HT.out,HV.out,HK2.out]
      ·exact fe (tg _) _
     ·have HKe:=zA hkp
      have HK2:Hid (yA t=4):=by unfold Hid;rw[HK.out,tj h8,tr hkp]
      clear hkp
      go_wp2_with (first|(go_at_call 144;refine(tB _ false (HQ.out _) _).mono ?_;rintro e w' ⟨rfl,hw⟩;obtain rfl:=hw.symm)|(go_at_call 177;refine(rF t true HKe.out _).mono ?_;rintro e w' ⟨rfl,hw⟩;obtain rfl:=hw.symm))
      refine pm (v:=uO 4 t 0 p) (by simp[results,Tryz.results145,go_sem,uO]) rfl ⟨?_,?_⟩
      ·rw[HT.out,HV.out,HK2.out]
      ·exact fe (tg _) _
   ·clear hgo
    by_cases h8:8<t.length
    ·have HK2:Hid (yA t=1):=by unfold Hid;rw[HK.out,tr h8]
     go_wp2_with (fail)
     refine pm (v:=uO 1 t 0 p) (by simp[results,Tryz.results145,go_sem,uO]) rfl ⟨?_,?_⟩
     ·rw[HT.out,HV.out,HK2.out]
     ·exact fe (tg _) _
    ·cases hkp:uJ t
     ·have HKe:=zA hkp
      have HK2:Hid (yA t=2):=by unfold Hid;rw[HK.out,tj h8,tj (by simp[hkp])]
      clear hkp
      go_wp2_with (go_at_call 177;refine(rF t false HKe.out _).mono ?_;rintro e w' ⟨rfl,hw⟩;obtain rfl:=hw.symm)
      refine pm (v:=uO 2 t 0 p) (by simp[results,Tryz.results145,go_sem,uO]) rfl ⟨?_,?_⟩
      ·rw[HT.out,HV.out,HK2.out]
      ·exact fe (tg _) _
     ·have HKe:=zA hkp
      have HK2:Hid (yA t=4):=by unfold Hid;rw[HK.out,tj h8,tr hkp]
      clear hkp
      go_wp2_with (go_at_call 177;refine(rF t true HKe.out _).mono ?_;rintro e w' ⟨rfl,hw⟩;obtain rfl:=hw.symm)
      refine pm (v:=uO 4 t 0 p) (by simp[results,Tryz.results145,go_sem,uO]) rfl ⟨?_,?_⟩
      ·rw[HT.out,HV.out,HK2.out]
      ·exact fe (tg _) _
theorem xw(k:Int)(l:Bs):∀j,j<tZ k l->so (l.getD j 0)=k:=by
 induction l with
 | nil=>intro j h;simp[tZ]at h
 | cons c r ih =>
   intro j h;rw[tZ]at h;split at h
   ·rename_i hc
    cases j with
    | zero=>simpa using hc
    | succ j=>simpa using ih j (by omega)
   ·omega
theorem UX(p:Nat)(w:World)(hl:l.length<=4000)(hp:p<l.length)(hk:so (l.getD p 0)=2) :
 Calls Tryz.prog 147 #[.string ⟨l.toArray⟩,.int .i64 p] w fun e w'=>e=.returned (uO (yA ((l.drop p).take (uD (l.drop p)))) ((l.drop p).take (uD (l.drop p))) (qS ((l.drop p).take (uD (l.drop p)))) p)/\Below w.heap.size w w':=by
 have hn:uD (l.drop p)=1+tZ 2 ((l.drop p).drop 1):=by unfold uD;rw[bQ,mz,tj (by omega),hk]
 rw[List.drop_drop]at hn
 have hall:∀j,j<uD (l.drop p)->so (((l.drop p).take (uD (l.drop p))).getD j 0)=2:=by
  intro j hj
  have e:((l.drop p).take (uD (l.drop p))).getD j 0=l.getD (p+j) 0:=by
   simp only[List.getD,List.getElem?_take,List.getElem?_drop];rw[tr hj]
  rw[e]
  cases j with
  | zero=>exact hk
  | succ j =>
    have:=xw 2 (l.drop (p+1)) j (by omega);rw[bQ]at this;rw[show p+(j+1)=p+1+j by omega];exact this
 have HA:=zA hall;have HN:=zA hn
 have hh:∀n,1<=n->((l.drop p).take n).getD 0 0=l.getD p 0:=by
  intro n hn1;simp only[List.getD,List.getElem?_take,List.getElem?_drop,mz];rw[tr (by omega)]
 have HH:=zA hh;clear hn hh hall
 go_enter Tryz.func147,Tryz.ntmps147
 go_wp2_with fail
 go_loop [5] (fun nv=>∃i:Nat,p+1<=i/\i<=l.length/\nv=.int .i64 i/\Hid (i+tZ 2 (l.drop i)=p+1+tZ 2 (l.drop (p+1)))) (fun nv=>l.length-(intOf nv).toNat)
 case atStart=>exact⟨p+1,tg _,by omega,by go_num,rfl⟩
 case round =>
  obtain⟨i,h1,hi,rfl,HI⟩:=hrel;by_cases hgo:i<l.length/\so (l.getD i 0)=2
  ·obtain⟨zJS,hq⟩:=hgo
   have HQ:=zA (X2 (b:=true) (by rw[hq];rfl):∀h:i<(ByteArray.mk l.toArray).size,oL (((ByteArray.mk l.toArray)[i]'h).toNat:Int)=true);have HI2:Hid (i+1+tZ 2 (l.drop (i+1))=p+1+tZ 2 (l.drop (p+1))):=by have:=HI.out;rw[C7 zJS hq]at this;exact this
   clear hq HI
   go_wp2_with (go_at_call 146;refine(pJ _ true (HQ.out _) _).mono ?_;rintro e w' ⟨rfl,hw⟩;obtain rfl:=hw.symm)
   go_round
   case rel=>exact⟨i+1,by omega,by omega,by go_num,HI2.out⟩
   case measure=>simp[intOf];omega
  ·have hstop:i+tZ 2 (l.drop i)=i:=by
    by_cases zJS:i<l.length
    ·exact K5 zJS (fun h=>hgo ⟨zJS,h⟩)
    ·exact K6 zJS
   have hni:uD (l.drop p)=i-p:=by have h2:=HI.out;have h3:=HN.out;omega
   obtain⟨t,ht⟩:∃t,(l.drop p).take (i-p)=t:=⟨_,rfl⟩;have hx1:(ByteArray.mk l.toArray).extract p i=⟨t.toArray⟩:=by rw[ByteArray.extract_mk,<-ht]
   have htn:t.length=i-p:=by rw[<-ht,cb,bw];omega
   have HH2:Hid (t.getD 0 0=l.getD p 0):=by rw[<-ht];exact HH.out (i-p) (by omega)
   have hth:so (t.getD 0 0)=2:=by rw[HH2.out];exact hk
   have HT:Hid ((l.drop p).take (uD (l.drop p))=t):=by unfold Hid;rw[hni];exact ht
   have HAll:Hid (∀j,j<t.length->so (t.getD j 0)=2):=by
    have h2:=HA.out;rw[HT.out,hni,<-htn]at h2;exact h2
   have HK:Hid (yA t=if 4<t.length\/1<t.length/\t.getD 0 0=48 then 1 else 3):=by unfold Hid yA;rw[tj (by omega),tr hth]
   clear hni HN HH ht hth hstop HI hk HA;by_cases zJS:i<l.length
   ·have hq:¬so (l.getD i 0)=2:=fun h=>hgo ⟨zJS,h⟩
    have HQ:=zA (X2 (b:=false) (by simp only[hq,dq]):∀h:i<(ByteArray.mk l.toArray).size,oL (((ByteArray.mk l.toArray)[i]'h).toNat:Int)=false);clear hq hgo;by_cases h4:4<t.length
    ·have HK2:Hid (yA t=1):=by unfold Hid;rw[HK.out,tr (.inl h4)]
     have HV:Hid (qS t=0):=by unfold Hid qS;rw[HK2.out,tj (by decide)]
     go_wp2_with (go_at_call 146;refine(pJ _ false (HQ.out _) _).mono ?_;rintro e w' ⟨rfl,hw⟩;obtain rfl:=hw.symm)
     refine pm (v:=uO 1 t 0 p) (by simp[results,Tryz.results147,go_sem,uO]) rfl ⟨?_,?_⟩
     ·rw[HT.out,HV.out,HK2.out]
     ·exact fe (tg _) _
    ·by_cases h1':1<t.length
     ·by_cases hz:l.getD p 0=48
      ·have HK2:Hid (yA t=1):=by unfold Hid;rw[HK.out,tr (.inr ⟨h1',by rw[HH2.out];exact hz⟩)]
       have HV:Hid (qS t=0):=by unfold Hid qS;rw[HK2.out,tj (by decide)]
       have hc:∀h,(((ByteArray.mk l.toArray)[p]'h).toNat:Int)=48:=by intro h;rw[iH,hz];rfl
       clear hz
       go_wp2_with (go_at_call 146;refine(pJ _ false (HQ.out _) _).mono ?_;rintro e w' ⟨rfl,hw⟩;obtain rfl:=hw.symm)
       refine pm (v:=uO 1 t 0 p) (by simp[results,Tryz.results147,go_sem,uO]) rfl ⟨?_,?_⟩
       ·rw[HT.out,HV.out,HK2.out]
       ·exact fe (tg _) _
      ·have HK2:Hid (yA t=3):=by unfold Hid;rw[HK.out,tj (by intro hh;rcases hh with hh|hh;exact h4 hh;rw[HH2.out]at hh;exact hz hh.2)]
       have HV:Hid (qS t=qA 0 t):=by unfold Hid qS;rw[HK2.out,tr rfl]
       have hc:∀h,((((ByteArray.mk l.toArray)[p]'h).toNat:Int)==48)=false:=by
        intro h;rw[Bool.eq_false_iff];intro hh;apply hz;rw[iH]at hh;exact(Dr _ 48).1 hh
       clear hz
       go_wp2_with (first|(go_at_call 146;refine(pJ _ false (HQ.out _) _).mono ?_;rintro e w' ⟨rfl,hw⟩;obtain rfl:=hw.symm)|(go_at_call 178;refine(oV t _ (by omega) HAll.out).mono ?_;rintro e w' ⟨rfl,hw⟩;obtain rfl:=hw.symm))
       refine pm (v:=uO 3 t (qA 0 t) p) (by simp[results,Tryz.results147,go_sem,uO]) rfl ⟨?_,?_⟩
       ·rw[HT.out,HV.out,HK2.out]
       ·exact fe (tg _) _
     ·have HK2:Hid (yA t=3):=by unfold Hid;rw[HK.out,tj (by intro hh;rcases hh with hh|hh;exact h4 hh;exact h1' hh.1)]
      have HV:Hid (qS t=qA 0 t):=by unfold Hid qS;rw[HK2.out,tr rfl]
      go_wp2_with (first|(go_at_call 146;refine(pJ _ false (HQ.out _) _).mono ?_;rintro e w' ⟨rfl,hw⟩;obtain rfl:=hw.symm)|(go_at_call 178;refine(oV t _ (by omega) HAll.out).mono ?_;rintro e w' ⟨rfl,hw⟩;obtain rfl:=hw.symm))
      refine pm (v:=uO 3 t (qA 0 t) p) (by simp[results,Tryz.results147,go_sem,uO]) rfl ⟨?_,?_⟩
      ·rw[HT.out,HV.out,HK2.out]
      ·exact fe (tg _) _
   ·clear hgo
    by_cases h4:4<t.length
    ·have HK2:Hid (yA t=1):=by unfold Hid;rw[HK.out,tr (.inl h4)]
     have HV:Hid (qS t=0):=by unfold Hid qS;rw[HK2.out,tj (by decide)]
     go_wp2_with (fail)
     refine pm (v:=uO 1 t 0 p) (by simp[results,Tryz.results147,go_sem,uO]) rfl ⟨?_,?_⟩
     ·rw[HT.out,HV.out,HK2.out]
     ·exact fe (tg _) _
    ·by_cases h1':1<t.length
     ·by_cases hz:l.getD p 0=48
      ·have HK2:Hid (yA t=1):=by unfold Hid;rw[HK.out,tr (.inr ⟨h1',by rw[HH2.out];exact hz⟩)]
       have HV:Hid (qS t=0):=by unfold Hid qS;rw[HK2.out,tj (by decide)]
       have hc:∀h,(((ByteArray.mk l.toArray)[p]'h).toNat:Int)=48:=by intro h;rw[iH,hz];rfl
       clear hz
       go_wp2_with (fail)
       refine pm (v:=uO 1 t 0 p) (by simp[results,Tryz.results147,go_sem,uO]) rfl ⟨?_,?_⟩
       ·rw[HT.out,HV.out,HK2.out]
       ·exact fe (tg _) _
      ·have HK2:Hid (yA t=3):=by unfold Hid;rw[HK.out,tj (by intro hh;rcases hh with hh|hh;exact h4 hh;rw[HH2.out]at hh;exact hz hh.2)]
       have HV:Hid (qS t=qA 0 t):=by unfold Hid qS;rw[HK2.out,tr rfl]
       have hc:∀h,((((ByteArray.mk l.toArray)[p]'h).toNat:Int)==48)=false:=by
        intro h;rw[Bool.eq_false_iff];intro hh;apply hz;rw[iH]at hh;exact(Dr _ 48).1 hh
       clear hz
       go_wp2_with (go_at_call 178;refine(oV t _ (by omega) HAll.out).mono ?_;rintro e w' ⟨rfl,hw⟩;obtain rfl:=hw.symm)
       refine pm (v:=uO 3 t (qA 0 t) p) (by simp[results,Tryz.results147,go_sem,uO]) rfl ⟨?_,?_⟩
       ·rw[HT.out,HV.out,HK2.out]
       ·exact fe (tg _) _
     ·have HK2:Hid (yA t=3):=by unfold Hid;rw[HK.out,tj (by intro hh;rcases hh with hh|hh;exact h4 hh;exact h1' hh.1)]
      have HV:Hid (qS t=qA 0 t):=by unfold Hid qS;rw[HK2.out,tr rfl]
      go_wp2_with (go_at_call 178;refine(oV t _ (by omega) HAll.out).mono ?_;rintro e w' ⟨rfl,hw⟩;obtain rfl:=hw.symm)
      refine pm (v:=uO 3 t (qA 0 t) p) (by simp[results,Tryz.results147,go_sem,uO]) rfl ⟨?_,?_⟩
      ·rw[HT.out,HV.out,HK2.out]
      ·exact fe (tg _) _
end Go.Proofs.YtnbpdffdnphbeabGreatDoor
