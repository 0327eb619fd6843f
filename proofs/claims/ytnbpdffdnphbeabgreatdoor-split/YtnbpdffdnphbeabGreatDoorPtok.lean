import Derived.Test.YtnbpdffdnphbeabGreatDoorTokens
set_option maxHeartbeats 1000000
namespace Go.Proofs.YtnbpdffdnphbeabGreatDoor
open Go
variable(s l:Bs)(b:Bool)(w:World)
def zGF:List Bs:=[[110,117,109],[102,108,97,103],[114,117,108,101],[111,118,101,114],[119,104,101,110],[111,114],[97,110,100],[110,111,116],[104,97,115],[97,108,119,97,121,115]]
def kh:List Bs:=[[58],[61],[46,46],[59],[40],[41],[60],[60,61],[33,61],[62,61],[62],[43],[45],[42]]
def qH(s:Bs):Bool:=zGF.contains s
def vJ(s:Bs):Bool:=kh.contains s
def lO:Int->Bs->Int
 | a,[]=>a
 | a,c::r=>lO (10*a+((c.toNat:Int)-48)) r
def yJ(s:Bs):Int :=
 if so (s.getD 0 0)=1 then (if 8<s.length then 1 else if qH s=true then 4 else 2)
 else if so (s.getD 0 0)=2 then (if 4<s.length\/1<s.length/\s.getD 0 0=48 then 1 else 3)
 else if vJ s=true then 4 else 1
def kL(s:Bs):Int:=if yJ s=3 then lO 0 s else 0
def zDG(t:Nat × Bs):List Value:=[.int .i64 (yJ t.2),.string ⟨t.2.toArray⟩,.int .i64 (kL t.2),.int .i64 t.1]
def Ka(len:Nat):List Value:=[.int .i64 0,.string ⟨#[]⟩,.int .i64 0,.int .i64 len]
def ZT(ts:sS):List Value:=ts.flatMap zDG
theorem Ce(ts:sS)(t:Nat × Bs):ZT (ts++[t])=ZT ts++zDG t:=by simp[ZT]
open Go.RowKit
theorem zA{p:Prop}(h:p):Hid p:=h
theorem vu{c:UInt8}(h:so c=2):(48:Int)<=(c.toNat:Int)/\(c.toNat:Int)<=57:=by
 unfold so Q8 at h;split at h
 ·omega
 ·split at h
  ·assumption
  ·split at h <;> omega
theorem BP :
 Calls Tryz.prog 177 #[.string ⟨s.toArray⟩] w fun e w'=>e=.returned (.bool (qH s))/\w'=w:=by
 by_cases c0:s=[110,117,109]
 ·subst c0
  have HF:Hid (qH [110,117,109]=true):=by unfold Hid;decide
  go_enter Tryz.func177,Tryz.ntmps177
  go_wp2
  go_ret;exact⟨zF HF.out.symm,rfl⟩
 by_cases c1:s=[102,108,97,103]
 ·subst c1
  have HF:Hid (qH [102,108,97,103]=true):=by unfold Hid;decide
  go_enter Tryz.func177,Tryz.ntmps177
  go_wp2
  go_ret;exact⟨zF HF.out.symm,rfl⟩
 by_cases c2:s=[114,117,108,101]
 ·subst c2
  have HF:Hid (qH [114,117,108,101]=true):=by unfold Hid;decide
  go_enter Tryz.func177,Tryz.ntmps177
  go_wp2
  go_ret;exact⟨zF HF.out.symm,rfl⟩
 by_cases c3:s=[111,118,101,114]
 ·subst c3
  have HF:Hid (qH [111,118,101,114]=true):=by unfold Hid;decide
  go_enter Tryz.func177,Tryz.ntmps177
  go_wp2
  go_ret;exact⟨zF HF.out.symm,rfl⟩
 by_cases c4:s=[119,104,101,110]
 ·subst c4
  have HF:Hid (qH [119,104,101,110]=true):=by unfold Hid;decide
  go_enter Tryz.func177,Tryz.ntmps177
  go_wp2
  go_ret;exact⟨zF HF.out.symm,rfl⟩
 by_cases c5:s=[111,114]
 ·subst c5
  have HF:Hid (qH [111,114]=true):=by unfold Hid;decide
  go_enter Tryz.func177,Tryz.ntmps177
  go_wp2
  go_ret;exact⟨zF HF.out.symm,rfl⟩
 by_cases c6:s=[97,110,100]
 ·subst c6
  have HF:Hid (qH [97,110,100]=true):=by unfold Hid;decide
  go_enter Tryz.func177,Tryz.ntmps177
  go_wp2
  go_ret;exact⟨zF HF.out.symm,rfl⟩
 by_cases c7:s=[110,111,116]
 ·subst c7
  have HF:Hid (qH [110,111,116]=true):=by unfold Hid;decide
  go_enter Tryz.func177,Tryz.ntmps177
  go_wp2
  go_ret;exact⟨zF HF.out.symm,rfl⟩
 by_cases c8:s=[104,97,115]
 ·subst c8
  have HF:Hid (qH [104,97,115]=true):=by unfold Hid;decide
  go_enter Tryz.func177,Tryz.ntmps177
  go_wp2
  go_ret;exact⟨zF HF.out.symm,rfl⟩
 by_cases c9:s=[97,108,119,97,121,115]
 ·subst c9
  have HF:Hid (qH [97,108,119,97,121,115]=true):=by unfold Hid;decide
  go_enter Tryz.func177,Tryz.ntmps177
  go_wp2
  go_ret;exact⟨zF HF.out.symm,rfl⟩
 have HF:Hid (qH s=false):=by simp[Hid,qH,zGF,c0,c1,c2,c3,c4,c5,c6,c7,c8,c9]
 have b0:(s==[110,117,109])=false:=by simpa using c0
 have b1:(s==[102,108,97,103])=false:=by simpa using c1
 have b2:(s==[114,117,108,101])=false:=by simpa using c2
 have b3:(s==[111,118,101,114])=false:=by simpa using c3
 have b4:(s==[119,104,101,110])=false:=by simpa using c4
 have b5:(s==[111,114])=false:=by simpa using c5
 have b6:(s==[97,110,100])=false:=by simpa using c6
 have b7:(s==[110,111,116])=false:=by simpa using c7
 have b8:(s==[104,97,115])=false:=by simpa using c8
 have b9:(s==[97,108,119,97,121,115])=false:=by simpa using c9
 clear c0 c1 c2 c3 c4 c5 c6 c7 c8 c9
 go_enter Tryz.func177,Tryz.ntmps177
 go_wp2
 go_ret;exact⟨zF HF.out.symm,rfl⟩
theorem BO :
 Calls Tryz.prog 179 #[.string ⟨s.toArray⟩] w fun e w'=>e=.returned (.bool (vJ s))/\w'=w:=by
 by_cases c0:s=[58]
 ·subst c0
  have HF:Hid (vJ [58]=true):=by unfold Hid;decide
  go_enter Tryz.func179,Tryz.ntmps179
  go_wp2
  go_ret;exact⟨zF HF.out.symm,rfl⟩
 by_cases c1:s=[61]
 ·subst c1
  have HF:Hid (vJ [61]=true):=by unfold Hid;decide
  go_enter Tryz.func179,Tryz.ntmps179
  go_wp2
  go_ret;exact⟨zF HF.out.symm,rfl⟩
 by_cases c2:s=[46,46]
 ·subst c2
  have HF:Hid (vJ [46,46]=true):=by unfold Hid;decide
  go_enter Tryz.func179,Tryz.ntmps179
  go_wp2
  go_ret;exact⟨zF HF.out.symm,rfl⟩
 by_cases c3:s=[59]
 ·subst c3
  have HF:Hid (vJ [59]=true):=by unfold Hid;decide
  go_enter Tryz.func179,Tryz.ntmps179
  go_wp2
  go_ret;exact⟨zF HF.out.symm,rfl⟩
 by_cases c4:s=[40]
 ·subst c4
  have HF:Hid (vJ [40]=true):=by unfold Hid;decide
  go_enter Tryz.func179,Tryz.ntmps179
  go_wp2
  go_ret;exact⟨zF HF.out.symm,rfl⟩
 by_cases c5:s=[41]
 ·subst c5
  have HF:Hid (vJ [41]=true):=by unfold Hid;decide
  go_enter Tryz.func179,Tryz.ntmps179
  go_wp2
  go_ret;exact⟨zF HF.out.symm,rfl⟩
 by_cases c6:s=[60]
 ·subst c6
  have HF:Hid (vJ [60]=true):=by unfold Hid;decide
  go_enter Tryz.func179,Tryz.ntmps179
  go_wp2
  go_ret;exact⟨zF HF.out.symm,rfl⟩
 by_cases c7:s=[60,61]
 ·subst c7
  have HF:Hid (vJ [60,61]=true):=by unfold Hid;decide
  go_enter Tryz.func179,Tryz.ntmps179
  go_wp2
  go_ret;exact⟨zF HF.out.symm,rfl⟩
 by_cases c8:s=[33,61]
 ·subst c8
  have HF:Hid (vJ [33,61]=true):=by unfold Hid;decide
  go_enter Tryz.func179,Tryz.ntmps179
  go_wp2
  go_ret;exact⟨zF HF.out.symm,rfl⟩
 by_cases c9:s=[62,61]
 ·subst c9
  have HF:Hid (vJ [62,61]=true):=by unfold Hid;decide
  go_enter Tryz.func179,Tryz.ntmps179
  go_wp2
  go_ret;exact⟨zF HF.out.symm,rfl⟩
 by_cases c10:s=[62]
 ·subst c10
  have HF:Hid (vJ [62]=true):=by unfold Hid;decide
  go_enter Tryz.func179,Tryz.ntmps179
  go_wp2
  go_ret;exact⟨zF HF.out.symm,rfl⟩
 by_cases c11:s=[43]
 ·subst c11
  have HF:Hid (vJ [43]=true):=by unfold Hid;decide
  go_enter Tryz.func179,Tryz.ntmps179
  go_wp2
  go_ret;exact⟨zF HF.out.symm,rfl⟩
 by_cases c12:s=[45]
 ·subst c12
  have HF:Hid (vJ [45]=true):=by unfold Hid;decide
  go_enter Tryz.func179,Tryz.ntmps179
  go_wp2
  go_ret;exact⟨zF HF.out.symm,rfl⟩
 by_cases c13:s=[42]
 ·subst c13
  have HF:Hid (vJ [42]=true):=by unfold Hid;decide
  go_enter Tryz.func179,Tryz.ntmps179
  go_wp2
  go_ret;exact⟨zF HF.out.symm,rfl⟩
 have HF:Hid (vJ s=false):=by simp[Hid,vJ,kh,c0,c1,c2,c3,c4,c5,c6,c7,c8,c9,c10,c11,c12,c13]
 have b0:(s==[58])=false:=by simpa using c0
 have b1:(s==[61])=false:=by simpa using c1
 have b2:(s==[46,46])=false:=by simpa using c2
 have b3:(s==[59])=false:=by simpa using c3
 have b4:(s==[40])=false:=by simpa using c4
 have b5:(s==[41])=false:=by simpa using c5
 have b6:(s==[60])=false:=by simpa using c6
 have b7:(s==[60,61])=false:=by simpa using c7
 have b8:(s==[33,61])=false:=by simpa using c8
 have b9:(s==[62,61])=false:=by simpa using c9
 have b10:(s==[62])=false:=by simpa using c10
 have b11:(s==[43])=false:=by simpa using c11
 have b12:(s==[45])=false:=by simpa using c12
 have b13:(s==[42])=false:=by simpa using c13
 clear c0 c1 c2 c3 c4 c5 c6 c7 c8 c9 c10 c11 c12 c13
 go_enter Tryz.func179,Tryz.ntmps179
 go_wp2
 go_ret;exact⟨zF HF.out.symm,rfl⟩
theorem rU(hs:s.length<=4)(hd:∀i,i<s.length->so (s.getD i 0)=2) :
 Calls Tryz.prog 178 #[.string ⟨s.toArray⟩] w fun e w'=>e=.returned (.int .i64 (lO 0 s))/\w'=w:=by
 have HD:=zA hd;clear hd
 go_enter Tryz.func178,Tryz.ntmps178
 go_wp2
 go_loop [3,4] (fun sv iv=>∃(i:Nat) (a:Int),i<=s.length/\sv=.int .i64 a/\iv=.int .i64 i/\0<=a/\(i<=0->a<=0)/\(i<=1->a<=9)/\(i<=2->a<=99)/\(i<=3->a<=999)/\a<=9999/\Hid (lO a (s.drop i)=lO 0 s)) (fun _ iv=>s.length-(intOf iv).toNat)
 case atStart=>exact⟨0,0,p7 _,rfl,rfl,by omega,by omega,by omega,by omega,by omega,by omega,rfl⟩
 case round =>
  obtain⟨i,a,hi,rfl,rfl,ha0,k0,k1,k2,k3,k4,HI⟩:=hrel;by_cases zKZ:i<s.length
  ·have hd:=HD.out i zKZ
   have hx:=iV s i;have hdc:s.drop i=s.getD i 0::s.drop (i+1):=Zw s i zKZ;have HI2:Hid (lO (10*a+(((s.getD i 0).toNat:Int)-48)) (s.drop (i+1))=lO 0 s):=by have:=HI.out;rw[hdc,lO]at this;exact this
   have hc:(48:Int)<=((s.getD i 0).toNat:Int)/\((s.getD i 0).toNat:Int)<=57:=vu hd;generalize ((s.getD i 0).toNat:Int)=c at *;obtain⟨hc1,hc2⟩:=hc;clear hd hdc HI HD;have k5:a<=999:=by omega
   go_wp2
   go_round
   case rel=>exact⟨i+1,10*a+(c-48),by omega,rfl,by go_num,by omega,by omega,by omega,by omega,by omega,by omega,HI2.out⟩
   case measure=>simp[intOf];omega
  ·have hd:s.drop i=[]:=pm (by omega)
   have HE:Hid (lO 0 s=a):=by have:=HI.out;rw[hd,lO]at this;exact this.symm
   clear hd HI HD
   go_wp2
   go_ret;exact⟨yP HE.out.symm,rfl⟩
def uS(k:Int)(t:Bs)(v:Int)(p:Nat):Value:=.agg #[.int .i64 k,.string ⟨t.toArray⟩,.int .i64 v,.int .i64 p]
theorem jM(c:Int)(b:Bool)(h:dY c=b)(w:World) :
 Calls Tryz.prog 144 #[.int .u8 c] w fun e w'=>e=.returned (.bool b)/\w'=w:=by subst h;exact JN c w
theorem tX(c:Int)(b:Bool)(h:rC c=b)(w:World) :
 Calls Tryz.prog 146 #[.int .u8 c] w fun e w'=>e=.returned (.bool b)/\w'=w:=by subst h;exact V5 c w
theorem sG(h:qH s=b)(w:World) :
 Calls Tryz.prog 177 #[.string ⟨s.toArray⟩] w fun e w'=>e=.returned (.bool b)/\w'=w:=by subst h;exact BP s w
theorem lD(h:vJ s=b)(w:World) :
 Calls Tryz.prog 179 #[.string ⟨s.toArray⟩] w fun e w'=>e=.returned (.bool b)/\w'=w:=by subst h;exact BO s w
theorem Gh(c:UInt8):dY (c.toNat:Int)=decide (so c=1):=by
 unfold dY so Q8;by_cases h:(97:Int)<=c.toNat/\(c.toNat:Int)<=122
 ·rw[tl h];simp[h]
 ·rw[tb h]
  have:¬(if (48:Int)<=c.toNat/\(c.toNat:Int)<=57 then (2:Int) else if (c.toNat:Int)=32\/(c.toNat:Int)=10 then 3 else 0)=1:=by split <;> (try split) <;> decide
  simp only[this,decide_false,fe,di];omega
theorem zAT(c:UInt8):rC (c.toNat:Int)=decide (so c=2):=by
 unfold rC so Q8;by_cases h:(48:Int)<=c.toNat/\(c.toNat:Int)<=57
 ·rw[tb (by omega),tl h];simp[h]
 ·rw[tb h]
  have:¬(if (97:Int)<=c.toNat/\(c.toNat:Int)<=122 then (1:Int) else if (c.toNat:Int)=32\/(c.toNat:Int)=10 then 3 else 0)=2:=by split <;> (try split) <;> decide
  simp only[this,decide_false,fe,di];omega
theorem Z6{l:Bs}{b:Bool}{i:Nat}(h:decide (so (l.getD i 0)=1)=b):∀h:i<(ByteArray.mk l.toArray).size,dY (((ByteArray.mk l.toArray)[i]'h).toNat:Int)=b:=by
 intro h0;rw[JR,Gh,h]
theorem XN{l:Bs}{b:Bool}{i:Nat}(h:decide (so (l.getD i 0)=2)=b):∀h:i<(ByteArray.mk l.toArray).size,rC (((ByteArray.mk l.toArray)[i]'h).toNat:Int)=b:=by
 intro h0;rw[JR,zAT,h]
theorem yf(p:Nat)(w:World)(hl:l.length<=4000)(hp:p<l.length)(hk:so (l.getD p 0)=1) :
 Calls Tryz.prog 145 #[.string ⟨l.toArray⟩,.int .i64 p] w fun e w'=>e=.returned (uS (yJ ((l.drop p).take (uT (l.drop p)))) ((l.drop p).take (uT (l.drop p))) (kL ((l.drop p).take (uT (l.drop p)))) p)/\Below w.heap.size w w':=by
 have hn:uT (l.drop p)=1+pS 1 ((l.drop p).drop 1):=by unfold uT;rw[cE,l9,tb (by omega),hk]
 rw[List.drop_drop]at hn;have HN:=zA hn
 have hh:∀n,1<=n->((l.drop p).take n).getD 0 0=l.getD p 0:=by
  intro n hn1;simp only[List.getD,df,List.getElem?_drop,l9];rw[tl (by omega)]
 have HH:=zA hh;clear hn hh
 go_enter Tryz.func145,Tryz.ntmps145
 go_wp2_with fail
 go_loop [5] (fun nv=>∃i:Nat,p+1<=i/\i<=l.length/\nv=.int .i64 i/\Hid (i+pS 1 (l.drop i)=p+1+pS 1 (l.drop (p+1)))) (fun nv=>l.length-(intOf nv).toNat)
 case atStart=>exact⟨p+1,j1 _,by omega,by go_num,rfl⟩
 case round =>
  obtain⟨i,h1,hi,rfl,HI⟩:=hrel;by_cases hgo:i<l.length/\so (l.getD i 0)=1
  ·obtain⟨zKZ,hq⟩:=hgo
   have HQ:=zA (Z6 (b:=true) (by rw[hq];rfl):∀h:i<(ByteArray.mk l.toArray).size,dY (((ByteArray.mk l.toArray)[i]'h).toNat:Int)=true);have HI2:Hid (i+1+pS 1 (l.drop (i+1))=p+1+pS 1 (l.drop (p+1))):=by have:=HI.out;rw[Dd zKZ hq]at this;exact this
   clear hq HI
   go_wp2_with (go_at_call 144;refine(jM _ true (HQ.out _) _).mono ?_;rintro e w' ⟨rfl,hw⟩;obtain rfl:=hw.symm)
   go_round
   case rel=>exact⟨i+1,by omega,by omega,by go_num,HI2.out⟩
   case measure=>simp[intOf];omega
  ·have hstop:i+pS 1 (l.drop i)=i:=by
    by_cases zKZ:i<l.length
    ·exact KO zKZ (fun h=>hgo ⟨zKZ,h⟩)
    ·exact KP zKZ
   have hni:uT (l.drop p)=i-p:=by have h2:=HI.out;have h3:=HN.out;omega
   obtain⟨t,ht⟩:∃t,(l.drop p).take (i-p)=t:=⟨_,rfl⟩;have hx1:(ByteArray.mk l.toArray).extract p i=⟨t.toArray⟩:=by rw[ByteArray.extract_mk,<-ht]
   have htn:t.length=i-p:=by rw[<-ht,cd,dj];omega
   have hth:so (t.getD 0 0)=1:=by rw[<-ht,HH.out (i-p) (by omega)];exact hk
   have HT:Hid ((l.drop p).take (uT (l.drop p))=t):=by unfold Hid;rw[hni];exact ht
   have HV:Hid (kL t=0):=by unfold Hid kL;rw[tb];unfold yJ;rw[tl hth];split <;> (try split) <;> decide
   have HK:Hid (yJ t=if 8<t.length then 1 else if qH t=true then 4 else 2):=by unfold Hid yJ;rw[tl hth]
   clear hni HN HH ht hth hstop HI hk;by_cases zKZ:i<l.length
   ·have hq:¬so (l.getD i 0)=1:=fun h=>hgo ⟨zKZ,h⟩
    have HQ:=zA (Z6 (b:=false) (by simp only[hq,decide_false]):∀h:i<(ByteArray.mk l.toArray).size,dY (((ByteArray.mk l.toArray)[i]'h).toNat:Int)=false);clear hq hgo;by_cases h8:8<t.length
    ·have HK2:Hid (yJ t=1):=by unfold Hid;rw[HK.out,tl h8]
     go_wp2_with (go_at_call 144;refine(jM _ false (HQ.out _) _).mono ?_;rintro e w' ⟨rfl,hw⟩;obtain rfl:=hw.symm)
     refine pe (v:=uS 1 t 0 p) (by simp[results,Tryz.results145,go_sem,uS]) rfl ⟨?_,?_⟩
     ·rw[HT.out,HV.out,HK2.out]
     ·exact gb (j1 _) _
    ·cases hkp:qH t
     ·have HKe:=zA hkp
      have HK2:Hid (yJ t=2):=by unfold Hid;rw[HK.out,tb h8,tb (by simp[hkp])]
      clear hkp
      go_wp2_with (first|(go_at_call 144;refine(jM _ false (HQ.out _) _).mono ?_;rintro e w' ⟨rfl,hw⟩;obtain rfl:=hw.symm)|(go_at_call 177;refine(sG t false HKe.out _).mono ?_;rintro e w' ⟨rfl,hw⟩;obtain rfl:=hw.symm))
      refine pe (v:=uS 2 t 0 p) (by simp[results,Tryz.results145,go_sem,uS]) rfl ⟨?_,?_⟩
      ·rw[HT.out,HV.out,HK2.out]
      ·exact gb (j1 _) _
     ·have HKe:=zA hkp
      have HK2:Hid (yJ t=4):=by unfold Hid;rw[HK.out,tb h8,tl hkp]
      clear hkp
      go_wp2_with (first|(go_at_call 144;refine(jM _ false (HQ.out _) _).mono ?_;rintro e w' ⟨rfl,hw⟩;obtain rfl:=hw.symm)|(go_at_call 177;refine(sG t true HKe.out _).mono ?_;rintro e w' ⟨rfl,hw⟩;obtain rfl:=hw.symm))
      refine pe (v:=uS 4 t 0 p) (by simp[results,Tryz.results145,go_sem,uS]) rfl ⟨?_,?_⟩
      ·rw[HT.out,HV.out,HK2.out]
      ·exact gb (j1 _) _
   ·clear hgo
    by_cases h8:8<t.length
    ·have HK2:Hid (yJ t=1):=by unfold Hid;rw[HK.out,tl h8]
     go_wp2_with (fail)
     refine pe (v:=uS 1 t 0 p) (by simp[results,Tryz.results145,go_sem,uS]) rfl ⟨?_,?_⟩
     ·rw[HT.out,HV.out,HK2.out]
     ·exact gb (j1 _) _
    ·cases hkp:qH t
     ·have HKe:=zA hkp
      have HK2:Hid (yJ t=2):=by unfold Hid;rw[HK.out,tb h8,tb (by simp[hkp])]
      clear hkp
      go_wp2_with (go_at_call 177;refine(sG t false HKe.out _).mono ?_;rintro e w' ⟨rfl,hw⟩;obtain rfl:=hw.symm)
      refine pe (v:=uS 2 t 0 p) (by simp[results,Tryz.results145,go_sem,uS]) rfl ⟨?_,?_⟩
      ·rw[HT.out,HV.out,HK2.out]
      ·exact gb (j1 _) _
     ·have HKe:=zA hkp
      have HK2:Hid (yJ t=4):=by unfold Hid;rw[HK.out,tb h8,tl hkp]
      clear hkp
      go_wp2_with (go_at_call 177;refine(sG t true HKe.out _).mono ?_;rintro e w' ⟨rfl,hw⟩;obtain rfl:=hw.symm)
      refine pe (v:=uS 4 t 0 p) (by simp[results,Tryz.results145,go_sem,uS]) rfl ⟨?_,?_⟩
      ·rw[HT.out,HV.out,HK2.out]
      ·exact gb (j1 _) _
theorem ud(k:Int)(l:Bs):∀j,j<pS k l->so (l.getD j 0)=k:=by
 induction l with
 | nil=>intro j h;simp[pS]at h
 | cons c r ih =>
   intro j h;rw[pS]at h;split at h
   ·rename_i hc
    cases j with
    | zero=>simpa using hc
    | succ j=>simpa using ih j (by omega)
   ·omega
theorem By(p:Nat)(w:World)(hl:l.length<=4000)(hp:p<l.length)(hk:so (l.getD p 0)=2) :
 Calls Tryz.prog 147 #[.string ⟨l.toArray⟩,.int .i64 p] w fun e w'=>e=.returned (uS (yJ ((l.drop p).take (uT (l.drop p)))) ((l.drop p).take (uT (l.drop p))) (kL ((l.drop p).take (uT (l.drop p)))) p)/\Below w.heap.size w w':=by
 have hn:uT (l.drop p)=1+pS 2 ((l.drop p).drop 1):=by unfold uT;rw[cE,l9,tb (by omega),hk]
 rw[List.drop_drop]at hn
 have hall:∀j,j<uT (l.drop p)->so (((l.drop p).take (uT (l.drop p))).getD j 0)=2:=by
  intro j hj
  have e:((l.drop p).take (uT (l.drop p))).getD j 0=l.getD (p+j) 0:=by
   simp only[List.getD,df,List.getElem?_drop];rw[tl hj]
  rw[e]
  cases j with
  | zero=>exact hk
  | succ j =>
    have:=ud 2 (l.drop (p+1)) j (by omega);rw[cE]at this;rw[show p+(j+1)=p+1+j by omega];exact this
 have HA:=zA hall;have HN:=zA hn
 have hh:∀n,1<=n->((l.drop p).take n).getD 0 0=l.getD p 0:=by
  intro n hn1;simp only[List.getD,df,List.getElem?_drop,l9];rw[tl (by omega)]
 have HH:=zA hh;clear hn hh hall
 go_enter Tryz.func147,Tryz.ntmps147
 go_wp2_with fail
 go_loop [5] (fun nv=>∃i:Nat,p+1<=i/\i<=l.length/\nv=.int .i64 i/\Hid (i+pS 2 (l.drop i)=p+1+pS 2 (l.drop (p+1)))) (fun nv=>l.length-(intOf nv).toNat)
 case atStart=>exact⟨p+1,j1 _,by omega,by go_num,rfl⟩
 case round =>
  obtain⟨i,h1,hi,rfl,HI⟩:=hrel;by_cases hgo:i<l.length/\so (l.getD i 0)=2
  ·obtain⟨zKZ,hq⟩:=hgo
   have HQ:=zA (XN (b:=true) (by rw[hq];rfl):∀h:i<(ByteArray.mk l.toArray).size,rC (((ByteArray.mk l.toArray)[i]'h).toNat:Int)=true);have HI2:Hid (i+1+pS 2 (l.drop (i+1))=p+1+pS 2 (l.drop (p+1))):=by have:=HI.out;rw[Dd zKZ hq]at this;exact this
   clear hq HI
   go_wp2_with (go_at_call 146;refine(tX _ true (HQ.out _) _).mono ?_;rintro e w' ⟨rfl,hw⟩;obtain rfl:=hw.symm)
   go_round
   case rel=>exact⟨i+1,by omega,by omega,by go_num,HI2.out⟩
   case measure=>simp[intOf];omega
  ·have hstop:i+pS 2 (l.drop i)=i:=by
    by_cases zKZ:i<l.length
    ·exact KO zKZ (fun h=>hgo ⟨zKZ,h⟩)
    ·exact KP zKZ
   have hni:uT (l.drop p)=i-p:=by have h2:=HI.out;have h3:=HN.out;omega
   obtain⟨t,ht⟩:∃t,(l.drop p).take (i-p)=t:=⟨_,rfl⟩;have hx1:(ByteArray.mk l.toArray).extract p i=⟨t.toArray⟩:=by rw[ByteArray.extract_mk,<-ht]
   have htn:t.length=i-p:=by rw[<-ht,cd,dj];omega
   have HH2:Hid (t.getD 0 0=l.getD p 0):=by rw[<-ht];exact HH.out (i-p) (by omega)
   have hth:so (t.getD 0 0)=2:=by rw[HH2.out];exact hk
   have HT:Hid ((l.drop p).take (uT (l.drop p))=t):=by unfold Hid;rw[hni];exact ht
   have HAll:Hid (∀j,j<t.length->so (t.getD j 0)=2):=by
    have h2:=HA.out;rw[HT.out,hni,<-htn]at h2;exact h2
   have HK:Hid (yJ t=if 4<t.length\/1<t.length/\t.getD 0 0=48 then 1 else 3):=by unfold Hid yJ;rw[tb (by omega),tl hth]
   clear hni HN HH ht hth hstop HI hk HA;by_cases zKZ:i<l.length
   ·have hq:¬so (l.getD i 0)=2:=fun h=>hgo ⟨zKZ,h⟩
    have HQ:=zA (XN (b:=false) (by simp only[hq,decide_false]):∀h:i<(ByteArray.mk l.toArray).size,rC (((ByteArray.mk l.toArray)[i]'h).toNat:Int)=false);clear hq hgo;by_cases h4:4<t.length
    ·have HK2:Hid (yJ t=1):=by unfold Hid;rw[HK.out,tl (.inl h4)]
     have HV:Hid (kL t=0):=by unfold Hid kL;rw[HK2.out,tb (by decide)]
     go_wp2_with (go_at_call 146;refine(tX _ false (HQ.out _) _).mono ?_;rintro e w' ⟨rfl,hw⟩;obtain rfl:=hw.symm)
     refine pe (v:=uS 1 t 0 p) (by simp[results,Tryz.results147,go_sem,uS]) rfl ⟨?_,?_⟩
     ·rw[HT.out,HV.out,HK2.out]
     ·exact gb (j1 _) _
    ·by_cases h1':1<t.length
     ·by_cases hz:l.getD p 0=48
      ·have HK2:Hid (yJ t=1):=by unfold Hid;rw[HK.out,tl (.inr ⟨h1',by rw[HH2.out];exact hz⟩)]
       have HV:Hid (kL t=0):=by unfold Hid kL;rw[HK2.out,tb (by decide)]
       have hc:∀h,(((ByteArray.mk l.toArray)[p]'h).toNat:Int)=48:=by intro h;rw[iV,hz];rfl
       clear hz
       go_wp2_with (go_at_call 146;refine(tX _ false (HQ.out _) _).mono ?_;rintro e w' ⟨rfl,hw⟩;obtain rfl:=hw.symm)
       refine pe (v:=uS 1 t 0 p) (by simp[results,Tryz.results147,go_sem,uS]) rfl ⟨?_,?_⟩
       ·rw[HT.out,HV.out,HK2.out]
       ·exact gb (j1 _) _
      ·have HK2:Hid (yJ t=3):=by unfold Hid;rw[HK.out,tb (by intro hh;rcases hh with hh|hh;exact h4 hh;rw[HH2.out]at hh;exact hz hh.2)]
       have HV:Hid (kL t=lO 0 t):=by unfold Hid kL;rw[HK2.out,tl rfl]
       have hc:∀h,((((ByteArray.mk l.toArray)[p]'h).toNat:Int)==48)=false:=by
        intro h;rw[Bool.eq_false_iff];intro hh;apply hz;rw[iV]at hh;exact(DJ _ 48).1 hh
       clear hz
       go_wp2_with (first|(go_at_call 146;refine(tX _ false (HQ.out _) _).mono ?_;rintro e w' ⟨rfl,hw⟩;obtain rfl:=hw.symm)|(go_at_call 178;refine(rU t _ (by omega) HAll.out).mono ?_;rintro e w' ⟨rfl,hw⟩;obtain rfl:=hw.symm))
       refine pe (v:=uS 3 t (lO 0 t) p) (by simp[results,Tryz.results147,go_sem,uS]) rfl ⟨?_,?_⟩
       ·rw[HT.out,HV.out,HK2.out]
       ·exact gb (j1 _) _
     ·have HK2:Hid (yJ t=3):=by unfold Hid;rw[HK.out,tb (by intro hh;rcases hh with hh|hh;exact h4 hh;exact h1' hh.1)]
      have HV:Hid (kL t=lO 0 t):=by unfold Hid kL;rw[HK2.out,tl rfl]
      go_wp2_with (first|(go_at_call 146;refine(tX _ false (HQ.out _) _).mono ?_;rintro e w' ⟨rfl,hw⟩;obtain rfl:=hw.symm)|(go_at_call 178;refine(rU t _ (by omega) HAll.out).mono ?_;rintro e w' ⟨rfl,hw⟩;obtain rfl:=hw.symm))
      refine pe (v:=uS 3 t (lO 0 t) p) (by simp[results,Tryz.results147,go_sem,uS]) rfl ⟨?_,?_⟩
      ·rw[HT.out,HV.out,HK2.out]
      ·exact gb (j1 _) _
   ·clear hgo
    by_cases h4:4<t.length
    ·have HK2:Hid (yJ t=1):=by unfold Hid;rw[HK.out,tl (.inl h4)]
     have HV:Hid (kL t=0):=by unfold Hid kL;rw[HK2.out,tb (by decide)]
     go_wp2_with (fail)
     refine pe (v:=uS 1 t 0 p) (by simp[results,Tryz.results147,go_sem,uS]) rfl ⟨?_,?_⟩
     ·rw[HT.out,HV.out,HK2.out]
     ·exact gb (j1 _) _
    ·by_cases h1':1<t.length
     ·by_cases hz:l.getD p 0=48
      ·have HK2:Hid (yJ t=1):=by unfold Hid;rw[HK.out,tl (.inr ⟨h1',by rw[HH2.out];exact hz⟩)]
       have HV:Hid (kL t=0):=by unfold Hid kL;rw[HK2.out,tb (by decide)]
       have hc:∀h,(((ByteArray.mk l.toArray)[p]'h).toNat:Int)=48:=by intro h;rw[iV,hz];rfl
       clear hz
       go_wp2_with (fail)
       refine pe (v:=uS 1 t 0 p) (by simp[results,Tryz.results147,go_sem,uS]) rfl ⟨?_,?_⟩
       ·rw[HT.out,HV.out,HK2.out]
       ·exact gb (j1 _) _
      ·have HK2:Hid (yJ t=3):=by unfold Hid;rw[HK.out,tb (by intro hh;rcases hh with hh|hh;exact h4 hh;rw[HH2.out]at hh;exact hz hh.2)]
       have HV:Hid (kL t=lO 0 t):=by unfold Hid kL;rw[HK2.out,tl rfl]
       have hc:∀h,((((ByteArray.mk l.toArray)[p]'h).toNat:Int)==48)=false:=by
        intro h;rw[Bool.eq_false_iff];intro hh;apply hz;rw[iV]at hh;exact(DJ _ 48).1 hh
       clear hz
       go_wp2_with (go_at_call 178;refine(rU t _ (by omega) HAll.out).mono ?_;rintro e w' ⟨rfl,hw⟩;obtain rfl:=hw.symm)
       refine pe (v:=uS 3 t (lO 0 t) p) (by simp[results,Tryz.results147,go_sem,uS]) rfl ⟨?_,?_⟩
       ·rw[HT.out,HV.out,HK2.out]
       ·exact gb (j1 _) _
     ·have HK2:Hid (yJ t=3):=by unfold Hid;rw[HK.out,tb (by intro hh;rcases hh with hh|hh;exact h4 hh;exact h1' hh.1)]
      have HV:Hid (kL t=lO 0 t):=by unfold Hid kL;rw[HK2.out,tl rfl]
      go_wp2_with (go_at_call 178;refine(rU t _ (by omega) HAll.out).mono ?_;rintro e w' ⟨rfl,hw⟩;obtain rfl:=hw.symm)
      refine pe (v:=uS 3 t (lO 0 t) p) (by simp[results,Tryz.results147,go_sem,uS]) rfl ⟨?_,?_⟩
      ·rw[HT.out,HV.out,HK2.out]
      ·exact gb (j1 _) _
end Go.Proofs.YtnbpdffdnphbeabGreatDoor
