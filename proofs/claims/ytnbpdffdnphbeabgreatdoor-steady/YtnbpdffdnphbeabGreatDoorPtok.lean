import Derived.Test.YtnbpdffdnphbeabGreatDoorTokens
open Go.Proofs.Tryz
set_option maxHeartbeats 1000000
namespace Go.Proofs.YtnbpdffdnphbeabGreatDoor
open Go
variable(s l:Bs)(b:Bool)(w:World)
def Gg:List Bs:=[[110,117,109],[102,108,97,103],[114,117,108,101],[111,118,101,114],[119,104,101,110],[111,114],[97,110,100],[110,111,116],[104,97,115],[97,108,119,97,121,115]]
def U9:List Bs:=[[58],[61],[46,46],[59],[40],[41],[60],[60,61],[33,61],[62,61],[62],[43],[45],[42]]
def qC(s:Bs):Bool:=Gg.contains s
def vE(s:Bs):Bool:=U9.contains s
def qQ:Int->Bs->Int
 | a,[]=>a
 | a,c::r=>qQ (10*a+((c.toNat:Int)-48)) r
def yG(s:Bs):Int :=
 if so (s.getD 0 0)=1 then (if 8<s.length then 1 else if qC s=true then 4 else 2)
 else if so (s.getD 0 0)=2 then (if 4<s.length\/1<s.length/\s.getD 0 0=48 then 1 else 3)
 else if vE s=true then 4 else 1
def kM(s:Bs):Int:=if yG s=3 then qQ 0 s else 0
def EK(t:Nat × Bs):List Value:=[.int .i64 (yG t.2),.string ⟨t.2.toArray⟩,.int .i64 (kM t.2),.int .i64 t.1]
def V1(len:Nat):List Value:=[.int .i64 0,.string ⟨#[]⟩,.int .i64 0,.int .i64 len]
def YO(ts:yF):List Value:=ts.flatMap EK
theorem DM(ts:yF)(t:Nat × Bs):YO (ts++[t])=YO ts++EK t:=by simp[YO]
open Go.RowKit
theorem zA{p:Prop}(h:p):Hid p:=h
theorem Sn{c:UInt8}(h:so c=2):(48:Int)<=(c.toNat:Int)/\(c.toNat:Int)<=57:=by
 unfold so XK at h;split at h
 ·omega
 ·split at h
  ·assumption
  ·split at h <;> omega
theorem D5 :
 Calls prog 177 #[.string ⟨s.toArray⟩] w λe w'=>e=.returned (.bool (qC s))/\w'=w:=by
 by_cases c0:s=[110,117,109]
 ·subst c0
  have HF:Hid (qC [110,117,109]=true):=by unfold Hid;decide
  go_enter func177,ntmps177
  go_wp2
  go_ret;exact⟨zG HF.out.symm,rfl⟩
 by_cases c1:s=[102,108,97,103]
 ·subst c1
  have HF:Hid (qC [102,108,97,103]=true):=by unfold Hid;decide
  go_enter func177,ntmps177
  go_wp2
  go_ret;exact⟨zG HF.out.symm,rfl⟩
 by_cases c2:s=[114,117,108,101]
 ·subst c2
  have HF:Hid (qC [114,117,108,101]=true):=by unfold Hid;decide
  go_enter func177,ntmps177
  go_wp2
  go_ret;exact⟨zG HF.out.symm,rfl⟩
 by_cases c3:s=[111,118,101,114]
 ·subst c3
  have HF:Hid (qC [111,118,101,114]=true):=by unfold Hid;decide
  go_enter func177,ntmps177
  go_wp2
  go_ret;exact⟨zG HF.out.symm,rfl⟩
 by_cases c4:s=[119,104,101,110]
 ·subst c4
  have HF:Hid (qC [119,104,101,110]=true):=by unfold Hid;decide
  go_enter func177,ntmps177
  go_wp2
  go_ret;exact⟨zG HF.out.symm,rfl⟩
 by_cases c5:s=[111,114]
 ·subst c5
  have HF:Hid (qC [111,114]=true):=by unfold Hid;decide
  go_enter func177,ntmps177
  go_wp2
  go_ret;exact⟨zG HF.out.symm,rfl⟩
 by_cases c6:s=[97,110,100]
 ·subst c6
  have HF:Hid (qC [97,110,100]=true):=by unfold Hid;decide
  go_enter func177,ntmps177
  go_wp2
  go_ret;exact⟨zG HF.out.symm,rfl⟩
 by_cases c7:s=[110,111,116]
 ·subst c7
  have HF:Hid (qC [110,111,116]=true):=by unfold Hid;decide
  go_enter func177,ntmps177
  go_wp2
  go_ret;exact⟨zG HF.out.symm,rfl⟩
 by_cases c8:s=[104,97,115]
 ·subst c8
  have HF:Hid (qC [104,97,115]=true):=by unfold Hid;decide
  go_enter func177,ntmps177
  go_wp2
  go_ret;exact⟨zG HF.out.symm,rfl⟩
 by_cases c9:s=[97,108,119,97,121,115]
 ·subst c9
  have HF:Hid (qC [97,108,119,97,121,115]=true):=by unfold Hid;decide
  go_enter func177,ntmps177
  go_wp2
  go_ret;exact⟨zG HF.out.symm,rfl⟩
 have HF:Hid (qC s=false):=by simp[Hid,qC,Gg,c0,c1,c2,c3,c4,c5,c6,c7,c8,c9]
 have b0:(s==[110,117,109])=false:=by simpa using c0
 have b1:(s==[102,108,97,103])=false:=by simpa using c1
 have b2:(s==[114,117,108,101])=false:=by simpa using c2
 have b3:(s==[111,118,101,114])=false:=by simpa using c3
 have b4:(s==[119,104,101,110])=false:=by simpa using c4
 have b5:(s==[111,114])=false:=by simpa using c5
 have b6:(s==[97,110,100])=false:=by simpa using c6
 have b7:(s==[110,111,116])=false:=by simpa using c7
 have b8:(s==[104,97,115])=false:=by simpa using c8
 have b9:(s==[97,108,119,97,121,115])=false:=by simpa using c9
 clear c0 c1 c2 c3 c4 c5 c6 c7 c8 c9
 go_enter func177,ntmps177
 go_wp2
 go_ret;exact⟨zG HF.out.symm,rfl⟩
theorem D4 :
 Calls prog 179 #[.string ⟨s.toArray⟩] w λe w'=>e=.returned (.bool (vE s))/\w'=w:=by
 by_cases c0:s=[58]
 ·subst c0
  have HF:Hid (vE [58]=true):=by unfold Hid;decide
  go_enter func179,ntmps179
  go_wp2
  go_ret;exact⟨zG HF.out.symm,rfl⟩
 by_cases c1:s=[61]
 ·subst c1
  have HF:Hid (vE [61]=true):=by unfold Hid;decide
  go_enter func179,ntmps179
  go_wp2
  go_ret;exact⟨zG HF.out.symm,rfl⟩
 by_cases c2:s=[46,46]
 ·subst c2
  have HF:Hid (vE [46,46]=true):=by unfold Hid;decide
  go_enter func179,ntmps179
  go_wp2
  go_ret;exact⟨zG HF.out.symm,rfl⟩
 by_cases c3:s=[59]
 ·subst c3
  have HF:Hid (vE [59]=true):=by unfold Hid;decide
  go_enter func179,ntmps179
  go_wp2
  go_ret;exact⟨zG HF.out.symm,rfl⟩
 by_cases c4:s=[40]
 ·subst c4
  have HF:Hid (vE [40]=true):=by unfold Hid;decide
  go_enter func179,ntmps179
  go_wp2
  go_ret;exact⟨zG HF.out.symm,rfl⟩
 by_cases c5:s=[41]
 ·subst c5
  have HF:Hid (vE [41]=true):=by unfold Hid;decide
  go_enter func179,ntmps179
  go_wp2
  go_ret;exact⟨zG HF.out.symm,rfl⟩
 by_cases c6:s=[60]
 ·subst c6
  have HF:Hid (vE [60]=true):=by unfold Hid;decide
  go_enter func179,ntmps179
  go_wp2
  go_ret;exact⟨zG HF.out.symm,rfl⟩
 by_cases c7:s=[60,61]
 ·subst c7
  have HF:Hid (vE [60,61]=true):=by unfold Hid;decide
  go_enter func179,ntmps179
  go_wp2
  go_ret;exact⟨zG HF.out.symm,rfl⟩
 by_cases c8:s=[33,61]
 ·subst c8
  have HF:Hid (vE [33,61]=true):=by unfold Hid;decide
  go_enter func179,ntmps179
  go_wp2
  go_ret;exact⟨zG HF.out.symm,rfl⟩
 by_cases c9:s=[62,61]
 ·subst c9
  have HF:Hid (vE [62,61]=true):=by unfold Hid;decide
  go_enter func179,ntmps179
  go_wp2
  go_ret;exact⟨zG HF.out.symm,rfl⟩
 by_cases ax:s=[62]
 ·subst ax
  have HF:Hid (vE [62]=true):=by unfold Hid;decide
  go_enter func179,ntmps179
  go_wp2
  go_ret;exact⟨zG HF.out.symm,rfl⟩
 by_cases aQ:s=[43]
 ·subst aQ
  have HF:Hid (vE [43]=true):=by unfold Hid;decide
  go_enter func179,ntmps179
  go_wp2
  go_ret;exact⟨zG HF.out.symm,rfl⟩
 by_cases aO:s=[45]
 ·subst aO
  have HF:Hid (vE [45]=true):=by unfold Hid;decide
  go_enter func179,ntmps179
  go_wp2
  go_ret;exact⟨zG HF.out.symm,rfl⟩
 by_cases aN:s=[42]
 ·subst aN
  have HF:Hid (vE [42]=true):=by unfold Hid;decide
  go_enter func179,ntmps179
  go_wp2
  go_ret;exact⟨zG HF.out.symm,rfl⟩
 have HF:Hid (vE s=false):=by simp[Hid,vE,U9,c0,c1,c2,c3,c4,c5,c6,c7,c8,c9,ax,aQ,aO,aN]
 have b0:(s==[58])=false:=by simpa using c0
 have b1:(s==[61])=false:=by simpa using c1
 have b2:(s==[46,46])=false:=by simpa using c2
 have b3:(s==[59])=false:=by simpa using c3
 have b4:(s==[40])=false:=by simpa using c4
 have b5:(s==[41])=false:=by simpa using c5
 have b6:(s==[60])=false:=by simpa using c6
 have b7:(s==[60,61])=false:=by simpa using c7
 have b8:(s==[33,61])=false:=by simpa using c8
 have b9:(s==[62,61])=false:=by simpa using c9
 have aZ:(s==[62])=false:=by simpa using ax
 have aY:(s==[43])=false:=by simpa using aQ
 have aX:(s==[45])=false:=by simpa using aO
 have aW:(s==[42])=false:=by simpa using aN
 clear c0 c1 c2 c3 c4 c5 c6 c7 c8 c9 ax aQ aO aN
 go_enter func179,ntmps179
 go_wp2
 go_ret;exact⟨zG HF.out.symm,rfl⟩
theorem aB(hs:s.length<=4)(hd:∀i,i<s.length->so (s.getD i 0)=2) :
 Calls prog 178 #[.string ⟨s.toArray⟩] w λe w'=>e=.returned (.int .i64 (qQ 0 s))/\w'=w:=by
 have HD:=zA hd;clear hd
 go_enter func178,ntmps178
 go_wp2
 go_loop [3,4] (λsv iv=>∃(i:Nat) (a:Int),i<=s.length/\sv=.int .i64 a/\iv=.int .i64 i/\0<=a/\(i<=0->a<=0)/\(i<=1->a<=9)/\(i<=2->a<=99)/\(i<=3->a<=999)/\a<=9999/\Hid (qQ a (s.drop i)=qQ 0 s)) (λ_ iv=>s.length-(intOf iv).toNat)
 case atStart=>exact⟨0,0,p8,rfl,rfl,by omega,by omega,by omega,by omega,by omega,by omega,rfl⟩
 case round =>
  obtain⟨i,a,hi,rfl,rfl,aV,k0,k1,k2,k3,k4,HI⟩:=hrel;by_cases aC:i<s.length
  ·have hd:=HD.out i aC
   have hx:=ZE s i;have aS:s.drop i=s.getD i 0::s.drop (i+1):=Yt s i aC;have aL:Hid (qQ (10*a+(((s.getD i 0).toNat:Int)-48)) (s.drop (i+1))=qQ 0 s):=(by have:=HI.out;rw[aS,qQ]at this;exact this);have hc:(48:Int)<=((s.getD i 0).toNat:Int)/\((s.getD i 0).toNat:Int)<=57:=Sn hd;generalize ((s.getD i 0).toNat:Int)=c at *;obtain⟨hc1,aU⟩:=hc;clear hd aS HI HD;have k5:a<=999:=by omega
   go_wp2
   go_round
   case rel=>exact⟨i+1,10*a+(c-48),by omega,rfl,by go_num,by omega,by omega,by omega,by omega,by omega,by omega,aL.out⟩
   case measure=>simp[intOf];omega
  ·have hd:s.drop i=[]:=pf (by omega)
   have HE:Hid (qQ 0 s=a):=(by have:=HI.out;rw[hd,qQ]at this;exact this.symm);clear hd HI HD
   go_wp2
   go_ret;exact⟨yY HE.out.symm,rfl⟩
def qG(k:Int)(t:Bs)(v:Int)(p:Nat):Value:=.agg #[.int .i64 k,.string ⟨t.toArray⟩,.int .i64 v,.int .i64 p]
theorem tX(c:Int)(b:Bool)(h:gB c=b)(w:World) :
 Calls prog 144 #[.int .u8 c] w λe w'=>e=.returned (.bool b)/\w'=w:=by subst h;exact Vp c w
theorem mH(c:Int)(b:Bool)(h:sS c=b)(w:World) :
 Calls prog 146 #[.int .u8 c] w λe w'=>e=.returned (.bool b)/\w'=w:=by subst h;exact UP c w
theorem aP(h:qC s=b)(w:World) :
 Calls prog 177 #[.string ⟨s.toArray⟩] w λe w'=>e=.returned (.bool b)/\w'=w:=by subst h;exact D5 s w
theorem bP(h:vE s=b)(w:World) :
 Calls prog 179 #[.string ⟨s.toArray⟩] w λe w'=>e=.returned (.bool b)/\w'=w:=by subst h;exact D4 s w
theorem vz(c:UInt8):gB (c.toNat:Int)=decide (so c=1):=by
 unfold gB so XK;by_cases h:(97:Int)<=c.toNat/\(c.toNat:Int)<=122
 ·rw[tr h];simp[h]
 ·rw[tj h]
  have:¬(if (48:Int)<=c.toNat/\(c.toNat:Int)<=57 then (2:Int) else if (c.toNat:Int)=32\/(c.toNat:Int)=10 then 3 else 0)=1:=by split <;> (try split) <;> decide
  simp only[this,dr,fd,dk];omega
theorem P6(c:UInt8):sS (c.toNat:Int)=decide (so c=2):=by
 unfold sS so XK;by_cases h:(48:Int)<=c.toNat/\(c.toNat:Int)<=57
 ·rw[i6,tr h];simp[h]
 ·rw[tj h]
  have:¬(if (97:Int)<=c.toNat/\(c.toNat:Int)<=122 then (1:Int) else if (c.toNat:Int)=32\/(c.toNat:Int)=10 then 3 else 0)=2:=by split <;> (try split) <;> decide
  simp only[this,dr,fd,dk];omega
theorem Y1{l:Bs}{b:Bool}{i:Nat}(h:decide (so (l.getD i 0)=1)=b):∀h:i<(ByteArray.mk l.toArray).size,gB (((ByteArray.mk l.toArray)[i]'h).toNat:Int)=b:=by
 intro h0;rw[Vu,vz,h]
theorem QR{l:Bs}{b:Bool}{i:Nat}(h:decide (so (l.getD i 0)=2)=b):∀h:i<(ByteArray.mk l.toArray).size,sS (((ByteArray.mk l.toArray)[i]'h).toNat:Int)=b:=by
 intro h0;rw[Vu,P6,h]
theorem jy(p:Nat)(w:World)(hl:l.length<=4000)(hp:p<l.length)(hk:so (l.getD p 0)=1) :
 Calls prog 145 #[.string ⟨l.toArray⟩,.int .i64 p] w λe w'=>e=.returned (qG (yG ((l.drop p).take (uP (l.drop p)))) ((l.drop p).take (uP (l.drop p))) (kM ((l.drop p).take (uP (l.drop p)))) p)/\Below w.heap.size w w':=by
 have hn:uP (l.drop p)=1+pX 1 ((l.drop p).drop 1):=by unfold uP;rw[dO,lh,i6,hk]
 rw[List.drop_drop]at hn;have HN:=zA hn
 have hh:∀n,1<=n->((l.drop p).take n).getD 0 0=l.getD p 0:=by
  intro n aT;simp only[List.getD,dw,List.getElem?_drop,lh];rw[u']
 have HH:=zA hh;clear hn hh
 go_enter func145,ntmps145
 go_wp2_with fail
 go_loop [5] (λnv=>∃i:Nat,p+1<=i/\i<=l.length/\nv=.int .i64 i/\Hid (i+pX 1 (l.drop i)=p+1+pX 1 (l.drop (p+1)))) (λnv=>l.length-(intOf nv).toNat)
 case atStart=>exact⟨p+1,tg _,by omega,by go_num,rfl⟩
 case round =>
  obtain⟨i,h1,hi,rfl,HI⟩:=hrel;by_cases aG:i<l.length/\so (l.getD i 0)=1
  ·obtain⟨aC,hq⟩:=aG
   have HQ:=zA (Y1 (b:=true) (by rw[hq];rfl):∀h:i<(ByteArray.mk l.toArray).size,gB (((ByteArray.mk l.toArray)[i]'h).toNat:Int)=true);have aL:Hid (i+1+pX 1 (l.drop (i+1))=p+1+pX 1 (l.drop (p+1))):=(by have:=HI.out;rw[FB aC hq]at this;exact this);clear hq HI
   go_wp2_with (go_at_call 144;refine(tX _ true (HQ.out _) _).mono ?_;rintro e w' ⟨rfl,hw⟩;obtain rfl:=hw.symm)
   go_round
   case rel=>exact⟨i+1,by omega,by omega,by go_num,aL.out⟩
   case measure=>simp[intOf];omega
  ·have aF:i+pX 1 (l.drop i)=i:=by
    by_cases aC:i<l.length
    ·exact Ug aC (λh=>aG ⟨aC,h⟩)
    ·exact Uh aC
   have aK:uP (l.drop p)=i-p:=(by have h2:=HI.out;have h3:=HN.out;omega);obtain⟨t,ht⟩:∃t,(l.drop p).take (i-p)=t:=⟨_,rfl⟩;have hx1:(ByteArray.mk l.toArray).extract p i=⟨t.toArray⟩:=(by rw[ByteArray.extract_mk,<-ht]);have aR:t.length=i-p:=(by rw[<-ht,cq,cp];omega);have aJ:so (t.getD 0 0)=1:=(by rw[<-ht,HH.out (i-p) (by omega)];exact hk);have HT:Hid ((l.drop p).take (uP (l.drop p))=t):=(by unfold Hid;rw[aK];exact ht);have HV:Hid (kM t=0):=(by unfold Hid kM;rw[tj];unfold yG;rw[tr aJ];split <;> (try split) <;> decide);have HK:Hid (yG t=if 8<t.length then 1 else if qC t=true then 4 else 2):=(by unfold Hid yG;rw[tr aJ]);clear aK HN HH ht aJ aF HI hk;by_cases aC:i<l.length
   ·have hq:¬so (l.getD i 0)=1:=λh=>aG ⟨aC,h⟩
    have HQ:=zA (Y1 (b:=false) (by simp only[hq,dr]):∀h:i<(ByteArray.mk l.toArray).size,gB (((ByteArray.mk l.toArray)[i]'h).toNat:Int)=false);clear hq aG;by_cases h8:8<t.length
    ·have aA:Hid (yG t=1):=by unfold Hid;rw[HK.out,tr h8]
     go_wp2_with (go_at_call 144;refine(tX _ false (HQ.out _) _).mono ?_;rintro e w' ⟨rfl,hw⟩;obtain rfl:=hw.symm)
     refine pe (v:=qG 1 t 0 p) (by simp[results,results145,go_sem,qG]) rfl ⟨?_,?_⟩
     ·rw[HT.out,HV.out,aA.out]
     ·exact fk (tg _) _
    ·cases aD:qC t
     ·have aI:=zA aD
      have aA:Hid (yG t=2):=(by unfold Hid;rw[HK.out,tj h8,tj (by simp[aD])]);clear aD
      go_wp2_with (first|(go_at_call 144;refine(tX _ false (HQ.out _) _).mono ?_;rintro e w' ⟨rfl,hw⟩;obtain rfl:=hw.symm)|(go_at_call 177;refine(aP t false aI.out _).mono ?_;rintro e w' ⟨rfl,hw⟩;obtain rfl:=hw.symm))
      refine pe (v:=qG 2 t 0 p) (by simp[results,results145,go_sem,qG]) rfl ⟨?_,?_⟩
      ·rw[HT.out,HV.out,aA.out]
      ·exact fk (tg _) _
     ·have aI:=zA aD
      have aA:Hid (yG t=4):=(by unfold Hid;rw[HK.out,tj h8,tr aD]);clear aD
      go_wp2_with (first|(go_at_call 144;refine(tX _ false (HQ.out _) _).mono ?_;rintro e w' ⟨rfl,hw⟩;obtain rfl:=hw.symm)|(go_at_call 177;refine(aP t true aI.out _).mono ?_;rintro e w' ⟨rfl,hw⟩;obtain rfl:=hw.symm))
      refine pe (v:=qG 4 t 0 p) (by simp[results,results145,go_sem,qG]) rfl ⟨?_,?_⟩
      ·rw[HT.out,HV.out,aA.out]
      ·exact fk (tg _) _
   ·clear aG
    by_cases h8:8<t.length
    ·have aA:Hid (yG t=1):=by unfold Hid;rw[HK.out,tr h8]
     go_wp2_with (fail)
     refine pe (v:=qG 1 t 0 p) (by simp[results,results145,go_sem,qG]) rfl ⟨?_,?_⟩
     ·rw[HT.out,HV.out,aA.out]
     ·exact fk (tg _) _
    ·cases aD:qC t
     ·have aI:=zA aD
      have aA:Hid (yG t=2):=(by unfold Hid;rw[HK.out,tj h8,tj (by simp[aD])]);clear aD
      go_wp2_with (go_at_call 177;refine(aP t false aI.out _).mono ?_;rintro e w' ⟨rfl,hw⟩;obtain rfl:=hw.symm)
      refine pe (v:=qG 2 t 0 p) (by simp[results,results145,go_sem,qG]) rfl ⟨?_,?_⟩
      ·rw[HT.out,HV.out,aA.out]
      ·exact fk (tg _) _
     ·have aI:=zA aD
      have aA:Hid (yG t=4):=(by unfold Hid;rw[HK.out,tj h8,tr aD]);clear aD
      go_wp2_with (go_at_call 177;refine(aP t true aI.out _).mono ?_;rintro e w' ⟨rfl,hw⟩;obtain rfl:=hw.symm)
      refine pe (v:=qG 4 t 0 p) (by simp[results,results145,go_sem,qG]) rfl ⟨?_,?_⟩
      ·rw[HT.out,HV.out,aA.out]
      ·exact fk (tg _) _
theorem Sh(k:Int)(l:Bs):∀j,j<pX k l->so (l.getD j 0)=k:=by
 induction l with
 | nil=>intro j h;simp[pX]at h
 | cons c r ih =>
   intro j h;rw[pX]at h;split at h
   ·rename_i hc
    cases j with
    | zero=>simpa using hc
    | succ j=>simpa using ih j (by omega)
   ·omega
theorem CZ(p:Nat)(w:World)(hl:l.length<=4000)(hp:p<l.length)(hk:so (l.getD p 0)=2) :
 Calls prog 147 #[.string ⟨l.toArray⟩,.int .i64 p] w λe w'=>e=.returned (qG (yG ((l.drop p).take (uP (l.drop p)))) ((l.drop p).take (uP (l.drop p))) (kM ((l.drop p).take (uP (l.drop p)))) p)/\Below w.heap.size w w':=by
 have hn:uP (l.drop p)=1+pX 2 ((l.drop p).drop 1):=by unfold uP;rw[dO,lh,i6,hk]
 rw[List.drop_drop]at hn
 have hall:∀j,j<uP (l.drop p)->so (((l.drop p).take (uP (l.drop p))).getD j 0)=2:=by
  intro j hj
  have e:((l.drop p).take (uP (l.drop p))).getD j 0=l.getD (p+j) 0:=by
   simp only[List.getD,dw,List.getElem?_drop];rw[tr hj]
  rw[e]
  cases j with
  | zero=>exact hk
  | succ j =>
    have:=Sh 2 (l.drop (p+1)) j (by omega);rw[dO]at this;rw[show p+(j+1)=p+1+j by omega];exact this
 have HA:=zA hall;have HN:=zA hn
 have hh:∀n,1<=n->((l.drop p).take n).getD 0 0=l.getD p 0:=by
  intro n aT;simp only[List.getD,dw,List.getElem?_drop,lh];rw[u']
 have HH:=zA hh;clear hn hh hall
 go_enter func147,ntmps147
 go_wp2_with fail
 go_loop [5] (λnv=>∃i:Nat,p+1<=i/\i<=l.length/\nv=.int .i64 i/\Hid (i+pX 2 (l.drop i)=p+1+pX 2 (l.drop (p+1)))) (λnv=>l.length-(intOf nv).toNat)
 case atStart=>exact⟨p+1,tg _,by omega,by go_num,rfl⟩
 case round =>
  obtain⟨i,h1,hi,rfl,HI⟩:=hrel;by_cases aG:i<l.length/\so (l.getD i 0)=2
  ·obtain⟨aC,hq⟩:=aG
   have HQ:=zA (QR (b:=true) (by rw[hq];rfl):∀h:i<(ByteArray.mk l.toArray).size,sS (((ByteArray.mk l.toArray)[i]'h).toNat:Int)=true);have aL:Hid (i+1+pX 2 (l.drop (i+1))=p+1+pX 2 (l.drop (p+1))):=(by have:=HI.out;rw[FB aC hq]at this;exact this);clear hq HI
   go_wp2_with (go_at_call 146;refine(mH _ true (HQ.out _) _).mono ?_;rintro e w' ⟨rfl,hw⟩;obtain rfl:=hw.symm)
   go_round
   case rel=>exact⟨i+1,by omega,by omega,by go_num,aL.out⟩
   case measure=>simp[intOf];omega
  ·have aF:i+pX 2 (l.drop i)=i:=by
    by_cases aC:i<l.length
    ·exact Ug aC (λh=>aG ⟨aC,h⟩)
    ·exact Uh aC
   have aK:uP (l.drop p)=i-p:=(by have h2:=HI.out;have h3:=HN.out;omega);obtain⟨t,ht⟩:∃t,(l.drop p).take (i-p)=t:=⟨_,rfl⟩;have hx1:(ByteArray.mk l.toArray).extract p i=⟨t.toArray⟩:=(by rw[ByteArray.extract_mk,<-ht]);have aR:t.length=i-p:=(by rw[<-ht,cq,cp];omega);have aM:Hid (t.getD 0 0=l.getD p 0):=(by rw[<-ht];exact HH.out (i-p) (by omega));have aJ:so (t.getD 0 0)=2:=(by rw[aM.out];exact hk);have HT:Hid ((l.drop p).take (uP (l.drop p))=t):=by unfold Hid;rw[aK];exact ht
   have aH:Hid (∀j,j<t.length->so (t.getD j 0)=2):=by
    have h2:=HA.out;rw[HT.out,aK,<-aR]at h2;exact h2
   have HK:Hid (yG t=if 4<t.length\/1<t.length/\t.getD 0 0=48 then 1 else 3):=(by unfold Hid yG;rw[i6,tr aJ]);clear aK HN HH ht aJ aF HI hk HA;by_cases aC:i<l.length
   ·have hq:¬so (l.getD i 0)=2:=λh=>aG ⟨aC,h⟩
    have HQ:=zA (QR (b:=false) (by simp only[hq,dr]):∀h:i<(ByteArray.mk l.toArray).size,sS (((ByteArray.mk l.toArray)[i]'h).toNat:Int)=false);clear hq aG;by_cases h4:4<t.length
    ·have aA:Hid (yG t=1):=by unfold Hid;rw[HK.out,tr (.inl h4)]
     have HV:Hid (kM t=0):=by unfold Hid kM;rw[aA.out,i6]
     go_wp2_with (go_at_call 146;refine(mH _ false (HQ.out _) _).mono ?_;rintro e w' ⟨rfl,hw⟩;obtain rfl:=hw.symm)
     refine pe (v:=qG 1 t 0 p) (by simp[results,results147,go_sem,qG]) rfl ⟨?_,?_⟩
     ·rw[HT.out,HV.out,aA.out]
     ·exact fk (tg _) _
    ·by_cases h1':1<t.length
     ·by_cases hz:l.getD p 0=48
      ·have aA:Hid (yG t=1):=by unfold Hid;rw[HK.out,tr (.inr ⟨h1',by rw[aM.out];exact hz⟩)]
       have HV:Hid (kM t=0):=(by unfold Hid kM;rw[aA.out,i6]);have hc:∀h,(((ByteArray.mk l.toArray)[p]'h).toNat:Int)=48:=(by intro h;rw[ZE,hz];rfl);clear hz
       go_wp2_with (go_at_call 146;refine(mH _ false (HQ.out _) _).mono ?_;rintro e w' ⟨rfl,hw⟩;obtain rfl:=hw.symm)
       refine pe (v:=qG 1 t 0 p) (by simp[results,results147,go_sem,qG]) rfl ⟨?_,?_⟩
       ·rw[HT.out,HV.out,aA.out]
       ·exact fk (tg _) _
      ·have aA:Hid (yG t=3):=by unfold Hid;rw[HK.out,tj (by intro hh;rcases hh with hh|hh;exact h4 hh;rw[aM.out]at hh;exact hz hh.2)]
       have HV:Hid (kM t=qQ 0 t):=by unfold Hid kM;rw[aA.out,tr rfl]
       have hc:∀h,((((ByteArray.mk l.toArray)[p]'h).toNat:Int)==48)=false:=by
        intro h;rw[Bool.eq_false_iff];intro hh;apply hz;rw[ZE]at hh;exact(G4 _ 48).1 hh
       clear hz
       go_wp2_with (first|(go_at_call 146;refine(mH _ false (HQ.out _) _).mono ?_;rintro e w' ⟨rfl,hw⟩;obtain rfl:=hw.symm)|(go_at_call 178;refine(aB t _ (by omega) aH.out).mono ?_;rintro e w' ⟨rfl,hw⟩;obtain rfl:=hw.symm))
       refine pe (v:=qG 3 t (qQ 0 t) p) (by simp[results,results147,go_sem,qG]) rfl ⟨?_,?_⟩
       ·rw[HT.out,HV.out,aA.out]
       ·exact fk (tg _) _
     ·have aA:Hid (yG t=3):=by unfold Hid;rw[HK.out,tj (by intro hh;rcases hh with hh|hh;exact h4 hh;exact h1' hh.1)]
      have HV:Hid (kM t=qQ 0 t):=by unfold Hid kM;rw[aA.out,tr rfl]
      go_wp2_with (first|(go_at_call 146;refine(mH _ false (HQ.out _) _).mono ?_;rintro e w' ⟨rfl,hw⟩;obtain rfl:=hw.symm)|(go_at_call 178;refine(aB t _ (by omega) aH.out).mono ?_;rintro e w' ⟨rfl,hw⟩;obtain rfl:=hw.symm))
      refine pe (v:=qG 3 t (qQ 0 t) p) (by simp[results,results147,go_sem,qG]) rfl ⟨?_,?_⟩
      ·rw[HT.out,HV.out,aA.out]
      ·exact fk (tg _) _
   ·clear aG
    by_cases h4:4<t.length
    ·have aA:Hid (yG t=1):=by unfold Hid;rw[HK.out,tr (.inl h4)]
     have HV:Hid (kM t=0):=by unfold Hid kM;rw[aA.out,i6]
     go_wp2_with (fail)
     refine pe (v:=qG 1 t 0 p) (by simp[results,results147,go_sem,qG]) rfl ⟨?_,?_⟩
     ·rw[HT.out,HV.out,aA.out]
     ·exact fk (tg _) _
    ·by_cases h1':1<t.length
     ·by_cases hz:l.getD p 0=48
      ·have aA:Hid (yG t=1):=by unfold Hid;rw[HK.out,tr (.inr ⟨h1',by rw[aM.out];exact hz⟩)]
       have HV:Hid (kM t=0):=(by unfold Hid kM;rw[aA.out,i6]);have hc:∀h,(((ByteArray.mk l.toArray)[p]'h).toNat:Int)=48:=(by intro h;rw[ZE,hz];rfl);clear hz
       go_wp2_with (fail)
       refine pe (v:=qG 1 t 0 p) (by simp[results,results147,go_sem,qG]) rfl ⟨?_,?_⟩
       ·rw[HT.out,HV.out,aA.out]
       ·exact fk (tg _) _
      ·have aA:Hid (yG t=3):=by unfold Hid;rw[HK.out,tj (by intro hh;rcases hh with hh|hh;exact h4 hh;rw[aM.out]at hh;exact hz hh.2)]
       have HV:Hid (kM t=qQ 0 t):=by unfold Hid kM;rw[aA.out,tr rfl]
       have hc:∀h,((((ByteArray.mk l.toArray)[p]'h).toNat:Int)==48)=false:=by
        intro h;rw[Bool.eq_false_iff];intro hh;apply hz;rw[ZE]at hh;exact(G4 _ 48).1 hh
       clear hz
       go_wp2_with (go_at_call 178;refine(aB t _ (by omega) aH.out).mono ?_;rintro e w' ⟨rfl,hw⟩;obtain rfl:=hw.symm)
       refine pe (v:=qG 3 t (qQ 0 t) p) (by simp[results,results147,go_sem,qG]) rfl ⟨?_,?_⟩
       ·rw[HT.out,HV.out,aA.out]
       ·exact fk (tg _) _
     ·have aA:Hid (yG t=3):=by unfold Hid;rw[HK.out,tj (by intro hh;rcases hh with hh|hh;exact h4 hh;exact h1' hh.1)]
      have HV:Hid (kM t=qQ 0 t):=by unfold Hid kM;rw[aA.out,tr rfl]
      go_wp2_with (go_at_call 178;refine(aB t _ (by omega) aH.out).mono ?_;rintro e w' ⟨rfl,hw⟩;obtain rfl:=hw.symm)
      refine pe (v:=qG 3 t (qQ 0 t) p) (by simp[results,results147,go_sem,qG]) rfl ⟨?_,?_⟩
      ·rw[HT.out,HV.out,aA.out]
      ·exact fk (tg _) _
end Go.Proofs.YtnbpdffdnphbeabGreatDoor
