import Derived.Test.YtnbpdffdnphbeabGreatDoorDAsk
set_option maxHeartbeats 8000000
set_option maxRecDepth 100000
namespace Go.Proofs.YtnbpdffdnphbeabGreatDoor
open Go.RowKit
variable{cs:Array Value}{ys:List Value}{b C B g m R o k gV gH:Nat}{f:Nat->Int}{e t:TypeId}{vv nv v iv:Value}{wx w' w:World}
theorem GT(P:List PT)(i:Nat)(h:i<P.length):nO P (P.length-i) i=if i%4=0/\(yK P i).k=0 then true else Ul (yK P i) i&&nO P (P.length-(i+1)) (i+1):=by
 rw[show P.length-i=(P.length-(i+1))+1 by omega,nO]
theorem C2(w:World)(g cap:Nat)(P:List PT)(h:Yh w g P)(hg:g<w.heap.size)(hP:P.length<=4001) :
 Calls Tryz.prog 84 #[.slice (some ⟨g,0,none⟩) P.length cap] w fun e w'=>e=.returned (.bool (dG P))/\Below w.heap.size w w':=by
 have HT:=zA h;clear h
 go_enter Tryz.func84,Tryz.ntmps84
 go_wp2_with fail
 go_loopw [7] (fun iv wr=>∃(i:Nat),i<=P.length/\iv=.int .i64 i/\Hid (Below w.heap.size w wr)/\Hid (nO P (P.length-i) i=dG P)) (fun iv _=>P.length-(intOf iv).toNat)
 case atStart=>exact⟨0,p7 _,rfl,zA (tg _ _),zA rfl⟩
 case round =>
  obtain⟨i,hi,rfl,HB,HE⟩:=hrel;have zL8:=HB.out.size;by_cases zKZ:i<P.length
  ·have hT:=HT.out i zKZ
   have q0:=(HB.out.cell (p:=⟨g,i*4,none⟩) hg).trans hT.1;have q1:=(HB.out.cell (p:=⟨g,i*4+1,none⟩) hg).trans hT.2.1;have q2:=(HB.out.cell (p:=⟨g,i*4+2,none⟩) hg).trans hT.2.2.1;have q3:=(HB.out.cell (p:=⟨g,i*4+3,none⟩) hg).trans hT.2.2.2;have hE:=HE.out;rw[GT P i zKZ]at hE;have HE2:=zA hE;have mg:wr.heap.size≠g:=by omega
   clear HE hE hT;generalize yK P i=t at *;obtain⟨tk,ts,tv,tp⟩:=t;simp only at q0 q1 q2 q3 HE2;by_cases k0:i%4=0
   ·by_cases k9:tk=0
    ·have HE3:Hid (dG P=true):=by have:=HE2.out;rw[tl ⟨k0,k9⟩]at this;exact this.symm
     clear HE2;go_wp2_with fail
     go_ret
     exact⟨zF HE3.out.symm,HB.out.alloc zL8 _⟩
    have b9:(tk==0)=false:=by simpa using k9
    have HE4:Hid ((decide (tk=2)&&nO P (P.length-(i+1)) (i+1))=dG P):=by
     have:=HE2.out;rw[tb (fun h=>k9 h.2)]at this;unfold Ul at this;rw[tl k0]at this;exact this
    clear HE2;by_cases k8:tk=2
    ·have HE3:Hid (nO P (P.length-(i+1)) (i+1)=dG P):=by have:=HE4.out;rw[tu k8,mz]at this;exact this
     clear HE4;go_wp2_with fail
     go_roundw
     case rel=>exact⟨i+1,by omega,by go_num,zA (HB.out.alloc zL8 _),HE3⟩
     case measure=>simp[intOf];omega
    ·have HE3:Hid (dG P=false):=by have:=HE4.out;rw[ty k8,cp]at this;exact this.symm
     have b8:(tk==2)=false:=by simpa using k8
     clear HE4;go_wp2_with fail
     go_ret
     exact⟨zF HE3.out.symm,HB.out.alloc zL8 _⟩
   by_cases k1:i%4=1
   ·have HE4:Hid (((decide (tk=4)&&decide (ts=[61]))&&nO P (P.length-(i+1)) (i+1))=dG P):=by
     have:=HE2.out;rw[tb (fun h=>k0 h.1)]at this;unfold Ul at this;rw[tb k0,tl k1]at this;exact this
    have HC:Hid (∀w:World,Calls Tryz.prog 130 #[Qg ⟨tk,ts,tv,tp⟩,.string ⟨#[61]⟩] w fun e w'=>e=.returned (.bool (decide (tk=4)&&decide (ts=[61])))/\Below w.heap.size w w'):=fun w=>QR w ⟨tk,ts,tv,tp⟩ [61];clear HE2;generalize (decide (tk=4)&&decide (ts=[61]))=am at *;cases am
    ·have HE3:Hid (dG P=false):=by have:=HE4.out;rw[cp]at this;exact this.symm
     clear HE4;go_wp2_with fail
     refine(HC.out _).mono ?_;rintro e w2 ⟨rfl,hb2⟩;go_wp2_with fail
     go_ret
     exact⟨zF HE3.out.symm,(HB.out.alloc zL8 _).trans (hb2.mono (by simp;omega))⟩
    ·have HE3:Hid (nO P (P.length-(i+1)) (i+1)=dG P):=by have:=HE4.out;rw[mz]at this;exact this
     clear HE4;go_wp2_with fail
     refine(HC.out _).mono ?_;rintro e w2 ⟨rfl,hb2⟩;go_wp2_with fail
     go_roundw
     case rel=>exact⟨i+1,by omega,by go_num,zA ((HB.out.alloc zL8 _).trans (hb2.mono (by simp;omega))),HE3⟩
     case measure=>simp[intOf];omega
   by_cases k2:i%4=2
   ·have HE4:Hid (((decide (tk=3) || oC ⟨tk,ts,tv,tp⟩)&&nO P (P.length-(i+1)) (i+1))=dG P):=by
     have:=HE2.out;rw[tb (fun h=>k0 h.1)]at this;unfold Ul at this;rw[tb k0,tb k1,tl k2]at this;exact this
    have HC:Hid (∀w:World,Calls Tryz.prog 131 #[Qg ⟨tk,ts,tv,tp⟩] w fun e w'=>e=.returned (.bool (oC ⟨tk,ts,tv,tp⟩))/\Below w.heap.size w w'):=fun w=>V1 w ⟨tk,ts,tv,tp⟩;clear HE2;generalize oC ⟨tk,ts,tv,tp⟩=am at *;by_cases k9:tk=3
    ·have HE3:Hid (nO P (P.length-(i+1)) (i+1)=dG P):=by have:=HE4.out;rw[tu k9,fq,mz]at this;exact this
     clear HE4;go_wp2_with fail
     go_roundw
     case rel=>exact⟨i+1,by omega,by go_num,zA (HB.out.alloc zL8 _),HE3⟩
     case measure=>simp[intOf];omega
    have b9:(tk==3)=false:=by simpa using k9
    rw[ty k9,bf]at HE4;cases am
    ·have HE3:Hid (dG P=false):=by have:=HE4.out;rw[cp]at this;exact this.symm
     clear HE4;go_wp2_with fail
     refine(HC.out _).mono ?_;rintro e w2 ⟨rfl,hb2⟩;go_wp2_with fail
     go_ret
     exact⟨zF HE3.out.symm,(HB.out.alloc zL8 _).trans (hb2.mono (by simp;omega))⟩
    ·have HE3:Hid (nO P (P.length-(i+1)) (i+1)=dG P):=by have:=HE4.out;rw[mz]at this;exact this
     clear HE4;go_wp2_with fail
     refine(HC.out _).mono ?_;rintro e w2 ⟨rfl,hb2⟩;go_wp2_with fail
     go_roundw
     case rel=>exact⟨i+1,by omega,by go_num,zA ((HB.out.alloc zL8 _).trans (hb2.mono (by simp;omega))),HE3⟩
     case measure=>simp[intOf];omega
   ·have k3:i%4=3:=by omega
    have HE4:Hid (((decide (tk=4)&&decide (ts=[59]))&&nO P (P.length-(i+1)) (i+1))=dG P):=by
     have:=HE2.out;rw[tb (fun h=>k0 h.1)]at this;unfold Ul at this;rw[tb k0,tb k1,tb k2]at this;exact this
    have HC:Hid (∀w:World,Calls Tryz.prog 130 #[Qg ⟨tk,ts,tv,tp⟩,.string ⟨#[59]⟩] w fun e w'=>e=.returned (.bool (decide (tk=4)&&decide (ts=[59])))/\Below w.heap.size w w'):=fun w=>QR w ⟨tk,ts,tv,tp⟩ [59];clear HE2;generalize (decide (tk=4)&&decide (ts=[59]))=am at *;cases am
    ·have HE3:Hid (dG P=false):=by have:=HE4.out;rw[cp]at this;exact this.symm
     clear HE4;go_wp2_with fail
     refine(HC.out _).mono ?_;rintro e w2 ⟨rfl,hb2⟩;go_wp2_with fail
     go_ret
     exact⟨zF HE3.out.symm,(HB.out.alloc zL8 _).trans (hb2.mono (by simp;omega))⟩
    ·have HE3:Hid (nO P (P.length-(i+1)) (i+1)=dG P):=by have:=HE4.out;rw[mz]at this;exact this
     clear HE4;go_wp2_with fail
     refine(HC.out _).mono ?_;rintro e w2 ⟨rfl,hb2⟩;go_wp2_with fail
     go_roundw
     case rel=>exact⟨i+1,by omega,by go_num,zA ((HB.out.alloc zL8 _).trans (hb2.mono (by simp;omega))),HE3⟩
     case measure=>simp[intOf];omega
  ·have HE3:Hid (dG P=false):=by have:=HE.out;rw[show P.length-i=0 by omega,nO]at this;exact this.symm
   clear HE;go_wp2_with fail
   go_ret
   exact⟨zF HE3.out.symm,HB.out⟩
def aF(G:List Bool)(lower:Int):List Bool->Nat->Bool
 | [],_=>false
 | x::r,i=>(x&&nK G (i:Int) lower) || aF G lower r (i+1)
def ZV(G:List Bool)(ap:List Bool)(lower:Int):Bool:=aF G lower ap 0
theorem C0(G:List Bool)(lower:Int)(l:List Bool)(i:Nat)(h:i<l.length):aF G lower (l.drop i) i=((l.getD i false&&nK G (i:Int) lower) || aF G lower (l.drop (i+1)) (i+1)):=by
 rw[po h,aF];simp[List.getD,h]
theorem BQ(w:World)(hb b o:Nat)(aa:Option Addr)(ac:Nat)(ap G:List Bool)(lower:Int)(h0:w.cell? ⟨hb,0,none⟩=some (.pointer (some ⟨b,o,none⟩)))(h4:w.cell? ⟨hb,4,none⟩=some (.slice aa ap.length ac))(ha:dL w aa ap)(hg:zFY w b (o+3) G) :
 Calls Tryz.prog 133 #[.pointer (some ⟨hb,0,none⟩),.int .i64 lower] w fun e w'=>e=.returned (.bool (ZV G ap lower))/\w'=w:=by
 have HA:=zA ha;have hf:=ha.few;have HS:=zA (fun x=>fN w b o G x lower hg);clear ha hg
 go_enter Tryz.func133,Tryz.ntmps133
 go_wp2_with fail
 go_loop [12] (fun iv=>∃(i:Nat),i<=ap.length/\iv=.int .i64 i/\Hid (aF G lower (ap.drop i) i=ZV G ap lower)) (fun iv=>ap.length-(intOf iv).toNat)
 case atStart=>exact⟨0,p7 _,rfl,zA rfl⟩
 case round =>
  obtain⟨i,hi,rfl,HE⟩:=hrel;by_cases zKZ:i<ap.length
  ·obtain⟨g,rfl,c⟩:=HA.out.at zKZ
   have hE:=HE.out;rw[C0 G lower ap i zKZ]at hE;have HE2:=zA hE;have HS1:=zA (HS.out (i:Int));clear HE hE;generalize ap.getD i false=x at *;generalize nK G (i:Int) lower=z at *;cases x
   ·have HE3:Hid (aF G lower (ap.drop (i+1)) (i+1)=ZV G ap lower):=by have:=HE2.out;simpa[Hid] using this
    go_wp2_with fail
    go_round
    case rel=>exact⟨i+1,by omega,by go_num,HE3⟩
    case measure=>simp[intOf];omega
   ·cases z
    ·have HE3:Hid (aF G lower (ap.drop (i+1)) (i+1)=ZV G ap lower):=by have:=HE2.out;simpa[Hid] using this
     go_wp2_with fail
     refine HS1.out.mono ?_;rintro e w' ⟨rfl,hw⟩;obtain rfl:=hw.symm;go_wp2_with fail
     go_round
     case rel=>exact⟨i+1,by omega,by go_num,HE3⟩
     case measure=>simp[intOf];omega
    ·have HE3:Hid (ZV G ap lower=true):=by have:=HE2.out;simpa[Hid] using this.symm
     go_wp2_with fail
     refine HS1.out.mono ?_;rintro e w' ⟨rfl,hw⟩;obtain rfl:=hw.symm;go_wp2_with fail
     go_ret
     exact⟨zF HE3.out.symm,rfl⟩
  ·have HE3:Hid (ZV G ap lower=false):=by have:=HE.out;rw[pm (by omega)]at this;exact this.symm
   clear HE;go_wp2_with fail
   go_ret
   exact⟨zF HE3.out.symm,rfl⟩
structure HK where
 hb:Nat
 b:Nat
 o:Nat
 ia:Option Addr
 ic:Nat
 inp:List Int
 R:Nat
 C:Nat
 gH:Nat
 cH:Nat
 gV:Nat
 cV:Nat
 gA:Nat
 cA:Nat
 gD:Nat
 cD:Nat
 gN:Nat
 cN:Nat
 lab:Nat->Bs
 nam:Nat->Bs
variable{K:HK}
def hgO(K:HK):Obj:=.cells #[.pointer (some ⟨K.b,K.o,none⟩),.slice K.ia K.inp.length K.ic,.slice (some ⟨K.gH,0,none⟩) K.C K.cH,.slice (some ⟨K.gV,0,none⟩) K.C K.cV,.slice (some ⟨K.gA,0,none⟩) K.R K.cA,.slice (some ⟨K.gD,0,none⟩) K.R K.cD,.slice (some ⟨K.gN,0,none⟩) K.C K.cN] 206 (0,0)
def zG2(K:HK)(s:vV)(j:Nat):Value:=if j%2=0 then .string ⟨(K.lab (j/2)).toArray⟩ else .int .i64 (s.vd (j/2))
def zBK(K:HK)(s:vV)(j:Nat):Value:=if j%3=0 then .string ⟨(K.nam (j/3)).toArray⟩ else if j%3=1 then .int .i64 (s.st (j/3)) else .int .i64 (s.av (j/3))
structure xF(w:World)(K:HK)(s:vV):Prop where
 hd:w.heap[K.hb]? = some (hgO K)
 rH:vY w K.gH 4 K.C (fun c=>.bool (s.has c))
 rV:vY w K.gV 3 K.C (fun c=>.int .i64 (s.val c))
 rA:vY w K.gA 4 K.R (fun r=>.bool (s.ap r))
 rD:vY w K.gD 51 (2*K.R) (zG2 K s)
 rN:vY w K.gN 55 (3*K.C) (zBK K s)
 ne:[K.hb,K.gH,K.gV,K.gA,K.gD,K.gN].Nodup
 few1:K.R<=100
 few2:K.C<=100
theorem xF.below{s:vV}(h:xF w K s)(hb:Below w.heap.size w w'):xF w' K s :=
 ⟨by rw[hb.block _ (zJ h.hd)];exact h.hd,h.rH.below hb,h.rV.below hb,h.rA.below hb,h.rD.below hb,h.rN.below hb,h.ne,h.few1,h.few2⟩
structure HNe(K:HK):Prop where
 a1:K.hb≠K.gH
 a2:K.hb≠K.gV
 a3:K.hb≠K.gA
 a4:K.hb≠K.gD
 a5:K.hb≠K.gN
 b1:K.gH≠K.gV
 b2:K.gH≠K.gA
 b3:K.gH≠K.gD
 b4:K.gH≠K.gN
 c1:K.gV≠K.gA
 c2:K.gV≠K.gD
 c3:K.gV≠K.gN
 d1:K.gA≠K.gD
 d2:K.gA≠K.gN
 e1:K.gD≠K.gN
theorem xF.nes{s:vV}(h:xF w K s):HNe K:=by
 have:=h.ne;simp only[List.nodup_cons,l6,ff,or_false,not_or]at this;obtain⟨⟨a1,a2,a3,a4,a5⟩,⟨b1,b2,b3,b4⟩,⟨c1,c2,c3⟩,⟨d1,d2⟩,e1,_⟩:=this;exact⟨a1,a2,a3,a4,a5,b1,b2,b3,b4,c1,c2,c3,d1,d2,e1⟩
theorem xF.setA{s:vV}(h:xF w K s){i:Nat}(hi:i<K.R)(v:Bool){f:Nat->Bool}(e1:f i=v)(e2:∀r,r<K.R->r≠i->f r=s.ap r):xF (w.setCell ⟨K.gA,i,none⟩ (.bool v)) K { s with ap:=f }:=by
 have n:=h.nes;exact⟨by rw[ma w ⟨K.gA,i,none⟩ K.hb _ n.a3];exact h.hd,h.rH.other _ n.b2,h.rV.other _ n.c1,h.rA.set _ hi (congrArg Value.bool e1) (fun x hx zL4=>congrArg Value.bool (e2 x hx zL4)),h.rD.other _ n.d1.symm,h.rN.other _ n.d2.symm,h.ne,h.few1,h.few2⟩
theorem xF.setD{s:vV}(h:xF w K s){i:Nat}(hi:i<K.R)(v:Int)(e1:f i=v)(e2:∀r,r<K.R->r≠i->f r=s.vd r):xF (w.setCell ⟨K.gD,i*2+1,none⟩ (.int .i64 v)) K { s with vd:=f }:=by
 have n:=h.nes;refine⟨by rw[ma w ⟨K.gD,i*2+1,none⟩ K.hb _ n.a4];exact h.hd,h.rH.other _ n.b3,h.rV.other _ n.c2,h.rA.other _ n.d1,h.rD.set _ (by omega) ?_ (fun x hx zL4=>?_),h.rN.other _ n.e1.symm,h.ne,h.few1,h.few2⟩
 ·unfold zG2;rw[tb (by omega),show (i*2+1)/2=i by omega];simp only[e1]
 ·unfold zG2
  by_cases h0:x%2=0
  ·rw[tl h0,tl h0]
  ·rw[tb h0,tb h0];simp only[e2 (x/2) (by omega) (by omega)]
theorem xF.setS{s:vV}(h:xF w K s){i:Nat}(hi:i<K.C)(v:Int)(e1:f i=v)(e2:∀r,r<K.C->r≠i->f r=s.st r):xF (w.setCell ⟨K.gN,i*3+1,none⟩ (.int .i64 v)) K { s with st:=f }:=by
 have n:=h.nes;refine⟨by rw[ma w ⟨K.gN,i*3+1,none⟩ K.hb _ n.a5];exact h.hd,h.rH.other _ n.b4,h.rV.other _ n.c3,h.rA.other _ n.d2,h.rD.other _ n.e1,h.rN.set _ (by omega) ?_ (fun x hx zL4=>?_),h.ne,h.few1,h.few2⟩
 ·unfold zBK;rw[tb (by omega),tl (by omega),show (i*3+1)/3=i by omega];simp only[e1]
 ·unfold zBK
  by_cases h0:x%3=0
  ·rw[tl h0,tl h0]
  ·rw[tb h0,tb h0]
   by_cases h1:x%3=1
   ·rw[tl h1,tl h1];simp only[e2 (x/3) (by omega) (by omega)]
   ·rw[tb h1,tb h1]
theorem xF.setN{s:vV}(h:xF w K s){i:Nat}(hi:i<K.C)(v:Int)(e1:f i=v)(e2:∀r,r<K.C->r≠i->f r=s.av r):xF (w.setCell ⟨K.gN,i*3+2,none⟩ (.int .i64 v)) K { s with av:=f }:=by
 have n:=h.nes;refine⟨by rw[ma w ⟨K.gN,i*3+2,none⟩ K.hb _ n.a5];exact h.hd,h.rH.other _ n.b4,h.rV.other _ n.c3,h.rA.other _ n.d2,h.rD.other _ n.e1,h.rN.set _ (by omega) ?_ (fun x hx zL4=>?_),h.ne,h.few1,h.few2⟩
 ·unfold zBK;rw[tb (by omega),tb (by omega),show (i*3+2)/3=i by omega];simp only[e1]
 ·unfold zBK
  by_cases h0:x%3=0
  ·rw[tl h0,tl h0]
  ·rw[tb h0,tb h0]
   by_cases h1:x%3=1
   ·rw[tl h1,tl h1]
   ·rw[tb h1,tb h1];simp only[e2 (x/3) (by omega) (by omega)]
theorem xF.setH{s:vV}(h:xF w K s){i:Nat}(hi:i<K.C)(v:Bool){f:Nat->Bool}(e1:f i=v)(e2:∀r,r<K.C->r≠i->f r=s.has r):xF (w.setCell ⟨K.gH,i,none⟩ (.bool v)) K { s with has:=f }:=by
 have n:=h.nes;exact⟨by rw[ma w ⟨K.gH,i,none⟩ K.hb _ n.a1];exact h.hd,h.rH.set _ hi (congrArg Value.bool e1) (fun x hx zL4=>congrArg Value.bool (e2 x hx zL4)),h.rV.other _ n.b1.symm,h.rA.other _ n.b2.symm,h.rD.other _ n.b3.symm,h.rN.other _ n.b4.symm,h.ne,h.few1,h.few2⟩
theorem xF.setV{s:vV}(h:xF w K s){i:Nat}(hi:i<K.C)(v:Int)(e1:f i=v)(e2:∀r,r<K.C->r≠i->f r=s.val r):xF (w.setCell ⟨K.gV,i,none⟩ (.int .i64 v)) K { s with val:=f }:=by
 have n:=h.nes;exact⟨by rw[ma w ⟨K.gV,i,none⟩ K.hb _ n.a2];exact h.hd,h.rH.other _ n.b1,h.rV.set _ hi (congrArg (Value.int .i64) e1) (fun x hx zL4=>congrArg (Value.int .i64) (e2 x hx zL4)),h.rA.other _ n.c1.symm,h.rD.other _ n.c2.symm,h.rN.other _ n.c3.symm,h.ne,h.few1,h.few2⟩
theorem xF.congr{s s':vV}(h:xF w K s)(e1:∀c,c<K.C->s.has c=s'.has c/\s.val c=s'.val c/\s.st c=s'.st c/\s.av c=s'.av c)(e2:∀r,r<K.R->s.ap r=s'.ap r/\s.vd r=s'.vd r):xF w K s':=by
 have key:∀ {g:Nat} {t:TypeId} {n:Nat} {f f':Nat->Value},vY w g t n f->(∀j,j<n->f j=f' j)->vY w g t n f':=fun h he=>by
  obtain⟨cs,h1,h2⟩:=h;exact⟨cs,h1,fun j hj=>by rw[<-he j hj];exact h2 j hj⟩
 refine⟨h.hd,key h.rH fun j hj=>by rw[(e1 j hj).1],key h.rV fun j hj=>by rw[(e1 j hj).2.1],key h.rA fun j hj=>by rw[(e2 j hj).1],key h.rD fun j hj=>?_,key h.rN fun j hj=>?_,h.ne,h.few1,h.few2⟩
 ·unfold zG2;rw[(e2 (j/2) (by omega)).2]
 ·unfold zBK;rw[(e1 (j/3) (by omega)).2.2.1,(e1 (j/3) (by omega)).2.2.2]
def Zb(K:HK)(s:vV):yX:=⟨K.inp,(List.range K.C).map s.has,(List.range K.C).map s.val⟩
theorem xF.state{s:vV}(h:xF w K s)(hi:jT w K.ia K.inp):nQ w K.ia (some ⟨K.gH,0,none⟩) (some ⟨K.gV,0,none⟩) (Zb K s):=by
 have h2:=h.few2;refine⟨hi,⟨?_,by simp[Zb];omega⟩,⟨?_,by simp[Zb];omega⟩⟩
 ·have:=h.rH.cel
  simp only[Zb,wF,List.map_map];exact this
 ·have:=h.rV.cel
  simp only[Zb,tQ,List.map_map];exact this
theorem xF.cells{s:vV}(h:xF w K s):w.cell? ⟨K.hb,0,none⟩=some (.pointer (some ⟨K.b,K.o,none⟩))/\w.cell? ⟨K.hb,1,none⟩=some (.slice K.ia K.inp.length K.ic)/\w.cell? ⟨K.hb,2,none⟩=some (.slice (some ⟨K.gH,0,none⟩) K.C K.cH)/\w.cell? ⟨K.hb,3,none⟩=some (.slice (some ⟨K.gV,0,none⟩) K.C K.cV)/\w.cell? ⟨K.hb,4,none⟩=some (.slice (some ⟨K.gA,0,none⟩) K.R K.cA)/\w.cell? ⟨K.hb,5,none⟩=some (.slice (some ⟨K.gD,0,none⟩) K.R K.cD)/\w.cell? ⟨K.hb,6,none⟩=some (.slice (some ⟨K.gN,0,none⟩) K.C K.cN):=by
 have:=h.hd;unfold hgO at this;exact⟨(zB this 0).trans rfl,(zB this 1).trans rfl,(zB this 2).trans rfl,(zB this 3).trans rfl,(zB this 4).trans rfl,(zB this 5).trans rfl,(zB this 6).trans rfl⟩
def mx0:MX:=(⟨[],0,[],[],0⟩,.slice none 0 0,.slice none 0 0)
def jH(rs:List MX)(i:Nat):MX:=rs.getD i mx0
theorem VO(rs:List MX)(i:Nat)(hi:i<rs.length)(k:Nat)(hk:k<5):(rs.flatMap jL)[i*5+k]? = (jL (jH rs i))[k]? := by
 induction rs generalizing i with
 | nil=>simp at hi
 | cons x r ih =>
   have hl:(jL x).length=5:=rfl;rw[bh]
   cases i with
   | zero=>rw[ms (by omega),show 0*5+k=k by omega];rfl
   | succ i=>rw[lj (by omega),hl,show (i+1)*5+k-5=i*5+k by omega,ih i (by simpa using hi)];rfl
structure Kr(w:World)(K:HK)(rs:List MX)(G:List Bool):Prop where
 rul:∃a c,w.cell? ⟨K.b,K.o+2,none⟩=some (.slice a rs.length c)/\yZ w 162 a (rs.flatMap jL)
 rows:∀x∈rs,uL w x
 gr:zFY w K.b (K.o+3) G
 inp:jT w K.ia K.inp
 len:rs.length=K.R
theorem Kr.below{rs:List MX}{G:List Bool}(h:Kr w K rs G)(hb:Below w.heap.size w w'):Kr w' K rs G:=by
 obtain⟨a,c,h1,h2⟩:=h.rul;exact⟨⟨a,c,by rw[hb.cell (p:=⟨K.b,K.o+2,none⟩) (yF h1)];exact h1,h2.below hb⟩,fun x hx=>(h.rows x hx).below hb,h.gr.below hb,h.inp.below hb,h.len⟩
theorem Kr.rule{rs:List MX}{G:List Bool}(h:Kr w K rs G){a:Option Addr}{c:Nat}(h1:w.cell? ⟨K.b,K.o+2,none⟩=some (.slice a rs.length c)){i:Nat}(hi:i<K.R):∃g,a=some ⟨g,0,none⟩/\(w.cell? ⟨g,i*5,none⟩=some (.string ⟨(jH rs i).1.label.toArray⟩)/\w.cell? ⟨g,i*5+1,none⟩=some (.int .i64 (jH rs i).1.conc)/\w.cell? ⟨g,i*5+2,none⟩=some (jH rs i).2.1/\w.cell? ⟨g,i*5+3,none⟩=some (jH rs i).2.2/\w.cell? ⟨g,i*5+4,none⟩=some (.int .i64 (jH rs i).1.root))/\uL w (jH rs i):=by
 obtain⟨a',c',h2,h3⟩:=h.rul;rw[h1]at h2;simp only[ld,cr,true_and]at h2;obtain⟨rfl,rfl⟩:=h2;have hi':i<rs.length:=by rw[h.len];exact hi
 obtain⟨g,e,p0⟩:=h3.cel.at (VO rs i hi' 0 (by decide));obtain⟨g1,e1,p1⟩:=h3.cel.at (VO rs i hi' 1 (by decide));obtain⟨g2,e2,p2⟩:=h3.cel.at (VO rs i hi' 2 (by decide));obtain⟨g3,e3,p3⟩:=h3.cel.at (VO rs i hi' 3 (by decide));obtain⟨g4,e4,p4⟩:=h3.cel.at (VO rs i hi' 4 (by decide));subst e;obtain rfl:g=g1:=by simpa using e1
 obtain rfl:g=g2:=by simpa using e2
 obtain rfl:g=g3:=by simpa using e3
 obtain rfl:g=g4:=by simpa using e4
 refine⟨g,rfl,⟨p0,p1,p2,p3,p4⟩,h.rows _ ?_⟩;unfold jH;rw[pd,pb hi'];exact dm hi'
structure DT(K:HK)(A:pA)(rs:List MX)(G:List Bool):Prop where
 n:A.n=K.R
 head:∀r,r<K.R->(jH rs r).1.conc=(A.head r:Int)
 app:∀r,r<K.R->∀f v,qJ (jH rs r).1 ⟨K.inp,(List.range K.C).map f,v⟩=A.app r f
 sum:∀r,r<K.R->∀h f,eR ⟨K.inp,h,(List.range K.C).map f⟩ (jH rs r).1.sum=A.sum r f
 abv:∀k r,k<K.R->r<K.R->nK G (k:Int) (r:Int)=A.abv k r
theorem zBC{G:List Bool}{r:Int}(l:List Bool):∀i,aF G r l i=(List.range l.length).any (fun k=>l.getD k false&&nK G ((i+k:Nat):Int) r):=by
 induction l with
 | nil=>intro i;rfl
 | cons x t ih =>
   intro i;rw[aF,ih (i+1),pf,List.range_succ_eq_map,cw,List.any_map];congr 1
   apply List.any_congr rfl
   intro k;simp only[Function.comp];rw[show i+1+k=i+(k+1) by omega];rfl
theorem zFJ{A:pA}{rs:List MX}{G:List Bool}(h:DT K A rs G)(f:Nat->Bool){r:Nat}(hr:r<K.R):ZV G ((List.range K.R).map f) (r:Int)=kK A f r:=by
 unfold ZV;rw[zBC,pi,List.length_range];unfold kK;rw[h.n,dn];simp only[me,py,pq];constructor
 ·rintro⟨k,h1,h2,h3⟩
  refine⟨k,h1,by simpa[List.getD,h1] using h2,?_⟩;rw[<-h.abv k r h1 hr];simpa using h3
 ·rintro⟨k,h1,h2,h3⟩
  refine⟨k,h1,by simpa[List.getD,h1] using h2,?_⟩;rw[cx,h.abv k r h1 hr];exact h3
def eI(A:pA)(s:vV)(c i:Nat):Nat->Bool:=fun r=>if r<i/\A.head r=c then A.app r s.has else s.ap r
theorem zBE(A:pA)(s:vV)(c:Nat):eI A s c 0=s.ap:=funext fun r=>by unfold eI;rw[tb (by omega)]
theorem DN(A:pA)(s:vV)(c:Nat){i r:Nat}(hr:r<i):eI A s c i r=if A.head r=c then A.app r s.has else s.ap r:=by
 unfold eI;by_cases h:A.head r=c
 ·rw[tl ⟨hr,h⟩,tl h]
 ·rw[tb (fun q=>h q.2),tb h]
theorem zBF(A:pA)(s:vV)(c i:Nat)(h:A.head i≠c):eI A s c (i+1)=eI A s c i:=funext fun r=>by
 unfold eI;by_cases hr:r=i
 ·subst hr;rw[tb (fun q=>h q.2),tb (fun q=>h q.2)]
 ·by_cases h2:r<i/\A.head r=c
  ·rw[tl h2,tl ⟨by omega,h2.2⟩]
  ·rw[tb h2,tb (fun q=>h2 ⟨by omega,q.2⟩)]
theorem zFO(A:pA)(s:vV)(c i r:Nat)(hr:r≠i):eI A s c (i+1) r=eI A s c i r:=by
 unfold eI;by_cases h2:r<i/\A.head r=c
 ·rw[tl h2,tl ⟨by omega,h2.2⟩]
 ·rw[tb h2,tb (fun q=>h2 ⟨by omega,q.2⟩)]
def Yk(A:pA)(s:vV)(on:Nat->Bool)(c i:Nat):Nat->Int:=fun r=>if r<i/\A.head r=c/\on r=true then (if kK A on r then 1 else 2) else s.vd r
def oE(A:pA)(on:Nat->Bool)(c i:Nat):List Nat:=(List.range i).filter fun r=>decide (A.head r=c)&&(on r && !kK A on r)
def zCC(f:Nat->Int)(l:List Nat):Int:=match l.getLast? with|some r=>f r|none=>0
theorem yt(A:pA)(s:vV)(on:Nat->Bool)(c:Nat):Yk A s on c 0=s.vd:=funext fun r=>by unfold Yk;rw[tb (by omega)]
theorem CJ(A:pA)(s:vV)(on:Nat->Bool)(c i r:Nat)(hr:r≠i):Yk A s on c (i+1) r=Yk A s on c i r:=by
 unfold Yk;by_cases h2:r<i/\A.head r=c/\on r=true
 ·rw[tl h2,tl ⟨by omega,h2.2⟩]
 ·rw[tb h2,tb (fun q=>h2 ⟨by omega,q.2⟩)]
theorem yu(A:pA)(s:vV)(on:Nat->Bool)(c i:Nat)(h:¬(A.head i=c/\on i=true)):Yk A s on c (i+1)=Yk A s on c i:=funext fun r=>by
 by_cases hr:r=i
 ·subst hr;unfold Yk;rw[tb (fun q=>h q.2),tb (fun q=>h q.2)]
 ·exact CJ A s on c i r hr
theorem zH6(A:pA)(s:vV)(on:Nat->Bool)(c i:Nat)(h:A.head i=c)(h2:on i=true):Yk A s on c (i+1) i=if kK A on i then 1 else 2:=by
 unfold Yk;rw[tl ⟨by omega,h,h2⟩]
theorem KF(A:pA)(on:Nat->Bool)(c i:Nat):oE A on c (i+1)=oE A on c i++(if (decide (A.head i=c)&&(on i && !kK A on i))=true then [i] else []):=by
 unfold oE;rw[lq,dq];congr 1
 simp only[List.filter_cons,fa]
theorem KG(A:pA)(on:Nat->Bool)(c i:Nat)(h:(decide (A.head i=c)&&(on i && !kK A on i))=false):oE A on c (i+1)=oE A on c i:=by
 rw[KF,h];simp
theorem zHJ(A:pA)(on:Nat->Bool)(c i:Nat)(h:(decide (A.head i=c)&&(on i && !kK A on i))=true):oE A on c (i+1)=oE A on c i++[i]:=by
 rw[KF,h];simp
theorem zD0(A:pA)(on:Nat->Bool)(c i:Nat):(oE A on c i).length<=i:=by
 unfold oE;exact p8 (dg _ _) (by simp)
theorem yj(f:Nat->Int)(l:List Nat)(r:Nat):zCC f (l++[r])=f r:=by unfold zCC;simp
theorem CI(f:Nat->Int)(l:List Nat)(h:l.length=1):zCC f l=wY f l:=by
 match l,h with
 | [_],_=>rfl
def Vg(A:pA)(s:vV)(c:Nat):Nat->Bool:=fun r=>if A.head r=c then A.app r s.has else s.ap r
theorem Uj(A:pA){f g:Nat->Bool}(h:∀k,k<A.n->f k=g k)(r:Nat):kK A f r=kK A g r:=by
 unfold kK;rw[dn];simp only[me,py,pq];constructor
 ·rintro⟨k,h1,h2,h3⟩;exact⟨k,h1,(h k h1) ▸ h2,h3⟩
 ·rintro⟨k,h1,h2,h3⟩;exact⟨k,h1,(h k h1).symm ▸ h2,h3⟩
theorem YX(A:pA)(s:vV)(c:Nat):∀r,r<A.n->eI A s c A.n r=Vg A s c r:=fun _ hr=>DN A s c hr
theorem zD1(A:pA)(s:vV)(c:Nat):oE A (eI A s c A.n) c A.n=xN A (Vg A s c) c:=by
 unfold oE xN;apply List.filter_congr
 intro r hr;rw[py]at hr;rw[YX A s c r hr,Uj A (YX A s c) r]
theorem zCH(A:pA)(s:vV)(c r:Nat)(hr:r<A.n):Yk A s (eI A s c A.n) c A.n r=(uD A c s).vd r:=by
 show _=if A.head r=c then (if Vg A s c r=true then (if kK A (Vg A s c) r=true then (1:Int) else 2) else s.vd r) else s.vd r;unfold Yk;rw[YX A s c r hr,Uj A (YX A s c) r];by_cases h1:A.head r=c
 ·rw[tl h1]
  by_cases h2:Vg A s c r=true
  ·rw[tl ⟨hr,h1,h2⟩,tl h2]
  ·rw[tb (fun q=>h2 q.2.2),tb h2]
 ·rw[tb (fun q=>h1 q.2.1),tb h1]
theorem Fw(A:pA)(s:vV)(c:Nat):(uD A c s).ap=Vg A s c:=rfl
theorem US(A:pA)(s:vV)(c x:Nat):(uD A c s).has x=if x=c then (if (xN A (Vg A s c) c).length=1 then true else s.has x) else s.has x:=rfl
theorem UR(A:pA)(s:vV)(c x:Nat):(uD A c s).val x=if x=c then (if (xN A (Vg A s c) c).length=1 then wY (fun r=>A.sum r s.val) (xN A (Vg A s c) c) else s.val x) else s.val x:=rfl
theorem Ft(A:pA)(s:vV)(c x:Nat):(uD A c s).st x=if x=c then (if (xN A (Vg A s c) c).length=0 then s.st x else oR (xN A (Vg A s c) c)) else s.st x:=rfl
theorem Fu(A:pA)(s:vV)(c x:Nat):(uD A c s).av x=if x=c then (if (xN A (Vg A s c) c).length=1 then wY (fun r=>A.sum r s.val) (xN A (Vg A s c) c) else s.av x) else s.av x:=rfl
theorem Gj{l:List Nat}(h:1<l.length):oR l=2:=by
 match l,h with
 | _::_::_,_=>rfl
theorem UT{A:pA}{s s':vV}{c:Nat}(hn:A.n=K.R)(h:xF w K s')(h1:∀r,s'.ap r=eI A s c K.R r)(h2:∀r,s'.vd r=Yk A s (eI A s c K.R) c K.R r)
 (h3:∀x,s'.has x=if x=c then (if (oE A (eI A s c K.R) c K.R).length=1 then true else s.has x) else s.has x)
 (h4:∀x,s'.val x=if x=c then (if (oE A (eI A s c K.R) c K.R).length=1 then zCC (fun r=>A.sum r s.val) (oE A (eI A s c K.R) c K.R) else s.val x) else s.val x)
 (h5:∀x,s'.st x=if x=c then (if (oE A (eI A s c K.R) c K.R).length=0 then s.st x else if (oE A (eI A s c K.R) c K.R).length=1 then 1 else 2) else s.st x)
 (h6:∀x,s'.av x=if x=c then (if (oE A (eI A s c K.R) c K.R).length=1 then zCC (fun r=>A.sum r s.val) (oE A (eI A s c K.R) c K.R) else s.av x) else s.av x):xF w K (uD A c s):=by
 rw[<-hn]at h1 h2 h3 h4 h5 h6;rw[zD1 A s c]at h3 h4 h5 h6;refine h.congr (fun x _=>⟨?_,?_,?_,?_⟩) (fun r hr=>⟨?_,?_⟩)
 ·rw[h3 x,US]
 ·rw[h4 x,UR]
  by_cases hl:(xN A (Vg A s c) c).length=1
  ·rw[tl hl,tl hl,CI _ _ hl]
  ·rw[tb hl,tb hl]
 ·rw[h5 x,Ft]
  by_cases h0:(xN A (Vg A s c) c).length=0
  ·rw[tl h0,tl h0]
  ·rw[tb h0,tb h0]
   by_cases hl:(xN A (Vg A s c) c).length=1
   ·rw[tl hl,QO.2 hl]
   ·rw[tb hl,Gj (by omega)]
 ·rw[h6 x,Fu]
  by_cases hl:(xN A (Vg A s c) c).length=1
  ·rw[tl hl,tl hl,CI _ _ hl]
  ·rw[tb hl,tb hl]
 ·rw[h1 r,Fw];exact YX A s c r (by rw[hn];exact hr)
 ·rw[h2 r];exact zCH A s c r (by rw[hn];exact hr)
theorem vy(w0 w:World)(K:HK)(A:pA)(rs:List MX)(G:List Bool)(s:vV)(c:Nat)(hB:Below w0.heap.size w0 w)(hM:Kr w0 K rs G)(hA:DT K A rs G)(hK:xF w K s)(hge:w0.heap.size<=K.gH/\w0.heap.size<=K.gV/\w0.heap.size<=K.gA/\w0.heap.size<=K.gD/\w0.heap.size<=K.gN)(hc:c<K.C)(zLC:∀r,r<K.R->YH (Zb K s) (jH rs r).1.sum) :
 Calls Tryz.prog 88 #[.pointer (some ⟨K.hb,0,none⟩),.int .i64 (c:Int)] w fun e w'=>e=.returned (.tuple #[])/\xF w' K (uD A c s)/\Below w0.heap.size w0 w':=by
 obtain⟨g1,g2,g3,g4,g5⟩:=hge;obtain⟨ra,rc,hr0,hr1⟩:=hM.rul;have zL6:=hM.len;rw[zL6]at hr0;have zLE:=hK.few1;have hfew2:=hK.few2;have HM:=zA hM;have HA:=zA hA;have HOk:=zA zLC
 have HC0:Hid (∀wr,Below w0.heap.size w0 wr->wr.cell? ⟨K.b,K.o+2,none⟩=some (.slice ra K.R rc)):=fun wr hb=>by
  rw[hb.cell (p:=⟨K.b,K.o+2,none⟩) (yF hr0)];exact hr0
 have HRul:Hid (∀wr,Below w0.heap.size w0 wr->∀i,i<K.R->∃g,ra=some ⟨g,0,none⟩/\(wr.cell? ⟨g,i*5,none⟩=some (.string ⟨(jH rs i).1.label.toArray⟩)/\wr.cell? ⟨g,i*5+1,none⟩=some (.int .i64 (jH rs i).1.conc)/\wr.cell? ⟨g,i*5+2,none⟩=some (jH rs i).2.1/\wr.cell? ⟨g,i*5+3,none⟩=some (jH rs i).2.2/\wr.cell? ⟨g,i*5+4,none⟩=some (.int .i64 (jH rs i).1.root))/\uL wr (jH rs i)):=fun wr hb i hi =>
  (hM.below hb).rule (by rw[zL6];exact HC0.out wr hb) hi
 have HK:=zA hK;have HB:=zA hB;have hcR:=HC0.out w hB;obtain⟨k0,k1,k2,k3,k4,k5,k6⟩:=hK.cells;clear hr0 hr1 zL6 hM hA zLC hB hK
 go_enter Tryz.func88,Tryz.ntmps88
 go_wp2_with fail
 go_loopw [18] (fun iv wr=>∃(i:Nat),i<=K.R/\iv=.int .i64 i/\Hid (xF wr K { s with ap:=eI A s c i })/\Hid (Below w0.heap.size w0 wr)) (fun iv _=>K.R-(intOf iv).toNat)
 case atStart=>exact⟨0,p7 _,rfl,by rw[zBE];exact HK,HB⟩
 case round =>
  obtain⟨i,hi,rfl,HKr,zLI⟩:=hrel;by_cases zKZ:i<K.R
  ·obtain⟨g,rfl,⟨r0,r1,r2,r3,r4⟩,hmr⟩:=HRul.out wr zLI.out i zKZ
   rw[HA.out.head i zKZ]at r1;obtain⟨sa,sc,e1,-⟩:=hmr.sum;obtain⟨na,nc,e2,-⟩:=hmr.guard;have hltI:(i:Int)<(K.R:Int):=by omega
   have HApp:Hid (∀w',Below wr.heap.size wr w'->Calls Tryz.prog 132 #[.agg #[.string ⟨(jH rs i).1.label.toArray⟩,.int .i64 (A.head i:Int),.slice sa (jH rs i).1.sum.length sc,.slice na (jH rs i).1.guard.length nc,.int .i64 (jH rs i).1.root],.agg #[.slice K.ia K.inp.length K.ic,.slice (some ⟨K.gH,0,none⟩) K.C K.cH,.slice (some ⟨K.gV,0,none⟩) K.C K.cV]] w' fun e w''=>e=.returned (.bool (A.app i s.has))/\Below w'.heap.size w' w''):=fun w' hb=>by
    have hB':=zLI.out.trans (hb.mono zLI.out.size);have:=Xj w' K.ia (some ⟨K.gH,0,none⟩) (some ⟨K.gV,0,none⟩) K.ic K.cH K.cV (Zb K { s with ap:=eI A s c i }) (jH rs i) (hmr.below hb) ((HKr.out.below hb).state ((HM.out.below hB').inp));rw[show qJ (jH rs i).1 (Zb K { s with ap:=eI A s c i })=A.app i s.has from HA.out.app i zKZ s.has _]at this;simp only[uC,CT,Zb,pi,List.length_range]at this;rw[e1,e2,HA.out.head i zKZ]at this;exact this
   rw[e1]at r2;rw[e2]at r3;obtain⟨k0',k1',k2',k3',k4',-,-⟩:=HKr.out.cells;have lg:=yF r0;have lhb:=yF k1';have nhb:wr.heap.size≠K.hb:=by omega
   have nA:=HKr.out.nes.a3;have nA':=HKr.out.nes.a3.symm;have lga:=HKr.out.rA.lt;have nga:wr.heap.size≠K.gA:=by omega
   have nga':K.gA≠wr.heap.size:=by omega
   have HSet:Hid (∀w4,Below wr.heap.size wr w4->A.head i=c->(xF (w4.setCell ⟨K.gA,i,none⟩ (.bool (A.app i s.has))) K { s with ap:=eI A s c (i+1) }/\Below w0.heap.size w0 (w4.setCell ⟨K.gA,i,none⟩ (.bool (A.app i s.has))))/\w4.cell? ⟨K.gA,i,none⟩=some (.bool (eI A s c i i))/\w4.frozen? ⟨K.gA,i,none⟩=false):=fun w4 hb hh=>by
    have h4:=HKr.out.below hb;refine⟨⟨h4.setA zKZ _ ?_ (fun r _ zL4=>zFO A s c i r zL4),(zLI.out.trans (hb.mono zLI.out.size)).setCell (p:=⟨K.gA,i,none⟩) g3 _⟩,h4.rA.cell zKZ,h4.rA.free i⟩;rw[DN A s c (l8 i),tl hh]
   have HSk:Hid (A.head i≠c->xF wr K { s with ap:=eI A s c (i+1) }):=fun hh=>by rw[zBF A s c i hh];exact HKr.out
   clear hmr e1 e2;generalize (jH rs i).1.label=lb at *;generalize (jH rs i).1.sum.length=sn at *;generalize (jH rs i).1.guard.length=nn at *;generalize (jH rs i).1.root=ro at *;generalize A.app i s.has=ax at *;generalize eI A s c i i=ay at *;by_cases zLQ:A.head i=c
   ·have b1:((A.head i:Int)==(c:Int))=true:=by rw[zLQ];simp
    have HSet2:=zA (fun w4 hb=>HSet.out w4 hb zLQ);clear HSet HSk zLQ;generalize (A.head i:Int)=hd at *
    go_upto_region 4 with fail
    go_region_held3 (fun w'=>w'.cell? ⟨K.hb,4,none⟩=some (.slice (some ⟨K.gA,0,none⟩) K.R K.cA)/\w'.cell? ⟨K.hb,1,none⟩=some (.slice K.ia K.inp.length K.ic)/\w'.cell? ⟨K.hb,2,none⟩=some (.slice (some ⟨K.gH,0,none⟩) K.C K.cH)/\w'.cell? ⟨K.hb,3,none⟩=some (.slice (some ⟨K.gV,0,none⟩) K.C K.cV)/\w'.cell? ⟨wr.heap.size,0,none⟩=some (.string ⟨lb.toArray⟩)/\w'.cell? ⟨wr.heap.size,1,none⟩=some (.int .i64 hd)/\w'.cell? ⟨wr.heap.size,2,none⟩=some (.slice sa sn sc)/\w'.cell? ⟨wr.heap.size,3,none⟩=some (.slice na nn nc)/\w'.cell? ⟨wr.heap.size,4,none⟩=some (.int .i64 ro)) (go_keep) (
     (go_at_call 132;refine(HApp.out _ (pj (gb (j1 _) _))).mono ?_;rintro e w4 ⟨rfl,hb4⟩;have hB4:Below wr.heap.size wr w4:=(pj (gb (j1 _) _)).trans (hb4.mono (ph (zV _ _)));obtain⟨⟨hS4,hS5⟩,q1,q2⟩:=HSet2.out w4 hB4;obtain⟨-,v1,v2,v3,v4,-,-⟩:=(HKr.out.below hB4).cells;have u0:=((hb4.cell (p:=⟨wr.heap.size,0,none⟩) (zV _ _)).trans (zB (zG _ _) 0)).trans rfl;have u1:=((hb4.cell (p:=⟨wr.heap.size,1,none⟩) (zV _ _)).trans (zB (zG _ _) 1)).trans rfl;have u2:=((hb4.cell (p:=⟨wr.heap.size,2,none⟩) (zV _ _)).trans (zB (zG _ _) 2)).trans rfl;have u3:=((hb4.cell (p:=⟨wr.heap.size,3,none⟩) (zV _ _)).trans (zB (zG _ _) 3)).trans rfl;have u4:=((hb4.cell (p:=⟨wr.heap.size,4,none⟩) (zV _ _)).trans (zB (zG _ _) 4)).trans rfl))
    all_goals
     go_wp2_with fail
     go_roundw
     case rel=>exact⟨i+1,by omega,by go_num,zA hS4,zA hS5⟩
     case measure=>simp[intOf];omega
   ·have b1:((A.head i:Int)==(c:Int))=false:=by rw[mq];omega
    have HK2:=zA (HSk.out zLQ);have HBn:Hid (∀o,xF (wr.alloc o) K { s with ap:=eI A s c (i+1) }/\Below w0.heap.size w0 (wr.alloc o)):=fun o=>⟨HK2.out.below (gb (j1 _) o),zLI.out.alloc zLI.out.size o⟩;clear HSet HSk zLQ HApp;generalize (A.head i:Int)=hd at *;go_wp2_with fail
    go_roundw
    case rel=>exact⟨i+1,by omega,by go_num,zA (HBn.out _).1,zA (HBn.out _).2⟩
    case measure=>simp[intOf];omega
  ·obtain rfl:i=K.R:=by omega
   obtain⟨wx,hwx⟩:∃wx,wx=wr:=⟨_,rfl⟩;rw[<-hwx]at HKr zLI ⊢;clear hwx;obtain⟨on,hon⟩:∃on,on=eI A s c K.R:=⟨_,rfl⟩;rw[<-hon]at HKr;have HOn:=zA hon;clear hon;have hiN:¬((K.R:Int)<(K.R:Int)):=by omega
   obtain⟨m0,m1,m2,m3,m4,m5,m6⟩:=HKr.out.cells;have mR:=HC0.out wx zLI.out;go_wp2_with fail
   go_loopw [6,7,48] (fun nv vv iv wr=>∃(i:Nat),i<=K.R/\iv=.int .i64 i/\nv=.int .i64 ((oE A on c i).length:Nat)/\vv=.int .i64 (zCC (fun r=>A.sum r s.val) (oE A on c i))/\Hid (xF wr K { s with ap:=on,vd:=Yk A s on c i })/\Hid (Below w0.heap.size w0 wr)) (fun _ _ iv _=>K.R-(intOf iv).toNat)
   case atStart=>exact⟨0,p7 _,rfl,rfl,rfl,by rw[yt];exact HKr,zLI⟩
   case round =>
    obtain⟨i,hi,rfl,rfl,rfl,HKs,HBs⟩:=hrel;have hsl:=zD0 A on c i;by_cases zKZ:i<K.R
    ·obtain⟨g,rfl,⟨r0,r1,r2,r3,r4⟩,hmr⟩:=HRul.out wr HBs.out i zKZ
     rw[HA.out.head i zKZ]at r1;obtain⟨sa,sc,e1,-⟩:=hmr.sum;obtain⟨na,nc,e2,-⟩:=hmr.guard;have hltI:(i:Int)<(K.R:Int):=by omega
     obtain⟨k0',k1',k2',k3',k4',k5',k6'⟩:=HKs.out.cells;have lg:=yF r0;have lhb:=yF k1';have nhb:wr.heap.size≠K.hb:=by omega
     have qa:wr.cell? ⟨K.gA,i,none⟩=some (.bool (on i)):=HKs.out.rA.cell zKZ;have lga:=yF qa;have nga:wr.heap.size≠K.gA:=by omega
     have lgd:=HKs.out.rD.lt;have ngd:wr.heap.size≠K.gD:=by omega
     have HNx:Hid (¬(A.head i=c/\on i=true)->∀o,xF (wr.alloc o) K { s with ap:=on,vd:=Yk A s on c (i+1) }/\Below w0.heap.size w0 (wr.alloc o)/\oE A on c (i+1)=oE A on c i):=fun hh o=>by
      refine⟨?_,HBs.out.alloc HBs.out.size o,KG A on c i ?_⟩
      ·rw[yu A s on c i hh];exact HKs.out.below (gb (j1 _) o)
      ·by_cases h1:A.head i=c
       ·have:on i=false:=by cases h2:on i with
         | false=>rfl
         | true=>exact absurd ⟨h1,h2⟩ hh
        simp[this]
       ·simp[h1]
     rw[e1]at r2;rw[e2]at r3;by_cases zLQ:A.head i=c
     ·have b1:((A.head i:Int)==(c:Int))=true:=by rw[zLQ];simp
      have b1':((A.head i:Int) != (c:Int))=false:=by rw[zLQ];simp
      cases honi:on i with
      | false =>
        have HN2:=zA (HNx.out (fun q=>by rw[honi]at q;exact Bool.noConfusion q.2));rw[honi]at qa;clear HNx zLQ honi hmr e1 e2;generalize (A.head i:Int)=hd at *;generalize (jH rs i).1.label=lb at *;generalize (jH rs i).1.sum.length=sn at *;generalize (jH rs i).1.guard.length=nn at *;generalize (jH rs i).1.root=ro at *;go_wp2_with fail
        go_roundw
        case rel=>exact⟨i+1,by omega,by go_num,by rw[(HN2.out (.cells #[] 0 (0,0))).2.2],by rw[(HN2.out (.cells #[] 0 (0,0))).2.2],zA (HN2.out _).1,zA (HN2.out _).2.1⟩
        case measure=>simp[intOf];omega
      | true =>
        rw[honi]at qa
        have HBt:Hid (∀w',Below wr.heap.size wr w'->Calls Tryz.prog 133 #[.pointer (some ⟨K.hb,0,none⟩),.int .i64 (i:Int)] w' fun e w''=>e=.returned (.bool (kK A on i))/\w''=w'):=fun w' hb=>by
         have h':=HKs.out.below hb;obtain⟨c0,-,-,-,c4,-,-⟩:=h'.cells;have hB':=HBs.out.trans (hb.mono HBs.out.size);have hl:((List.range K.R).map on).length=K.R:=by simp
         have zLP:tZ w' (some ⟨K.gA,0,none⟩) (wF ((List.range K.R).map on)):=by
          have:=h'.rA.cel;simp only[wF,List.map_map];exact this
         have:=BQ w' K.hb K.b K.o (some ⟨K.gA,0,none⟩) K.cA ((List.range K.R).map on) G (i:Int) c0 (by rw[hl];exact c4) ⟨zLP,by rw[hl];omega⟩ (HM.out.below hB').gr;rw[zFJ HA.out on zKZ]at this;exact this
        have HSd:Hid (∀o v,(if kK A on i=true then (1:Int) else 2)=v->xF ((wr.setCell ⟨K.gD,i*2+1,none⟩ (.int .i64 v)).alloc o) K { s with ap:=on,vd:=Yk A s on c (i+1) }/\Below w0.heap.size w0 ((wr.setCell ⟨K.gD,i*2+1,none⟩ (.int .i64 v)).alloc o)):=fun o v hv=>by
         have h':=HKs.out.setD zKZ v (f:=Yk A s on c (i+1)) (by rw[zH6 A s on c i zLQ honi];exact hv) (fun r _ zL4=>CJ A s on c i r zL4);have hb':=HBs.out.setCell (p:=⟨K.gD,i*2+1,none⟩) g4 (.int .i64 v);exact⟨h'.below (gb (j1 _) o),hb'.alloc hb'.size o⟩
        have q1:wr.cell? ⟨K.gD,i*2+1,none⟩=some (zG2 K { s with ap:=on,vd:=Yk A s on c i } (i*2+1)):=HKs.out.rD.cell (by omega);have q2:=HKs.out.rD.free (i*2+1);have HVd:Hid (∃z,zG2 K { s with ap:=on,vd:=Yk A s on c i } (i*2+1)=.int .i64 z):=⟨_,by unfold zG2;rw[tb (by omega)]⟩;obtain⟨zv,hzv⟩:=HVd.out;rw[hzv]at q1;have zLL:Hid (kK A on i=true->oE A on c (i+1)=oE A on c i):=fun hb=>KG A on c i (by simp[hb]);have HSt2:Hid (kK A on i=false->oE A on c (i+1)=oE A on c i++[i]):=fun hb=>zHJ A on c i (by simp[hb,zLQ,honi])
        have HSum:Hid (∀w',xF w' K { s with ap:=on,vd:=Yk A s on c (i+1) }->Below w0.heap.size w0 w'->Calls Tryz.prog 134 #[.agg #[.string ⟨(jH rs i).1.label.toArray⟩,.int .i64 (A.head i:Int),.slice sa (jH rs i).1.sum.length sc,.slice na (jH rs i).1.guard.length nc,.int .i64 (jH rs i).1.root],.agg #[.slice K.ia K.inp.length K.ic,.slice (some ⟨K.gH,0,none⟩) K.C K.cH,.slice (some ⟨K.gV,0,none⟩) K.C K.cV]] w' fun e w''=>e=.returned (.int .i64 (A.sum i s.val))/\Below w'.heap.size w' w''):=fun w' hk hb=>by
         obtain⟨_,_,_,hm'⟩:=HRul.out w' hb i zKZ;have:=zI3 w' K.ia (some ⟨K.gH,0,none⟩) (some ⟨K.gV,0,none⟩) K.ic K.cH K.cV (Zb K { s with ap:=on,vd:=Yk A s on c (i+1) }) (jH rs i) hm' (hk.state ((HM.out.below hb).inp)) (HOk.out i zKZ);rw[show eR (Zb K { s with ap:=on,vd:=Yk A s on c (i+1) }) (jH rs i).1.sum=A.sum i s.val from HA.out.sum i zKZ _ s.val]at this;simp only[uC,CT,Zb,pi,List.length_range]at this;rw[e1,e2,HA.out.head i zKZ]at this;exact this
        have HCp:Hid (∀cs j,((wr.setCell ⟨K.gD,i*2+1,none⟩ (.int .i64 2)).alloc (.cells cs 162 (0,0))).cell? ⟨wr.heap.size,j,none⟩=cs[j]?):=fun cs j=>zB (yS (wr.setCell ⟨K.gD,i*2+1,none⟩ (.int .i64 2)) (.cells cs 162 (0,0)) wr.heap.size (by simp)) j;clear HNx zLQ honi hmr e1 e2 hzv HVd;generalize (A.head i:Int)=hd at *;generalize (jH rs i).1.label=lb at *;generalize (jH rs i).1.sum.length=sn at *;generalize (jH rs i).1.guard.length=nn at *;generalize (jH rs i).1.root=ro at *;have HSv:Hid (A.sum i s.val=A.sum i s.val):=rfl;generalize hsv:A.sum i s.val=sv at HSum
        replace HSv:=zA hsv
        clear hsv
        cases hbt:kK A on i with
        | true =>
          rw[hbt]at HBt;have HS1:=zA (HSd.out (.cells #[.string ⟨lb.toArray⟩,.int .i64 hd,.slice sa sn sc,.slice na nn nc,.int .i64 ro] 162 (0,0)) 1 (by rw[hbt];rfl));have hSt:=zA (zLL.out hbt);clear HSd zLL HSt2 HSum HCp hbt;go_wp2_with fail
          refine(HBt.out _ (gb (j1 _) _)).mono ?_;rintro e w' ⟨rfl,hq⟩;obtain rfl:=hq.symm;obtain⟨hS4,hS5⟩:=HS1.out;have HS4:=zA hS4;have HS5:=zA hS5;clear hS4 hS5;go_wp2_with fail
          go_roundw
          case rel=>exact⟨i+1,by omega,by go_num,by rw[hSt.out],by rw[hSt.out],HS4,HS5⟩
          case measure=>simp[intOf];omega
        | false =>
          rw[hbt]at HBt;have HS1:=zA (HSd.out (.cells #[.string ⟨lb.toArray⟩,.int .i64 hd,.slice sa sn sc,.slice na nn nc,.int .i64 ro] 162 (0,0)) 2 (by rw[hbt];rfl));have hSt:=zA (HSt2.out hbt);have HCq:=zA (HCp.out #[.string ⟨lb.toArray⟩,.int .i64 hd,.slice sa sn sc,.slice na nn nc,.int .i64 ro]);clear HSd zLL HSt2 HCp hbt;go_wp2_with fail
          refine(HBt.out _ (gb (j1 _) _)).mono ?_;rintro e w' ⟨rfl,hq⟩;obtain rfl:=hq.symm;obtain⟨hS4,hS5⟩:=HS1.out;obtain⟨w5,hw5⟩:∃w5,w5=(wr.setCell ⟨K.gD,i*2+1,none⟩ (.int .i64 2)).alloc (.cells #[.string ⟨lb.toArray⟩,.int .i64 hd,.slice sa sn sc,.slice na nn nc,.int .i64 ro] 162 (0,0)):=⟨_,rfl⟩;have p0:w5.cell? ⟨wr.heap.size,0,none⟩=some (.string ⟨lb.toArray⟩):=by rw[hw5];exact HCq.out 0
          have p1:w5.cell? ⟨wr.heap.size,1,none⟩=some (.int .i64 hd):=by rw[hw5];exact HCq.out 1
          have p2:w5.cell? ⟨wr.heap.size,2,none⟩=some (.slice sa sn sc):=by rw[hw5];exact HCq.out 2
          have p3:w5.cell? ⟨wr.heap.size,3,none⟩=some (.slice na nn nc):=by rw[hw5];exact HCq.out 3
          have p4:w5.cell? ⟨wr.heap.size,4,none⟩=some (.int .i64 ro):=by rw[hw5];exact HCq.out 4
          have HS4:=zA hS4;have HS5:=zA hS5
          go_upto_region 16 with fail
          rw[<-hw5]at HS4 HS5 ⊢;obtain⟨-,t1,t2,t3,-,-,-⟩:=HS4.out.cells;have lw5:=yF p0;have HDr:Hid (∀w6,Below w5.heap.size w5 w6->xF w6 K { s with ap:=on,vd:=Yk A s on c (i+1) }/\Below w0.heap.size w0 w6):=fun w6 hb=>⟨HS4.out.below hb,HS5.out.trans (hb.mono HS5.out.size)⟩;have HDc:Hid (∀w6,Below w5.heap.size w5 w6->∀j,w6.cell? ⟨wr.heap.size,j,none⟩=w5.cell? ⟨wr.heap.size,j,none⟩):=fun w6 hb j=>hb.cell (p:=⟨wr.heap.size,j,none⟩) lw5;clear hS4 hS5 hw5 HCq HS1
          go_region_held3 (fun w'=>w'.cell? ⟨wr.heap.size,0,none⟩=some (.string ⟨lb.toArray⟩)/\w'.cell? ⟨wr.heap.size,1,none⟩=some (.int .i64 hd)/\w'.cell? ⟨wr.heap.size,2,none⟩=some (.slice sa sn sc)/\w'.cell? ⟨wr.heap.size,3,none⟩=some (.slice na nn nc)/\w'.cell? ⟨wr.heap.size,4,none⟩=some (.int .i64 ro)/\w'.cell? ⟨K.hb,1,none⟩=some (.slice K.ia K.inp.length K.ic)/\w'.cell? ⟨K.hb,2,none⟩=some (.slice (some ⟨K.gH,0,none⟩) K.C K.cH)/\w'.cell? ⟨K.hb,3,none⟩=some (.slice (some ⟨K.gV,0,none⟩) K.C K.cV)) (go_keep) (
           (go_at_call 134;refine(HSum.out _ (HDr.out _ (pj (tg _ _))).1 (HDr.out _ (pj (tg _ _))).2).mono ?_;rintro e w6 ⟨rfl,hb6⟩;have hB6:Below w5.heap.size w5 w6:=(pj (tg _ _)).trans hb6;obtain⟨hS6,hS7⟩:=HDr.out w6 hB6;obtain⟨-,v1,v2,v3,-,-,-⟩:=hS6.cells;have u0:=(HDc.out w6 hB6 0).trans p0;have u1:=(HDc.out w6 hB6 1).trans p1;have u2:=(HDc.out w6 hB6 2).trans p2;have u3:=(HDc.out w6 hB6 3).trans p3;have u4:=(HDc.out w6 hB6 4).trans p4))
          all_goals
           go_wp2_with fail
           go_roundw
           case rel=>exact⟨i+1,by omega,by go_num,by rw[hSt.out,tm,mh];go_num,by rw[hSt.out,yj,HSv.out],zA hS6,zA hS7⟩
           case measure=>simp[intOf];omega
     ·have b1:((A.head i:Int)==(c:Int))=false:=by rw[mq];omega
      have b1':((A.head i:Int) != (c:Int))=true:=by rw[bne_iff_ne];omega
      have HN2:=zA (HNx.out (fun q=>zLQ q.1));clear HNx zLQ hmr e1 e2;generalize (A.head i:Int)=hd at *;generalize (jH rs i).1.label=lb at *;generalize (jH rs i).1.sum.length=sn at *;generalize (jH rs i).1.guard.length=nn at *;generalize (jH rs i).1.root=ro at *;go_wp2_with fail
      go_roundw
      case rel=>exact⟨i+1,by omega,by go_num,by rw[(HN2.out (.cells #[] 0 (0,0))).2.2],by rw[(HN2.out (.cells #[] 0 (0,0))).2.2],zA (HN2.out _).1,zA (HN2.out _).2.1⟩
      case measure=>simp[intOf];omega
    ·obtain rfl:i=K.R:=by omega
     have hiN2:¬((K.R:Int)<(K.R:Int)):=by omega
     have hn:=HA.out.n;have hoE:=HOn.out;obtain⟨k0',k1',k2',k3',k4',k5',k6'⟩:=HKs.out.cells;have n:=HKs.out.nes
     have HFin:Hid (∀w' s',xF w' K s'->(∀r,s'.ap r=on r)->(∀r,s'.vd r=Yk A s on c K.R r)->(∀x,s'.has x=if x=c then (if (oE A on c K.R).length=1 then true else s.has x) else s.has x)->(∀x,s'.val x=if x=c then (if (oE A on c K.R).length=1 then zCC (fun r=>A.sum r s.val) (oE A on c K.R) else s.val x) else s.val x)->(∀x,s'.st x=if x=c then (if (oE A on c K.R).length=0 then s.st x else if (oE A on c K.R).length=1 then 1 else 2) else s.st x)->(∀x,s'.av x=if x=c then (if (oE A on c K.R).length=1 then zCC (fun r=>A.sum r s.val) (oE A on c K.R) else s.av x) else s.av x)->xF w' K (uD A c s)):=fun w' s' h h1 h2 h3 h4 h5 h6=>by
      rw[hoE]at h1 h2 h3 h4 h5 h6;exact UT hn h h1 h2 h3 h4 h5 h6
     clear hn hoE;have hcI:(c:Int)<(K.C:Int):=by omega
     generalize zCC (fun r=>A.sum r s.val) (oE A on c K.R)=vl at *;generalize (oE A on c K.R).length=ln at *;by_cases n1:ln=1
     ·subst n1
      have HH1:=zA (HKs.out.setH (f:=fun x=>if x=c then true else s.has x) hc true (tl rfl) (fun r _ zL4=>tb zL4));have HH2:=zA (HH1.out.setV (f:=fun x=>if x=c then vl else s.val x) hc vl (tl rfl) (fun r _ zL4=>tb zL4));have HH3:=zA (HH2.out.setS (f:=fun x=>if x=c then 1 else s.st x) hc 1 (tl rfl) (fun r _ zL4=>tb zL4));have HH4:=zA (HH3.out.setN (f:=fun x=>if x=c then vl else s.av x) hc vl (tl rfl) (fun r _ zL4=>tb zL4));have HBf:Hid (Below w0.heap.size w0 ((((wr.setCell ⟨K.gH,c,none⟩ (.bool true)).setCell ⟨K.gV,c,none⟩ (.int .i64 vl)).setCell ⟨K.gN,c*3+1,none⟩ (.int .i64 1)).setCell ⟨K.gN,c*3+2,none⟩ (.int .i64 vl))):=(((HBs.out.setCell (p:=⟨K.gH,c,none⟩) g1 _).setCell (p:=⟨K.gV,c,none⟩) g2 _).setCell (p:=⟨K.gN,c*3+1,none⟩) g5 _).setCell (p:=⟨K.gN,c*3+2,none⟩) g5 _;have HFn:=zA (HFin.out _ _ HH4.out (fun _=>rfl) (fun _=>rfl) (fun x=>by simp) (fun x=>by simp) (fun x=>by simp) (fun x=>by simp));have f1:=HKs.out.rH.free c;have c1:=HKs.out.rH.cell hc;obtain⟨-,-,-,x3,-,-,-⟩:=HH1.out.cells;have f2:=HH1.out.rV.free c;have c2:=HH1.out.rV.cell hc;obtain⟨-,-,-,-,-,-,x6⟩:=HH2.out.cells;have f3:=HH2.out.rN.free (c*3+1);have c3:=HH2.out.rN.cell (j:=c*3+1) (by omega);obtain⟨-,-,-,-,-,-,y6⟩:=HH3.out.cells;have f4:=HH3.out.rN.free (c*3+2);have c4:=HH3.out.rN.cell (j:=c*3+2) (by omega);unfold zBK at c3 c4;rw[tb (by omega),tl (by omega)]at c3;rw[tb (by omega),tb (by omega)]at c4;clear HH1 HH2 HH3 HH4 HFin HKs;go_wp2_with fail
      go_end0
      exact⟨rfl,HFn.out,HBf.out⟩
     ·by_cases n0:ln=0
      ·subst n0
       have HFn:=zA (HFin.out _ _ HKs.out (fun _=>rfl) (fun _=>rfl) (fun x=>by simp) (fun x=>by simp) (fun x=>by simp) (fun x=>by simp));clear HFin HKs;go_wp2_with fail
       go_end0
       exact⟨rfl,HFn.out,HBs.out⟩
      ·have b1:(1:Int)<(ln:Int):=by omega
       have b2:((ln:Int)==1)=false:=by rw[mq];omega
       have HH3:=zA (HKs.out.setS (f:=fun x=>if x=c then 2 else s.st x) hc 2 (tl rfl) (fun r _ zL4=>tb zL4));have HBf:Hid (Below w0.heap.size w0 (wr.setCell ⟨K.gN,c*3+1,none⟩ (.int .i64 2))):=HBs.out.setCell (p:=⟨K.gN,c*3+1,none⟩) g5 _;have HFn:=zA (HFin.out _ _ HH3.out (fun _=>rfl) (fun _=>rfl) (fun x=>by simp[n1]) (fun x=>by simp[n1]) (fun x=>by simp[n0,n1]) (fun x=>by simp[n1]));have f3:=HKs.out.rN.free (c*3+1);have c3:=HKs.out.rN.cell (j:=c*3+1) (by omega);unfold zBK at c3;rw[tb (by omega),tl (by omega)]at c3;clear HFin HKs HH3 n1 n0;go_wp2_with fail
       go_end0
       exact⟨rfl,HFn.out,HBf.out⟩
structure zKR(w:World)(b o:Nat)(ia:Option Addr)(inp:List Int)(rs:List MX)(G:List Bool)(Cs:List (Bs × Nat)):Prop where
 con:∃a c,w.cell? ⟨b,o+1,none⟩=some (.slice a Cs.length c)/\yZ w 208 a (Zj Cs)
 rul:∃a c,w.cell? ⟨b,o+2,none⟩=some (.slice a rs.length c)/\yZ w 162 a (rs.flatMap jL)
 rows:∀x∈rs,uL w x
 gr:zFY w b (o+3) G
 inp:jT w ia inp
 few1:rs.length<=100
 few2:Cs.length<=100
def jx(b o:Nat)(iv:Value)(R C gA gH gV:Nat)(vv nv:Value):Obj:=.cells #[.pointer (some ⟨b,o,none⟩),iv,.slice (some ⟨gH,0,none⟩) C C,.slice (some ⟨gV,0,none⟩) C C,.slice (some ⟨gA,0,none⟩) R R,vv,nv] 206 (0,0)
structure ZA(w wx:World)(b o:Nat)(iv:Value)(R C gH gV:Nat)(vv nv:Value):Prop where
 res:wx.heap[w.heap.size]? = some (.cells #[.slice none 0 0,.slice none 0 0] 113 (0,0))
 rA:vY wx (w.heap.size+1) 4 R (fun _=>.bool false)
 hd:wx.heap[w.heap.size+1+1]? = some (jx b o iv R C (w.heap.size+1) gH gV vv nv)
 rH:vY wx gH 4 C (fun _=>.bool false)
 rV:vY wx gV 3 C (fun _=>.int .i64 0)
 bel:Below w.heap.size w wx
 gh:w.heap.size+1+1<gH
 gv:w.heap.size+1+1<gV
 ne:gH≠gV
theorem YN(w:World)(g n:Nat)(h:w.heap[g]? = some (.cells (gC (List.replicate n false)) 4 (0,0))):vY w g 4 n (fun _=>.bool false) :=
 ⟨_,h,fun j hj=>by simp[gC,hj]⟩
theorem F7(w:World)(g n:Nat)(h:w.heap[g]? = some (.cells (iC (List.replicate n 0)) 3 (0,0))):vY w g 3 n (fun _=>.int .i64 0) :=
 ⟨_,h,fun j hj=>by simp[iC,tQ,hj]⟩
theorem vY.grown3{n:Nat}{f:Nat->Value}(h:vY w g t n f)(zL1:w.ownsRow B e k v m ys)(zL4:t≠e)(hg:w.grownBy w' v.ownBlock):vY w' g t n f:=by
 obtain⟨cs,h1,h2⟩:=h;refine⟨cs,?_,h2⟩;rw[hg.block g (zJ h1) (fun e1=>?_)]
 ·exact h1
 ·rcases zL1.2 with ⟨k1,_⟩|⟨g',cap,yK,k1,_,k3,_⟩
  ·rw[k1]at e1;simp[Value.ownBlock]at e1
  ·rw[k1]at e1;simp[Value.ownBlock]at e1
   subst e1;rw[h1]at k3;simp only[ld,Obj.cells.injEq]at k3;exact zL4 k3.2.1
theorem Jm(h:w.heap[g]? = some (.cells cs t (0,0)))(zL1:w.ownsRow B e k v m ys)(zL4:t≠e)(hg:w.grownBy w' v.ownBlock):w'.heap[g]? = some (.cells cs t (0,0)):=by
 rw[hg.block g (zJ h) (fun e1=>?_)]
 ·exact h
 ·rcases zL1.2 with ⟨k1,_⟩|⟨g',cap,yK,k1,_,k3,_⟩
  ·rw[k1]at e1;simp[Value.ownBlock]at e1
  ·rw[k1]at e1;simp[Value.ownBlock]at e1
   subst e1;rw[h]at k3;simp only[ld,Obj.cells.injEq]at k3;exact zL4 k3.2.1
theorem Vd{n:Nat}{xs:List Value}(h:w.ownsRow B t k v n xs)(hn:0<n):∃g c,v=.slice (some ⟨g,0,none⟩) n c/\B<=g/\vY w g t xs.length (fun j=>xs.getD j (.slice none 0 0)):=by
 have hl:=h.1;rcases h.2 with ⟨h1,h2⟩|⟨g,cap,yK,h1,hb,h3,h4,h5,_,h7⟩
 ·omega
 ·refine⟨g,cap,h1,hb,yK,h3,fun j hj=>?_⟩
  have e:yK[j]? = xs[j]? := by rw[<-h7,df,tl (by rw[<-hl];exact hj),du]
  rw[e];simp[List.getD,hj]
theorem ZA.below{wy:World}(h:ZA w wx b o iv R C gH gV vv nv)(hb:Below wx.heap.size wx wy):ZA w wy b o iv R C gH gV vv nv :=
 ⟨by rw[hb.block _ (zJ h.res)];exact h.res,h.rA.below hb,by rw[hb.block _ (zJ h.hd)];exact h.hd,h.rH.below hb,h.rV.below hb,h.bel.trans (hb.mono h.bel.size),h.gh,h.gv,h.ne⟩
theorem ZA.grown{wy:World}(h:ZA w wx b o iv R C gH gV vv nv)(zL1:wx.ownsRow B e k v m ys)(hB:w.heap.size<=B)(n1:113≠e)(n2:4≠e)(n3:206≠e)(n4:3≠e)(hg:wx.grownBy wy v.ownBlock):ZA w wy b o iv R C gH gV vv nv :=
 ⟨Jm h.res zL1 n1 hg,h.rA.grown3 zL1 n2 hg,by have:=h.hd;unfold jx at this ⊢;exact Jm this zL1 n3 hg,h.rH.grown3 zL1 n2 hg,h.rV.grown3 zL1 n4 hg,h.bel.grown hg h.bel.size (fun k hk=>p8 hB (zU zL1 k hk)),h.gh,h.gv,h.ne⟩
theorem ZA.set5(h:ZA w wx b o iv R C gH gV vv nv)(v:Value):ZA w (wx.setCell ⟨w.heap.size+1+1,5,none⟩ v) b o iv R C gH gV v nv:=by
 have g1:=h.gh;have g2:=h.gv;refine⟨by rw[ma _ _ _ _ (by simp;omega)];exact h.res,h.rA.other _ (by omega),?_,h.rH.other _ (by omega),h.rV.other _ (by omega),h.bel.setCell (by simp;omega) _,h.gh,h.gv,h.ne⟩;have:=h.hd;unfold jx at this ⊢;rw[tr _ _ _ _ _ _ this];simp
theorem ZA.set6(h:ZA w wx b o iv R C gH gV vv nv)(v:Value):ZA w (wx.setCell ⟨w.heap.size+1+1,6,none⟩ v) b o iv R C gH gV vv v:=by
 have g1:=h.gh;have g2:=h.gv;refine⟨by rw[ma _ _ _ _ (by simp;omega)];exact h.res,h.rA.other _ (by omega),?_,h.rH.other _ (by omega),h.rV.other _ (by omega),h.bel.setCell (by simp;omega) _,h.gh,h.gv,h.ne⟩;have:=h.hd;unfold jx at this ⊢;rw[tr _ _ _ _ _ _ this];simp
theorem ZA.fresh{w3 w4:World}(x0:w3.heap[w.heap.size]? = some (Obj.cells #[Value.slice none 0 0,Value.slice none 0 0] 113))(x1:w3.heap[w.heap.size+1]? = some (Obj.cells (gC (List.replicate R false)) 4))
 (x2:w3.heap[w.heap.size+1+1]? = some (Obj.cells #[Value.pointer (some ⟨b,o,none⟩),Value.slice none 0 0,Value.slice none 0 0,Value.slice none 0 0,Value.slice (some ⟨w.heap.size+1,0,none⟩) R R,Value.slice none 0 0,Value.slice none 0 0] 206)) (hB:Below w.heap.size w w3) (h4:Below w3.heap.size w3 w4)
 (yH:w4.heap[gH]? = some (Obj.cells (gC (List.replicate C false)) 4)) (yV:w4.heap[gV]? = some (Obj.cells (iC (List.replicate C 0)) 3)) (g1:w.heap.size+1+1<gH) (g2:w.heap.size+1+1<gV) (zL4:gH≠gV) :
 ZA w (((w4.setCell ⟨w.heap.size+1+1,1,none⟩ iv).setCell ⟨w.heap.size+1+1,2,none⟩ (.slice (some ⟨gH,0,none⟩) C C)).setCell ⟨w.heap.size+1+1,3,none⟩ (.slice (some ⟨gV,0,none⟩) C C)).drew b o iv R C gH gV (.slice none 0 0) (.slice none 0 0):=by
 have y0:w4.heap[w.heap.size]? = _:=(h4.block _ (zJ x0)).trans x0;have y1:w4.heap[w.heap.size+1]? = _:=(h4.block _ (zJ x1)).trans x1;have y2:w4.heap[w.heap.size+1+1]? = _:=(h4.block _ (zJ x2)).trans x2
 have ot:∀(k:Nat),k≠w.heap.size+1+1->(((w4.setCell ⟨w.heap.size+1+1,1,none⟩ iv).setCell ⟨w.heap.size+1+1,2,none⟩ (.slice (some ⟨gH,0,none⟩) C C)).setCell ⟨w.heap.size+1+1,3,none⟩ (.slice (some ⟨gV,0,none⟩) C C)).drew.heap[k]? = w4.heap[k]? := fun k hk=>by
  show (((w4.setCell _ _).setCell _ _).setCell _ _).heap[k]? = _;rw[ma _ _ _ _ (by simpa using hk),ma _ _ _ _ (by simpa using hk),ma _ _ _ _ (by simpa using hk)]
 have hB4:Below w.heap.size w w4:=hB.trans (h4.mono hB.size);refine⟨by rw[ot _ (by omega)];exact y0,YN _ _ _ (by rw[ot _ (by omega)];exact y1),?_,YN _ _ _ (by rw[ot _ (by omega)];exact yH),F7 _ _ _ (by rw[ot _ (by omega)];exact yV),(((hB4.setCell (by simp;omega) _).setCell (by simp;omega) _).setCell (by simp;omega) _).drew,g1,g2,zL4⟩;unfold jx;show (((w4.setCell _ _).setCell _ _).setCell _ _).heap[w.heap.size+1+1]? = _;have z1:=tr w4 _ 1 _ _ iv y2;have z2:=tr _ _ 2 _ _ (.slice (some ⟨gH,0,none⟩) C C) z1;have z3:=tr _ _ 3 _ _ (.slice (some ⟨gV,0,none⟩) C C) z2;rw[z3];simp
theorem bI{g':Nat}{cs':Array Value}{t':TypeId}{fz fz':Nat × Nat}(h:w.heap[g]? = some (.cells cs t fz))(h':w.heap[g']? = some (.cells cs' t' fz'))(zL4:t≠t'):g≠g':=fun e=>by
 subst e;rw[h]at h';simp only[ld,Obj.cells.injEq]at h';exact zL4 h'.2.1
theorem Ze{n j:Nat}{u:Value}{xs:List Value}(h:w.ownsRow B e k v n xs)(hb:w.heap[b]? = some (.cells cs t (0,0)))(zL4:t≠e):(w.setCell ⟨b,j,none⟩ u).ownsRow B e k v n xs:=by
 refine⟨h.1,?_⟩;rcases h.2 with h1|⟨g,cap,yK,h1,h2,h3,h4⟩
 ·exact .inl h1
 ·refine .inr ⟨g,cap,yK,h1,h2,?_,h4⟩
  rw[ma _ _ _ _ (show g≠b from (bI hb h3 zL4).symm)];exact h3
def Fb(rs:List MX)(i:Nat):List Value:=(List.range i).flatMap fun r=>[.string ⟨(jH rs r).1.label.toArray⟩,.int .i64 0]
def zBJ(Cs:List (Bs × Nat))(i:Nat):List Value:=(List.range i).flatMap fun c=>[.string ⟨(Cs.getD c ([],0)).1.toArray⟩,.int .i64 0,.int .i64 0]
theorem yq(rs:List MX)(i:Nat):Fb rs (i+1)=Fb rs i++[.string ⟨(jH rs i).1.label.toArray⟩,.int .i64 0]:=by unfold Fb;rw[lq,lu];simp
theorem zBI(Cs:List (Bs × Nat))(i:Nat):zBJ Cs (i+1)=zBJ Cs i++[.string ⟨(Cs.getD i ([],0)).1.toArray⟩,.int .i64 0,.int .i64 0]:=by unfold zBJ;rw[lq,lu];simp
theorem cO(n i:Nat)(h:i<n):(List.range n).getD i 0=i:=by simp[List.getD,h]
theorem zCG(rs:List MX)(n j:Nat)(hj:j<2*n):(Fb rs n)[j]? = some (if j%2=0 then .string ⟨(jH rs (j/2)).1.label.toArray⟩ else .int .i64 0):=by
 have h:=zN (fun r=>[Value.string ⟨(jH rs r).1.label.toArray⟩,.int .i64 0]) 2 (fun _=>rfl) 0 (List.range n) (j/2) (j%2) (by simp;omega) (by omega);rw[show j/2*2+j%2=j by omega,cO n (j/2) (by omega)]at h;unfold Fb;rw[h];by_cases h0:j%2=0
 ·rw[h0];rfl
 ·rw[show j%2=1 by omega];rfl
theorem zFS(Cs:List (Bs × Nat))(n j:Nat)(hj:j<3*n):(zBJ Cs n)[j]? = some (if j%3=0 then .string ⟨(Cs.getD (j/3) ([],0)).1.toArray⟩ else .int .i64 0):=by
 have h:=zN (fun c=>[Value.string ⟨(Cs.getD c ([],0)).1.toArray⟩,.int .i64 0,.int .i64 0]) 3 (fun _=>rfl) 0 (List.range n) (j/3) (j%3) (by simp;omega) (by omega);rw[show j/3*3+j%3=j by omega,cO n (j/3) (by omega)]at h;unfold zBJ;rw[h];by_cases h0:j%3=0
 ·rw[h0];rfl
 ·rw[tb h0]
  by_cases h1:j%3=1
  ·rw[h1];rfl
  ·rw[show j%3=2 by omega];rfl
theorem zCF(rs:List MX)(n:Nat):(Fb rs n).length=2*n:=by unfold Fb;rw[dC _ 2 (fun _=>rfl)];simp;omega
theorem zFR(Cs:List (Bs × Nat))(n:Nat):(zBJ Cs n).length=3*n:=by unfold zBJ;rw[dC _ 3 (fun _=>rfl)];simp;omega
theorem jk:(Tryz.prog.info? 51).map (fun i=>(i.zero,i.size,i.bytes))=some (some (.agg #[.string ⟨#[]⟩,.int .i64 0]),2,24):=by kernel_rfl
theorem js:(Tryz.prog.info? 55).map (fun i=>(i.zero,i.size,i.bytes))=some (some (.agg #[.string ⟨#[]⟩,.int .i64 0,.int .i64 0]),3,32):=by kernel_rfl
theorem V9:(Tryz.prog.info? 113).map (·.size)=some 2:=by kernel_rfl
def zJH(A:pA)(rs:List MX)(Cs:List (Bs × Nat))(w w':World)(e:Ending):Prop:=∃K:HK,(∀r,K.lab r=(jH rs r).1.label)/\(∀c,K.nam c=(Cs.getD c ([],0)).1)/\K.R=rs.length/\K.C=Cs.length/\e=.returned (.agg #[.slice (some ⟨K.gD,0,none⟩) K.R K.cD,.slice (some ⟨K.gN,0,none⟩) K.C K.cN])/\xF w' K (xH A Cs.length Cs.length 0 h0)/\Below w.heap.size w w'
theorem ZA.hear{ia:Option Addr}{ic:Nat}{inp:List Int}{rs:List MX}{Cs:List (Bs × Nat)}(h:ZA w wx b o (.slice ia inp.length ic) rs.length Cs.length gH gV vv nv)(hv:wx.ownsRow w.heap.size 51 2 vv rs.length (Fb rs rs.length))(hn:wx.ownsRow w.heap.size 55 3 nv Cs.length (zBJ Cs Cs.length))(hR:0<rs.length)(hC:0<Cs.length)(f1:rs.length<=100)(f2:Cs.length<=100) :
 ∃gD cD gN cN,vv=.slice (some ⟨gD,0,none⟩) rs.length cD/\nv=.slice (some ⟨gN,0,none⟩) Cs.length cN/\w.heap.size<=gD/\w.heap.size<=gN/\xF wx ⟨w.heap.size+1+1,b,o,ia,ic,inp,rs.length,Cs.length,gH,Cs.length,gV,Cs.length,w.heap.size+1,rs.length,gD,cD,gN,cN,fun r=>(jH rs r).1.label,fun c=>(Cs.getD c ([],0)).1⟩ h0:=by
 obtain⟨gD,cD,rfl,hgD,rD⟩:=Vd hv hR;obtain⟨gN,cN,rfl,hgN,rN⟩:=Vd hn hC;have g1:=h.gh;have g2:=h.gv;have hd:=h.hd;unfold jx at hd;obtain⟨_,kA,_⟩:=h.rA;obtain⟨_,kH,_⟩:=h.rH;obtain⟨_,kV,_⟩:=h.rV;obtain⟨cD',kD,kD2⟩:=rD;obtain⟨cN',kN,kN2⟩:=rN;refine⟨gD,cD,gN,cN,rfl,rfl,hgD,hgN,⟨h.hd,h.rH,h.rV,h.rA,⟨cD',kD,fun j hj=>?_⟩,⟨cN',kN,fun j hj=>?_⟩,?_,f1,f2⟩⟩
 ·have hj':j<2*rs.length:=hj
  have e:=kD2 j (by rw[zCF];exact hj');simp only[pd]at e;rw[e,zCG rs _ j hj'];rfl
 ·have hj':j<3*Cs.length:=hj
  have e:=kN2 j (by rw[zFR];exact hj');simp only[pd]at e;rw[e,zFS Cs _ j hj'];show some (if j%3=0 then _ else _)=some (zBK _ h0 j);unfold zBK;by_cases h0':j%3=0
  ·rw[tl h0',tl h0']
  ·rw[tb h0',tb h0'];split <;> rfl
 ·simp only[List.nodup_cons,l6,ff,or_false,not_or,List.nodup_nil,not_false_eq_true,and_true]
  exact⟨⟨by omega,by omega,by omega,bI hd kD (by decide),bI hd kN (by decide)⟩,⟨h.ne,by omega,bI kH kD (by decide),bI kH kN (by decide)⟩,⟨by omega,bI kV kD (by decide),bI kV kN (by decide)⟩,⟨bI kA kD (by decide),bI kA kN (by decide)⟩,bI kD kN (by decide)⟩
theorem xF.outer{s:vV}(h:xF w K s){j:Nat}(v:Value)(n0:K.hb≠g)(n1:K.gH≠g)(n2:K.gV≠g)(n3:K.gA≠g)(n4:K.gD≠g)(n5:K.gN≠g):xF (w.setCell ⟨g,j,none⟩ v) K s :=
 ⟨by rw[ma w ⟨g,j,none⟩ K.hb _ n0];exact h.hd,h.rH.other _ n1,h.rV.other _ n2,h.rA.other _ n3,h.rD.other _ n4,h.rN.other _ n5,h.ne,h.few1,h.few2⟩
theorem ZA.base(h:ZA w wx b o iv R C gH gV vv nv):Below (w.alloc (.cells #[.slice none 0 0,.slice none 0 0] 113 (0,0))).heap.size (w.alloc (.cells #[.slice none 0 0,.slice none 0 0] 113 (0,0))) wx:=by
 have hs:=zJ h.res;refine⟨h.bel.os,h.bel.tape,h.bel.output,by simp;omega,fun k hk=>?_⟩;rcases md k w.heap.size with h1|h1
 ·rw[li _ _ _ h1];exact h.bel.block k h1
 ·obtain rfl:k=w.heap.size:=by simp at hk;omega
  rw[h.res];exact(zG _ _).symm
theorem BJ(A:pA)(H l i f:Nat)(s:vV):bE A H l (f+1) i s=bE A H l f (i+1) (if A.lev i=l then uD A i s else s):=rfl
theorem Vx(A:pA)(H l f:Nat)(s:vV):xH A H (f+1) l s=xH A H f (l+1) (bE A H l H 0 s):=rfl
theorem zDR(A:pA)(H l i:Nat)(hn:∀r c,r<A.n->A.nm r c->c<H)(hi:i<H){s:vV}(h:jD A (fun x=>x<H/\(A.lev x<l\/A.lev x=l/\x<i)) s):jD A (fun x=>x<H/\(A.lev x<l\/A.lev x=l/\x<i+1)) (if A.lev i=l then uD A i s else s):=by
 by_cases hl:A.lev i=l
 ·rw[tl hl]
  refine(Q9 A h (c:=i) (by omega) (fun c' hc' ⟨r,hr,hm⟩=>⟨hn r c' hr hm,.inl (by omega)⟩)).same fun x=>?_;constructor
  ·rintro(hx|rfl)
   ·omega
   ·omega
  ·intro hx
   by_cases he:x=i
   ·exact .inr he
   ·exact .inl ⟨hx.1,by rcases hx.2 with h1|h1 <;> omega⟩
 ·rw[tb hl]
  refine h.same fun x=>?_;constructor
  ·intro hx;omega
  ·intro hx
   refine⟨hx.1,?_⟩;rcases hx.2 with h1|h1
   ·exact .inl h1
   ·right
    refine⟨h1.1,?_⟩;rcases md x i with h2|h2
    ·exact h2
    ·exfalso;obtain rfl:x=i:=by omega
     exact hl h1.1
theorem Of_s(w:World)(b o:Nat)(ia:Option Addr)(ic:Nat)(inp:List Int)(rs:List MX)(G:List Bool)(Cs:List (Bs × Nat))(h:zKR w b o ia inp rs G Cs)(hR:0<rs.length)(hC:0<Cs.length)(A:pA)(hA:∀K:HK,K.R=rs.length->K.C=Cs.length->K.inp=inp->DT K A rs G)(hlev:∀c,c<Cs.length->A.lev c=(Cs.getD c ([],0)).2)(hnm:∀r c,r<A.n->A.nm r c->c<Cs.length)(zLC:∀S s,jD A S s->∀r,r<rs.length->YH ⟨inp,(List.range Cs.length).map s.has,(List.range Cs.length).map s.val⟩ (jH rs r).1.sum) :
 Calls Tryz.prog 61 #[.pointer (some ⟨b,o,none⟩),.slice ia inp.length ic] w fun e w'=>zJH A rs Cs w w' e:=by
 obtain⟨i0,hi0,hz0,hz1,hz2⟩:=info_parts jk;obtain⟨j0,hj0,hy0,hy1,hy2⟩:=info_parts js;obtain⟨ca,cc,hc0,hc1⟩:=h.con;obtain⟨ra,rc,hr0,hr1⟩:=h.rul;have hf1:=h.few1;have hf2:=h.few2;have hbl:=yF hc0;have nb:w.heap.size≠b:=by omega
 have HMd:Hid (∀wr,Below w.heap.size w wr->Kr wr ⟨0,b,o,ia,ic,inp,rs.length,Cs.length,0,0,0,0,0,0,0,0,0,0,fun _=>[],fun _=>[]⟩ rs G):=fun wr hb=>(Kr.mk (w:=w) (K:=⟨0,b,o,ia,ic,inp,rs.length,Cs.length,0,0,0,0,0,0,0,0,0,0,fun _=>[],fun _=>[]⟩) ⟨ra,rc,hr0,hr1⟩ h.rows h.gr h.inp rfl).below hb;have HMk:Hid (∀K:HK,K.b=b->K.o=o->K.ia=ia->K.inp=inp->K.R=rs.length->Kr w K rs G):=fun K e1 e2 e3 e4 e5=>⟨⟨ra,rc,by rw[e1,e2];exact hr0,hr1⟩,h.rows,by rw[e1,e2];exact h.gr,by rw[e3,e4];exact h.inp,e5.symm⟩;have HCr:Hid (∀wr,Below w.heap.size w wr->wr.cell? ⟨b,o+2,none⟩=some (.slice ra rs.length rc)/\wr.cell? ⟨b,o+1,none⟩=some (.slice ca Cs.length cc)):=fun wr hb=>⟨by rw[hb.cell (p:=⟨b,o+2,none⟩) (yF hr0)];exact hr0,by rw[hb.cell (p:=⟨b,o+1,none⟩) (yF hc0)];exact hc0⟩;have HRul:Hid (∀wr,Below w.heap.size w wr->∀i,i<rs.length->∃g,ra=some ⟨g,0,none⟩/\(wr.cell? ⟨g,i*5,none⟩=some (.string ⟨(jH rs i).1.label.toArray⟩)/\wr.cell? ⟨g,i*5+1,none⟩=some (.int .i64 (jH rs i).1.conc)/\wr.cell? ⟨g,i*5+2,none⟩=some (jH rs i).2.1/\wr.cell? ⟨g,i*5+3,none⟩=some (jH rs i).2.2/\wr.cell? ⟨g,i*5+4,none⟩=some (.int .i64 (jH rs i).1.root))/\uL wr (jH rs i)):=fun wr hb i hi=>(HMd.out wr hb).rule ((HCr.out wr hb).1) hi
 have HCon:Hid (∀wr,Below w.heap.size w wr->∀i,i<Cs.length->∃g,ca=some ⟨g,0,none⟩/\wr.cell? ⟨g,i*2,none⟩=some (.string ⟨(Cs.getD i ([],0)).1.toArray⟩)/\wr.cell? ⟨g,i*2+1,none⟩=some (.int .i64 ((Cs.getD i ([],0)).2:Nat))):=fun wr hb i hi=>by
  obtain⟨p1,p2⟩:=zED Cs i hi;obtain⟨g,e,q1⟩:=(hc1.below hb).cel.at p1;obtain⟨g',e',q2⟩:=(hc1.below hb).cel.at p2;subst e;obtain rfl:g=g':=by simpa using e'
  exact⟨g,rfl,q1,q2⟩
 have HA:=zA hA;have HLev:=zA hlev;have HNm:=zA hnm;have HOk:=zA zLC;clear HMd hA hlev hnm zLC h;have HRs:Hid (∀ {wx:World} {gH gV:Nat} {vv nv:Value},ZA w wx b o (.slice ia inp.length ic) rs.length Cs.length gH gV vv nv->wx.ownsRow w.heap.size 51 2 vv rs.length (Fb rs rs.length)->wx.ownsRow w.heap.size 55 3 nv Cs.length (zBJ Cs Cs.length)->∃gD cD gN cN,vv=.slice (some ⟨gD,0,none⟩) rs.length cD/\nv=.slice (some ⟨gN,0,none⟩) Cs.length cN/\w.heap.size<=gD/\w.heap.size<=gN/\xF wx ⟨w.heap.size+1+1,b,o,ia,ic,inp,rs.length,Cs.length,gH,Cs.length,gV,Cs.length,w.heap.size+1,rs.length,gD,cD,gN,cN,fun r=>(jH rs r).1.label,fun c=>(Cs.getD c ([],0)).1⟩ h0):=fun h hv hn=>h.hear hv hn hR hC hf1 hf2;generalize hRn:rs.length=R at *;generalize hCn:Cs.length=C at *;have hmA:=run_make_row' (P:=Tryz.prog) 166 4 (.bool false) 1 Tryz.underlying166 dA rfl .i64 .i64 R (by omega) (by omega);have hmH:=run_make_row' (P:=Tryz.prog) 166 4 (.bool false) 1 Tryz.underlying166 dA rfl .i64 .i64 C (by omega) (by omega);have hmV:=run_make_row' (P:=Tryz.prog) 22 3 (.int .i64 0) 8 Tryz.underlying22 fZ rfl .i64 .i64 C (by omega) (by omega);rw[cU]at hmA hmH;rw[sF]at hmV;clear hc1 hr1
 go_enter Tryz.func61,Tryz.ntmps61
 go_upto_region 3 with fail
 obtain⟨w3,hw3⟩:∃w3,w3=((w.alloc (Obj.cells #[Value.slice none 0 0,Value.slice none 0 0] 113)).alloc (Obj.cells (gC (List.replicate R false)) 4)).alloc (Obj.cells #[Value.pointer (some ⟨b,o,none⟩),Value.slice none 0 0,Value.slice none 0 0,Value.slice none 0 0,Value.slice (some ⟨w.heap.size+1,0,none⟩) R R,Value.slice none 0 0,Value.slice none 0 0] 206):=⟨_,rfl⟩;rw[<-hw3];have x0:w3.heap[w.heap.size]? = some (Obj.cells #[Value.slice none 0 0,Value.slice none 0 0] 113):=by rw[hw3];exact zS (zS (zG _ _))
 have x1:w3.heap[w.heap.size+1]? = some (Obj.cells (gC (List.replicate R false)) 4):=by rw[hw3];exact zS (yS _ _ _ (by simp))
 have x2:w3.heap[w.heap.size+1+1]? = some (Obj.cells #[Value.pointer (some ⟨b,o,none⟩),Value.slice none 0 0,Value.slice none 0 0,Value.slice none 0 0,Value.slice (some ⟨w.heap.size+1,0,none⟩) R R,Value.slice none 0 0,Value.slice none 0 0] 206):=by rw[hw3];exact yS _ _ _ (by simp)
 have hs3:w3.heap.size=w.heap.size+1+1+1:=by rw[hw3];simp
 have HB3:Hid (Below w.heap.size w w3):=by unfold Hid;rw[hw3];exact((gb (j1 _) _).alloc (by simp) _).alloc (by simp;omega) _
 have l2:w.heap.size+1+1<w3.heap.size:=by omega
 have HQ:Hid (∀A B:Obj,((w3.alloc A).alloc B).heap[w.heap.size+1+1]? = some (Obj.cells #[Value.pointer (some ⟨b,o,none⟩),Value.slice none 0 0,Value.slice none 0 0,Value.slice none 0 0,Value.slice (some ⟨w.heap.size+1,0,none⟩) R R,Value.slice none 0 0,Value.slice none 0 0] 206)):=fun A B=>zS (zS x2);have f21:∀A B:Obj,((w3.alloc A).alloc B).frozen? ⟨w.heap.size+1+1,1,none⟩=false:=fun A B=>by simp[World.frozen?,HQ.out A B]
 have f22:∀A B:Obj,((w3.alloc A).alloc B).frozen? ⟨w.heap.size+1+1,2,none⟩=false:=fun A B=>by simp[World.frozen?,HQ.out A B]
 have f23:∀A B:Obj,((w3.alloc A).alloc B).frozen? ⟨w.heap.size+1+1,3,none⟩=false:=fun A B=>by simp[World.frozen?,HQ.out A B]
 have c21:∀A B:Obj,((w3.alloc A).alloc B).cell? ⟨w.heap.size+1+1,1,none⟩=some (.slice none 0 0):=fun A B=>(zB (HQ.out A B) 1).trans rfl;have c22:∀A B:Obj,((w3.alloc A).alloc B).cell? ⟨w.heap.size+1+1,2,none⟩=some (.slice none 0 0):=fun A B=>(zB (HQ.out A B) 2).trans rfl;have c23:∀A B:Obj,((w3.alloc A).alloc B).cell? ⟨w.heap.size+1+1,3,none⟩=some (.slice none 0 0):=fun A B=>(zB (HQ.out A B) 3).trans rfl;clear hw3 hs3;have HX0:=zA x0;have HX1:=zA x1;have HX2:=zA x2
 go_cut [6] from 27 to 97 (fun v6 wx=>v6=.pointer (some ⟨w.heap.size+1+1,0,none⟩)/\∃gH gV,Hid (ZA w wx b o (.slice ia inp.length ic) R C gH gV (.slice none 0 0) (.slice none 0 0)))
 case first =>
  go_region
  all_goals
   go_wp2_with fail
   go_meet
  ·exact⟨rfl,w3.heap.size,w3.heap.size+1,zA (ZA.fresh HX0.out HX1.out HX2.out HB3.out ((gb (j1 _) _).alloc (by simp) _) (zS (zG _ _)) (yS _ _ _ (by simp)) (by omega) (by omega) (by omega))⟩
  ·exact⟨rfl,w3.heap.size+1,w3.heap.size,zA (ZA.fresh HX0.out HX1.out HX2.out HB3.out ((gb (j1 _) _).alloc (by simp) _) (yS _ _ _ (by simp)) (zS (zG _ _)) (by omega) (by omega) (by omega))⟩
 case rest =>
  obtain⟨rfl,gH,gV,HS⟩:=hcut;clear HX0 HX1 HX2 HB3 x0 x1 x2 l2 HQ f21 f22 f23 c21 c22 c23 hmA hmH hmV;obtain⟨m1,m2⟩:=HCr.out wc HS.out.bel;go_wp2_with fail
  go_loopw [39] (fun iv wr=>∃(i:Nat) (vv:Value),i<=R/\iv=.int .i64 i/\Hid (ZA w wr b o (.slice ia inp.length ic) R C gH gV vv (.slice none 0 0))/\Hid (wr.ownsRow w.heap.size 51 2 vv i (Fb rs i))) (fun iv _=>R-(intOf iv).toNat)
  case atStart=>exact⟨0,_,p7 _,rfl,HS,zA (ly _ _ _ _)⟩
  case round =>
   obtain⟨i,vv,hi,rfl,HSr,HOv⟩:=hrel;by_cases zKZ:i<R
   ·obtain⟨g,rfl,⟨r0,r1,r2,r3,r4⟩,hmr⟩:=HRul.out wr HSr.out.bel i zKZ
    obtain⟨sa,sc,e1,-⟩:=hmr.sum;obtain⟨na,nc,e2,-⟩:=hmr.guard;rw[e1]at r2;rw[e2]at r3;have hltI:(i:Int)<(R:Int):=by omega
    have HVs:=zA (yq rs i);have lg:=yF r0;have hd:=HSr.out.hd;unfold jx at hd;have d5:wr.cell? ⟨w.heap.size+1+1,5,none⟩=some vv:=(zB hd 5).trans rfl;have lhb:=yF d5;have nhb:wr.heap.size≠w.heap.size+1+1:=by omega
    have zL8:=HSr.out.bel.size;obtain⟨va,vc,rfl,-⟩:=vR HOv.out;clear hmr e1 e2 hd;generalize (jH rs i).1.label=lb at *;generalize (jH rs i).1.conc=cn at *;generalize (jH rs i).1.sum.length=sn at *;generalize (jH rs i).1.guard.length=nn at *;generalize (jH rs i).1.root=ro at *
    go_wp2_with (at_builtin;refine wpList_append_own _ rfl _ _ 39 rfl w.heap.size 51 i0 _ 2 24 Tryz.underlying39 hi0 hz0 hz1 hz2 rfl (by decide) _ _ _ rfl ((HOv.out.alloc _).alloc _) ⟨wr.heap.size+1,0,none⟩ 1 1 [.string ⟨lb.toArray⟩,.int .i64 0] rfl rfl ?c1 ?c2 ?c3 ?c4 ?c5 ?_)
    case c1=>exact qT _ _ _ _ rfl (by simp)
    case c2=>simp[Value.oneCell']
    case c3=>unfold maxLen;omega
    case c4=>omega
    case c5=>simp;omega
    intro v' w2 zLG hgrow2 _;have hS2:=(HSr.out.below ((gb (j1 _) _).alloc (by simp) _)).grown ((HOv.out.alloc _).alloc _) (j1 _) (by decide) (by decide) (by decide) (by decide) hgrow2;obtain⟨va',vc',rfl,-⟩:=vR zLG;have hd2:=hS2.hd;unfold jx at hd2;have HO2:Hid ((w2.setCell ⟨w.heap.size+1+1,5,none⟩ (.slice va' (i+1) vc')).ownsRow w.heap.size 51 2 (.slice va' (i+1) vc') (i+1) (Fb rs (i+1))):=by unfold Hid;rw[HVs.out];exact Ze zLG hd2 (by decide)
    have HS2:=zA (hS2.set5 (.slice va' (i+1) vc'));have d52:w2.cell? ⟨w.heap.size+1+1,5,none⟩=some (.slice va i vc):=(zB hd2 5).trans rfl;have f52:w2.frozen? ⟨w.heap.size+1+1,5,none⟩=false:=by simp[World.frozen?,hd2]
    clear zLG hgrow2 hS2 hd2 HVs;go_wp2_with fail
    go_roundw
    case rel=>exact⟨i+1,_,by omega,by go_num,HS2,HO2⟩
    case measure=>simp[intOf];omega
   ·obtain rfl:R=i:=by omega
    have hiN:¬((R:Int)<(R:Int)):=by omega
    obtain⟨w7,hw7⟩:∃w7,w7=wr:=⟨_,rfl⟩;rw[<-hw7]at HSr HOv ⊢;clear hw7;obtain⟨q1,q2⟩:=HCr.out w7 HSr.out.bel;go_wp2_with fail
    go_loopw [59] (fun iv wr=>∃(i:Nat) (nv:Value),i<=C/\iv=.int .i64 i/\Hid (ZA w wr b o (.slice ia inp.length ic) R C gH gV vv nv)/\Hid (wr.ownsRow w.heap.size 51 2 vv R (Fb rs R))/\Hid (wr.ownsRow w.heap.size 55 3 nv i (zBJ Cs i))) (fun iv _=>C-(intOf iv).toNat)
    case atStart=>exact⟨0,_,p7 _,rfl,HSr,HOv,zA (ly _ _ _ _)⟩
    case round =>
     obtain⟨i,nv,hi,rfl,HSs,HOs,HOn⟩:=hrel;by_cases zKZ:i<C
     ·obtain⟨g,rfl,r0,r1⟩:=HCon.out wr HSs.out.bel i zKZ
      have hltI:(i:Int)<(C:Int):=by omega
      have HVs:=zA (zBI Cs i);have lg:=yF r0;have hd:=HSs.out.hd;unfold jx at hd;have d6:wr.cell? ⟨w.heap.size+1+1,6,none⟩=some nv:=(zB hd 6).trans rfl;have lhb:=yF d6;have nhb:wr.heap.size≠w.heap.size+1+1:=by omega
      have zL8:=HSs.out.bel.size;obtain⟨va,vc,rfl,-⟩:=vR HOn.out;clear hd;generalize (Cs.getD i ([],0)).1=lb at *;generalize (Cs.getD i ([],0)).2=lv at *
      go_wp2_with (at_builtin;refine wpList_append_own _ rfl _ _ 35 rfl w.heap.size 55 j0 _ 3 32 Tryz.underlying35 hj0 hy0 hy1 hy2 rfl (by decide) _ _ _ rfl ((HOn.out.alloc _).alloc _) ⟨wr.heap.size+1,0,none⟩ 1 1 [.string ⟨lb.toArray⟩,.int .i64 0,.int .i64 0] rfl rfl ?c1 ?c2 ?c3 ?c4 ?c5 ?_)
      case c1=>exact qT _ _ _ _ rfl (by simp)
      case c2=>simp[Value.oneCell']
      case c3=>unfold maxLen;omega
      case c4=>omega
      case c5=>simp;omega
      intro v' w2 zLG hgrow2 _;have hS2:=(HSs.out.below ((gb (j1 _) _).alloc (by simp) _)).grown ((HOn.out.alloc _).alloc _) (j1 _) (by decide) (by decide) (by decide) (by decide) hgrow2;have hv2:=aQ ((HOs.out.alloc _).alloc _) ((HOn.out.alloc _).alloc _) (by decide) hgrow2;obtain⟨va',vc',rfl,-⟩:=vR zLG;have hd2:=hS2.hd;unfold jx at hd2;have HO2:Hid ((w2.setCell ⟨w.heap.size+1+1,6,none⟩ (.slice va' (i+1) vc')).ownsRow w.heap.size 55 3 (.slice va' (i+1) vc') (i+1) (zBJ Cs (i+1))):=by unfold Hid;rw[HVs.out];exact Ze zLG hd2 (by decide)
      have HV2:Hid ((w2.setCell ⟨w.heap.size+1+1,6,none⟩ (.slice va' (i+1) vc')).ownsRow w.heap.size 51 2 vv R (Fb rs R)):=Ze hv2 hd2 (by decide);have HS2:=zA (hS2.set6 (.slice va' (i+1) vc'));have d62:w2.cell? ⟨w.heap.size+1+1,6,none⟩=some (.slice va i vc):=(zB hd2 6).trans rfl;have f62:w2.frozen? ⟨w.heap.size+1+1,6,none⟩=false:=by simp[World.frozen?,hd2]
      clear zLG hgrow2 hS2 hd2 HVs hv2;go_wp2_with fail
      go_roundw
      case rel=>exact⟨i+1,_,by omega,by go_num,HS2,HV2,HO2⟩
      case measure=>simp[intOf];omega
     ·obtain rfl:C=i:=by omega
      have hiN2:¬((C:Int)<(C:Int)):=by omega
      obtain⟨w8,hw8⟩:∃w8,w8=wr:=⟨_,rfl⟩;rw[<-hw8]at HSs HOs HOn ⊢;clear hw8 HSr HOv;obtain⟨gD,cD,gN,cN,rfl,rfl,hgD,hgN,hM⟩:=HRs.out HSs.out HOs.out HOn.out;have HBa:=zA HSs.out.base;have hgh:=HSs.out.gh;have hgv:=HSs.out.gv
      have hgD1:w.heap.size+1<=gD:=by
       obtain⟨_,kD,_⟩:=hM.rD;have:w.heap.size≠gD:=bI HSs.out.res kD (by decide);omega
      have hgN1:w.heap.size+1<=gN:=by
       obtain⟨_,kN,_⟩:=hM.rN;have:w.heap.size≠gN:=bI HSs.out.res kN (by decide);omega
      generalize hKK:(⟨w.heap.size+1+1,b,o,ia,ic,inp,R,C,gH,C,gV,C,w.heap.size+1,R,gD,cD,gN,cN,fun r=>(jH rs r).1.label,fun c=>(Cs.getD c ([],0)).1⟩:HK)=K at hM;have KE:Hid (K.hb=w.heap.size+1+1/\K.R=R/\K.C=C/\K.gD=gD/\K.cD=cD/\K.gN=gN/\K.cN=cN/\K.gH=gH/\K.gV=gV/\K.gA=w.heap.size+1/\K.b=b/\K.o=o/\K.ia=ia/\K.inp=inp/\(∀r,K.lab r=(jH rs r).1.label)/\(∀c,K.nam c=(Cs.getD c ([],0)).1)):=by rw[<-hKK];exact⟨rfl,rfl,rfl,rfl,rfl,rfl,rfl,rfl,rfl,rfl,rfl,rfl,rfl,rfl,fun _=>rfl,fun _=>rfl⟩
      have HM0:=zA hM;obtain⟨w1,hw1⟩:∃w1,w1=w.alloc (.cells #[.slice none 0 0,.slice none 0 0] 113 (0,0)):=⟨_,rfl⟩;have hs1:w1.heap.size=w.heap.size+1:=by rw[hw1];simp
      have HB01:Hid (Below w.heap.size w w1):=by unfold Hid;rw[hw1];exact gb (j1 _) _
      have HR1:Hid (w1.heap[w.heap.size]? = some (.cells #[.slice none 0 0,.slice none 0 0] 113 (0,0))):=by unfold Hid;rw[hw1];exact zG _ _
      rw[<-hw1]at HBa;clear hw1 hKK hM HSs HOs HOn
      have HSet:Hid (∀(wr:World) (s:vV) (c:Nat),Below w1.heap.size w1 wr->xF wr K s->(∃S,jD A S s)->c<C->Calls Tryz.prog 88 #[.pointer (some ⟨w.heap.size+1+1,0,none⟩),.int .i64 (c:Int)] wr fun e w'=>e=.returned (.tuple #[])/\xF w' K (uD A c s)/\Below w1.heap.size w1 w'):=fun wr s c hb hk ⟨S,hS⟩ hc=>by
       obtain⟨k1,k2,k3,k4,k5,k6,k7,k8,k9,k10,k11,k12,k13,k14,k15,k16⟩:=KE.out;have hMd:=(HMk.out K k11 k12 k13 k14 (by rw[k2])).below HB01.out
       have:=vy w1 wr K A rs G s c hb hMd (HA.out K (by rw[k2]) (by rw[k3]) k14) hk ⟨by rw[k8,hs1];omega,by rw[k9,hs1];omega,by rw[k10,hs1];exact j1 _,by rw[k4,hs1];exact hgD1,by rw[k6,hs1];exact hgN1⟩ (by rw[k3];exact hc) (fun r hr=>by
        have:=HOk.out S s hS r (by rw[k2]at hr;exact hr);unfold Zb;rw[k3,k14];exact this)
       rw[k1]at this;exact this
      have zLJ:Hid (∀wr,Below w1.heap.size w1 wr->Below w.heap.size w wr):=fun wr hb=>HB01.out.trans (hb.mono HB01.out.size);clear HRul HRs HMk HA HOk;go_wp2_with fail
      go_loopw [11] (fun lv wr=>∃(l:Nat) (s:vV),l<=C/\lv=.int .i64 l/\Hid (xF wr K s)/\Hid (Below w1.heap.size w1 wr)/\Hid (xH A C (C-l) l s=xH A C C 0 h0)/\Hid (jD A (fun x=>x<C/\A.lev x<l) s)) (fun lv _=>C-(intOf lv).toNat)
      case atStart=>exact⟨0,h0,p7 _,rfl,HM0,HBa,zA rfl,zA ((zGK A).same fun x=>⟨False.elim,fun hx=>by omega⟩)⟩
      case round =>
       obtain⟨l,s,hl,rfl,HKr,zLI,HE,HHo⟩:=hrel;by_cases zKZ:l<C
       ·obtain⟨wo,hwo⟩:∃wo,wo=wr:=⟨_,rfl⟩
        rw[<-hwo]at HKr zLI ⊢;clear hwo;obtain⟨-,u2⟩:=HCr.out wo (zLJ.out wo zLI.out);have hltL:(l:Int)<(C:Int):=by omega
        go_wp2_with fail
        go_loopw [84] (fun iv wr=>∃(i:Nat) (t:vV),i<=C/\iv=.int .i64 i/\Hid (xF wr K t)/\Hid (Below w1.heap.size w1 wr)/\Hid (bE A C l (C-i) i t=bE A C l C 0 s)/\Hid (jD A (fun x=>x<C/\(A.lev x<l\/A.lev x=l/\x<i)) t)) (fun iv _=>C-(intOf iv).toNat)
        case atStart=>exact⟨0,s,p7 _,rfl,HKr,zLI,zA rfl,zA (HHo.out.same fun x=>by constructor <;> intro hx <;> omega)⟩
        case round =>
         obtain⟨i,t,hi,rfl,HKi,HBi,HEi,HHi⟩:=hrel;by_cases hli:i<C
         ·obtain⟨g,rfl,r0,r1⟩:=HCon.out wr (zLJ.out wr HBi.out) i hli
          rw[<-HLev.out i hli]at r1;have hltI:(i:Int)<(C:Int):=by omega
          have lg:=yF r0
          have HE2:Hid (bE A C l (C-(i+1)) (i+1) (if A.lev i=l then uD A i t else t)=bE A C l C 0 s):=by
           have:=HEi.out;rw[show C-i=(C-(i+1))+1 by omega,BJ]at this;exact this
          have HH2:=zA (zDR A C l i HNm.out hli HHi.out);have HSi:Hid (∀ob,Calls Tryz.prog 88 #[.pointer (some ⟨w.heap.size+1+1,0,none⟩),.int .i64 (i:Int)] (wr.alloc ob) fun e w'=>e=.returned (.tuple #[])/\xF w' K (uD A i t)/\Below w1.heap.size w1 w'):=fun ob=>HSet.out (wr.alloc ob) t i (HBi.out.alloc HBi.out.size ob) (HKi.out.below (gb (j1 _) ob)) ⟨_,HHi.out⟩ hli;have HNo:Hid (∀ob,xF (wr.alloc ob) K t/\Below w1.heap.size w1 (wr.alloc ob)):=fun ob=>⟨HKi.out.below (gb (j1 _) ob),HBi.out.alloc HBi.out.size ob⟩;clear HEi HHi;generalize (Cs.getD i ([],0)).1=lb at *;by_cases hll:A.lev i=l
          ·rw[tl hll]at HE2 HH2
           have b1:((A.lev i:Int)==(l:Int))=true:=by rw[hll];simp
           clear hll HNo;go_wp2_with fail
           refine(HSi.out _).mono ?_;rintro e w5 ⟨rfl,hk5,hb5⟩;have HK5:=zA hk5;have HB5:=zA hb5;clear hk5 hb5;go_wp2_with fail
           go_roundw
           case rel=>exact⟨i+1,_,by omega,by go_num,HK5,HB5,HE2,HH2⟩
           case measure=>simp[intOf];omega
          ·rw[tb hll]at HE2 HH2
           have b1:((A.lev i:Int)==(l:Int))=false:=by rw[mq];omega
           clear hll HSi;go_wp2_with fail
           go_roundw
           case rel=>exact⟨i+1,t,by omega,by go_num,zA (HNo.out _).1,zA (HNo.out _).2,HE2,HH2⟩
           case measure=>simp[intOf];omega
         ·obtain rfl:C=i:=by omega
          have hiN3:¬((C:Int)<(C:Int)):=by omega
          have HEt:Hid (t=bE A C l C 0 s):=by have:=HEi.out;rw[fm]at this;exact this
          have HEn:Hid (xH A C (C-(l+1)) (l+1) t=xH A C C 0 h0):=by
           have:=HE.out;rw[show C-l=(C-(l+1))+1 by omega,Vx,<-HEt.out]at this;exact this
          have HHn:Hid (jD A (fun x=>x<C/\A.lev x<l+1) t):=HHi.out.same fun x=>by constructor <;> intro hx <;> omega
          go_wp2_with fail
          go_roundw
          case rel=>exact⟨l+1,t,by omega,by go_num,HKi,HBi,HEn,HHn⟩
          case measure=>simp[intOf];omega
       ·obtain rfl:C=l:=by omega
        have hiN4:¬((C:Int)<(C:Int)):=by omega
        have HEs:Hid (s=xH A C C 0 h0):=by have:=HE.out;rw[fm]at this;exact this
        obtain⟨k1,k2,k3,k4,k5,k6,k7,k8,k9,k10,k11,k12,k13,k14,k15,k16⟩:=KE.out;obtain⟨-,-,-,-,-,s5,s6⟩:=HKr.out.cells;rw[k1,k2,k4,k5]at s5;rw[k1,k3,k6,k7]at s6;have hres:wr.heap[w.heap.size]? = some (.cells #[.slice none 0 0,.slice none 0 0] 113 (0,0)):=by rw[zLI.out.block _ (by omega)];exact HR1.out
        have HFm:Hid (∀j v j' v',xF ((wr.setCell ⟨w.heap.size,j,none⟩ v).setCell ⟨w.heap.size,j',none⟩ v') K s):=fun j v j' v'=>(HKr.out.outer v (by rw[k1];omega) (by rw[k8];omega) (by rw[k9];omega) (by rw[k10];omega) (by rw[k4];omega) (by rw[k6];omega)).outer v' (by rw[k1];omega) (by rw[k8];omega) (by rw[k9];omega) (by rw[k10];omega) (by rw[k4];omega) (by rw[k6];omega);have HFb:Hid (∀j v j' v',Below w.heap.size w ((wr.setCell ⟨w.heap.size,j,none⟩ v).setCell ⟨w.heap.size,j',none⟩ v')):=fun j v j' v'=>((zLJ.out wr zLI.out).setCell (by simp) v).setCell (by simp) v'
        have HFr:Hid (∀v v',((wr.setCell ⟨w.heap.size,0,none⟩ v).setCell ⟨w.heap.size,1,none⟩ v').heap[w.heap.size]? = some (.cells #[v,v'] 113 (0,0))):=fun v v'=>by
         have z1:=tr wr _ 0 _ _ v hres;have z2:=tr _ _ 1 _ _ v' z1;rw[z2];simp
        have z0:wr.cell? ⟨w.heap.size,0,none⟩=some (.slice none 0 0):=(zB hres 0).trans rfl;have z1:wr.cell? ⟨w.heap.size,1,none⟩=some (.slice none 0 0):=(zB hres 1).trans rfl;have y0:wr.frozen? ⟨w.heap.size,0,none⟩=false:=by simp[World.frozen?,hres]
        have y1:wr.frozen? ⟨w.heap.size,1,none⟩=false:=by simp[World.frozen?,hres]
        clear hres HKr zLI HE HHo HSet HM0 HBa;go_wp2_with fail
        have q0:=HFr.out (.slice (some ⟨gD,0,none⟩) R cD) (.slice (some ⟨gN,0,none⟩) C cN);refine pe (v:=.agg #[.slice (some ⟨gD,0,none⟩) R cD,.slice (some ⟨gN,0,none⟩) C cN]) (results_cell_row Tryz.results61 _ _ w.heap.size 113 #[.slice (some ⟨gD,0,none⟩) R cD,.slice (some ⟨gN,0,none⟩) C cN] (0,0) _ rfl q0 Tryz.underlying113 rfl V9) rfl ⟨K,k15,k16,by rw[hRn];exact k2,by rw[hCn];exact k3,by rw[k2,k3,k4,k5,k6,k7],?_,HFb.out _ _ _ _⟩;rw[hCn,<-HEs.out];exact HFm.out _ _ _ _
end Go.Proofs.YtnbpdffdnphbeabGreatDoor
