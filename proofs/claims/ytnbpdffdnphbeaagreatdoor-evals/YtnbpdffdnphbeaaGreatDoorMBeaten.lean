import Derived.Test.YtnbpdffdnphbeaaGreatDoorPMod
set_option maxHeartbeats 8000000
set_option maxRecDepth 100000
namespace Go.Proofs.YtnbpdffdnphbeaaGreatDoor
open Go.RowKit
def eU(G:List Bool)(lower:Int):List Bool->Nat->Bool
 | [],_=>false
 | x::r,i=>(x&&XE G (i:Int) lower) || eU G lower r (i+1)
def Yg(G:List Bool)(ap:List Bool)(lower:Int):Bool:=eU G lower ap 0
theorem Cc(G:List Bool)(lower:Int)(l:List Bool)(i:Nat)(h:i<l.length):eU G lower (l.drop i) i=((l.getD i false&&XE G (i:Int) lower) || eU G lower (l.drop (i+1)) (i+1)):=by
 rw[List.drop_eq_getElem_cons h,eU];simp[List.getD,h]
theorem B9(w:World)(hb b o:Nat)(aa:Option Addr)(ac:Nat)(ap G:List Bool)(lower:Int)(h0:w.cell? ⟨hb,0,none⟩=some (.pointer (some ⟨b,o,none⟩)))(h4:w.cell? ⟨hb,4,none⟩=some (.slice aa ap.length ac))(ha:fS w aa ap)(hg:zD3 w b (o+3) G) :
 Calls Tryz.prog 228 #[.pointer (some ⟨hb,0,none⟩),.int .i64 lower] w fun e w'=>e=.returned (.bool (Yg G ap lower))/\w'=w:=by
 have HA:=zA ha;have hf:=ha.few;have HS:=zA (fun x=>Qu w b o G x lower hg);clear ha hg
 go_enter Tryz.func228,Tryz.ntmps228
 go_wp2_with fail
 go_loop [12] (fun iv=>∃(i:Nat),i<=ap.length/\iv=.int .i64 i/\Hid (eU G lower (ap.drop i) i=Yg G ap lower)) (fun iv=>ap.length-(intOf iv).toNat)
 case atStart=>exact⟨0,Nat.zero_le _,rfl,zA rfl⟩
 case round =>
  obtain⟨i,hi,rfl,HE⟩:=hrel;by_cases zFY:i<ap.length
  ·obtain⟨g,rfl,c⟩:=HA.out.at zFY
   have hE:=HE.out;rw[Cc G lower ap i zFY]at hE;have HE2:=zA hE;have HS1:=zA (HS.out (i:Int));clear HE hE;generalize ap.getD i false=x at *;generalize XE G (i:Int) lower=z at *;cases x
   ·have HE3:Hid (eU G lower (ap.drop (i+1)) (i+1)=Yg G ap lower):=by have:=HE2.out;simpa[Hid] using this
    go_wp2_with fail
    go_round
    case rel=>exact⟨i+1,by omega,by go_num,HE3⟩
    case measure=>simp[intOf];omega
   ·cases z
    ·have HE3:Hid (eU G lower (ap.drop (i+1)) (i+1)=Yg G ap lower):=by have:=HE2.out;simpa[Hid] using this
     go_wp2_with fail
     refine HS1.out.mono ?_;rintro e w' ⟨rfl,hw⟩;obtain rfl:=hw.symm;go_wp2_with fail
     go_round
     case rel=>exact⟨i+1,by omega,by go_num,HE3⟩
     case measure=>simp[intOf];omega
    ·have HE3:Hid (Yg G ap lower=true):=by have:=HE2.out;simpa[Hid] using this.symm
     go_wp2_with fail
     refine HS1.out.mono ?_;rintro e w' ⟨rfl,hw⟩;obtain rfl:=hw.symm;go_wp2_with fail
     go_ret
     exact⟨zE HE3.out.symm,rfl⟩
  ·have HE3:Hid (Yg G ap lower=false):=by have:=HE.out;rw[List.drop_eq_nil_of_le (by omega)]at this;exact this.symm
   clear HE;go_wp2_with fail
   go_ret
   exact⟨zE HE3.out.symm,rfl⟩
def tI(w:World)(g:Nat)(t:TypeId)(n:Nat)(f:Nat->Value):Prop:=∃cs,w.heap[g]? = some (.cells cs t (0,0))/\∀j,j<n->cs[j]? = some (f j)
theorem tI.cell{w:World}{g:Nat}{t:TypeId}{n:Nat}{f:Nat->Value}(h:tI w g t n f){j:Nat}(hj:j<n):w.cell? ⟨g,j,none⟩=some (f j):=by
 obtain⟨cs,h1,h2⟩:=h;exact(zF h1 j).trans (h2 j hj)
theorem tI.free{w:World}{g:Nat}{t:TypeId}{n:Nat}{f:Nat->Value}(h:tI w g t n f)(j:Nat):w.frozen? ⟨g,j,none⟩=false:=by
 obtain⟨cs,h1,_⟩:=h;simp[World.frozen?,h1]
theorem tI.lt{w:World}{g:Nat}{t:TypeId}{n:Nat}{f:Nat->Value}(h:tI w g t n f):g<w.heap.size:=by
 obtain⟨cs,h1,_⟩:=h;exact yD h1
theorem tI.below{w w':World}{g:Nat}{t:TypeId}{n:Nat}{f:Nat->Value}(h:tI w g t n f)(hb:Below w.heap.size w w'):tI w' g t n f:=by
 obtain⟨cs,h1,h2⟩:=h;exact⟨cs,by rw[hb.block g (yD h1)];exact h1,h2⟩
theorem tI.other{w:World}{g:Nat}{t:TypeId}{n:Nat}{f:Nat->Value}(h:tI w g t n f){g' j:Nat}(v:Value)(zG7:g≠g'):tI (w.setCell ⟨g',j,none⟩ v) g t n f:=by
 obtain⟨cs,h1,h2⟩:=h;exact⟨cs,by rw[heap_setCell_other w ⟨g',j,none⟩ g v zG7];exact h1,h2⟩
theorem tI.set{w:World}{g:Nat}{t:TypeId}{n:Nat}{f f':Nat->Value}(h:tI w g t n f){j:Nat}(v:Value)(hj:j<n)(e1:f' j=v)(e2:∀x,x<n->x≠j->f' x=f x):tI (w.setCell ⟨g,j,none⟩ v) g t n f':=by
 obtain⟨cs,h1,h2⟩:=h
 have zG8:j<cs.size:=by
  rcases Nat.lt_or_ge j cs.size with h3|h3
  ·exact h3
  ·have:=h2 j hj;rw[Array.getElem?_eq_none h3]at this;cases this
 refine⟨_,heap_setCell_same w g j cs t v h1,fun x hx=>?_⟩;by_cases hxj:x=j
 ·subst hxj;rw[e1];simp[zG8]
 ·rw[e2 x hx hxj,Array.getElem?_setIfInBounds,if_neg (fun e=>hxj e.symm)];exact h2 x hx
theorem tI.cel{w:World}{g:Nat}{t:TypeId}{n:Nat}{f:Nat->Value}(h:tI w g t n f):dC w (some ⟨g,0,none⟩) ((List.range n).map f):=by
 right
 refine⟨g,rfl,fun j hj=>?_⟩;have hj':j<n:=by simpa using hj
 rw[h.cell hj'];simp[hj']
structure HK where
 hb:Nat
 b:Nat
 o:Nat
 ia:Option Addr
 ic:Nat
 inp:List Int
 R:Nat
 C:Nat
 gH:Nat
 cH:Nat
 gV:Nat
 cV:Nat
 gA:Nat
 cA:Nat
 gD:Nat
 cD:Nat
 gN:Nat
 cN:Nat
 lab:Nat->Bs
 nam:Nat->Bs
def hgO(K:HK):Obj:=.cells #[.pointer (some ⟨K.b,K.o,none⟩),.slice K.ia K.inp.length K.ic,.slice (some ⟨K.gH,0,none⟩) K.C K.cH,.slice (some ⟨K.gV,0,none⟩) K.C K.cV,.slice (some ⟨K.gA,0,none⟩) K.R K.cA,.slice (some ⟨K.gD,0,none⟩) K.R K.cD,.slice (some ⟨K.gN,0,none⟩) K.C K.cN] 315 (0,0)
def zCN(K:HK)(s:uF)(j:Nat):Value:=if j%2=0 then .string ⟨(K.lab (j/2)).toArray⟩ else .int .i64 (s.vd (j/2))
def ki(K:HK)(s:uF)(j:Nat):Value:=if j%3=0 then .string ⟨(K.nam (j/3)).toArray⟩ else if j%3=1 then .int .i64 (s.st (j/3)) else .int .i64 (s.av (j/3))
structure xU(w:World)(K:HK)(s:uF):Prop where
 hd:w.heap[K.hb]? = some (hgO K)
 rH:tI w K.gH 4 K.C (fun c=>.bool (s.has c))
 rV:tI w K.gV 3 K.C (fun c=>.int .i64 (s.val c))
 rA:tI w K.gA 4 K.R (fun r=>.bool (s.ap r))
 rD:tI w K.gD 124 (2*K.R) (zCN K s)
 rN:tI w K.gN 126 (3*K.C) (ki K s)
 ne:[K.hb,K.gH,K.gV,K.gA,K.gD,K.gN].Nodup
 few1:K.R<=100
 few2:K.C<=100
theorem xU.below{w w':World}{K:HK}{s:uF}(h:xU w K s)(hb:Below w.heap.size w w'):xU w' K s :=
 ⟨by rw[hb.block _ (yD h.hd)];exact h.hd,h.rH.below hb,h.rV.below hb,h.rA.below hb,h.rD.below hb,h.rN.below hb,h.ne,h.few1,h.few2⟩
structure zEZ(K:HK):Prop where
 a1:K.hb≠K.gH
 a2:K.hb≠K.gV
 a3:K.hb≠K.gA
 a4:K.hb≠K.gD
 a5:K.hb≠K.gN
 b1:K.gH≠K.gV
 b2:K.gH≠K.gA
 b3:K.gH≠K.gD
 b4:K.gH≠K.gN
 c1:K.gV≠K.gA
 c2:K.gV≠K.gD
 c3:K.gV≠K.gN
 d1:K.gA≠K.gD
 d2:K.gA≠K.gN
 e1:K.gD≠K.gN
theorem xU.nes{w:World}{K:HK}{s:uF}(h:xU w K s):zEZ K:=by
 have:=h.ne;simp only[List.nodup_cons,List.mem_cons,List.not_mem_nil,or_false,not_or]at this;obtain⟨⟨a1,a2,a3,a4,a5⟩,⟨b1,b2,b3,b4⟩,⟨c1,c2,c3⟩,⟨d1,d2⟩,e1,_⟩:=this;exact⟨a1,a2,a3,a4,a5,b1,b2,b3,b4,c1,c2,c3,d1,d2,e1⟩
theorem xU.setA{w:World}{K:HK}{s:uF}(h:xU w K s){i:Nat}(hi:i<K.R)(v:Bool){f:Nat->Bool}(e1:f i=v)(e2:∀r,r<K.R->r≠i->f r=s.ap r):xU (w.setCell ⟨K.gA,i,none⟩ (.bool v)) K { s with ap:=f }:=by
 have n:=h.nes;exact⟨by rw[heap_setCell_other w ⟨K.gA,i,none⟩ K.hb _ n.a3];exact h.hd,h.rH.other _ n.b2,h.rV.other _ n.c1,h.rA.set _ hi (congrArg Value.bool e1) (fun x hx zG7=>congrArg Value.bool (e2 x hx zG7)),h.rD.other _ n.d1.symm,h.rN.other _ n.d2.symm,h.ne,h.few1,h.few2⟩
theorem xU.setD{w:World}{K:HK}{s:uF}(h:xU w K s){i:Nat}(hi:i<K.R)(v:Int){f:Nat->Int}(e1:f i=v)(e2:∀r,r<K.R->r≠i->f r=s.vd r):xU (w.setCell ⟨K.gD,i*2+1,none⟩ (.int .i64 v)) K { s with vd:=f }:=by
 have n:=h.nes;refine⟨by rw[heap_setCell_other w ⟨K.gD,i*2+1,none⟩ K.hb _ n.a4];exact h.hd,h.rH.other _ n.b3,h.rV.other _ n.c2,h.rA.other _ n.d1,h.rD.set _ (by omega) ?_ (fun x hx zG7=>?_),h.rN.other _ n.e1.symm,h.ne,h.few1,h.few2⟩
 ·unfold zCN;rw[if_neg (by omega),show (i*2+1)/2=i by omega];simp only[e1]
 ·unfold zCN
  by_cases h0:x%2=0
  ·rw[if_pos h0,if_pos h0]
  ·rw[if_neg h0,if_neg h0];simp only[e2 (x/2) (by omega) (by omega)]
theorem xU.setS{w:World}{K:HK}{s:uF}(h:xU w K s){i:Nat}(hi:i<K.C)(v:Int){f:Nat->Int}(e1:f i=v)(e2:∀r,r<K.C->r≠i->f r=s.st r):xU (w.setCell ⟨K.gN,i*3+1,none⟩ (.int .i64 v)) K { s with st:=f }:=by
 have n:=h.nes;refine⟨by rw[heap_setCell_other w ⟨K.gN,i*3+1,none⟩ K.hb _ n.a5];exact h.hd,h.rH.other _ n.b4,h.rV.other _ n.c3,h.rA.other _ n.d2,h.rD.other _ n.e1,h.rN.set _ (by omega) ?_ (fun x hx zG7=>?_),h.ne,h.few1,h.few2⟩
 ·unfold ki;rw[if_neg (by omega),if_pos (by omega),show (i*3+1)/3=i by omega];simp only[e1]
 ·unfold ki
  by_cases h0:x%3=0
  ·rw[if_pos h0,if_pos h0]
  ·rw[if_neg h0,if_neg h0]
   by_cases h1:x%3=1
   ·rw[if_pos h1,if_pos h1];simp only[e2 (x/3) (by omega) (by omega)]
   ·rw[if_neg h1,if_neg h1]
theorem xU.setN{w:World}{K:HK}{s:uF}(h:xU w K s){i:Nat}(hi:i<K.C)(v:Int){f:Nat->Int}(e1:f i=v)(e2:∀r,r<K.C->r≠i->f r=s.av r):xU (w.setCell ⟨K.gN,i*3+2,none⟩ (.int .i64 v)) K { s with av:=f }:=by
 have n:=h.nes;refine⟨by rw[heap_setCell_other w ⟨K.gN,i*3+2,none⟩ K.hb _ n.a5];exact h.hd,h.rH.other _ n.b4,h.rV.other _ n.c3,h.rA.other _ n.d2,h.rD.other _ n.e1,h.rN.set _ (by omega) ?_ (fun x hx zG7=>?_),h.ne,h.few1,h.few2⟩
 ·unfold ki;rw[if_neg (by omega),if_neg (by omega),show (i*3+2)/3=i by omega];simp only[e1]
 ·unfold ki
  by_cases h0:x%3=0
  ·rw[if_pos h0,if_pos h0]
  ·rw[if_neg h0,if_neg h0]
   by_cases h1:x%3=1
   ·rw[if_pos h1,if_pos h1]
   ·rw[if_neg h1,if_neg h1];simp only[e2 (x/3) (by omega) (by omega)]
theorem xU.setH{w:World}{K:HK}{s:uF}(h:xU w K s){i:Nat}(hi:i<K.C)(v:Bool){f:Nat->Bool}(e1:f i=v)(e2:∀r,r<K.C->r≠i->f r=s.has r):xU (w.setCell ⟨K.gH,i,none⟩ (.bool v)) K { s with has:=f }:=by
 have n:=h.nes;exact⟨by rw[heap_setCell_other w ⟨K.gH,i,none⟩ K.hb _ n.a1];exact h.hd,h.rH.set _ hi (congrArg Value.bool e1) (fun x hx zG7=>congrArg Value.bool (e2 x hx zG7)),h.rV.other _ n.b1.symm,h.rA.other _ n.b2.symm,h.rD.other _ n.b3.symm,h.rN.other _ n.b4.symm,h.ne,h.few1,h.few2⟩
theorem xU.setV{w:World}{K:HK}{s:uF}(h:xU w K s){i:Nat}(hi:i<K.C)(v:Int){f:Nat->Int}(e1:f i=v)(e2:∀r,r<K.C->r≠i->f r=s.val r):xU (w.setCell ⟨K.gV,i,none⟩ (.int .i64 v)) K { s with val:=f }:=by
 have n:=h.nes;exact⟨by rw[heap_setCell_other w ⟨K.gV,i,none⟩ K.hb _ n.a2];exact h.hd,h.rH.other _ n.b1,h.rV.set _ hi (congrArg (Value.int .i64) e1) (fun x hx zG7=>congrArg (Value.int .i64) (e2 x hx zG7)),h.rA.other _ n.c1.symm,h.rD.other _ n.c2.symm,h.rN.other _ n.c3.symm,h.ne,h.few1,h.few2⟩
theorem xU.congr{w:World}{K:HK}{s s':uF}(h:xU w K s)(e1:∀c,c<K.C->s.has c=s'.has c/\s.val c=s'.val c/\s.st c=s'.st c/\s.av c=s'.av c)(e2:∀r,r<K.R->s.ap r=s'.ap r/\s.vd r=s'.vd r):xU w K s':=by
 have key:∀ {g:Nat} {t:TypeId} {n:Nat} {f f':Nat->Value},tI w g t n f->(∀j,j<n->f j=f' j)->tI w g t n f':=fun h he=>by
  obtain⟨cs,h1,h2⟩:=h;exact⟨cs,h1,fun j hj=>by rw[<-he j hj];exact h2 j hj⟩
 refine⟨h.hd,key h.rH fun j hj=>by rw[(e1 j hj).1],key h.rV fun j hj=>by rw[(e1 j hj).2.1],key h.rA fun j hj=>by rw[(e2 j hj).1],key h.rD fun j hj=>?_,key h.rN fun j hj=>?_,h.ne,h.few1,h.few2⟩
 ·unfold zCN;rw[(e2 (j/2) (by omega)).2]
 ·unfold ki;rw[(e1 (j/3) (by omega)).2.2.1,(e1 (j/3) (by omega)).2.2.2]
def Dx(K:HK)(s:uF):vQ:=⟨K.inp,(List.range K.C).map s.has,(List.range K.C).map s.val⟩
theorem xU.state{w:World}{K:HK}{s:uF}(h:xU w K s)(hi:qQ w K.ia K.inp):aJ w K.ia (some ⟨K.gH,0,none⟩) (some ⟨K.gV,0,none⟩) (Dx K s):=by
 have h2:=h.few2;refine⟨hi,⟨?_,by simp[Dx];omega⟩,⟨?_,by simp[Dx];omega⟩⟩
 ·have:=h.rH.cel
  simp only[Dx,tB,List.map_map];exact this
 ·have:=h.rV.cel
  simp only[Dx,vS,List.map_map];exact this
theorem xU.cells{w:World}{K:HK}{s:uF}(h:xU w K s):w.cell? ⟨K.hb,0,none⟩=some (.pointer (some ⟨K.b,K.o,none⟩))/\w.cell? ⟨K.hb,1,none⟩=some (.slice K.ia K.inp.length K.ic)/\w.cell? ⟨K.hb,2,none⟩=some (.slice (some ⟨K.gH,0,none⟩) K.C K.cH)/\w.cell? ⟨K.hb,3,none⟩=some (.slice (some ⟨K.gV,0,none⟩) K.C K.cV)/\w.cell? ⟨K.hb,4,none⟩=some (.slice (some ⟨K.gA,0,none⟩) K.R K.cA)/\w.cell? ⟨K.hb,5,none⟩=some (.slice (some ⟨K.gD,0,none⟩) K.R K.cD)/\w.cell? ⟨K.hb,6,none⟩=some (.slice (some ⟨K.gN,0,none⟩) K.C K.cN):=by
 have:=h.hd;unfold hgO at this;exact⟨(zF this 0).trans rfl,(zF this 1).trans rfl,(zF this 2).trans rfl,(zF this 3).trans rfl,(zF this 4).trans rfl,(zF this 5).trans rfl,(zF this 6).trans rfl⟩
def mx0:MX:=(⟨[],0,[],[],0⟩,.slice none 0 0,.slice none 0 0)
def tN(rs:List MX)(i:Nat):MX:=rs.getD i mx0
theorem Vw(rs:List MX)(i:Nat)(hi:i<rs.length)(k:Nat)(hk:k<5):(rs.flatMap nC)[i*5+k]? = (nC (tN rs i))[k]? := by
 induction rs generalizing i with
 | nil=>simp at hi
 | cons x r ih =>
   have hl:(nC x).length=5:=rfl;rw[List.flatMap_cons]
   cases i with
   | zero=>rw[List.getElem?_append_left (by omega),show 0*5+k=k by omega];rfl
   | succ i=>rw[List.getElem?_append_right (by omega),hl,show (i+1)*5+k-5=i*5+k by omega,ih i (by simpa using hi)];rfl
structure Kf(w:World)(K:HK)(rs:List MX)(G:List Bool):Prop where
 rul:∃a c,w.cell? ⟨K.b,K.o+2,none⟩=some (.slice a rs.length c)/\kG w 176 a (rs.flatMap nC)
 rows:∀x∈rs,mF w x
 gr:zD3 w K.b (K.o+3) G
 inp:qQ w K.ia K.inp
 len:rs.length=K.R
theorem Kf.below{w w':World}{K:HK}{rs:List MX}{G:List Bool}(h:Kf w K rs G)(hb:Below w.heap.size w w'):Kf w' K rs G:=by
 obtain⟨a,c,h1,h2⟩:=h.rul;exact⟨⟨a,c,by rw[hb.cell (p:=⟨K.b,K.o+2,none⟩) (xJ h1)];exact h1,h2.below hb⟩,fun x hx=>(h.rows x hx).below hb,h.gr.below hb,h.inp.below hb,h.len⟩
theorem Kf.rule{w:World}{K:HK}{rs:List MX}{G:List Bool}(h:Kf w K rs G){a:Option Addr}{c:Nat}(h1:w.cell? ⟨K.b,K.o+2,none⟩=some (.slice a rs.length c)){i:Nat}(hi:i<K.R):∃g,a=some ⟨g,0,none⟩/\(w.cell? ⟨g,i*5,none⟩=some (.string ⟨(tN rs i).1.label.toArray⟩)/\w.cell? ⟨g,i*5+1,none⟩=some (.int .i64 (tN rs i).1.conc)/\w.cell? ⟨g,i*5+2,none⟩=some (tN rs i).2.1/\w.cell? ⟨g,i*5+3,none⟩=some (tN rs i).2.2/\w.cell? ⟨g,i*5+4,none⟩=some (.int .i64 (tN rs i).1.root))/\mF w (tN rs i):=by
 obtain⟨a',c',h2,h3⟩:=h.rul;rw[h1]at h2;simp only[Option.some.injEq,Value.slice.injEq,true_and]at h2;obtain⟨rfl,rfl⟩:=h2;have hi':i<rs.length:=by rw[h.len];exact hi
 obtain⟨g,e,p0⟩:=h3.cel.at (Vw rs i hi' 0 (by decide));obtain⟨g1,e1,p1⟩:=h3.cel.at (Vw rs i hi' 1 (by decide));obtain⟨g2,e2,p2⟩:=h3.cel.at (Vw rs i hi' 2 (by decide));obtain⟨g3,e3,p3⟩:=h3.cel.at (Vw rs i hi' 3 (by decide));obtain⟨g4,e4,p4⟩:=h3.cel.at (Vw rs i hi' 4 (by decide));subst e;obtain rfl:g=g1:=by simpa using e1
 obtain rfl:g=g2:=by simpa using e2
 obtain rfl:g=g3:=by simpa using e3
 obtain rfl:g=g4:=by simpa using e4
 refine⟨g,rfl,⟨p0,p1,p2,p3,p4⟩,h.rows _ ?_⟩;unfold tN;rw[List.getD_eq_getElem?_getD,List.getElem?_eq_getElem hi'];exact List.getElem_mem hi'
structure Dj(K:HK)(A:mG)(rs:List MX)(G:List Bool):Prop where
 n:A.n=K.R
 head:∀r,r<K.R->(tN rs r).1.conc=(A.head r:Int)
 app:∀r,r<K.R->∀f v,XT (tN rs r).1 ⟨K.inp,(List.range K.C).map f,v⟩=A.app r f
 sum:∀r,r<K.R->∀h f,Yl ⟨K.inp,h,(List.range K.C).map f⟩ (tN rs r).1.sum=A.sum r f
 abv:∀k r,k<K.R->r<K.R->XE G (k:Int) (r:Int)=A.abv k r
theorem qq{G:List Bool}{r:Int}(l:List Bool):∀i,eU G r l i=(List.range l.length).any (fun k=>l.getD k false&&XE G ((i+k:Nat):Int) r):=by
 induction l with
 | nil=>intro i;rfl
 | cons x t ih =>
   intro i;rw[eU,ih (i+1),List.length_cons,List.range_succ_eq_map,List.any_cons,List.any_map];congr 1
   apply List.any_congr rfl
   intro k;simp only[Function.comp];rw[show i+1+k=i+(k+1) by omega];rfl
theorem zBX{K:HK}{A:mG}{rs:List MX}{G:List Bool}(h:Dj K A rs G)(f:Nat->Bool){r:Nat}(hr:r<K.R):Yg G ((List.range K.R).map f) (r:Int)=jA A f r:=by
 unfold Yg;rw[qq,List.length_map,List.length_range];unfold jA;rw[h.n,Bool.eq_iff_iff];simp only[List.any_eq_true,List.mem_range,Bool.and_eq_true];constructor
 ·rintro⟨k,h1,h2,h3⟩
  refine⟨k,h1,by simpa[List.getD,h1] using h2,?_⟩;rw[<-h.abv k r h1 hr];simpa using h3
 ·rintro⟨k,h1,h2,h3⟩
  refine⟨k,h1,by simpa[List.getD,h1] using h2,?_⟩;rw[Nat.zero_add,h.abv k r h1 hr];exact h3
def iO(A:mG)(s:uF)(c i:Nat):Nat->Bool:=fun r=>if r<i/\A.head r=c then A.app r s.has else s.ap r
theorem qy(A:mG)(s:uF)(c:Nat):iO A s c 0=s.ap:=funext fun r=>by unfold iO;rw[if_neg (by omega)]
theorem Dc(A:mG)(s:uF)(c:Nat){i r:Nat}(hr:r<i):iO A s c i r=if A.head r=c then A.app r s.has else s.ap r:=by
 unfold iO;by_cases h:A.head r=c
 ·rw[if_pos ⟨hr,h⟩,if_pos h]
 ·rw[if_neg (fun q=>h q.2),if_neg h]
theorem qz(A:mG)(s:uF)(c i:Nat)(h:A.head i≠c):iO A s c (i+1)=iO A s c i:=funext fun r=>by
 unfold iO;by_cases hr:r=i
 ·subst hr;rw[if_neg (fun q=>h q.2),if_neg (fun q=>h q.2)]
 ·by_cases h2:r<i/\A.head r=c
  ·rw[if_pos h2,if_pos ⟨by omega,h2.2⟩]
  ·rw[if_neg h2,if_neg (fun q=>h2 ⟨by omega,q.2⟩)]
theorem zC1(A:mG)(s:uF)(c i r:Nat)(hr:r≠i):iO A s c (i+1) r=iO A s c i r:=by
 unfold iO;by_cases h2:r<i/\A.head r=c
 ·rw[if_pos h2,if_pos ⟨by omega,h2.2⟩]
 ·rw[if_neg h2,if_neg (fun q=>h2 ⟨by omega,q.2⟩)]
def Y2(A:mG)(s:uF)(on:Nat->Bool)(c i:Nat):Nat->Int:=fun r=>if r<i/\A.head r=c/\on r=true then (if jA A on r then 1 else 2) else s.vd r
def rZ(A:mG)(on:Nat->Bool)(c i:Nat):List Nat:=(List.range i).filter fun r=>decide (A.head r=c)&&(on r && !jA A on r)
def jk(f:Nat->Int)(l:List Nat):Int:=match l.getLast? with|some r=>f r|none=>0
theorem GI(A:mG)(s:uF)(on:Nat->Bool)(c:Nat):Y2 A s on c 0=s.vd:=funext fun r=>by unfold Y2;rw[if_neg (by omega)]
theorem Cv(A:mG)(s:uF)(on:Nat->Bool)(c i r:Nat)(hr:r≠i):Y2 A s on c (i+1) r=Y2 A s on c i r:=by
 unfold Y2;by_cases h2:r<i/\A.head r=c/\on r=true
 ·rw[if_pos h2,if_pos ⟨by omega,h2.2⟩]
 ·rw[if_neg h2,if_neg (fun q=>h2 ⟨by omega,q.2⟩)]
theorem GJ(A:mG)(s:uF)(on:Nat->Bool)(c i:Nat)(h:¬(A.head i=c/\on i=true)):Y2 A s on c (i+1)=Y2 A s on c i:=funext fun r=>by
 by_cases hr:r=i
 ·subst hr;unfold Y2;rw[if_neg (fun q=>h q.2),if_neg (fun q=>h q.2)]
 ·exact Cv A s on c i r hr
theorem zD9(A:mG)(s:uF)(on:Nat->Bool)(c i:Nat)(h:A.head i=c)(h2:on i=true):Y2 A s on c (i+1) i=if jA A on i then 1 else 2:=by
 unfold Y2;rw[if_pos ⟨by omega,h,h2⟩]
theorem Kz(A:mG)(on:Nat->Bool)(c i:Nat):rZ A on c (i+1)=rZ A on c i++(if (decide (A.head i=c)&&(on i && !jA A on i))=true then [i] else []):=by
 unfold rZ;rw[List.range_succ,List.filter_append];congr 1
 simp only[List.filter_cons,List.filter_nil]
theorem K0(A:mG)(on:Nat->Bool)(c i:Nat)(h:(decide (A.head i=c)&&(on i && !jA A on i))=false):rZ A on c (i+1)=rZ A on c i:=by
 rw[Kz,h];simp
theorem zDJ(A:mG)(on:Nat->Bool)(c i:Nat)(h:(decide (A.head i=c)&&(on i && !jA A on i))=true):rZ A on c (i+1)=rZ A on c i++[i]:=by
 rw[Kz,h];simp
theorem jx(A:mG)(on:Nat->Bool)(c i:Nat):(rZ A on c i).length<=i:=by
 unfold rZ;exact Nat.le_trans (List.length_filter_le _ _) (by simp)
theorem GG(f:Nat->Int)(l:List Nat)(r:Nat):jk f (l++[r])=f r:=by unfold jk;simp
theorem Cu(f:Nat->Int)(l:List Nat)(h:l.length=1):jk f l=iY f l:=by
 match l,h with
 | [_],_=>rfl
def KG(A:mG)(s:uF)(c:Nat):Nat->Bool:=fun r=>if A.head r=c then A.app r s.has else s.ap r
theorem VK(A:mG){f g:Nat->Bool}(h:∀k,k<A.n->f k=g k)(r:Nat):jA A f r=jA A g r:=by
 unfold jA;rw[Bool.eq_iff_iff];simp only[List.any_eq_true,List.mem_range,Bool.and_eq_true];constructor
 ·rintro⟨k,h1,h2,h3⟩;exact⟨k,h1,(h k h1) ▸ h2,h3⟩
 ·rintro⟨k,h1,h2,h3⟩;exact⟨k,h1,(h k h1).symm ▸ h2,h3⟩
theorem Xi(A:mG)(s:uF)(c:Nat):∀r,r<A.n->iO A s c A.n r=KG A s c r:=fun _ hr=>Dc A s c hr
theorem jy(A:mG)(s:uF)(c:Nat):rZ A (iO A s c A.n) c A.n=vL A (KG A s c) c:=by
 unfold rZ vL;apply List.filter_congr
 intro r hr;rw[List.mem_range]at hr;rw[Xi A s c r hr,VK A (Xi A s c) r]
theorem jp(A:mG)(s:uF)(c r:Nat)(hr:r<A.n):Y2 A s (iO A s c A.n) c A.n r=(uP A c s).vd r:=by
 show _=if A.head r=c then (if KG A s c r=true then (if jA A (KG A s c) r=true then (1:Int) else 2) else s.vd r) else s.vd r;unfold Y2;rw[Xi A s c r hr,VK A (Xi A s c) r];by_cases h1:A.head r=c
 ·rw[if_pos h1]
  by_cases h2:KG A s c r=true
  ·rw[if_pos ⟨hr,h1,h2⟩,if_pos h2]
  ·rw[if_neg (fun q=>h2 q.2.2),if_neg h2]
 ·rw[if_neg (fun q=>h1 q.2.1),if_neg h1]
theorem D0(A:mG)(s:uF)(c:Nat):(uP A c s).ap=KG A s c:=rfl
theorem U9(A:mG)(s:uF)(c x:Nat):(uP A c s).has x=if x=c then (if (vL A (KG A s c) c).length=1 then true else s.has x) else s.has x:=rfl
theorem U8(A:mG)(s:uF)(c x:Nat):(uP A c s).val x=if x=c then (if (vL A (KG A s c) c).length=1 then iY (fun r=>A.sum r s.val) (vL A (KG A s c) c) else s.val x) else s.val x:=rfl
theorem Dy(A:mG)(s:uF)(c x:Nat):(uP A c s).st x=if x=c then (if (vL A (KG A s c) c).length=0 then s.st x else kM (vL A (KG A s c) c)) else s.st x:=rfl
theorem Dz(A:mG)(s:uF)(c x:Nat):(uP A c s).av x=if x=c then (if (vL A (KG A s c) c).length=1 then iY (fun r=>A.sum r s.val) (vL A (KG A s c) c) else s.av x) else s.av x:=rfl
theorem Fw{l:List Nat}(h:1<l.length):kM l=2:=by
 match l,h with
 | _::_::_,_=>rfl
theorem UA{w:World}{K:HK}{A:mG}{s s':uF}{c:Nat}(hn:A.n=K.R)(h:xU w K s')(h1:∀r,s'.ap r=iO A s c K.R r)(h2:∀r,s'.vd r=Y2 A s (iO A s c K.R) c K.R r)
 (h3:∀x,s'.has x=if x=c then (if (rZ A (iO A s c K.R) c K.R).length=1 then true else s.has x) else s.has x)
 (h4:∀x,s'.val x=if x=c then (if (rZ A (iO A s c K.R) c K.R).length=1 then jk (fun r=>A.sum r s.val) (rZ A (iO A s c K.R) c K.R) else s.val x) else s.val x)
 (h5:∀x,s'.st x=if x=c then (if (rZ A (iO A s c K.R) c K.R).length=0 then s.st x else if (rZ A (iO A s c K.R) c K.R).length=1 then 1 else 2) else s.st x)
 (h6:∀x,s'.av x=if x=c then (if (rZ A (iO A s c K.R) c K.R).length=1 then jk (fun r=>A.sum r s.val) (rZ A (iO A s c K.R) c K.R) else s.av x) else s.av x):xU w K (uP A c s):=by
 rw[<-hn]at h1 h2 h3 h4 h5 h6;rw[jy A s c]at h3 h4 h5 h6;refine h.congr (fun x _=>⟨?_,?_,?_,?_⟩) (fun r hr=>⟨?_,?_⟩)
 ·rw[h3 x,U9]
 ·rw[h4 x,U8]
  by_cases hl:(vL A (KG A s c) c).length=1
  ·rw[if_pos hl,if_pos hl,Cu _ _ hl]
  ·rw[if_neg hl,if_neg hl]
 ·rw[h5 x,Dy]
  by_cases h0:(vL A (KG A s c) c).length=0
  ·rw[if_pos h0,if_pos h0]
  ·rw[if_neg h0,if_neg h0]
   by_cases hl:(vL A (KG A s c) c).length=1
   ·rw[if_pos hl,aR.2 hl]
   ·rw[if_neg hl,Fw (by omega)]
 ·rw[h6 x,Dz]
  by_cases hl:(vL A (KG A s c) c).length=1
  ·rw[if_pos hl,if_pos hl,Cu _ _ hl]
  ·rw[if_neg hl,if_neg hl]
 ·rw[h1 r,D0];exact Xi A s c r (by rw[hn];exact hr)
 ·rw[h2 r];exact jp A s c r (by rw[hn];exact hr)
theorem ze(w0 w:World)(K:HK)(A:mG)(rs:List MX)(G:List Bool)(s:uF)(c:Nat)(hB:Below w0.heap.size w0 w)(hM:Kf w0 K rs G)(hA:Dj K A rs G)(hK:xU w K s)(hge:w0.heap.size<=K.gH/\w0.heap.size<=K.gV/\w0.heap.size<=K.gA/\w0.heap.size<=K.gD/\w0.heap.size<=K.gN)(hc:c<K.C)(zGF:∀r,r<K.R->Zu (Dx K s) (tN rs r).1.sum) :
 Calls Tryz.prog 179 #[.pointer (some ⟨K.hb,0,none⟩),.int .i64 (c:Int)] w fun e w'=>e=.returned (.tuple #[])/\xU w' K (uP A c s)/\Below w0.heap.size w0 w':=by
 obtain⟨g1,g2,g3,g4,g5⟩:=hge;obtain⟨ra,rc,hr0,hr1⟩:=hM.rul;have zG4:=hM.len;rw[zG4]at hr0;have zGG:=hK.few1;have hfew2:=hK.few2;have HM:=zA hM;have HA:=zA hA;have HOk:=zA zGF
 have HC0:Hid (∀wr,Below w0.heap.size w0 wr->wr.cell? ⟨K.b,K.o+2,none⟩=some (.slice ra K.R rc)):=fun wr hb=>by
  rw[hb.cell (p:=⟨K.b,K.o+2,none⟩) (xJ hr0)];exact hr0
 have HRul:Hid (∀wr,Below w0.heap.size w0 wr->∀i,i<K.R->∃g,ra=some ⟨g,0,none⟩/\(wr.cell? ⟨g,i*5,none⟩=some (.string ⟨(tN rs i).1.label.toArray⟩)/\wr.cell? ⟨g,i*5+1,none⟩=some (.int .i64 (tN rs i).1.conc)/\wr.cell? ⟨g,i*5+2,none⟩=some (tN rs i).2.1/\wr.cell? ⟨g,i*5+3,none⟩=some (tN rs i).2.2/\wr.cell? ⟨g,i*5+4,none⟩=some (.int .i64 (tN rs i).1.root))/\mF wr (tN rs i)):=fun wr hb i hi =>
  (hM.below hb).rule (by rw[zG4];exact HC0.out wr hb) hi
 have HK:=zA hK;have HB:=zA hB;have hcR:=HC0.out w hB;obtain⟨k0,k1,k2,k3,k4,k5,k6⟩:=hK.cells;clear hr0 hr1 zG4 hM hA zGF hB hK
 go_enter Tryz.func179,Tryz.ntmps179
 go_wp2_with fail
 go_loopw [18] (fun iv wr=>∃(i:Nat),i<=K.R/\iv=.int .i64 i/\Hid (xU wr K { s with ap:=iO A s c i })/\Hid (Below w0.heap.size w0 wr)) (fun iv _=>K.R-(intOf iv).toNat)
 case atStart=>exact⟨0,Nat.zero_le _,rfl,by rw[qy];exact HK,HB⟩
 case round =>
  obtain⟨i,hi,rfl,HKr,zGP⟩:=hrel;by_cases zFY:i<K.R
  ·obtain⟨g,rfl,⟨r0,r1,r2,r3,r4⟩,hmr⟩:=HRul.out wr zGP.out i zFY
   rw[HA.out.head i zFY]at r1;obtain⟨sa,sc,e1,-⟩:=hmr.sum;obtain⟨na,nc,e2,-⟩:=hmr.guard;have hltI:(i:Int)<(K.R:Int):=by omega
   have HApp:Hid (∀w',Below wr.heap.size wr w'->Calls Tryz.prog 227 #[.agg #[.string ⟨(tN rs i).1.label.toArray⟩,.int .i64 (A.head i:Int),.slice sa (tN rs i).1.sum.length sc,.slice na (tN rs i).1.guard.length nc,.int .i64 (tN rs i).1.root],.agg #[.slice K.ia K.inp.length K.ic,.slice (some ⟨K.gH,0,none⟩) K.C K.cH,.slice (some ⟨K.gV,0,none⟩) K.C K.cV]] w' fun e w''=>e=.returned (.bool (A.app i s.has))/\Below w'.heap.size w' w''):=fun w' hb=>by
    have hB':=zGP.out.trans (hb.mono zGP.out.size);have:=Bv w' K.ia (some ⟨K.gH,0,none⟩) (some ⟨K.gV,0,none⟩) K.ic K.cH K.cV (Dx K { s with ap:=iO A s c i }) (tN rs i) (hmr.below hb) ((HKr.out.below hb).state ((HM.out.below hB').inp));rw[show XT (tN rs i).1 (Dx K { s with ap:=iO A s c i })=A.app i s.has from HA.out.app i zFY s.has _]at this;simp only[oM,G9,Dx,List.length_map,List.length_range]at this;rw[e1,e2,HA.out.head i zFY]at this;exact this
   rw[e1]at r2;rw[e2]at r3;obtain⟨k0',k1',k2',k3',k4',-,-⟩:=HKr.out.cells;have lg:=xJ r0;have lhb:=xJ k1';have nhb:wr.heap.size≠K.hb:=by omega
   have nA:=HKr.out.nes.a3;have nA':=HKr.out.nes.a3.symm;have lga:=HKr.out.rA.lt;have nga:wr.heap.size≠K.gA:=by omega
   have nga':K.gA≠wr.heap.size:=by omega
   have HSet:Hid (∀w4,Below wr.heap.size wr w4->A.head i=c->(xU (w4.setCell ⟨K.gA,i,none⟩ (.bool (A.app i s.has))) K { s with ap:=iO A s c (i+1) }/\Below w0.heap.size w0 (w4.setCell ⟨K.gA,i,none⟩ (.bool (A.app i s.has))))/\w4.cell? ⟨K.gA,i,none⟩=some (.bool (iO A s c i i))/\w4.frozen? ⟨K.gA,i,none⟩=false):=fun w4 hb hh=>by
    have h4:=HKr.out.below hb;refine⟨⟨h4.setA zFY _ ?_ (fun r _ zG7=>zC1 A s c i r zG7),(zGP.out.trans (hb.mono zGP.out.size)).setCell (p:=⟨K.gA,i,none⟩) g3 _⟩,h4.rA.cell zFY,h4.rA.free i⟩;rw[Dc A s c (Nat.lt_succ_self i),if_pos hh]
   have HSk:Hid (A.head i≠c->xU wr K { s with ap:=iO A s c (i+1) }):=fun hh=>by rw[qz A s c i hh];exact HKr.out
   clear hmr e1 e2;generalize (tN rs i).1.label=lb at *;generalize (tN rs i).1.sum.length=sn at *;generalize (tN rs i).1.guard.length=nn at *;generalize (tN rs i).1.root=ro at *;generalize A.app i s.has=ax at *;generalize iO A s c i i=ay at *;by_cases hcc:A.head i=c
   ·have b1:((A.head i:Int)==(c:Int))=true:=by rw[hcc];simp
    have HSet2:=zA (fun w4 hb=>HSet.out w4 hb hcc);clear HSet HSk hcc;generalize (A.head i:Int)=hd at *
    go_upto_region 4 with fail
    go_region_held3 (fun w'=>w'.cell? ⟨K.hb,4,none⟩=some (.slice (some ⟨K.gA,0,none⟩) K.R K.cA)/\w'.cell? ⟨K.hb,1,none⟩=some (.slice K.ia K.inp.length K.ic)/\w'.cell? ⟨K.hb,2,none⟩=some (.slice (some ⟨K.gH,0,none⟩) K.C K.cH)/\w'.cell? ⟨K.hb,3,none⟩=some (.slice (some ⟨K.gV,0,none⟩) K.C K.cV)/\w'.cell? ⟨wr.heap.size,0,none⟩=some (.string ⟨lb.toArray⟩)/\w'.cell? ⟨wr.heap.size,1,none⟩=some (.int .i64 hd)/\w'.cell? ⟨wr.heap.size,2,none⟩=some (.slice sa sn sc)/\w'.cell? ⟨wr.heap.size,3,none⟩=some (.slice na nn nc)/\w'.cell? ⟨wr.heap.size,4,none⟩=some (.int .i64 ro)) (go_keep) (
     (go_at_call 227;refine(HApp.out _ (Below.drew ((Below.refl _ _).alloc (Nat.le_refl _) _))).mono ?_;rintro e w4 ⟨rfl,hb4⟩;have hB4:Below wr.heap.size wr w4:=(Below.drew ((Below.refl _ _).alloc (Nat.le_refl _) _)).trans (hb4.mono (Nat.le_of_lt (zD _ _)));obtain⟨⟨hS4,hS5⟩,q1,q2⟩:=HSet2.out w4 hB4;obtain⟨-,v1,v2,v3,v4,-,-⟩:=(HKr.out.below hB4).cells;have u0:=((hb4.cell (p:=⟨wr.heap.size,0,none⟩) (zD _ _)).trans (zF (zS _ _) 0)).trans rfl;have u1:=((hb4.cell (p:=⟨wr.heap.size,1,none⟩) (zD _ _)).trans (zF (zS _ _) 1)).trans rfl;have u2:=((hb4.cell (p:=⟨wr.heap.size,2,none⟩) (zD _ _)).trans (zF (zS _ _) 2)).trans rfl;have u3:=((hb4.cell (p:=⟨wr.heap.size,3,none⟩) (zD _ _)).trans (zF (zS _ _) 3)).trans rfl;have u4:=((hb4.cell (p:=⟨wr.heap.size,4,none⟩) (zD _ _)).trans (zF (zS _ _) 4)).trans rfl))
    all_goals
     go_wp2_with fail
     go_roundw
     case rel=>exact⟨i+1,by omega,by go_num,zA hS4,zA hS5⟩
     case measure=>simp[intOf];omega
   ·have b1:((A.head i:Int)==(c:Int))=false:=by rw[beq_eq_false_iff_ne];omega
    have HK2:=zA (HSk.out hcc);have HBn:Hid (∀o,xU (wr.alloc o) K { s with ap:=iO A s c (i+1) }/\Below w0.heap.size w0 (wr.alloc o)):=fun o=>⟨HK2.out.below ((Below.refl _ _).alloc (Nat.le_refl _) o),zGP.out.alloc zGP.out.size o⟩;clear HSet HSk hcc HApp;generalize (A.head i:Int)=hd at *;go_wp2_with fail
    go_roundw
    case rel=>exact⟨i+1,by omega,by go_num,zA (HBn.out _).1,zA (HBn.out _).2⟩
    case measure=>simp[intOf];omega
  ·obtain rfl:i=K.R:=by omega
   obtain⟨wx,hwx⟩:∃wx,wx=wr:=⟨_,rfl⟩;rw[<-hwx]at HKr zGP ⊢;clear hwx;obtain⟨on,hon⟩:∃on,on=iO A s c K.R:=⟨_,rfl⟩;rw[<-hon]at HKr;have HOn:=zA hon;clear hon;have hiN:¬((K.R:Int)<(K.R:Int)):=by omega
   obtain⟨m0,m1,m2,m3,m4,m5,m6⟩:=HKr.out.cells;have mR:=HC0.out wx zGP.out;go_wp2_with fail
   go_loopw [6,7,48] (fun nv vv iv wr=>∃(i:Nat),i<=K.R/\iv=.int .i64 i/\nv=.int .i64 ((rZ A on c i).length:Nat)/\vv=.int .i64 (jk (fun r=>A.sum r s.val) (rZ A on c i))/\Hid (xU wr K { s with ap:=on,vd:=Y2 A s on c i })/\Hid (Below w0.heap.size w0 wr)) (fun _ _ iv _=>K.R-(intOf iv).toNat)
   case atStart=>exact⟨0,Nat.zero_le _,rfl,rfl,rfl,by rw[GI];exact HKr,zGP⟩
   case round =>
    obtain⟨i,hi,rfl,rfl,rfl,HKs,HBs⟩:=hrel;have hsl:=jx A on c i;by_cases zFY:i<K.R
    ·obtain⟨g,rfl,⟨r0,r1,r2,r3,r4⟩,hmr⟩:=HRul.out wr HBs.out i zFY
     rw[HA.out.head i zFY]at r1;obtain⟨sa,sc,e1,-⟩:=hmr.sum;obtain⟨na,nc,e2,-⟩:=hmr.guard;have hltI:(i:Int)<(K.R:Int):=by omega
     obtain⟨k0',k1',k2',k3',k4',k5',k6'⟩:=HKs.out.cells;have lg:=xJ r0;have lhb:=xJ k1';have nhb:wr.heap.size≠K.hb:=by omega
     have qa:wr.cell? ⟨K.gA,i,none⟩=some (.bool (on i)):=HKs.out.rA.cell zFY;have lga:=xJ qa;have nga:wr.heap.size≠K.gA:=by omega
     have lgd:=HKs.out.rD.lt;have ngd:wr.heap.size≠K.gD:=by omega
     have HNx:Hid (¬(A.head i=c/\on i=true)->∀o,xU (wr.alloc o) K { s with ap:=on,vd:=Y2 A s on c (i+1) }/\Below w0.heap.size w0 (wr.alloc o)/\rZ A on c (i+1)=rZ A on c i):=fun hh o=>by
      refine⟨?_,HBs.out.alloc HBs.out.size o,K0 A on c i ?_⟩
      ·rw[GJ A s on c i hh];exact HKs.out.below ((Below.refl _ _).alloc (Nat.le_refl _) o)
      ·by_cases h1:A.head i=c
       ·have:on i=false:=by cases h2:on i with
         | false=>rfl
         | true=>exact absurd ⟨h1,h2⟩ hh
        simp[this]
       ·simp[h1]
     rw[e1]at r2;rw[e2]at r3;by_cases hcc:A.head i=c
     ·have b1:((A.head i:Int)==(c:Int))=true:=by rw[hcc];simp
      have b1':((A.head i:Int) != (c:Int))=false:=by rw[hcc];simp
      cases honi:on i with
      | false =>
        have HN2:=zA (HNx.out (fun q=>by rw[honi]at q;exact Bool.noConfusion q.2));rw[honi]at qa;clear HNx hcc honi hmr e1 e2;generalize (A.head i:Int)=hd at *;generalize (tN rs i).1.label=lb at *;generalize (tN rs i).1.sum.length=sn at *;generalize (tN rs i).1.guard.length=nn at *;generalize (tN rs i).1.root=ro at *;go_wp2_with fail
        go_roundw
        case rel=>exact⟨i+1,by omega,by go_num,by rw[(HN2.out (.cells #[] 0 (0,0))).2.2],by rw[(HN2.out (.cells #[] 0 (0,0))).2.2],zA (HN2.out _).1,zA (HN2.out _).2.1⟩
        case measure=>simp[intOf];omega
      | true =>
        rw[honi]at qa
        have HBt:Hid (∀w',Below wr.heap.size wr w'->Calls Tryz.prog 228 #[.pointer (some ⟨K.hb,0,none⟩),.int .i64 (i:Int)] w' fun e w''=>e=.returned (.bool (jA A on i))/\w''=w'):=fun w' hb=>by
         have h':=HKs.out.below hb;obtain⟨c0,-,-,-,c4,-,-⟩:=h'.cells;have hB':=HBs.out.trans (hb.mono HBs.out.size);have hl:((List.range K.R).map on).length=K.R:=by simp
         have hcel:dC w' (some ⟨K.gA,0,none⟩) (tB ((List.range K.R).map on)):=by
          have:=h'.rA.cel;simp only[tB,List.map_map];exact this
         have:=B9 w' K.hb K.b K.o (some ⟨K.gA,0,none⟩) K.cA ((List.range K.R).map on) G (i:Int) c0 (by rw[hl];exact c4) ⟨hcel,by rw[hl];omega⟩ (HM.out.below hB').gr;rw[zBX HA.out on zFY]at this;exact this
        have HSd:Hid (∀o v,(if jA A on i=true then (1:Int) else 2)=v->xU ((wr.setCell ⟨K.gD,i*2+1,none⟩ (.int .i64 v)).alloc o) K { s with ap:=on,vd:=Y2 A s on c (i+1) }/\Below w0.heap.size w0 ((wr.setCell ⟨K.gD,i*2+1,none⟩ (.int .i64 v)).alloc o)):=fun o v hv=>by
         have h':=HKs.out.setD zFY v (f:=Y2 A s on c (i+1)) (by rw[zD9 A s on c i hcc honi];exact hv) (fun r _ zG7=>Cv A s on c i r zG7);have hb':=HBs.out.setCell (p:=⟨K.gD,i*2+1,none⟩) g4 (.int .i64 v);exact⟨h'.below ((Below.refl _ _).alloc (Nat.le_refl _) o),hb'.alloc hb'.size o⟩
        have q1:wr.cell? ⟨K.gD,i*2+1,none⟩=some (zCN K { s with ap:=on,vd:=Y2 A s on c i } (i*2+1)):=HKs.out.rD.cell (by omega);have q2:=HKs.out.rD.free (i*2+1);have HVd:Hid (∃z,zCN K { s with ap:=on,vd:=Y2 A s on c i } (i*2+1)=.int .i64 z):=⟨_,by unfold zCN;rw[if_neg (by omega)]⟩;obtain⟨zv,hzv⟩:=HVd.out;rw[hzv]at q1;have HSt:Hid (jA A on i=true->rZ A on c (i+1)=rZ A on c i):=fun hb=>K0 A on c i (by simp[hb]);have HSt2:Hid (jA A on i=false->rZ A on c (i+1)=rZ A on c i++[i]):=fun hb=>zDJ A on c i (by simp[hb,hcc,honi])
        have HSum:Hid (∀w',xU w' K { s with ap:=on,vd:=Y2 A s on c (i+1) }->Below w0.heap.size w0 w'->Calls Tryz.prog 229 #[.agg #[.string ⟨(tN rs i).1.label.toArray⟩,.int .i64 (A.head i:Int),.slice sa (tN rs i).1.sum.length sc,.slice na (tN rs i).1.guard.length nc,.int .i64 (tN rs i).1.root],.agg #[.slice K.ia K.inp.length K.ic,.slice (some ⟨K.gH,0,none⟩) K.C K.cH,.slice (some ⟨K.gV,0,none⟩) K.C K.cV]] w' fun e w''=>e=.returned (.int .i64 (A.sum i s.val))/\Below w'.heap.size w' w''):=fun w' hk hb=>by
         obtain⟨_,_,_,hm'⟩:=HRul.out w' hb i zFY;have:=zDU w' K.ia (some ⟨K.gH,0,none⟩) (some ⟨K.gV,0,none⟩) K.ic K.cH K.cV (Dx K { s with ap:=on,vd:=Y2 A s on c (i+1) }) (tN rs i) hm' (hk.state ((HM.out.below hb).inp)) (HOk.out i zFY);rw[show Yl (Dx K { s with ap:=on,vd:=Y2 A s on c (i+1) }) (tN rs i).1.sum=A.sum i s.val from HA.out.sum i zFY _ s.val]at this;simp only[oM,G9,Dx,List.length_map,List.length_range]at this;rw[e1,e2,HA.out.head i zFY]at this;exact this
        have HCp:Hid (∀cs j,((wr.setCell ⟨K.gD,i*2+1,none⟩ (.int .i64 2)).alloc (.cells cs 176 (0,0))).cell? ⟨wr.heap.size,j,none⟩=cs[j]?):=fun cs j=>zF (uZ (wr.setCell ⟨K.gD,i*2+1,none⟩ (.int .i64 2)) (.cells cs 176 (0,0)) wr.heap.size (by simp)) j;clear HNx hcc honi hmr e1 e2 hzv HVd;generalize (A.head i:Int)=hd at *;generalize (tN rs i).1.label=lb at *;generalize (tN rs i).1.sum.length=sn at *;generalize (tN rs i).1.guard.length=nn at *;generalize (tN rs i).1.root=ro at *;have HSv:Hid (A.sum i s.val=A.sum i s.val):=rfl;generalize hsv:A.sum i s.val=sv at HSum
        replace HSv:=zA hsv
        clear hsv
        cases hbt:jA A on i with
        | true =>
          rw[hbt]at HBt;have HS1:=zA (HSd.out (.cells #[.string ⟨lb.toArray⟩,.int .i64 hd,.slice sa sn sc,.slice na nn nc,.int .i64 ro] 176 (0,0)) 1 (by rw[hbt];rfl));have hSt:=zA (HSt.out hbt);clear HSd HSt HSt2 HSum HCp hbt;go_wp2_with fail
          refine(HBt.out _ ((Below.refl _ _).alloc (Nat.le_refl _) _)).mono ?_;rintro e w' ⟨rfl,hq⟩;obtain rfl:=hq.symm;obtain⟨hS4,hS5⟩:=HS1.out;have HS4:=zA hS4;have HS5:=zA hS5;clear hS4 hS5;go_wp2_with fail
          go_roundw
          case rel=>exact⟨i+1,by omega,by go_num,by rw[hSt.out],by rw[hSt.out],HS4,HS5⟩
          case measure=>simp[intOf];omega
        | false =>
          rw[hbt]at HBt;have HS1:=zA (HSd.out (.cells #[.string ⟨lb.toArray⟩,.int .i64 hd,.slice sa sn sc,.slice na nn nc,.int .i64 ro] 176 (0,0)) 2 (by rw[hbt];rfl));have hSt:=zA (HSt2.out hbt);have HCq:=zA (HCp.out #[.string ⟨lb.toArray⟩,.int .i64 hd,.slice sa sn sc,.slice na nn nc,.int .i64 ro]);clear HSd HSt HSt2 HCp hbt;go_wp2_with fail
          refine(HBt.out _ ((Below.refl _ _).alloc (Nat.le_refl _) _)).mono ?_;rintro e w' ⟨rfl,hq⟩;obtain rfl:=hq.symm;obtain⟨hS4,hS5⟩:=HS1.out;obtain⟨w5,hw5⟩:∃w5,w5=(wr.setCell ⟨K.gD,i*2+1,none⟩ (.int .i64 2)).alloc (.cells #[.string ⟨lb.toArray⟩,.int .i64 hd,.slice sa sn sc,.slice na nn nc,.int .i64 ro] 176 (0,0)):=⟨_,rfl⟩;have p0:w5.cell? ⟨wr.heap.size,0,none⟩=some (.string ⟨lb.toArray⟩):=by rw[hw5];exact HCq.out 0
          have p1:w5.cell? ⟨wr.heap.size,1,none⟩=some (.int .i64 hd):=by rw[hw5];exact HCq.out 1
          have p2:w5.cell? ⟨wr.heap.size,2,none⟩=some (.slice sa sn sc):=by rw[hw5];exact HCq.out 2
          have p3:w5.cell? ⟨wr.heap.size,3,none⟩=some (.slice na nn nc):=by rw[hw5];exact HCq.out 3
          have p4:w5.cell? ⟨wr.heap.size,4,none⟩=some (.int .i64 ro):=by rw[hw5];exact HCq.out 4
          have HS4:=zA hS4;have HS5:=zA hS5
          go_upto_region 16 with fail
          rw[<-hw5]at HS4 HS5 ⊢;obtain⟨-,t1,t2,t3,-,-,-⟩:=HS4.out.cells;have lw5:=xJ p0;have HDr:Hid (∀w6,Below w5.heap.size w5 w6->xU w6 K { s with ap:=on,vd:=Y2 A s on c (i+1) }/\Below w0.heap.size w0 w6):=fun w6 hb=>⟨HS4.out.below hb,HS5.out.trans (hb.mono HS5.out.size)⟩;have HDc:Hid (∀w6,Below w5.heap.size w5 w6->∀j,w6.cell? ⟨wr.heap.size,j,none⟩=w5.cell? ⟨wr.heap.size,j,none⟩):=fun w6 hb j=>hb.cell (p:=⟨wr.heap.size,j,none⟩) lw5;clear hS4 hS5 hw5 HCq HS1
          go_region_held3 (fun w'=>w'.cell? ⟨wr.heap.size,0,none⟩=some (.string ⟨lb.toArray⟩)/\w'.cell? ⟨wr.heap.size,1,none⟩=some (.int .i64 hd)/\w'.cell? ⟨wr.heap.size,2,none⟩=some (.slice sa sn sc)/\w'.cell? ⟨wr.heap.size,3,none⟩=some (.slice na nn nc)/\w'.cell? ⟨wr.heap.size,4,none⟩=some (.int .i64 ro)/\w'.cell? ⟨K.hb,1,none⟩=some (.slice K.ia K.inp.length K.ic)/\w'.cell? ⟨K.hb,2,none⟩=some (.slice (some ⟨K.gH,0,none⟩) K.C K.cH)/\w'.cell? ⟨K.hb,3,none⟩=some (.slice (some ⟨K.gV,0,none⟩) K.C K.cV)) (go_keep) (
           (go_at_call 229;refine(HSum.out _ (HDr.out _ (Below.drew (Below.refl _ _))).1 (HDr.out _ (Below.drew (Below.refl _ _))).2).mono ?_;rintro e w6 ⟨rfl,hb6⟩;have hB6:Below w5.heap.size w5 w6:=(Below.drew (Below.refl _ _)).trans hb6;obtain⟨hS6,hS7⟩:=HDr.out w6 hB6;obtain⟨-,v1,v2,v3,-,-,-⟩:=hS6.cells;have u0:=(HDc.out w6 hB6 0).trans p0;have u1:=(HDc.out w6 hB6 1).trans p1;have u2:=(HDc.out w6 hB6 2).trans p2;have u3:=(HDc.out w6 hB6 3).trans p3;have u4:=(HDc.out w6 hB6 4).trans p4))
          all_goals
           go_wp2_with fail
           go_roundw
           case rel=>exact⟨i+1,by omega,by go_num,by rw[hSt.out,List.length_append,List.length_singleton];go_num,by rw[hSt.out,GG,HSv.out],zA hS6,zA hS7⟩
           case measure=>simp[intOf];omega
     ·have b1:((A.head i:Int)==(c:Int))=false:=by rw[beq_eq_false_iff_ne];omega
      have b1':((A.head i:Int) != (c:Int))=true:=by rw[bne_iff_ne];omega
      have HN2:=zA (HNx.out (fun q=>hcc q.1));clear HNx hcc hmr e1 e2;generalize (A.head i:Int)=hd at *;generalize (tN rs i).1.label=lb at *;generalize (tN rs i).1.sum.length=sn at *;generalize (tN rs i).1.guard.length=nn at *;generalize (tN rs i).1.root=ro at *;go_wp2_with fail
      go_roundw
      case rel=>exact⟨i+1,by omega,by go_num,by rw[(HN2.out (.cells #[] 0 (0,0))).2.2],by rw[(HN2.out (.cells #[] 0 (0,0))).2.2],zA (HN2.out _).1,zA (HN2.out _).2.1⟩
      case measure=>simp[intOf];omega
    ·obtain rfl:i=K.R:=by omega
     have hiN2:¬((K.R:Int)<(K.R:Int)):=by omega
     have hn:=HA.out.n;have hoE:=HOn.out;obtain⟨k0',k1',k2',k3',k4',k5',k6'⟩:=HKs.out.cells;have n:=HKs.out.nes
     have zGT:Hid (∀w' s',xU w' K s'->(∀r,s'.ap r=on r)->(∀r,s'.vd r=Y2 A s on c K.R r)->(∀x,s'.has x=if x=c then (if (rZ A on c K.R).length=1 then true else s.has x) else s.has x)->(∀x,s'.val x=if x=c then (if (rZ A on c K.R).length=1 then jk (fun r=>A.sum r s.val) (rZ A on c K.R) else s.val x) else s.val x)->(∀x,s'.st x=if x=c then (if (rZ A on c K.R).length=0 then s.st x else if (rZ A on c K.R).length=1 then 1 else 2) else s.st x)->(∀x,s'.av x=if x=c then (if (rZ A on c K.R).length=1 then jk (fun r=>A.sum r s.val) (rZ A on c K.R) else s.av x) else s.av x)->xU w' K (uP A c s)):=fun w' s' h h1 h2 h3 h4 h5 h6=>by
      rw[hoE]at h1 h2 h3 h4 h5 h6;exact UA hn h h1 h2 h3 h4 h5 h6
     clear hn hoE;have hcI:(c:Int)<(K.C:Int):=by omega
     generalize jk (fun r=>A.sum r s.val) (rZ A on c K.R)=vl at *;generalize (rZ A on c K.R).length=ln at *;by_cases n1:ln=1
     ·subst n1
      have HH1:=zA (HKs.out.setH (f:=fun x=>if x=c then true else s.has x) hc true (if_pos rfl) (fun r _ zG7=>if_neg zG7));have HH2:=zA (HH1.out.setV (f:=fun x=>if x=c then vl else s.val x) hc vl (if_pos rfl) (fun r _ zG7=>if_neg zG7));have HH3:=zA (HH2.out.setS (f:=fun x=>if x=c then 1 else s.st x) hc 1 (if_pos rfl) (fun r _ zG7=>if_neg zG7));have HH4:=zA (HH3.out.setN (f:=fun x=>if x=c then vl else s.av x) hc vl (if_pos rfl) (fun r _ zG7=>if_neg zG7));have HBf:Hid (Below w0.heap.size w0 ((((wr.setCell ⟨K.gH,c,none⟩ (.bool true)).setCell ⟨K.gV,c,none⟩ (.int .i64 vl)).setCell ⟨K.gN,c*3+1,none⟩ (.int .i64 1)).setCell ⟨K.gN,c*3+2,none⟩ (.int .i64 vl))):=(((HBs.out.setCell (p:=⟨K.gH,c,none⟩) g1 _).setCell (p:=⟨K.gV,c,none⟩) g2 _).setCell (p:=⟨K.gN,c*3+1,none⟩) g5 _).setCell (p:=⟨K.gN,c*3+2,none⟩) g5 _;have HFn:=zA (zGT.out _ _ HH4.out (fun _=>rfl) (fun _=>rfl) (fun x=>by simp) (fun x=>by simp) (fun x=>by simp) (fun x=>by simp));have f1:=HKs.out.rH.free c;have c1:=HKs.out.rH.cell hc;obtain⟨-,-,-,x3,-,-,-⟩:=HH1.out.cells;have f2:=HH1.out.rV.free c;have c2:=HH1.out.rV.cell hc;obtain⟨-,-,-,-,-,-,x6⟩:=HH2.out.cells;have f3:=HH2.out.rN.free (c*3+1);have c3:=HH2.out.rN.cell (j:=c*3+1) (by omega);obtain⟨-,-,-,-,-,-,y6⟩:=HH3.out.cells;have f4:=HH3.out.rN.free (c*3+2);have c4:=HH3.out.rN.cell (j:=c*3+2) (by omega);unfold ki at c3 c4;rw[if_neg (by omega),if_pos (by omega)]at c3;rw[if_neg (by omega),if_neg (by omega)]at c4;clear HH1 HH2 HH3 HH4 zGT HKs;go_wp2_with fail
      go_end0
      exact⟨rfl,HFn.out,HBf.out⟩
     ·by_cases n0:ln=0
      ·subst n0
       have HFn:=zA (zGT.out _ _ HKs.out (fun _=>rfl) (fun _=>rfl) (fun x=>by simp) (fun x=>by simp) (fun x=>by simp) (fun x=>by simp));clear zGT HKs;go_wp2_with fail
       go_end0
       exact⟨rfl,HFn.out,HBs.out⟩
      ·have b1:(1:Int)<(ln:Int):=by omega
       have b2:((ln:Int)==1)=false:=by rw[beq_eq_false_iff_ne];omega
       have HH3:=zA (HKs.out.setS (f:=fun x=>if x=c then 2 else s.st x) hc 2 (if_pos rfl) (fun r _ zG7=>if_neg zG7));have HBf:Hid (Below w0.heap.size w0 (wr.setCell ⟨K.gN,c*3+1,none⟩ (.int .i64 2))):=HBs.out.setCell (p:=⟨K.gN,c*3+1,none⟩) g5 _;have HFn:=zA (zGT.out _ _ HH3.out (fun _=>rfl) (fun _=>rfl) (fun x=>by simp[n1]) (fun x=>by simp[n1]) (fun x=>by simp[n0,n1]) (fun x=>by simp[n1]));have f3:=HKs.out.rN.free (c*3+1);have c3:=HKs.out.rN.cell (j:=c*3+1) (by omega);unfold ki at c3;rw[if_neg (by omega),if_pos (by omega)]at c3;clear zGT HKs HH3 n1 n0;go_wp2_with fail
       go_end0
       exact⟨rfl,HFn.out,HBf.out⟩
end Go.Proofs.YtnbpdffdnphbeaaGreatDoor
