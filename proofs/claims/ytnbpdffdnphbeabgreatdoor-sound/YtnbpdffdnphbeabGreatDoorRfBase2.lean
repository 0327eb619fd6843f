import Derived.Test.YtnbpdffdnphbeabGreatDoorPRing
import Derived.Deep.OwnRows
namespace Go.Proofs.YtnbpdffdnphbeabGreatDoor
open Go.RowKit
variable{l:List Bool}{gs:List Nat}{ls:List zE}{B g N:Nat}{m:Nat->Nat->Bool}{v:Value}{w' w:World}(n:Nat)
theorem mT.mem:∀ {ls:List zE} {us:List zT},mT ls us->∀u∈us,∃x,LT x u
 | [],[],_,u,hu=>absurd hu (by simp)
 | x::xs,v::us,h,u,hu=>by
   rcases pf.1 hu with rfl|hu
   ·exact⟨x,h.1⟩
   ·exact mT.mem h.2 u hu
 | [],_::_,h,_,_=>absurd h id
 | _::_,[],h,_,_=>absurd h id
def kX(w:World)(g:Nat)(l:List Bool):Prop:=w.heap[g]? = some (.cells (gC l) 4 (0,0))
theorem kX.cell(h:kX w g l){k:Nat}(hk:k<l.length):w.cell? ⟨g,k,none⟩=some (.bool (l.getD k false)):=by
 simp only[World.cell?,show w.heap[g]? = _ from h];exact Xn hk
theorem kX.free(h:kX w g l)(k:Nat):w.frozen? ⟨g,k,none⟩=false:=by simp[World.frozen?,show w.heap[g]? = _ from h]
theorem kX.lt(h:kX w g l):g<w.heap.size:=by
 rcases py g w.heap.size with h1|h1
 ·exact h1
 ·have h2:w.heap[g]? = _:=h;rw[pq h1]at h2;cases h2
theorem kX.set(h:kX w g l)(k:Nat)(b:Bool):kX (w.setCell ⟨g,k,none⟩ (.bool b)) g (l.set k b):=by
 unfold kX at h ⊢;rw[setCell_eq_setRow w g k _ _ _ _ h,bf w g (gC l) _ _ _ h];congr 2
 simp[gC,List.map_set]
theorem uN.drew{a b:World}(h:uN g a b):uN g a b.drew:=⟨h.os,h.tape,h.output,h.size,h.block⟩
theorem YS:madeCells #[Value.bool false] n=gC (List.replicate n false):=by
 apply Array.ext
 ·simp[madeCells,gC]
 ·intro i h1 h2
  simp[madeCells,gC,Nat.mod_one]
def ve(m:Nat->Nat->Bool)(i N k:Nat):List Bool:=(List.range N).map fun j=>decide (j<k)&&m i j
def zCW(N g:Nat):Value:=.slice (some ⟨g,0,none⟩) N N
structure VY(B:Nat)(w:World)(v:Value)(gs:List Nat)(m:Nat->Nat->Bool)(N k:Nat):Prop where
 len:gs.length=k
 own:w.ownsRow B 166 1 v gs.length (gs.map (zCW N))
 rows:∀j,j<k->kX w (gs.getD j 0) (ve m j N N)
theorem Vn:(Tryz.prog.info? 4).map (fun i=>(i.zero,i.size,i.bytes))=some (some (.bool false),1,1):=by kernel_rfl
theorem Fo{e:TypeId}{size:Nat}{n:Nat}{xs:List Value}(h:w.ownsRow B e size v n xs)(hb:Below w.heap.size w w'):w'.ownsRow B e size v n xs:=by
 refine⟨h.1,?_⟩;rcases h.2 with h1|⟨g,cap,yT,h1,h2,h3,r⟩
 ·exact .inl h1
 ·refine .inr ⟨g,cap,yT,h1,h2,?_,r⟩
  have zJS:g<w.heap.size:=by
   rcases py g w.heap.size with h|h
   ·exact h
   ·rw[pq h]at h3;cases h3
  rw[hb.block g zJS];exact h3
theorem kX.below(h:kX w g l)(hb:Below w.heap.size w w'):kX w' g l:=by
 have hl:=h.lt;unfold kX at h ⊢;rw[hb.block g hl];exact h
theorem kX.grown{n:Nat}{xs:List Value}(h:kX w g l)(hl:w.ownsRow B 166 1 v n xs)(hg:w.grownBy w' v.ownBlock):kX w' g l:=by
 have zJS:=h.lt;unfold kX at h ⊢;rw[hg.block g zJS ?_];· exact h
 intro hE;rcases hl.2 with ⟨k1,_⟩|⟨g',cap',cur',k1,_,k3,_⟩
 ·rw[k1]at hE;simp[Value.ownBlock]at hE
 ·rw[k1]at hE
  simp[Value.ownBlock]at hE;subst hE;rw[h]at k3;simp at k3
theorem VY.snoc{i:Nat}{v':Value}(h:VY B w v gs m N i)(hr:kX w g (ve m i N N))(hg:w.grownBy w' v.ownBlock)(zJU:w'.ownsRow B 166 1 v' (gs.length+1) (gs.map (zCW N)++[zCW N g])):VY B w' v' (gs++[g]) m N (i+1):=by
 refine⟨by rw[tq,mh,h.len],by rw[tq,lj];exact zJU,fun j hj=>?_⟩;have hl:=h.len;rcases py j i with h1|h1
 ·have e:(gs++[g]).getD j 0=gs.getD j 0:=by rw[List.getD,List.getD,po (by omega)]
  rw[e];exact(h.rows j h1).grown h.own hg
 ·obtain rfl:j=i:=by omega
  have e:(gs++[g]).getD j 0=g:=by rw[List.getD,mq (by omega),hl];simp
  rw[e];exact hr.grown h.own hg
theorem Zl.below{a:Option Addr}{zJP:List Bs}(h:Zl w a zJP)(hb:Below w.heap.size w w'):Zl w' a zJP :=
 ⟨fun h0=>let ⟨g,e,p⟩:=h.blk h0;⟨g,e,fun i hi=>by rw[hb.cell (p:=⟨g,i,none⟩) (zY (p i hi))];exact p i hi⟩,h.few⟩
theorem VY.row(h:VY B w v gs m N N){x:Nat}(hx:x<N):∃gm cm,v=.slice (some ⟨gm,0,none⟩) N cm/\w.cell? ⟨gm,x,none⟩=some (.slice (some ⟨gs.getD x 0,0,none⟩) N N)/\gm<w.heap.size/\kX w (gs.getD x 0) (ve m x N N):=by
 rcases h.own.2 with ⟨_,h2⟩|⟨g,cap,yT,h1,_,h3,_,_,_,h7⟩
 ·have:=h.len;omega
 ·refine⟨g,cap,by rw[h1,h.len],?_,?_,h.rows x hx⟩
  ·refine xE h3 h7 ?_
   rw[List.getElem?_map];simp[List.getD,zCW,show x<gs.length by rw[h.len];exact hx]
  ·rcases py g w.heap.size with h9|h9
   ·exact h9
   ·rw[pq h9]at h3;cases h3
theorem VY.below{k:Nat}(h:VY B w v gs m N k)(hb:Below w.heap.size w w'):VY B w' v gs m N k :=
 ⟨h.len,Fo h.own hb,fun j hj=>(h.rows j hj).below hb⟩
theorem zHD{lv:Value}{ls:List LX}(h:Kf w B lv ls)(hg:∀x∈ls,oT x.1)(hf:ls.length<=10000):∃a c,lv=.slice a ls.length c/\ls.length<=c/\tG w a ls:=by
 have hrows:∀x∈ls,ZF w x:=fun x hx=>by
  refine⟨XF.of_rows (h.2 x hx),hg x hx,?_⟩;rcases(h.2 x hx).2.2 with ⟨_,h2⟩|⟨_,cap,_,_,_,_,h4,h5,_,_⟩
  ·rw[h2];exact p7 _
  ·exact p8 h4 h5
 rcases h.1.2 with ⟨h1,h2⟩|⟨gl,cap,yT,h1,_,h3,h4,_,_,h7⟩
 ·exact⟨none,0,by rw[h1,h2],by omega,⟨fun h0=>by omega,hrows,hf⟩⟩
 ·exact⟨_,cap,h1,h4,⟨fun _=>⟨gl,yT,rfl,h3,h7⟩,hrows,hf⟩⟩
theorem Bt:∀i,lJ ls n i=none->∀j,i<=j->j<i+n->jG ls j=false:=by
 induction n with
 | zero=>intro i _ j h1 h2;omega
 | succ n ih =>
   intro i h j h1 h2;rw[lJ]at h;split at h
   ·cases h
   ·rename_i hm
    by_cases hj:j=i
    ·subst hj;simpa using hm
    ·exact ih (i+1) h j (by omega) (by omega)
theorem Gk:∀i,rX ls n i=none->∀j,i<=j->j<i+n->lE ls j=0:=by
 induction n with
 | zero=>intro i _ j h1 h2;omega
 | succ n ih =>
   intro i h j h1 h2;rw[rX]at h;split at h
   ·rename_i hm
    by_cases hj:j=i
    ·subst hj;exact hm
    ·exact ih (i+1) h j (by omega) (by omega)
   ·cases h
theorem VG(k:Int)(xs ys:List zE):vB k (xs++ys)=vB k xs+vB k ys:=by
 induction xs with
 | nil=>simp[vB]
 | cons x r ih=>rw[my,vB,ih,vB];omega
theorem Gf(h:∀i,i<ls.length->jG ls i=false):vB 3 ls<=8:=by
 have key:∀n,n<=ls.length->vB 3 (ls.take n)<=8:=by
  intro n
  induction n with
  | zero=>intro _;simp[vB]
  | succ n ih =>
    intro hn;rw[fQ ls n (by omega),VG];have ih:=ih (by omega);by_cases hk:(lA ls n).kind=3
    ·have hm:=h n (by omega)
     unfold jG at hm;rw[cf,di,hk]at hm;have hl:ZK 3=8:=by decide
     rw[hl]at hm;simp only[vB,hk,if_true];omega
    ·simp only[vB,tj hk];omega
 have:=key ls.length (tg _)
 rwa [cd]at this
end Go.Proofs.YtnbpdffdnphbeabGreatDoor
