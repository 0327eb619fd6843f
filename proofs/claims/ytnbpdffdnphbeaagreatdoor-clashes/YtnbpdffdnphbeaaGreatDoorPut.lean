import Derived.Test.YtnbpdffdnphbeaaGreatDoorMono
import Derived.Lib.AppendStr
namespace Go.Proofs.YtnbpdffdnphbeaaGreatDoor
open Go.RowKit
variable{W:Nat}{a w:World}
def bC(l:Bs):List Value:=l.map fun b=>Value.int .u8 b.toNat
def zHJ(ov:Value)(il:Bool):Obj:=.cells #[ov,.bool il] 239 (0,0)
def Wr(w:World)(W:Nat)(out:Bs)(il:Bool):Prop :=
 ∃ov,w.heap[W]? = some (zHJ ov il)/\w.ownsRow (W+1) 5 1 ov out.length (bC out)
def okT(x:Obj):Prop:=∀c t fz,x=.cells c t fz->t≠5/\t≠239
structure KT(W:Nat)(w w':World):Prop where
 below:Below W w w'
 kept:∀(k:Nat) (x:Obj),w.heap[k]? = some x->okT x->w'.heap[k]? = some x
theorem KT.refl(W:Nat)(w:World):KT W w w:=⟨tj _ _,fun _ _ h _=>h⟩
theorem KT.trans{b c:World}(h:KT W a b)(k:KT W b c):KT W a c:=⟨h.below.trans k.below,fun i x hx ho=>k.kept i x (h.kept i x hx ho) ho⟩
theorem KT.new(h:KT W a w)(hW:W<=w.heap.size)(o:Obj):KT W a (w.alloc o) :=
 h.trans ⟨(tj _ _).alloc hW _,fun _ _ hx _=>yJ hx⟩
theorem KT.grown{w':World}{size:Nat}{v:Value}{n:Nat}{xs:List Value}(h:KT W a w)(zI8:w.ownsRow (W+1) 5 size v n xs)(hg:w.grownBy w' v.ownBlock)(hW:W<w.heap.size):KT W a w':=by
 refine h.trans ⟨(tj _ _).grown hg (p8 hW) (fun k hk=>by have:=(zQ zI8 k hk).1;omega),fun k x hx ho=>?_⟩
 have zI6:k<w.heap.size:=by
  rcases po k w.heap.size with h1|h1
  ·exact h1
  ·rw[pj h1]at hx;cases hx
 rw[hg.block k zI6 ?_];· exact hx
 intro hE;rcases zI8.2 with ⟨k1,_⟩|⟨g',cap',cur',k1,_,k3,_⟩
 ·rw[k1]at hE;simp[Value.ownBlock]at hE
 ·rw[k1]at hE
  simp[Value.ownBlock]at hE;subst hE;rw[hx]at k3;cases k3;exact(ho _ _ _ rfl).1 rfl
theorem Wr.lt{out:Bs}{il:Bool}(h:Wr w W out il):W<w.heap.size:=by
 obtain⟨nv,h1,_⟩:=h;rcases po W w.heap.size with h2|h2
 ·exact h2
 ·rw[pj h2]at h1;cases h1
def zHQ(out:Bs)(il:Bool)(t:Bs):Bs:=(match il with|true=>out++[32]|false=>out)++t
end Go.Proofs.YtnbpdffdnphbeaaGreatDoor
