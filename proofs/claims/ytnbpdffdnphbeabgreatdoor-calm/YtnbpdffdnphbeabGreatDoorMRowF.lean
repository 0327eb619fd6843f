import Derived.Test.YtnbpdffdnphbeabGreatDoorDAsk
import Derived.Maps.AppendAt
set_option maxHeartbeats 2000000
set_option maxRecDepth 100000
namespace Go.Proofs.YtnbpdffdnphbeabGreatDoor
open Go.RowKit
variable{x y:Int}{p np n j a g:Nat}{Z:Nat->Int × Int}{rk P:Nat->Nat}{f:Nat->Value}{t' t:TypeId}{w wr:World}
def vX(w:World)(g:Nat)(t:TypeId)(n:Nat)(f:Nat->Value):Prop:=∃cs,w.heap[g]? = some (.cells cs t (0,0))/\∀j,j<n->cs[j]? = some (f j)
theorem vX.cell(h:vX w g t n f)(hj:j<n):w.cell? ⟨g,j,none⟩=some (f j):=by
 obtain⟨cs,h1,h2⟩:=h;exact(zB h1 j).trans (h2 j hj)
theorem vX.free(h:vX w g t n f)(j:Nat):w.frozen? ⟨g,j,none⟩=false:=by
 obtain⟨cs,h1,_⟩:=h;simp[World.frozen?,h1]
theorem vX.lt(h:vX w g t n f):g<w.heap.size:=by
 obtain⟨cs,h1,_⟩:=h;exact zL h1
theorem vX.below{w':World}(h:vX w g t n f)(hb:Below w.heap.size w w'):vX w' g t n f:=by
 obtain⟨cs,h1,h2⟩:=h;exact⟨cs,by rw[hb.block g (zL h1)];exact h1,h2⟩
theorem vX.other(h:vX w g t n f){g':Nat}(v:Value)(zK8:g≠g'):vX (w.setCell ⟨g',j,none⟩ v) g t n f:=by
 obtain⟨cs,h1,h2⟩:=h;exact⟨cs,by rw[py w ⟨g',j,none⟩ g v zK8];exact h1,h2⟩
theorem vX.set{f':Nat->Value}(h:vX w g t n f)(v:Value)(hj:j<n)(e1:f' j=v)(e2:∀x,x<n->x≠j->f' x=f x):vX (w.setCell ⟨g,j,none⟩ v) g t n f':=by
 obtain⟨cs,h1,h2⟩:=h
 have zKD:j<cs.size:=by
  rcases mc j cs.size with h3|h3
  ·exact h3
  ·have:=h2 j hj;rw[ma h3]at this;cases this
 refine⟨_,tr w g j cs t v h1,fun x hx=>?_⟩;by_cases hxj:x=j
 ·subst hxj;rw[e1];simp[zKD]
 ·rw[e2 x hx hxj,Array.getElem?_setIfInBounds,tb (fun e=>hxj e.symm)];exact h2 x hx
theorem vX.cel(h:vX w g t n f):kS w (some ⟨g,0,none⟩) ((List.range n).map f):=by
 right
 refine⟨g,rfl,fun j hj=>?_⟩;have hj':j<n:=by simpa using hj
 rw[h.cell hj'];simp[hj']
def zBB(z:Int × Int):List Value:=[.int .i64 z.1,.int .i64 z.2]
def dH(l:List (Int × Int)):List Value:=l.flatMap zBB
theorem pQ(a b:List (Int × Int)):dH (a++b)=dH a++dH b:=by unfold dH;rw[li]
theorem V1:(Tryz.prog.info? 221).map (fun i=>(i.zero,i.size,i.bytes))=some (some (.agg #[.int .i64 0,.int .i64 0]),2,16):=by kernel_rfl
theorem aH(z:Int × Int)(b:Int):(qW z b).length<=3:=by
 unfold qW;split
 ·simp
 ·simp only[tl];split <;> split <;> simp
theorem KS{B:Nat}{k:Nat}{cs:List Value}(hg:w.heap[g]? = some (.cells cs.toArray t (0,0)))(hB:B<=g)(n:Nat)(hl:cs.length=n*k)(hn:n<=maxLen):w.ownsRow B t k (.slice (some ⟨g,0,none⟩) n n) n cs :=
 ⟨hl,.inr ⟨g,n,cs.toArray,rfl,hB,hg,j1 _,hn,by simp[hl],by simp[<-hl]⟩⟩
theorem zC8(w:World)(z:Int × Int)(b:Int)(hb : -1000000<=b/\b<=1000000) :
 Calls Tryz.prog 172 #[.agg #[.int .i64 z.1,.int .i64 z.2],.int .i64 b] w fun e w'=>∃v,e=.returned v/\w'.ownsRow w.heap.size 221 2 v (qW z b).length (dH (qW z b))/\Below w.heap.size w w':=by
 obtain⟨i0,hi0,hz0,hz1,hz2⟩:=info_parts V1;obtain⟨lo,hi⟩:=z;have hw1:wrap64 (b-1)=b-1:=by unfold wrap64;omega
 have hw2:wrap64 (b+1)=b+1:=by unfold wrap64;omega
 have HS:Hid (qW (lo,hi) b=if b<lo\/hi<b then [(lo,hi)] else ((if lo<b then [(lo,b-1)] else [])++[(b,b)])++(if b<hi then [(b+1,hi)] else [])):=rfl;simp only
 go_enter Tryz.func172,Tryz.ntmps172
 by_cases k0:b<lo\/hi<b
 ·have HE:Hid (qW (lo,hi) b=[(lo,hi)]):=by unfold Hid;rw[HS.out,tm k0]
  have HF:Hid (∀O:Obj,((w.alloc O).alloc (.cells #[.int .i64 lo,.int .i64 hi] 221)).ownsRow w.heap.size 221 2 (.slice (some ⟨w.heap.size+1,0,none⟩) 1 1) (qW (lo,hi) b).length (dH (qW (lo,hi) b))/\Below w.heap.size w ((w.alloc O).alloc (.cells #[.int .i64 lo,.int .i64 hi] 221))):=fun O=>by
   rw[HE.out];exact⟨KS (cs:=[.int .i64 lo,.int .i64 hi]) (yW _ _ _ (by simp)) (mw _) 1 rfl (by unfold maxLen;omega),(fj (j1 _) _).alloc (by simp) _⟩
  by_cases k1:b<lo
  ·clear k0
   go_wp2_with fail
   go_ret
   exact⟨_,rfl,(HF.out _).1,(HF.out _).2⟩
  ·have k2:hi<b:=k0.resolve_left k1
   clear k0;go_wp2_with fail
   go_ret
   exact⟨_,rfl,(HF.out _).1,(HF.out _).2⟩
 ·have k1:¬b<lo:=fun h=>k0 (.inl h)
  have k2:¬hi<b:=fun h=>k0 (.inr h);have HE:Hid (qW (lo,hi) b=((if lo<b then [(lo,b-1)] else [])++[(b,b)])++(if b<hi then [(b+1,hi)] else [])):=by unfold Hid;rw[HS.out,tb k0]
  clear k0 HS
  go_upto_region 4 with fail
  generalize hOz:Obj.cells #[Value.int .i64 lo,.int .i64 hi] 221=Oz at *;have hs0:(w.alloc Oz).heap.size=w.heap.size+1:=by simp
  have HO0:Hid (((w.alloc Oz).alloc (.cells #[] 221)).ownsRow (w.heap.size+1) 221 2 (.slice (some ⟨w.heap.size+1,0,none⟩) 0 0) 0 (dH [])):=⟨rfl,.inr ⟨w.heap.size+1,0,#[],rfl,j1 _,yW _ _ _ hs0,j1 _,ty _,rfl,rfl⟩⟩;have HB0:Hid (Below w.heap.size w ((w.alloc Oz).alloc (.cells #[] 221))):=(fj (j1 _) _).alloc (by omega) _;have HZ0:Hid (((w.alloc Oz).alloc (.cells #[] 221)).heap[w.heap.size]? = some (Obj.cells #[Value.int .i64 lo,.int .i64 hi] 221)):=by unfold Hid;rw[hOz];exact zU (zG _ _)
  have hs1:w.heap.size+2<=((w.alloc Oz).alloc (.cells #[] 221)).heap.size:=by simp
  clear hOz hs0;generalize (w.alloc Oz).alloc (.cells #[] 221)=w0 at *;generalize Value.slice (some ⟨w.heap.size+1,0,none⟩) 0 0=v0 at *;have w0c0:w0.cell? ⟨w.heap.size,0,none⟩=some (.int .i64 lo):=(zB HZ0.out 0).trans rfl;have w0c1:w0.cell? ⟨w.heap.size,1,none⟩=some (.int .i64 hi):=(zB HZ0.out 1).trans rfl;by_cases k3:lo<b
  ·rw[tm k3]at HE
   by_cases k4:b<hi
   ·rw[tm k4]at HE
    go_wp2_with (at_builtin;refine wpList_append_own _ rfl _ _ 218 rfl (w.heap.size+1) 221 i0 _ 2 16 Tryz.underlying218 hi0 hz0 hz1 hz2 rfl (by decide) _ _ _ rfl (HO0.out.alloc _) ⟨w0.heap.size,0,none⟩ 1 1 [.int .i64 lo,.int .i64 (b-1)] rfl rfl ?c1k1 ?c1k2 ?c1k3 ?c1k4 ?c1k5 ?_)
    try (case c1k1=>first|exact zM _ _ _ _ rfl|exact fun _ _ h=>h)
    try (case c1k2=>first|exact⟨rfl,rfl⟩|rfl|(intro u hu;simp at hu;rcases hu with rfl|rfl <;> rfl))
    try (case c1k3=>unfold maxLen;omega)
    try (case c1k4=>omega)
    try (case c1k5=>first|omega|(simp;omega))
    intro v1 w1 zK6 zK7 _;have HBq1:Hid (Below w.heap.size w w1):=(HB0.out.alloc (by omega) _).grown zK7 (by simp;omega) (fun k hk=>by have h1:=(yA HO0.out k hk).1;omega);have HOq1:Hid (w1.ownsRow (w.heap.size+1) 221 2 v1 (0+1) (dH ([]++[(lo,(b-1))]))):=by unfold Hid;rw[pQ];exact zK6
    have HZq1:Hid (w1.heap[w.heap.size]? = some (Obj.cells #[Value.int .i64 lo,.int .i64 hi] 221)):=by
     unfold Hid;rw[zK7.block w.heap.size (by simp;omega) (fun e=>by have h1:=(yA HO0.out _ e.symm).1;omega)];exact zU HZ0.out
    have hsq1:w.heap.size+2<=w1.heap.size:=by have h1:=zK7.size;simp at h1;omega
    have w1c0:w1.cell? ⟨w.heap.size,0,none⟩=some (.int .i64 lo):=(zB HZq1.out 0).trans rfl;have w1c1:w1.cell? ⟨w.heap.size,1,none⟩=some (.int .i64 hi):=(zB HZq1.out 1).trans rfl;clear zK6 zK7
    go_wp2_with (at_builtin;refine wpList_append_own _ rfl _ _ 218 rfl (w.heap.size+1) 221 i0 _ 2 16 Tryz.underlying218 hi0 hz0 hz1 hz2 rfl (by decide) _ _ _ rfl (HOq1.out.alloc _) ⟨w1.heap.size,0,none⟩ 1 1 [.int .i64 b,.int .i64 b] rfl rfl ?c2k1 ?c2k2 ?c2k3 ?c2k4 ?c2k5 ?_)
    try (case c2k1=>first|exact zM _ _ _ _ rfl|exact fun _ _ h=>h)
    try (case c2k2=>first|exact⟨rfl,rfl⟩|rfl|(intro u hu;simp at hu;rcases hu with rfl|rfl <;> rfl))
    try (case c2k3=>unfold maxLen;omega)
    try (case c2k4=>omega)
    try (case c2k5=>first|omega|(simp;omega))
    intro v2 w2 zK6 zK7 _;have HBq2:Hid (Below w.heap.size w w2):=(HBq1.out.alloc (by omega) _).grown zK7 (by simp;omega) (fun k hk=>by have h1:=(yA HOq1.out k hk).1;omega);have HOq2:Hid (w2.ownsRow (w.heap.size+1) 221 2 v2 (1+1) (dH (([]++[(lo,(b-1))])++[(b,b)]))):=by unfold Hid;rw[pQ];exact zK6
    have HZq2:Hid (w2.heap[w.heap.size]? = some (Obj.cells #[Value.int .i64 lo,.int .i64 hi] 221)):=by
     unfold Hid;rw[zK7.block w.heap.size (by simp;omega) (fun e=>by have h1:=(yA HOq1.out _ e.symm).1;omega)];exact zU HZq1.out
    have hsq2:w.heap.size+2<=w2.heap.size:=by have h1:=zK7.size;simp at h1;omega
    have w2c0:w2.cell? ⟨w.heap.size,0,none⟩=some (.int .i64 lo):=(zB HZq2.out 0).trans rfl;have w2c1:w2.cell? ⟨w.heap.size,1,none⟩=some (.int .i64 hi):=(zB HZq2.out 1).trans rfl;clear zK6 zK7
    go_wp2_with (at_builtin;refine wpList_append_own _ rfl _ _ 218 rfl (w.heap.size+1) 221 i0 _ 2 16 Tryz.underlying218 hi0 hz0 hz1 hz2 rfl (by decide) _ _ _ rfl (HOq2.out.alloc _) ⟨w2.heap.size,0,none⟩ 1 1 [.int .i64 (b+1),.int .i64 hi] rfl rfl ?c3k1 ?c3k2 ?c3k3 ?c3k4 ?c3k5 ?_)
    try (case c3k1=>first|exact zM _ _ _ _ rfl|exact fun _ _ h=>h)
    try (case c3k2=>first|exact⟨rfl,rfl⟩|rfl|(intro u hu;simp at hu;rcases hu with rfl|rfl <;> rfl))
    try (case c3k3=>unfold maxLen;omega)
    try (case c3k4=>omega)
    try (case c3k5=>first|omega|(simp;omega))
    intro v3 w3 zK6 zK7 _;have HBq3:Hid (Below w.heap.size w w3):=(HBq2.out.alloc (by omega) _).grown zK7 (by simp;omega) (fun k hk=>by have h1:=(yA HOq2.out k hk).1;omega);have HOq3:Hid (w3.ownsRow (w.heap.size+1) 221 2 v3 (2+1) (dH ((([]++[(lo,(b-1))])++[(b,b)])++[((b+1),hi)]))):=by unfold Hid;rw[pQ];exact zK6
    have HZq3:Hid (w3.heap[w.heap.size]? = some (Obj.cells #[Value.int .i64 lo,.int .i64 hi] 221)):=by
     unfold Hid;rw[zK7.block w.heap.size (by simp;omega) (fun e=>by have h1:=(yA HOq2.out _ e.symm).1;omega)];exact zU HZq2.out
    have hsq3:w.heap.size+2<=w3.heap.size:=by have h1:=zK7.size;simp at h1;omega
    have w3c0:w3.cell? ⟨w.heap.size,0,none⟩=some (.int .i64 lo):=(zB HZq3.out 0).trans rfl;have w3c1:w3.cell? ⟨w.heap.size,1,none⟩=some (.int .i64 hi):=(zB HZq3.out 1).trans rfl;clear zK6 zK7;go_wp2_with fail
    go_ret
    exact⟨_,rfl,by rw[HE.out];exact yU HOq3.out (mw _),HBq3.out⟩
   ·rw[tb k4]at HE
    go_wp2_with (at_builtin;refine wpList_append_own _ rfl _ _ 218 rfl (w.heap.size+1) 221 i0 _ 2 16 Tryz.underlying218 hi0 hz0 hz1 hz2 rfl (by decide) _ _ _ rfl (HO0.out.alloc _) ⟨w0.heap.size,0,none⟩ 1 1 [.int .i64 lo,.int .i64 (b-1)] rfl rfl ?c4k1 ?c4k2 ?c4k3 ?c4k4 ?c4k5 ?_)
    try (case c4k1=>first|exact zM _ _ _ _ rfl|exact fun _ _ h=>h)
    try (case c4k2=>first|exact⟨rfl,rfl⟩|rfl|(intro u hu;simp at hu;rcases hu with rfl|rfl <;> rfl))
    try (case c4k3=>unfold maxLen;omega)
    try (case c4k4=>omega)
    try (case c4k5=>first|omega|(simp;omega))
    intro v1 w1 zK6 zK7 _;have HBq1:Hid (Below w.heap.size w w1):=(HB0.out.alloc (by omega) _).grown zK7 (by simp;omega) (fun k hk=>by have h1:=(yA HO0.out k hk).1;omega);have HOq1:Hid (w1.ownsRow (w.heap.size+1) 221 2 v1 (0+1) (dH ([]++[(lo,(b-1))]))):=by unfold Hid;rw[pQ];exact zK6
    have HZq1:Hid (w1.heap[w.heap.size]? = some (Obj.cells #[Value.int .i64 lo,.int .i64 hi] 221)):=by
     unfold Hid;rw[zK7.block w.heap.size (by simp;omega) (fun e=>by have h1:=(yA HO0.out _ e.symm).1;omega)];exact zU HZ0.out
    have hsq1:w.heap.size+2<=w1.heap.size:=by have h1:=zK7.size;simp at h1;omega
    have w1c0:w1.cell? ⟨w.heap.size,0,none⟩=some (.int .i64 lo):=(zB HZq1.out 0).trans rfl;have w1c1:w1.cell? ⟨w.heap.size,1,none⟩=some (.int .i64 hi):=(zB HZq1.out 1).trans rfl;clear zK6 zK7
    go_wp2_with (at_builtin;refine wpList_append_own _ rfl _ _ 218 rfl (w.heap.size+1) 221 i0 _ 2 16 Tryz.underlying218 hi0 hz0 hz1 hz2 rfl (by decide) _ _ _ rfl (HOq1.out.alloc _) ⟨w1.heap.size,0,none⟩ 1 1 [.int .i64 b,.int .i64 b] rfl rfl ?c5k1 ?c5k2 ?c5k3 ?c5k4 ?c5k5 ?_)
    try (case c5k1=>first|exact zM _ _ _ _ rfl|exact fun _ _ h=>h)
    try (case c5k2=>first|exact⟨rfl,rfl⟩|rfl|(intro u hu;simp at hu;rcases hu with rfl|rfl <;> rfl))
    try (case c5k3=>unfold maxLen;omega)
    try (case c5k4=>omega)
    try (case c5k5=>first|omega|(simp;omega))
    intro v2 w2 zK6 zK7 _;have HBq2:Hid (Below w.heap.size w w2):=(HBq1.out.alloc (by omega) _).grown zK7 (by simp;omega) (fun k hk=>by have h1:=(yA HOq1.out k hk).1;omega);have HOq2:Hid (w2.ownsRow (w.heap.size+1) 221 2 v2 (1+1) (dH (([]++[(lo,(b-1))])++[(b,b)]))):=by unfold Hid;rw[pQ];exact zK6
    have HZq2:Hid (w2.heap[w.heap.size]? = some (Obj.cells #[Value.int .i64 lo,.int .i64 hi] 221)):=by
     unfold Hid;rw[zK7.block w.heap.size (by simp;omega) (fun e=>by have h1:=(yA HOq1.out _ e.symm).1;omega)];exact zU HZq1.out
    have hsq2:w.heap.size+2<=w2.heap.size:=by have h1:=zK7.size;simp at h1;omega
    have w2c0:w2.cell? ⟨w.heap.size,0,none⟩=some (.int .i64 lo):=(zB HZq2.out 0).trans rfl;have w2c1:w2.cell? ⟨w.heap.size,1,none⟩=some (.int .i64 hi):=(zB HZq2.out 1).trans rfl;clear zK6 zK7;go_wp2_with fail
    go_ret
    exact⟨_,rfl,by rw[HE.out];exact yU HOq2.out (mw _),HBq2.out⟩
  ·rw[tb k3]at HE
   by_cases k4:b<hi
   ·rw[tm k4]at HE
    go_wp2_with (at_builtin;refine wpList_append_own _ rfl _ _ 218 rfl (w.heap.size+1) 221 i0 _ 2 16 Tryz.underlying218 hi0 hz0 hz1 hz2 rfl (by decide) _ _ _ rfl (HO0.out.alloc _) ⟨w0.heap.size,0,none⟩ 1 1 [.int .i64 b,.int .i64 b] rfl rfl ?c6k1 ?c6k2 ?c6k3 ?c6k4 ?c6k5 ?_)
    try (case c6k1=>first|exact zM _ _ _ _ rfl|exact fun _ _ h=>h)
    try (case c6k2=>first|exact⟨rfl,rfl⟩|rfl|(intro u hu;simp at hu;rcases hu with rfl|rfl <;> rfl))
    try (case c6k3=>unfold maxLen;omega)
    try (case c6k4=>omega)
    try (case c6k5=>first|omega|(simp;omega))
    intro v1 w1 zK6 zK7 _;have HBq1:Hid (Below w.heap.size w w1):=(HB0.out.alloc (by omega) _).grown zK7 (by simp;omega) (fun k hk=>by have h1:=(yA HO0.out k hk).1;omega);have HOq1:Hid (w1.ownsRow (w.heap.size+1) 221 2 v1 (0+1) (dH ([]++[(b,b)]))):=by unfold Hid;rw[pQ];exact zK6
    have HZq1:Hid (w1.heap[w.heap.size]? = some (Obj.cells #[Value.int .i64 lo,.int .i64 hi] 221)):=by
     unfold Hid;rw[zK7.block w.heap.size (by simp;omega) (fun e=>by have h1:=(yA HO0.out _ e.symm).1;omega)];exact zU HZ0.out
    have hsq1:w.heap.size+2<=w1.heap.size:=by have h1:=zK7.size;simp at h1;omega
    have w1c0:w1.cell? ⟨w.heap.size,0,none⟩=some (.int .i64 lo):=(zB HZq1.out 0).trans rfl;have w1c1:w1.cell? ⟨w.heap.size,1,none⟩=some (.int .i64 hi):=(zB HZq1.out 1).trans rfl;clear zK6 zK7
    go_wp2_with (at_builtin;refine wpList_append_own _ rfl _ _ 218 rfl (w.heap.size+1) 221 i0 _ 2 16 Tryz.underlying218 hi0 hz0 hz1 hz2 rfl (by decide) _ _ _ rfl (HOq1.out.alloc _) ⟨w1.heap.size,0,none⟩ 1 1 [.int .i64 (b+1),.int .i64 hi] rfl rfl ?c7k1 ?c7k2 ?c7k3 ?c7k4 ?c7k5 ?_)
    try (case c7k1=>first|exact zM _ _ _ _ rfl|exact fun _ _ h=>h)
    try (case c7k2=>first|exact⟨rfl,rfl⟩|rfl|(intro u hu;simp at hu;rcases hu with rfl|rfl <;> rfl))
    try (case c7k3=>unfold maxLen;omega)
    try (case c7k4=>omega)
    try (case c7k5=>first|omega|(simp;omega))
    intro v2 w2 zK6 zK7 _;have HBq2:Hid (Below w.heap.size w w2):=(HBq1.out.alloc (by omega) _).grown zK7 (by simp;omega) (fun k hk=>by have h1:=(yA HOq1.out k hk).1;omega);have HOq2:Hid (w2.ownsRow (w.heap.size+1) 221 2 v2 (1+1) (dH (([]++[(b,b)])++[((b+1),hi)]))):=by unfold Hid;rw[pQ];exact zK6
    have HZq2:Hid (w2.heap[w.heap.size]? = some (Obj.cells #[Value.int .i64 lo,.int .i64 hi] 221)):=by
     unfold Hid;rw[zK7.block w.heap.size (by simp;omega) (fun e=>by have h1:=(yA HOq1.out _ e.symm).1;omega)];exact zU HZq1.out
    have hsq2:w.heap.size+2<=w2.heap.size:=by have h1:=zK7.size;simp at h1;omega
    have w2c0:w2.cell? ⟨w.heap.size,0,none⟩=some (.int .i64 lo):=(zB HZq2.out 0).trans rfl;have w2c1:w2.cell? ⟨w.heap.size,1,none⟩=some (.int .i64 hi):=(zB HZq2.out 1).trans rfl;clear zK6 zK7;go_wp2_with fail
    go_ret
    exact⟨_,rfl,by rw[HE.out];exact yU HOq2.out (mw _),HBq2.out⟩
   ·rw[tb k4]at HE
    go_wp2_with (at_builtin;refine wpList_append_own _ rfl _ _ 218 rfl (w.heap.size+1) 221 i0 _ 2 16 Tryz.underlying218 hi0 hz0 hz1 hz2 rfl (by decide) _ _ _ rfl (HO0.out.alloc _) ⟨w0.heap.size,0,none⟩ 1 1 [.int .i64 b,.int .i64 b] rfl rfl ?c8k1 ?c8k2 ?c8k3 ?c8k4 ?c8k5 ?_)
    try (case c8k1=>first|exact zM _ _ _ _ rfl|exact fun _ _ h=>h)
    try (case c8k2=>first|exact⟨rfl,rfl⟩|rfl|(intro u hu;simp at hu;rcases hu with rfl|rfl <;> rfl))
    try (case c8k3=>unfold maxLen;omega)
    try (case c8k4=>omega)
    try (case c8k5=>first|omega|(simp;omega))
    intro v1 w1 zK6 zK7 _;have HBq1:Hid (Below w.heap.size w w1):=(HB0.out.alloc (by omega) _).grown zK7 (by simp;omega) (fun k hk=>by have h1:=(yA HO0.out k hk).1;omega);have HOq1:Hid (w1.ownsRow (w.heap.size+1) 221 2 v1 (0+1) (dH ([]++[(b,b)]))):=by unfold Hid;rw[pQ];exact zK6
    have HZq1:Hid (w1.heap[w.heap.size]? = some (Obj.cells #[Value.int .i64 lo,.int .i64 hi] 221)):=by
     unfold Hid;rw[zK7.block w.heap.size (by simp;omega) (fun e=>by have h1:=(yA HO0.out _ e.symm).1;omega)];exact zU HZ0.out
    have hsq1:w.heap.size+2<=w1.heap.size:=by have h1:=zK7.size;simp at h1;omega
    have w1c0:w1.cell? ⟨w.heap.size,0,none⟩=some (.int .i64 lo):=(zB HZq1.out 0).trans rfl;have w1c1:w1.cell? ⟨w.heap.size,1,none⟩=some (.int .i64 hi):=(zB HZq1.out 1).trans rfl;clear zK6 zK7;go_wp2_with fail
    go_ret
    exact⟨_,rfl,by rw[HE.out];exact yU HOq1.out (mw _),HBq1.out⟩
theorem K8(zs:List (Int × Int))(b:Int)(i:Nat)(h:i<zs.length):xY (zs.take (i+1)) b=xY (zs.take i) b++qW (zs.getD i (0,0)) b:=by
 unfold xY;rw[cw,li,p9 h,show zs.getD i (0,0)=zs[i] by simp[List.getD,h]];simp
theorem U7(zs:List (Int × Int))(b:Int):(xY zs b).length<=3*zs.length:=by
 unfold xY
 induction zs with
 | nil=>simp
 | cons z r ih=>rw[bf,tl,pd];have:=aH z b;omega
theorem GO{a:Option Addr}{l:List (Int × Int)}(h:kS w a (dH l)){i:Nat}(hi:i<l.length):∃g,a=some ⟨g,0,none⟩/\w.cell? ⟨g,i*2,none⟩=some (.int .i64 (l.getD i (0,0)).1)/\w.cell? ⟨g,i*2+1,none⟩=some (.int .i64 (l.getD i (0,0)).2):=by
 obtain⟨g,e,c0⟩:=h.at ((zN zBB 2 (fun _=>rfl) (0,0) l i 0 hi (by decide)).trans rfl);obtain⟨g',e',c1⟩:=h.at ((zN zBB 2 (fun _=>rfl) (0,0) l i 1 hi (by decide)).trans rfl);obtain rfl:g=g':=by rw[e]at e';simpa using e'
 exact⟨g,e,c0,c1⟩
structure Jk(zs:List (Int × Int)):Prop where
 ok:∀z∈zs,z.1<=z.2
 up:zs.Pairwise fun z z'=>z.2<z'.1
theorem Z6{z:Int × Int}(h:z.1<=z.2)(b:Int):Jk (qW z b):=by
 unfold qW;by_cases h1:b<z.1\/z.2<b
 ·rw[tm h1];exact⟨fun x hx=>by simp at hx;subst hx;exact h,List.pairwise_singleton _ _⟩
 ·rw[tb h1]
  by_cases h2:z.1<b <;> by_cases h3:b<z.2 <;> simp only[h2,h3,f9,if_false,di,mq,cd] <;>
   refine⟨fun x hx=>?_,?_⟩ <;> (try (simp at hx;(try rcases hx with rfl|rfl|rfl) <;> (try rcases hx with rfl|rfl) <;> (try subst hx) <;> simp <;> omega)) <;> simp <;> omega
theorem Jk.split{zs:List (Int × Int)}(h:Jk zs)(b:Int):Jk (xY zs b):=by
 refine⟨fun x hx=>?_,List.pairwise_flatMap.2 ⟨fun z hz=>(Z6 (h.ok z hz) b).up,h.up.imp fun {z z'} hzz x hx y hy=>?_⟩⟩
 ·obtain⟨z,hz,hx⟩:=bh.1 hx
  exact(Z6 (h.ok z hz) b).ok x hx
 ·have:=gJ hx
  have:=gJ hy;omega
theorem aG{z:Int × Int}{b:Int}(h:b<z.1\/z.2<b):qW z b=[z]:=by unfold qW;rw[tm h]
theorem K7{zs:List (Int × Int)}{b:Int}(h:∀z∈zs,b<z.1):(xY zs b).length=zs.length:=by
 unfold xY
 induction zs with
 | nil=>rfl
 | cons z r ih=>rw[bf,aG (.inl (h z (by simp))),tl,ih fun x hx=>h x (by simp[hx])];simp;omega
theorem DU{zs:List (Int × Int)}(h:Jk zs)(b:Int):(xY zs b).length<=zs.length+2:=by
 induction zs with
 | nil=>simp[xY]
 | cons z r ih =>
   have hu:=List.pairwise_cons.1 h.up;have e:xY (z::r) b=qW z b++xY r b:=by unfold xY;rw[bf]
   rw[e,tl,pd];by_cases h1:b<z.1\/z.2<b
   ·rw[aG h1]
    have:=ih ⟨fun x hx=>h.ok x (by simp[hx]),hu.2⟩;simp;omega
   ·have h2:=K7 (zs:=r) (b:=b) fun x hx=>by have:=hu.1 x hx;omega
    have h3:=aH z b;omega
theorem eO(zs:List (Int × Int))(l:List Int)(x:Int):xN zs (l++[x])=xY (xN zs l) x:=by unfold xN;rw[List.foldl_append];rfl
def GC(zs:List (Int × Int)):Prop:=Jk zs\/∃z,zs=[z]/\z.2<z.1
theorem GC.split{zs:List (Int × Int)}(h:GC zs)(b:Int):GC (xY zs b)/\(xY zs b).length<=zs.length+2:=by
 rcases h with h|⟨z,rfl,hz⟩
 ·exact⟨.inl (h.split b),DU h b⟩
 ·have e:xY [z] b=[z]:=by unfold xY;rw[bf,aG (by omega)];rfl
  rw[e];exact⟨.inr ⟨z,rfl,hz⟩,by simp⟩
theorem JS(lo hi:Int):GC [(lo,hi)]:=by
 by_cases h:lo<=hi
 ·exact .inl ⟨fun z hz=>by simp at hz;subst hz;exact h,List.pairwise_singleton _ _⟩
 ·exact .inr ⟨_,rfl,by show hi<lo;omega⟩
theorem cE{zs:List (Int × Int)}(h:GC zs)(l:List Int):∀i,i<=l.length->GC (xN zs (l.take i))/\(xN zs (l.take i)).length<=zs.length+2*i:=by
 intro i
 induction i with
 | zero=>intro _;simp only[List.take_zero];exact⟨h,by simp[xN]⟩
 | succ i ih =>
   intro hi;obtain⟨h1,h2⟩:=ih (by omega);rw[cw,p9 (by omega),Option.toList_some,eO];obtain⟨h3,h4⟩:=h1.split l[i];exact⟨h3,by omega⟩
theorem Z5(zs:List (Int × Int))(l:List Int)(i:Nat)(h:i<l.length):xN zs (l.take (i+1))=xY (xN zs (l.take i)) (l.getD i 0):=by
 rw[cw,p9 h,Option.toList_some,eO];simp[List.getD,h]
theorem GT(l:List (Int × Int))(i:Nat)(h:i<l.length):dH (l.take (i+1))=dH (l.take i)++[.int .i64 (l.getD i (0,0)).1,.int .i64 (l.getD i (0,0)).2]:=by
 rw[cw,pQ,p9 h];simp[dH,zBB,List.getD,h]
theorem YC(w:World)(a:Option Addr)(c:Nat)(zs:List (Int × Int))(b:Int)(hb : -1000000<=b/\b<=1000000)(hz:kS w a (dH zs))(hf:zs.length<=100000) :
 Calls Tryz.prog 141 #[.slice a zs.length c,.int .i64 b] w fun e w'=>∃v,e=.returned v/\w'.ownsRow w.heap.size 221 2 v (xY zs b).length (dH (xY zs b))/\Below w.heap.size w w':=by
 obtain⟨i0,hi0,hz0,hz1,hz2⟩:=info_parts V1;have HZ:=zA hz;have HSp:=zA (fun w' z=>zC8 w' z b hb);clear hz hb
 go_enter Tryz.func141,Tryz.ntmps141
 go_wp2_with fail
 have HO0:Hid ((w.alloc (.cells #[] 221)).ownsRow w.heap.size 221 2 (.slice (some ⟨w.heap.size,0,none⟩) 0 0) (xY (zs.take 0) b).length (dH (xY (zs.take 0) b))):=⟨rfl,.inr ⟨w.heap.size,0,#[],rfl,j1 _,zG _ _,j1 _,ty _,rfl,rfl⟩⟩;have HB0:Hid (Below w.heap.size w (w.alloc (.cells #[] 221))):=fj (j1 _) _;generalize w.alloc (.cells #[] 221)=w0 at *
 go_loopw [5,13] (fun ov iv wr=>∃(i:Nat),i<=zs.length/\iv=.int .i64 i/\Hid (Below w.heap.size w wr)/\Hid (wr.ownsRow w.heap.size 221 2 ov (xY (zs.take i) b).length (dH (xY (zs.take i) b)))) (fun _ iv _=>zs.length-(intOf iv).toNat)
 case atStart=>exact⟨0,ty _,rfl,HB0,HO0⟩
 case round =>
  obtain⟨i,hi,rfl,HB,HO⟩:=hrel;have zKH:=HB.out.size;obtain⟨oa,oc,rfl⟩:=zQ HO.out;by_cases zK4:i<zs.length
  ·have ii:(i:Int)<(zs.length:Int):=by omega
   obtain⟨g,rfl,q0,q1⟩:=GO (HZ.out.below HB.out) zK4;have lg:=yF q0;have ng:wr.heap.size≠g:=by omega
   have zKV:=zA (K8 zs b i zK4);have hle:(xY (zs.take i) b).length<=300000:=p7 (U7 _ _) (by simp;omega);have hl3:=aH (zs.getD i (0,0)) b;have HS1:=zA (fun w'=>HSp.out w' (zs.getD i (0,0)));have HBa:Hid (∀o,Below w.heap.size w (wr.alloc o)):=fun o=>HB.out.alloc zKH o;have HOa:Hid (∀o,(wr.alloc o).ownsRow w.heap.size 221 2 (.slice oa (xY (zs.take i) b).length oc) (xY (zs.take i) b).length (dH (xY (zs.take i) b))):=fun o=>HO.out.alloc o;generalize xY (zs.take i) b=A0 at *;generalize qW (zs.getD i (0,0)) b=P at *;generalize zs.getD i (0,0)=z at *;obtain⟨zl,zh⟩:=z;simp only at q0 q1 HS1;go_wp2_with fail
   generalize hOz:Obj.cells #[Value.int .i64 zl,.int .i64 zh] 221=Oz at *;have HBn:=zA (HBa.out Oz);have HOn:=zA (HOa.out Oz);have hsn:w.heap.size<=(wr.alloc Oz).heap.size:=by simp;omega
   clear hOz HBa HOa;generalize wr.alloc Oz=wn at *;refine(HS1.out wn).mono ?_;rintro e w2 ⟨v,rfl,hp2,hb2⟩;obtain⟨pa,pc,rfl⟩:=zQ hp2;have HB2:Hid (Below w.heap.size w w2):=HBn.out.trans (hb2.mono hsn);have hs2:=hb2.size
   have HO2:Hid (w2.ownsRow w.heap.size 221 2 (.slice oa A0.length oc) A0.length (dH (A0++P.take 0))):=by
    rw[List.take_zero,mq];refine⟨HOn.out.1,?_⟩;rcases HOn.out.2 with k|⟨g',cap,yM,k1,k2,k3,k4⟩
    ·exact .inl k
    ·exact .inr ⟨g',cap,yM,k1,k2,by rw[hb2.block g' (zL k3)];exact k3,k4⟩
   have HPb:Hid (∀j,j<P.length->∃pg,pa=some ⟨pg,0,none⟩/\wn.heap.size<=pg/\pg<w2.heap.size):=fun j hj=>by
    rcases hp2.2 with ⟨k1,k2⟩|⟨g',cap,yM,k1,k2,k3,k4⟩
    ·omega
    ·simp only[dm]at k1
     exact⟨g',k1.1,k2,zL k3⟩
   obtain⟨pa',pc',e1,zKQ,-,-⟩:=gL hp2;simp only[dm]at e1;obtain⟨rfl,-,rfl⟩:=e1;have HCl:=zA zKQ
   have zJZ:Hid (∀k pg,(Value.slice oa A0.length oc).ownBlock=some k->pa=some ⟨pg,0,none⟩->k≠pg):=fun k pg h1 h2=>by
    have h3:=(yA HOn.out k h1).2;intro e;rcases hp2.2 with ⟨k1,k2⟩|⟨g',cap,yM,k1,k2,k3,k4⟩
    ·simp only[dm]at k1;rw[k1.1]at h2;cases h2
    ·simp only[dm]at k1;rw[k1.1]at h2;simp at h2;(try omega)
   clear hp2 zKQ hb2;have hP3:=hl3;go_wp2_with fail
   generalize hwr:wr=wrr at *;clear hwr
   go_loopw [5,21] (fun ov iv wr=>∃(j:Nat),j<=P.length/\iv=.int .i64 j/\Hid (Below w.heap.size w wr)/\Hid (wr.ownsRow w.heap.size 221 2 ov (A0.length+j) (dH (A0++P.take j)))/\Hid (kS wr pa (dH P))/\Hid (∀k pg,ov.ownBlock=some k->pa=some ⟨pg,0,none⟩->k≠pg)/\w2.heap.size<=wr.heap.size) (fun _ iv _=>P.length-(intOf iv).toNat)
   case atStart=>exact⟨0,ty _,rfl,HB2,HO2,HCl,zJZ,j1 _⟩
   case round =>
    obtain⟨j,hj,rfl,HBj,HOj,HCj,HNj,hsj⟩:=hrel;have hszj:=HBj.out.size;obtain⟨va,vc,rfl⟩:=zQ HOj.out;by_cases zKJ:j<P.length
    ·have jj:(j:Int)<(P.length:Int):=by omega
     obtain⟨pg,rfl,hpg1,hpg2⟩:=HPb.out j zKJ;obtain⟨pg',e3,r0,r1⟩:=GO HCj.out zKJ;obtain rfl:pg=pg':=by simpa using e3
     have lpg:=yF r0;have npg:wr.heap.size≠pg:=by omega
     have HPt:=zA (GT P j zKJ);generalize P.getD j (0,0)=y at *;obtain⟨yl,yh⟩:=y;simp only at r0 r1 HPt;have HOa:Hid (∀o,(wr.alloc o).ownsRow w.heap.size 221 2 (.slice va (A0.length+j) vc) (A0.length+j) (dH (A0++P.take j))):=fun o=>HOj.out.alloc o;have HBa:Hid (∀o,Below w.heap.size w (wr.alloc o)):=fun o=>HBj.out.alloc hszj o;have HCa:Hid (∀o,kS (wr.alloc o) (some ⟨pg,0,none⟩) (dH P)):=fun o=>HCj.out.below (fj (j1 _) o)
     go_upto_region 8 with fail
     generalize hOy:Obj.cells #[Value.int .i64 yl,.int .i64 yh] 221=Oy at *;have hcy0:(wr.alloc Oy).cell? ⟨wr.heap.size,0,none⟩=some (.int .i64 yl):=by rw[<-hOy];exact(zB (zG _ _) 0).trans rfl
     have hcy1:(wr.alloc Oy).cell? ⟨wr.heap.size,1,none⟩=some (.int .i64 yh):=by rw[<-hOy];exact(zB (zG _ _) 1).trans rfl
     have HOy:=zA (HOa.out Oy);have HBy:=zA (HBa.out Oy);have HCy:=zA (HCa.out Oy);have hsy:(wr.alloc Oy).heap.size=wr.heap.size+1:=by simp
     have hsy2:w.heap.size<=(wr.alloc Oy).heap.size:=by omega
     have hsy3:pg<(wr.alloc Oy).heap.size:=by omega
     have hsy4:w2.heap.size<=(wr.alloc Oy).heap.size:=by omega
     clear hOy HOa HBa HCa hsy;generalize wr.alloc Oy=wy at *
     go_wp2_with (at_builtin;refine wpList_append_own_at _ rfl _ _ 218 rfl w.heap.size 221 i0 _ 2 16 Tryz.underlying218 hi0 hz0 hz1 hz2 rfl (by decide) _ _ _ rfl (HOy.out.alloc _) ⟨wy.heap.size,0,none⟩ 1 1 [.int .i64 yl,.int .i64 yh] rfl rfl ?c9k1 ?c9k2 ?c9k3 ?c9k4 ?c9k5 ?_)
     try (case c9k1=>first|exact zM _ _ _ _ rfl|exact fun _ _ h=>h)
     try (case c9k2=>first|exact⟨rfl,rfl⟩|rfl|(intro u hu;simp at hu;rcases hu with rfl|rfl <;> rfl))
     try (case c9k3=>unfold maxLen;omega)
     try (case c9k4=>omega)
     try (case c9k5=>first|omega|(simp;omega))
     intro v3 w3 zK6 zK7 _ hat;have HB3:Hid (Below w.heap.size w w3):=(HBy.out.alloc hsy2 _).grown zK7 (by simp;omega) (zV HOy.out)
     have HO3:Hid (w3.ownsRow w.heap.size 221 2 v3 (A0.length+(j+1)) (dH (A0++P.take (j+1)))):=by
      unfold Hid;rw[pQ,HPt.out,<-pr,<-pQ,<-cy];exact zK6
     have HC3:Hid (kS w3 (some ⟨pg,0,none⟩) (dH P)):=by
      rcases HCy.out with k|⟨g',k1,k2⟩
      ·exact .inl k
      ·simp at k1;subst k1
       refine .inr ⟨pg,rfl,fun x hx=>?_⟩;rw[<-k2 x hx];rw[bj (w:=wy.alloc _) (a:=⟨pg,x,none⟩) (zK7.block pg (by simp;omega) (fun e=>HNj.out pg pg e.symm rfl rfl))];exact bj (w:=wy) (a:=⟨pg,x,none⟩) (l8 _ _ _ hsy3)
     have HN3:Hid (∀k pg',v3.ownBlock=some k->(some ⟨pg,0,none⟩:Option Addr)=some ⟨pg',0,none⟩->k≠pg'):=fun k pg' h1 h2=>by
      simp at h2;subst h2;rcases hat with h3|h3
      ·exact HNj.out k pg (h3 ▸ h1) rfl
      ·rw[h3]at h1;simp at h1;omega
     have hs3:w2.heap.size<=w3.heap.size:=by have:=zK7.size;simp at this;omega
     clear zK6 zK7 hat hcy0 hcy1;go_wp2_with fail
     go_roundw
     case rel=>exact⟨j+1,by omega,by go_num,HB3,HO3,HC3,HN3,hs3⟩
     case measure=>simp[intOf];omega
    ·have jj:¬(j:Int)<(P.length:Int):=by omega
     obtain rfl:j=P.length:=by omega
     have HO4:Hid (wr.ownsRow w.heap.size 221 2 (.slice va (A0.length+P.length) vc) (xY (zs.take (i+1)) b).length (dH (xY (zs.take (i+1)) b))):=by
      have:=HOj.out;rw[bt]at this;unfold Hid;rw[zKV.out,tl];exact this
     go_wp2_with fail
     go_roundw
     case rel=>exact⟨i+1,by omega,by go_num,HBj,HO4⟩
     case measure=>simp[intOf];omega
  ·have ii:¬(i:Int)<(zs.length:Int):=by omega
   have HE3:Hid (xY (zs.take i) b=xY zs b):=by unfold Hid;rw[du (by omega)]
   go_wp2_with fail
   go_ret
   exact⟨_,rfl,by rw[<-HE3.out];exact HO.out,HB.out⟩
theorem DC(w:World)(x:zP)(ea la:Option Addr)(ec lc:Nat)(eb lb:List Int)(he:jV w ea eb)(hl:jV w la lb)(hb:∀y∈eb++lb,-1000000<=y/\y<=1000000) :
 Calls Tryz.prog 97 #[ZD x,.slice ea eb.length ec,.slice la lb.length lc] w fun e w'=>∃v,e=.returned v/\w'.ownsRow w.heap.size 221 2 v (gF x.low x.high eb lb).length (dH (gF x.low x.high eb lb))/\Below w.heap.size w w':=by
 have hf1:=he.few;have hf2:=hl.few;have HI1:=zA he;have HI2:=zA hl;have HBd1:Hid (∀i,i<eb.length -> -1000000<=eb.getD i 0/\eb.getD i 0<=1000000):=fun i hi=>hb _ (pu.2 (.inl (by simp[List.getD,hi])));have HBd2:Hid (∀i,i<lb.length -> -1000000<=lb.getD i 0/\lb.getD i 0<=1000000):=fun i hi=>hb _ (pu.2 (.inr (by simp[List.getD,hi])));obtain⟨xn,xf,lo,hi⟩:=x;have hz01:[(lo,hi)].length=1:=rfl;have HF1:=zA (fun i hi'=>cE (JS lo hi) eb i hi');have HF2:=zA (fun i hi'=>cE (cE (JS lo hi) eb eb.length (j1 _)).1 lb i hi');have HT1:=zA (fun i hi'=>Z5 [(lo,hi)] eb i hi');have HT2:=zA (fun i hi'=>Z5 (xN [(lo,hi)] (eb.take eb.length)) lb i hi');have HE:Hid (xN (xN [(lo,hi)] (eb.take eb.length)) (lb.take lb.length)=gF lo hi eb lb):=by unfold Hid gF;rw[bt,bt]
 simp only[ZD];generalize gF lo hi eb lb=ans at *;clear he hl hb
 go_enter Tryz.func97,Tryz.ntmps97
 go_wp2_with fail
 generalize hO1:Obj.cells #[.string ⟨xn.toArray⟩,.bool xf,.int .i64 lo,.int .i64 hi] 204=O1 at *;have HO0:Hid (((w.alloc O1).alloc (.cells #[.int .i64 lo,.int .i64 hi] 221)).ownsRow w.heap.size 221 2 (.slice (some ⟨w.heap.size+1,0,none⟩) 1 1) (xN [(lo,hi)] (eb.take 0)).length (dH (xN [(lo,hi)] (eb.take 0)))):=KS (cs:=[.int .i64 lo,.int .i64 hi]) (yW _ _ _ (by simp)) (mw _) 1 rfl (by unfold maxLen;omega);have HB0:Hid (Below w.heap.size w ((w.alloc O1).alloc (.cells #[.int .i64 lo,.int .i64 hi] 221))):=(fj (j1 _) _).alloc (by simp) _;clear hO1;generalize (w.alloc O1).alloc (.cells #[.int .i64 lo,.int .i64 hi] 221)=w0 at *;generalize [(lo,hi)]=Z0 at *;have HZl:=zA hz01;clear hz01
 go_loopw [7,20] (fun ov iv wr=>∃(i:Nat),i<=eb.length/\iv=.int .i64 i/\Hid (Below w.heap.size w wr)/\Hid (wr.ownsRow w.heap.size 221 2 ov (xN Z0 (eb.take i)).length (dH (xN Z0 (eb.take i))))) (fun _ iv _=>eb.length-(intOf iv).toNat)
 case atStart=>exact⟨0,ty _,rfl,HB0,HO0⟩
 case round =>
  obtain⟨i,hi',rfl,HB,HO⟩:=hrel;have zKH:=HB.out.size;obtain⟨va,vc,rfl,zKQ,-,-⟩:=gL HO.out;by_cases zK4:i<eb.length
  ·have ii:(i:Int)<(eb.length:Int):=by omega
   obtain⟨g,rfl,q⟩:=(HI1.out.below HB.out).at zK4;have hz2:=(HF1.out i hi').2;have hz3:=HZl.out;have HSp:=zA (YC wr va vc _ (eb.getD i 0) (HBd1.out i zK4) zKQ (by omega));clear hz3;have HTt:=zA (HT1.out i zK4);clear zKQ;generalize xN Z0 (eb.take i)=A0 at *;generalize eb.getD i 0=y at *;go_wp2_with fail
   refine HSp.out.mono ?_;rintro e w2 ⟨v,rfl,ho2,hb2⟩;have HB2:Hid (Below w.heap.size w w2):=HB.out.trans (hb2.mono zKH);have HO2:Hid (w2.ownsRow w.heap.size 221 2 v (xN Z0 (eb.take (i+1))).length (dH (xN Z0 (eb.take (i+1))))):=by rw[HTt.out];exact yU ho2 zKH
   clear ho2 hb2;go_wp2_with fail
   go_roundw
   case rel=>exact⟨i+1,by omega,by go_num,HB2,HO2⟩
   case measure=>simp[intOf];omega
  ·have ii:¬(i:Int)<(eb.length:Int):=by omega
   obtain rfl:i=eb.length:=by omega
   have hZ1:=(HF1.out eb.length (j1 _)).2;rw[HZl.out]at hZ1;generalize xN Z0 (eb.take eb.length)=Z1 at *;have HO1:Hid (wr.ownsRow w.heap.size 221 2 (.slice va Z1.length vc) (xN Z1 (lb.take 0)).length (dH (xN Z1 (lb.take 0)))):=HO.out;generalize hwr:wr=wq at *;clear hwr HF1 HT1 zKQ;go_wp2_with fail
   go_loopw [7,30] (fun ov iv wr=>∃(i:Nat),i<=lb.length/\iv=.int .i64 i/\Hid (Below w.heap.size w wr)/\Hid (wr.ownsRow w.heap.size 221 2 ov (xN Z1 (lb.take i)).length (dH (xN Z1 (lb.take i))))) (fun _ iv _=>lb.length-(intOf iv).toNat)
   case atStart=>exact⟨0,ty _,rfl,HB,HO1⟩
   case round =>
    obtain⟨i,hi',rfl,HBz,HOz⟩:=hrel;have hszz:=HBz.out.size;by_cases zKJ:i<lb.length
    ·have jj:(i:Int)<(lb.length:Int):=by omega
     obtain⟨g,rfl,q⟩:=(HI2.out.below HBz.out).at zKJ;obtain⟨va,vc,rfl,zKQ,-,-⟩:=gL HOz.out;have hz2:=(HF2.out i hi').2;have HSp:=zA (fun (h:(xN Z1 (lb.take i)).length<=100000)=>YC wr va vc _ (lb.getD i 0) (HBd2.out i zKJ) zKQ h);have HTt:=zA (HT2.out i zKJ);have hz3:(xN Z1 (lb.take i)).length<=100000:=by omega
     clear zKQ;generalize xN Z1 (lb.take i)=A0 at *;generalize lb.getD i 0=y at *;go_wp2_with fail
     refine(HSp.out hz3).mono ?_;rintro e w2 ⟨v,rfl,ho2,hb2⟩;have HB2:Hid (Below w.heap.size w w2):=HBz.out.trans (hb2.mono hszz);have HO2:Hid (w2.ownsRow w.heap.size 221 2 v (xN Z1 (lb.take (i+1))).length (dH (xN Z1 (lb.take (i+1))))):=by rw[HTt.out];exact yU ho2 hszz
     clear ho2 hb2;go_wp2_with fail
     go_roundw
     case rel=>exact⟨i+1,by omega,by go_num,HB2,HO2⟩
     case measure=>simp[intOf];omega
    ·have jj:¬(i:Int)<(lb.length:Int):=by omega
     obtain rfl:i=lb.length:=by omega
     go_wp2_with fail
     go_ret
     exact⟨_,rfl,by rw[<-HE.out];exact HOz.out,HBz.out⟩
structure jJ where
 flag:Bool
 place:Nat
variable{S:List jJ}{T:jJ}
def Ur:jJ:=⟨false,0⟩
structure vW where
 Z:Nat->Int × Int
 rk:Nat->Nat
 inp:Nat->Int
 has:Nat->Bool
variable{s s' s2 s1:vW}{both:vW->Bool}
def cB(s:vW)(t:jJ)(v:Nat):vW :=
 if t.flag=true then { s with inp:=fun i=>if i=t.place then (v:Int) else s.inp i } else { s with has:=fun c=>if c=t.place then decide (v=1) else s.has c }
theorem C9(s:vW)(t:jJ)(v:Nat):(cB s t v).Z=s.Z/\(cB s t v).rk=s.rk:=by unfold cB;split <;> exact⟨rfl,rfl⟩
def Fx(S:List jJ)(i:Nat):Prop:=∀t∈S,¬(t.flag=true/\t.place=i)
def zH3(S:List jJ)(c:Nat):Prop:=∀t∈S,¬(t.flag=false/\t.place=c)
structure dG(S:List jJ)(s t:vW):Prop where
 inp:∀i,Fx S i->t.inp i=s.inp i
 has:∀c,zH3 S c->t.has c=s.has c
def wB(S:List jJ)(s:vW):Prop:=∀t∈S,t.flag=true->s.inp t.place=0\/s.inp t.place=1
def C7(s:vW)(t:jJ)(v:Nat):Prop:=(t.flag=true->s.inp t.place=(v:Int))/\(t.flag=false->s.has t.place=decide (v=1))
theorem dG.refl(S:List jJ)(s:vW):dG S s s:=⟨fun _ _=>rfl,fun _ _=>rfl⟩
theorem dG.trans{a b c:vW}(h:dG S a b)(k:dG S b c):dG S a c:=⟨fun i hi=>(k.inp i hi).trans (h.inp i hi),fun i hi=>(k.has i hi).trans (h.has i hi)⟩
theorem dG.more{T:List jJ}{a b:vW}(h:dG S a b)(hs:∀t∈S,t∈T):dG T a b:=⟨fun i hi=>h.inp i fun t ht=>hi t (hs t ht),fun i hi=>h.has i fun t ht=>hi t (hs t ht)⟩
theorem wQ{t:jJ}(ht:t∈S)(s:vW)(v:Nat):dG S s (cB s t v):=by
 unfold cB;cases hf:t.flag
 ·rw[tb (by simp)];exact⟨fun _ _=>rfl,fun c hc=>tb fun e=>hc t ht ⟨hf,e.symm⟩⟩
 ·rw[tm rfl];exact⟨fun i hi=>tb fun e=>hi t ht ⟨hf,e.symm⟩,fun _ _=>rfl⟩
theorem Yw(s:vW)(t:jJ)(v:Nat):C7 (cB s t v) t v:=by
 unfold cB C7;cases hf:t.flag
 ·rw[tb (by simp)];exact⟨fun h=>absurd h (by simp),fun _=>tm rfl⟩
 ·rw[tm rfl];exact⟨fun _=>tm rfl,fun h=>absurd h (by simp)⟩
structure iZ(both:vW->Bool)(S:List jJ)(s s':vW)(r:Bool):Prop where
 z:s'.Z=s.Z/\s'.rk=s.rk
 eq:dG S s s'
 yes:r=true->both s'=true/\wB S s'
 no:r=false->∀t,t.Z=s.Z->t.rk=s.rk->dG S s t->wB S t->both t=false
theorem DP(both:vW->Bool)(s:vW):iZ both [] s s (both s) :=
 ⟨⟨rfl,rfl⟩,dG.refl _ _,fun h=>⟨h,fun t ht=>by simp at ht⟩,fun h t h1 h2 h3 _=>by
  have e:t=s:=by
   cases t;cases s
   simp only at h1 h2;subst h1 h2;congr
   ·funext i;exact h3.inp i fun t ht=>by simp at ht
   ·funext i;exact h3.has i fun t ht=>by simp at ht
  rw[e];exact h⟩
structure ZK(both:vW->Bool)(T:jJ)(S:List jJ)(s s':vW)(v:Nat):Prop where
 z:s'.Z=s.Z/\s'.rk=s.rk
 eq:dG (T::S) s s'
 no:∀u,u<v->∀t,t.Z=s.Z->t.rk=s.rk->dG (T::S) s t->wB (T::S) t->C7 t T u->both t=false
theorem U1(both:vW->Bool)(T:jJ)(S:List jJ)(s:vW):ZK both T S s s 0:=⟨⟨rfl,rfl⟩,dG.refl _ _,fun u hu=>absurd hu (by omega)⟩
theorem DS{t:vW}{v:Nat}(h1:dG (T::S) s s1)(h2:dG (T::S) s t)(hv:C7 t T v):dG S (cB s1 T v) t:=by
 have hn:=Yw s1 T v;have ht:=wQ (S:=[T]) (t:=T) (by simp) s1 v;refine⟨fun i hi=>?_,fun c hc=>?_⟩
 ·by_cases h:T.flag=true/\T.place=i
  ·rw[<-h.2,hv.1 h.1,hn.1 h.1]
  ·have ho:Fx (T::S) i:=fun q hq=>by
    rcases mz.1 hq with rfl|hq
    ·exact h
    ·exact hi q hq
   rw[h2.inp i ho,<-h1.inp i ho];exact(ht.inp i fun q hq=>by simp at hq;subst hq;exact h).symm
 ·by_cases h:T.flag=false/\T.place=c
  ·rw[<-h.2,hv.2 h.1,hn.2 h.1]
  ·have ho:zH3 (T::S) c:=fun q hq=>by
    rcases mz.1 hq with rfl|hq
    ·exact h
    ·exact hc q hq
   rw[h2.has c ho,<-h1.has c ho];exact(ht.has c fun q hq=>by simp at hq;subst hq;exact h).symm
theorem DQ{v:Nat}(hv:v<=1)(h:ZK both T S s s1 v)(k:iZ both S (cB s1 T v) s2 true):iZ both (T::S) s s2 true:=by
 have hz:=C9 s1 T v;have heq:dG (T::S) s s2:=(h.eq.trans (wQ (by simp) s1 v)).trans (k.eq.more fun t ht=>by simp[ht]);refine⟨⟨by rw[k.z.1,hz.1,h.z.1],by rw[k.z.2,hz.2,h.z.2]⟩,heq,fun _=>⟨(k.yes rfl).1,fun t ht hf=>?_⟩,fun h=>absurd h (by simp)⟩;rcases mz.1 ht with rfl|ht
 ·by_cases ho:∃q∈S,q.flag=true/\q.place=t.place
  ·obtain⟨q,hq,h1,h2⟩:=ho
   rw[<-h2];exact(k.yes rfl).2 q hq h1
  ·rw[k.eq.inp t.place fun q hq hh=>ho ⟨q,hq,hh⟩,(Yw s1 t v).1 hf]
   omega
 ·exact(k.yes rfl).2 t ht hf
theorem yf{v:Nat}(h:ZK both T S s s1 v)(k:iZ both S (cB s1 T v) s2 false):ZK both T S s s2 (v+1):=by
 have hz:=C9 s1 T v;refine⟨⟨by rw[k.z.1,hz.1,h.z.1],by rw[k.z.2,hz.2,h.z.2]⟩,(h.eq.trans (wQ (by simp) s1 v)).trans (k.eq.more fun t ht=>by simp[ht]),fun u hu t e1 e2 ht hb hva=>?_⟩;by_cases hu2:u<v
 ·exact h.no u hu2 t e1 e2 ht hb hva
 ·obtain rfl:u=v:=by omega
  exact k.no rfl t (by rw[e1,hz.1,h.z.1]) (by rw[e2,hz.2,h.z.2]) (DS h.eq ht hva) fun q hq=>hb q (by simp[hq])
theorem DR(h:ZK both T S s s1 2):iZ both (T::S) s s1 false:=by
 refine⟨h.z,h.eq,fun h=>absurd h (by simp),fun _ t e1 e2 ht hb=>?_⟩;cases hf:T.flag
 ·cases hv:t.has T.place
  ·exact h.no 0 (by omega) t e1 e2 ht hb ⟨fun h=>absurd (hf.symm.trans h) (by simp),fun _=>hv⟩
  ·exact h.no 1 (by omega) t e1 e2 ht hb ⟨fun h=>absurd (hf.symm.trans h) (by simp),fun _=>hv⟩
 ·rcases hb T (by simp) hf with hv|hv
  ·exact h.no 0 (by omega) t e1 e2 ht hb ⟨fun _=>hv,fun h=>absurd (hf.symm.trans h) (by simp)⟩
  ·exact h.no 1 (by omega) t e1 e2 ht hb ⟨fun _=>hv,fun h=>absurd (hf.symm.trans h) (by simp)⟩
def bG(np:Nat)(Z:Nat->Int × Int)(rk:Nat->Nat):List mK:=(List.range np).map fun p=>⟨(Z p).1,(Z p).2,rk p⟩
theorem rP(np:Nat)(Z:Nat->Int × Int)(rk:Nat->Nat):(bG np Z rk).length=np:=by simp[bG]
theorem wN{Z':Nat->Int × Int}{rk':Nat->Nat}(h1:∀p,p<np->Z p=Z' p)(h2:∀p,p<np->rk p=rk' p):bG np Z rk=bG np Z' rk':=by
 unfold bG;exact List.map_congr_left fun p hp=>by rw[h1 p (by simpa using hp),h2 p (by simpa using hp)]
structure lW(np:Nat)(P:Nat->Nat)(S:List jJ)(s t:vW):Prop where
 inp:∀i,(∀p,p<np->P p≠i)->Fx S i->t.inp i=s.inp i
 has:∀c,zH3 S c->t.has c=s.has c
theorem lW.refl(np:Nat)(P:Nat->Nat)(S:List jJ)(s:vW):lW np P S s s:=⟨fun _ _ _=>rfl,fun _ _=>rfl⟩
theorem lW.trans{a b c:vW}(h:lW np P S a b)(k:lW np P S b c):lW np P S a c:=⟨fun i h1 h2=>(k.inp i h1 h2).trans (h.inp i h1 h2),fun i h1=>(k.has i h1).trans (h.has i h1)⟩
theorem lW.symm{a b:vW}(h:lW np P S a b):lW np P S b a:=⟨fun i h1 h2=>(h.inp i h1 h2).symm,fun i h1=>(h.has i h1).symm⟩
theorem dG.rest{a b:vW}(h:dG S a b):lW np P S a b:=⟨fun i _ h2=>h.inp i h2,h.has⟩
def nK(np:Nat)(P:Nat->Nat)(rk:Nat->Nat)(o:List Int)(t:vW):Prop:=∀p,p<np->t.inp (P p)=o.getD (rk p) 0
structure eF(np:Nat)(P:Nat->Nat)(s s':vW)(r:Bool):Prop where
 z:s'.Z=s.Z/\s'.rk=s.rk/\s'.has=s.has
 off:∀i,(∀p,p<np->P p≠i)->s'.inp i=s.inp i
 yes:r=true->∃o,nQ (bG np s.Z s.rk)=some o/\nK np P s.rk o s'
 no:r=false->nQ (bG np s.Z s.rk)=none
structure wC(both:vW->Bool)(np:Nat)(P:Nat->Nat)(S:List jJ)(a:Nat)(s s':vW)(r:Bool):Prop where
 z:s'.Z=s.Z
 kp:∀p,p<a->s'.rk p=s.rk p
 rest:lW np P S s s'
 yes:r=true->both s'=true/\wB S s'/\∃rk o,(∀p,p<np->rk p<np)/\nQ (bG np s.Z rk)=some o/\nK np P rk o s'
 no:r=false->∀rk,(∀p,p<a->rk p=s.rk p)->(∀p,p<np->rk p<np)->∀o,nQ (bG np s.Z rk)=some o->∀t,lW np P S s t->nK np P rk o t->wB S t->both t=false
def zG6(both:vW->Bool):Prop:=∀s t:vW,s.inp=t.inp->s.has=t.has->both s=both t
theorem UN(ha:np<=a)(h:eF np P s s' false):wC both np P S a s s' false:=by
 refine⟨h.z.1,fun p _=>by rw[h.z.2.1],⟨fun i h1 _=>h.off i h1,fun c _=>by rw[h.z.2.2]⟩,fun h=>absurd h (by simp),fun _ rk hrk _ o ho=>?_⟩;rw[wN (Z':=s.Z) (rk':=s.rk) (fun _ _=>rfl) fun p hp=>hrk p (by omega),h.no rfl]at ho;exact absurd ho (by simp)
theorem UM(hbl:zG6 both){r:Bool}(ha:np<=a)(hP:∀p,p<np->Fx S (P p))(hr:∀p,p<a->s.rk p<np)(h:eF np P s s1 true)(k:iZ both S s1 s2 r):wC both np P S a s s2 r:=by
 obtain⟨o,ho,hn⟩:=h.yes rfl;have h1:lW np P S s s1:=⟨fun i h1 _=>h.off i h1,fun c _=>by rw[h.z.2.2]⟩;refine⟨by rw[k.z.1,h.z.1],fun p _=>by rw[k.z.2,h.z.2.1],h1.trans k.eq.rest,fun hr2=>⟨(k.yes hr2).1,(k.yes hr2).2,s.rk,o,fun p hp=>hr p (by omega),ho,fun p hp=>?_⟩,fun hr2 rk hrk _ o' ho' t ht hnt hb=>?_⟩
 ·rw[k.eq.inp _ (hP p hp)];exact hn p hp
 ·have e:bG np s.Z rk=bG np s.Z s.rk:=wN (fun _ _=>rfl) fun p hp=>hrk p (by omega)
  rw[e,ho]at ho';obtain rfl:o=o':=by simpa using ho'
  have:=k.no hr2 { t with Z:=s1.Z,rk:=s1.rk } rfl rfl ⟨fun i hi=>?_,fun c hc=>?_⟩ hb
  ·rw[<-this];exact hbl _ _ rfl rfl
  ·by_cases hp:∃p,p<np/\P p=i
   ·obtain⟨p,hp,rfl⟩:=hp
    show t.inp (P p)=_;rw[hnt p hp,hn p hp,hrk p (by omega)]
   ·have hp2:∀p,p<np->P p≠i:=fun p h1 h2=>hp ⟨p,h1,h2⟩
    show t.inp i=_;rw[ht.inp i hp2 hi,h.off i hp2]
  ·show t.has c=_
   rw[ht.has c hc,h.z.2.2]
def oC(s:vW)(a v:Nat):vW:={ s with rk:=fun p=>if p=a then v else s.rk p }
structure wD(both:vW->Bool)(np:Nat)(P:Nat->Nat)(S:List jJ)(a:Nat)(s s':vW)(v:Nat):Prop where
 z:s'.Z=s.Z
 kp:∀p,p<a->s'.rk p=s.rk p
 rest:lW np P S s s'
 no:∀u,u<v->∀rk,(∀p,p<a->rk p=s.rk p)->rk a=u->(∀p,p<np->rk p<np)->∀o,nQ (bG np s.Z rk)=some o->∀t,lW np P S s t->nK np P rk o t->wB S t->both t=false
theorem UO(both:vW->Bool)(np:Nat)(P:Nat->Nat)(S:List jJ)(a:Nat)(s:vW):wD both np P S a s s 0:=⟨rfl,fun _ _=>rfl,lW.refl _ _ _ _,fun u hu=>absurd hu (by omega)⟩
theorem J0(h:lW np P S s s1)(a v:Nat):lW np P S s (oC s1 a v):=⟨h.inp,h.has⟩
theorem Fk{v:Nat}(h:wD both np P S a s s1 v)(k:wC both np P S (a+1) (oC s1 a v) s2 true):wC both np P S a s s2 true:=by
 refine⟨k.z.trans h.z,fun p hp=>?_,(J0 h.rest a v).trans k.rest,fun _=>?_,fun h=>absurd h (by simp)⟩
 ·rw[k.kp p (by omega)];show (if p=a then v else s1.rk p)=_;rw[tb (by omega)];exact h.kp p hp
 ·have:=k.yes rfl
  rw[show (oC s1 a v).Z=s.Z from h.z]at this;exact this
theorem xw{v:Nat}(h:wD both np P S a s s1 v)(k:wC both np P S (a+1) (oC s1 a v) s2 false):wD both np P S a s s2 (v+1):=by
 refine⟨k.z.trans h.z,fun p hp=>?_,(J0 h.rest a v).trans k.rest,fun u hu rk h1 h2 h3 o ho t ht hn hb=>?_⟩
 ·rw[k.kp p (by omega)];show (if p=a then v else s1.rk p)=_;rw[tb (by omega)];exact h.kp p hp
 ·by_cases hu2:u<v
  ·exact h.no u hu2 rk h1 h2 h3 o ho t ht hn hb
  ·obtain rfl:u=v:=by omega
   refine k.no rfl rk (fun p hp=>?_) h3 o (by rw[show (oC s1 a u).Z=s.Z from h.z];exact ho) t ((J0 h.rest a u).symm.trans ht) hn hb;show rk p=if p=a then u else s1.rk p;by_cases hpa:p=a
   ·rw[tm hpa,hpa];exact h2
   ·rw[tb hpa,h.kp p (by omega)];exact h1 p (by omega)
theorem Fl(ha:a<np)(h:wD both np P S a s s1 np):wC both np P S a s s1 false :=
 ⟨h.z,h.kp,h.rest,fun h=>absurd h (by simp),fun _ rk h1 h3 o ho t ht hn hb=>h.no (rk a) (h3 a ha) rk h1 rfl h3 o ho t ht hn hb⟩
structure iX(both:vW->Bool)(np:Nat)(P:Nat->Nat)(zs:Nat->List (Int × Int))(S:List jJ)(a:Nat)(s s':vW)(r:Bool):Prop where
 rest:lW np P S s s'
 kp:∀p,p<a->s'.Z p=s.Z p
 yes:r=true->both s'=true/\wB S s'/\∃Z rk o,(∀p,p<np->Z p∈zs p)/\(∀p,p<np->rk p<np)/\nQ (bG np Z rk)=some o/\nK np P rk o s'
 no:r=false->∀Z,(∀p,p<a->Z p=s.Z p)->(∀p,p<np->Z p∈zs p)->∀rk,(∀p,p<np->rk p<np)->∀o,nQ (bG np Z rk)=some o->∀t,lW np P S s t->nK np P rk o t->wB S t->both t=false
theorem GP{zs:Nat->List (Int × Int)}{r:Bool}(ha:np<=a)(hz:∀p,p<a->s.Z p∈zs p)(h:wC both np P S 0 s s' r):iX both np P zs S a s s' r:=by
 refine⟨h.rest,fun p _=>by rw[h.z],fun hr=>?_,fun hr Z h1 _ rk h3 o ho t ht hn hb=>?_⟩
 ·obtain⟨q1,q2,rk,o,q3,q4,q5⟩:=h.yes hr
  exact⟨q1,q2,s.Z,rk,o,fun p hp=>hz p (by omega),q3,q4,q5⟩
 ·refine h.no hr rk (fun p hp=>absurd hp (by omega)) h3 o ?_ t ht hn hb
  rw[<-wN (Z:=Z) (rk:=rk) (fun p hp=>h1 p (by omega)) fun _ _=>rfl];exact ho
def fF(s:vW)(a:Nat)(z:Int × Int):vW:={ s with Z:=fun p=>if p=a then z else s.Z p }
structure sX(both:vW->Bool)(np:Nat)(P:Nat->Nat)(zs:Nat->List (Int × Int))(S:List jJ)(a:Nat)(s s':vW)(v:Nat):Prop where
 kp:∀p,p<a->s'.Z p=s.Z p
 rest:lW np P S s s'
 no:∀u,u<v->∀Z,(∀p,p<a->Z p=s.Z p)->Z a=(zs a).getD u (0,0)->(∀p,p<np->Z p∈zs p)->∀rk,(∀p,p<np->rk p<np)->∀o,nQ (bG np Z rk)=some o->∀t,lW np P S s t->nK np P rk o t->wB S t->both t=false
theorem Uu(both:vW->Bool)(np:Nat)(P:Nat->Nat)(zs:Nat->List (Int × Int))(S:List jJ)(a:Nat)(s:vW):sX both np P zs S a s s 0:=⟨fun _ _=>rfl,lW.refl _ _ _ _,fun u hu=>absurd hu (by omega)⟩
theorem Jz(h:lW np P S s s1)(a:Nat)(z:Int × Int):lW np P S s (fF s1 a z):=⟨h.inp,h.has⟩
theorem DE{zs:Nat->List (Int × Int)}{v:Nat}(h:sX both np P zs S a s s1 v)(hv:v<(zs a).length)(hz:∀p,p<a->s.Z p∈zs p):∀p,p<a+1->(fF s1 a ((zs a).getD v (0,0))).Z p∈zs p:=fun p hp=>by
 show (if p=a then (zs a).getD v (0,0) else s1.Z p)∈zs p;by_cases hpa:p=a
 ·rw[tm hpa,hpa];simp[List.getD,hv]
 ·rw[tb hpa,h.kp p (by omega)];exact hz p (by omega)
theorem DD{zs:Nat->List (Int × Int)}{v:Nat}(h:sX both np P zs S a s s1 v)(k:iX both np P zs S (a+1) (fF s1 a ((zs a).getD v (0,0))) s2 true):iX both np P zs S a s s2 true:=by
 refine⟨(Jz h.rest a _).trans k.rest,fun p hp=>?_,fun _=>k.yes rfl,fun h=>absurd h (by simp)⟩;rw[k.kp p (by omega)];show (if p=a then _ else s1.Z p)=_;rw[tb (by omega)];exact h.kp p hp
theorem GQ{both:vW->Bool}{np:Nat}{P:Nat->Nat}{zs:Nat->List (Int × Int)}{S:List jJ}{a v:Nat}{s s1 s2:vW}(h:sX both np P zs S a s s1 v)(k:iX both np P zs S (a+1) (fF s1 a ((zs a).getD v (0,0))) s2 false):sX both np P zs S a s s2 (v+1):=by
 refine⟨fun p hp=>?_,(Jz h.rest a _).trans k.rest,fun u hu Z h1 h2 h3 rk h4 o ho t ht hn hb=>?_⟩
 ·rw[k.kp p (by omega)];show (if p=a then _ else s1.Z p)=_;rw[tb (by omega)];exact h.kp p hp
 ·by_cases hu2:u<v
  ·exact h.no u hu2 Z h1 h2 h3 rk h4 o ho t ht hn hb
  ·obtain rfl:u=v:=by omega
   refine k.no rfl Z (fun p hp=>?_) h3 rk h4 o ho t ((Jz h.rest a _).symm.trans ht) hn hb;show Z p=if p=a then _ else s1.Z p;by_cases hpa:p=a
   ·rw[tm hpa,hpa];exact h2
   ·rw[tb hpa,h.kp p (by omega)];exact h1 p (by omega)
theorem DF{zs:Nat->List (Int × Int)}(ha:a<np)(h:sX both np P zs S a s s1 (zs a).length):iX both np P zs S a s s1 false:=by
 refine⟨h.rest,h.kp,fun h=>absurd h (by simp),fun _ Z h1 h3 rk h4 o ho t ht hn hb=>?_⟩;obtain⟨u,hu,e⟩:=ct (h3 a ha);exact h.no u hu Z h1 (by simp[List.getD,hu,e]) h3 rk h4 o ho t ht hn hb
def zIV(t:jJ):List Value:=[.bool t.flag,.int .i64 (t.place:Nat)]
structure SK where
 B:Nat
 b:Nat
 e:MX
 l:MX
 np:Nat
 P:Nat->Nat
 zs:Nat->List (Int × Int)
 za:Nat->Option Addr
 zc:Nat->Nat
 na:Option Addr
 gn:Nat
 nc:Nat
 sw:List jJ
 sa:Option Addr
 sc:Nat
 gi:Nat
 gh:Nat
 n:Nat
 h:Nat
def sI(K:SK)(s:vW)(j:Nat):Value :=
 if j%5=0 then .int .i64 (K.P (j/5):Nat) else if j%5=1 then .slice (K.za (j/5)) (K.zs (j/5)).length (K.zc (j/5)) else if j%5=2 then .int .i64 (s.Z (j/5)).1 else if j%5=3 then .int .i64 (s.Z (j/5)).2 else .int .i64 (s.rk (j/5):Nat)
def srA(K:SK):Array Value := #[.string ⟨K.e.1.label.toArray⟩,.int .i64 K.e.1.conc,K.e.2.1,K.e.2.2,.int .i64 K.e.1.root,.string ⟨K.l.1.label.toArray⟩,.int .i64 K.l.1.conc,K.l.2.1,K.l.2.2,.int .i64 K.l.1.root,.slice K.na K.np K.nc,.slice K.sa K.sw.length K.sc,.slice (some ⟨K.gi,0,none⟩) K.n K.n,.slice (some ⟨K.gh,0,none⟩) K.h K.h,.slice none 0 0]
structure kW(w:World)(K:SK)(s:vW):Prop where
 hd:w.heap[K.b]? = some (.cells (srA K) 170 (0,0))
 rN:0<K.np->K.na=some ⟨K.gn,0,none⟩/\vX w K.gn 223 (5*K.np) (sI K s)
 rI:vX w K.gi 3 K.n (fun i=>.int .i64 (s.inp i))
 rH:vX w K.gh 4 K.h (fun c=>.bool (s.has c))
 sw:xG w 216 K.sa (K.sw.flatMap zIV)
 zn:∀p,p<K.np->xG w 221 (K.za p) (dH (K.zs p))
 eM:uL w K.e
 lM:uL w K.l
structure XN(K:SK):Prop where
 lob:K.B<=K.b
 loi:K.B<=K.gi
 loh:K.B<=K.gh
 lon:0<K.np->K.B<=K.gn
 np:K.np<=100
 n:K.n<=10000
 h:K.h<=10000
 sw:K.sw.length<=20000
 zs:∀p,p<K.np->(K.zs p).length<=100000
 P:∀p,p<K.np->K.P p<K.n
 inj:∀p q,p<K.np->q<K.np->K.P p=K.P q->p=q
 off:∀p,p<K.np->Fx K.sw (K.P p)
 tgI:∀t∈K.sw,t.flag=true->t.place<K.n
 tgH:∀t∈K.sw,t.flag=false->t.place<K.h
theorem YT{b:Nat}{cs cs':Array Value}{fz fz':Nat × Nat}(h1:w.heap[a]? = some (.cells cs t fz))(h2:w.heap[b]? = some (.cells cs' t' fz'))(zK8:t≠t'):a≠b:=fun e=>by
 subst e;rw[h1]at h2;simp only[ly,Obj.cells.injEq]at h2;exact zK8 h2.2.1
theorem vX.ne{b:Nat}{n':Nat}{f':Nat->Value}(h1:vX w a t n f)(h2:vX w b t' n' f')(zK8:t≠t'):a≠b:=by
 obtain⟨cs,q1,_⟩:=h1;obtain⟨cs',q2,_⟩:=h2;exact YT q1 q2 zK8
theorem xG.row{a:Option Addr}{xs:List Value}(h:xG w t a xs)(u:Value)(hr:vX w g t' n f)(zK8:t≠t'):xG (w.setCell ⟨g,j,none⟩ u) t a xs:=by
 obtain⟨cs,q,_⟩:=hr;exact h.set q zK8
theorem uL.row{x:MX}(h:uL w x)(u:Value)(hr:vX w g t' n f)(h1:260≠t')(h2:263≠t'):uL (w.setCell ⟨g,j,none⟩ u) x:=by
 obtain⟨a,c,e1,q1⟩:=h.sum;obtain⟨a',c',e2,q2⟩:=h.guard;exact⟨⟨a,c,e1,q1.row u hr h1⟩,⟨a',c',e2,q2.row u hr h2⟩,h.few1,h.few2⟩
theorem kW.below{w':World}{K:SK}(h:kW w K s)(hb:Below w.heap.size w w'):kW w' K s :=
 ⟨by rw[hb.block _ (zL h.hd)];exact h.hd,fun h0=>⟨(h.rN h0).1,(h.rN h0).2.below hb⟩,h.rI.below hb,h.rH.below hb,h.sw.below hb,fun p hp=>(h.zn p hp).below hb,h.eM.below hb,h.lM.below hb⟩
theorem BC{b:Nat}{cs:Array Value}{fz:Nat × Nat}(h:w.heap[b]? = some (.cells cs t fz))(u:Value)(hr:vX w g t' n f)(zK8:t≠t'):(w.setCell ⟨g,j,none⟩ u).heap[b]? = some (.cells cs t fz):=by
 obtain⟨cs',q,_⟩:=hr;rw[py w ⟨g,j,none⟩ b u (YT h q zK8)];exact h
theorem kW.setI{K:SK}(h:kW w K s){i:Nat}(hi:i<K.n)(v:Int){f:Nat->Int}(e1:f i=v)(e2:∀r,r<K.n->r≠i->f r=s.inp r):kW (w.setCell ⟨K.gi,i,none⟩ (.int .i64 v)) K { s with inp:=f } :=
 ⟨BC h.hd _ h.rI (by decide),fun h0=>⟨(h.rN h0).1,(h.rN h0).2.other _ ((h.rN h0).2.ne h.rI (by decide))⟩,h.rI.set _ hi (congrArg (Value.int .i64) e1) (fun x hx zK8=>congrArg (Value.int .i64) (e2 x hx zK8)),h.rH.other _ (h.rH.ne h.rI (by decide)),h.sw.row _ h.rI (by decide),fun p hp=>(h.zn p hp).row _ h.rI (by decide),h.eM.row _ h.rI (by decide) (by decide),h.lM.row _ h.rI (by decide) (by decide)⟩
theorem kW.setH{K:SK}(h:kW w K s){i:Nat}(hi:i<K.h)(v:Bool){f:Nat->Bool}(e1:f i=v)(e2:∀r,r<K.h->r≠i->f r=s.has r):kW (w.setCell ⟨K.gh,i,none⟩ (.bool v)) K { s with has:=f } :=
 ⟨BC h.hd _ h.rH (by decide),fun h0=>⟨(h.rN h0).1,(h.rN h0).2.other _ ((h.rN h0).2.ne h.rH (by decide))⟩,h.rI.other _ (h.rI.ne h.rH (by decide)),h.rH.set _ hi (congrArg Value.bool e1) (fun x hx zK8=>congrArg Value.bool (e2 x hx zK8)),h.sw.row _ h.rH (by decide),fun p hp=>(h.zn p hp).row _ h.rH (by decide),h.eM.row _ h.rH (by decide) (by decide),h.lM.row _ h.rH (by decide) (by decide)⟩
theorem kW.setN{K:SK}(h:kW w K s)(hj:j<5*K.np)(v:Value)(e0:s'.inp=s.inp/\s'.has=s.has)(e1:sI K s' j=v)(e2:∀x,x<5*K.np->x≠j->sI K s' x=sI K s x):kW (w.setCell ⟨K.gn,j,none⟩ v) K s':=by
 have hN:=h.rN (by omega);exact⟨BC h.hd _ hN.2 (by decide),fun _=>⟨hN.1,hN.2.set _ hj e1 e2⟩,by rw[e0.1];exact h.rI.other _ (h.rI.ne hN.2 (by decide)),by rw[e0.2];exact h.rH.other _ (h.rH.ne hN.2 (by decide)),h.sw.row _ hN.2 (by decide),fun p hp=>(h.zn p hp).row _ hN.2 (by decide),h.eM.row _ hN.2 (by decide) (by decide),h.lM.row _ hN.2 (by decide) (by decide)⟩
theorem kW.setRk{K:SK}(h:kW w K s)(hp:p<K.np)(v:Nat):kW (w.setCell ⟨K.gn,p*5+4,none⟩ (.int .i64 (v:Nat))) K (oC s p v):=by
 refine h.setN (by omega) _ ⟨rfl,rfl⟩ ?_ fun x hx zK8=>?_
 ·unfold sI oC
  rw[tb (by omega),tb (by omega),tb (by omega),tb (by omega),show (p*5+4)/5=p by omega];simp
 ·unfold sI oC
  by_cases h4:x%5=4
  ·have:x/5≠p:=by omega
   simp[h4,this]
  ·rcases(show x%5=0\/x%5=1\/x%5=2\/x%5=3 by omega) with h|h|h|h <;> simp[h]
theorem kW.setZn{K:SK}(h:kW w K s)(hp:p<K.np)(z:Int × Int):kW ((w.setCell ⟨K.gn,p*5+2,none⟩ (.int .i64 z.1)).setCell ⟨K.gn,p*5+3,none⟩ (.int .i64 z.2)) K (fF s p z):=by
 have h1:kW (w.setCell ⟨K.gn,p*5+2,none⟩ (.int .i64 z.1)) K (fF s p (z.1,(s.Z p).2)):=by
  refine h.setN (by omega) _ ⟨rfl,rfl⟩ ?_ fun x hx zK8=>?_
  ·unfold sI fF
   rw[tb (by omega),tb (by omega),tm (by omega),show (p*5+2)/5=p by omega];simp
  ·unfold sI fF
   by_cases h4:x/5=p
   ·rcases(show x%5=0\/x%5=1\/x%5=3\/x%5=4 by omega) with h|h|h|h <;> simp[h,h4]
   ·simp[h4]
 refine h1.setN (by omega) _ ⟨rfl,rfl⟩ ?_ fun x hx zK8=>?_
 ·unfold sI fF
  rw[tb (by omega),tb (by omega),tb (by omega),tm (by omega),show (p*5+3)/5=p by omega];simp
 ·unfold sI fF
  by_cases h4:x/5=p
  ·rcases(show x%5=0\/x%5=1\/x%5=2\/x%5=4 by omega) with h|h|h|h <;> simp[h,h4]
  ·simp[h4]
def aF(K:SK)(s:vW):xA:=⟨(List.range K.n).map s.inp,(List.range K.h).map s.has,[]⟩
def uV(K:SK)(s:vW):Bool:=qU K.e.1 (aF K s)&&qU K.l.1 (aF K s)
theorem VX(K:SK):zG6 (uV K):=fun s t h1 h2=>by unfold uV aF;rw[h1,h2]
theorem kW.state{K:SK}(ok:XN K)(h:kW w K s):nH w (some ⟨K.gi,0,none⟩) (some ⟨K.gh,0,none⟩) none (aF K s):=by
 have:=ok.n;have:=ok.h;refine⟨⟨?_,by simp[aF];omega⟩,⟨?_,by simp[aF];omega⟩,⟨.inl rfl,by simp[aF]⟩⟩
 ·have:=h.rI.cel
  simp only[aF,tT,List.map_map];exact this
 ·have:=h.rH.cel
  simp only[aF,iU,List.map_map];exact this
theorem kW.cells{K:SK}(h:kW w K s)(j:Nat):w.cell? ⟨K.b,j,none⟩=(srA K)[j]? := zB h.hd j
theorem kW.num{K:SK}(h:kW w K s)(hp:p<K.np):K.na=some ⟨K.gn,0,none⟩/\w.cell? ⟨K.gn,p*5,none⟩=some (.int .i64 (K.P p:Nat))/\w.cell? ⟨K.gn,p*5+1,none⟩=some (.slice (K.za p) (K.zs p).length (K.zc p))/\w.cell? ⟨K.gn,p*5+2,none⟩=some (.int .i64 (s.Z p).1)/\w.cell? ⟨K.gn,p*5+3,none⟩=some (.int .i64 (s.Z p).2)/\w.cell? ⟨K.gn,p*5+4,none⟩=some (.int .i64 (s.rk p:Nat))/\∀j,w.frozen? ⟨K.gn,j,none⟩=false:=by
 obtain⟨h0,h1⟩:=h.rN (by omega);refine⟨h0,(h1.cell (by omega)).trans ?_,(h1.cell (by omega)).trans ?_,(h1.cell (by omega)).trans ?_,(h1.cell (by omega)).trans ?_,(h1.cell (by omega)).trans ?_,h1.free⟩
 ·unfold sI;rw[tm (by omega),show (p*5)/5=p by omega]
 ·unfold sI;rw[tb (by omega),tm (by omega),show (p*5+1)/5=p by omega]
 ·unfold sI;rw[tb (by omega),tb (by omega),tm (by omega),show (p*5+2)/5=p by omega]
 ·unfold sI;rw[tb (by omega),tb (by omega),tb (by omega),tm (by omega),show (p*5+3)/5=p by omega]
 ·unfold sI;rw[tb (by omega),tb (by omega),tb (by omega),tb (by omega),show (p*5+4)/5=p by omega]
theorem kW.tog{K:SK}(h:kW w K s){i:Nat}(hi:i<K.sw.length):∃g,K.sa=some ⟨g,0,none⟩/\w.cell? ⟨g,i*2,none⟩=some (.bool (K.sw.getD i Ur).flag)/\w.cell? ⟨g,i*2+1,none⟩=some (.int .i64 ((K.sw.getD i Ur).place:Nat)):=by
 have hc:=h.sw.cel;obtain⟨g,e,c0⟩:=hc.at ((zN zIV 2 (fun _=>rfl) Ur K.sw i 0 hi (by decide)).trans rfl);obtain⟨g',e',c1⟩:=hc.at ((zN zIV 2 (fun _=>rfl) Ur K.sw i 1 hi (by decide)).trans rfl);obtain rfl:g=g':=by rw[e]at e';simpa using e'
 exact⟨g,e,c0,c1⟩
theorem XF(w:World)(K:SK)(s:vW)(ok:XN K)(h:kW w K s)(x:MX)(hx:x=K.e\/x=K.l) :
 Calls Tryz.prog 132 #[.agg #[.string ⟨x.1.label.toArray⟩,.int .i64 x.1.conc,x.2.1,x.2.2,.int .i64 x.1.root],.agg #[.slice (some ⟨K.gi,0,none⟩) K.n K.n,.slice (some ⟨K.gh,0,none⟩) K.h K.h,.slice none 0 0]] w fun e w'=>e=.returned (.bool (qU x.1 (aF K s)))/\Below w.heap.size w w':=by
 have h1:=Xa w (some ⟨K.gi,0,none⟩) (some ⟨K.gh,0,none⟩) none K.n K.h 0 (aF K s) x (by rcases hx with rfl|rfl;exact h.eM;exact h.lM) (h.state ok);have e:CG (some ⟨K.gi,0,none⟩) (some ⟨K.gh,0,none⟩) none K.n K.h 0 (aF K s)=.agg #[.slice (some ⟨K.gi,0,none⟩) K.n K.n,.slice (some ⟨K.gh,0,none⟩) K.h K.h,.slice none 0 0]:=by simp[CG,aF]
 rw[e]at h1;exact h1
theorem VY(w:World)(K:SK)(s:vW)(ok:XN K)(h:kW w K s) :
 Calls Tryz.prog 175 #[.pointer (some ⟨K.b,0,none⟩)] w fun e w'=>e=.returned (.bool (uV K s))/\Below w.heap.size w w':=by
 have HA1:=zA (fun w' (hb:Below w.heap.size w w')=>XF w' K s ok (h.below hb) K.e (.inl rfl));have HA2:=zA (fun w' (hb:Below w.heap.size w w')=>XF w' K s ok (h.below hb) K.l (.inr rfl));have HC:=zA (fun w' (hb:Below w.heap.size w w')=>(h.below hb).cells);have HR:Hid (uV K s=(qU K.e.1 (aF K s)&&qU K.l.1 (aF K s))):=rfl;have hc:=HC.out w (tg _ _);have c0:w.cell? ⟨K.b,0,none⟩=some (.string ⟨K.e.1.label.toArray⟩):=hc 0;have c1:w.cell? ⟨K.b,1,none⟩=some (.int .i64 K.e.1.conc):=hc 1;have c2:w.cell? ⟨K.b,2,none⟩=some (K.e.2.1):=hc 2;have c3:w.cell? ⟨K.b,3,none⟩=some (K.e.2.2):=hc 3;have c4:w.cell? ⟨K.b,4,none⟩=some (.int .i64 K.e.1.root):=hc 4;have c12:w.cell? ⟨K.b,12,none⟩=some (.slice (some ⟨K.gi,0,none⟩) K.n K.n):=hc 12;have c13:w.cell? ⟨K.b,13,none⟩=some (.slice (some ⟨K.gh,0,none⟩) K.h K.h):=hc 13;have c14:w.cell? ⟨K.b,14,none⟩=some (.slice none 0 0):=hc 14;have HD:Hid (∀w',Below w.heap.size w w'->w'.cell? ⟨K.b,5,none⟩=some (.string ⟨K.l.1.label.toArray⟩)/\w'.cell? ⟨K.b,6,none⟩=some (.int .i64 K.l.1.conc)/\w'.cell? ⟨K.b,7,none⟩=some K.l.2.1/\w'.cell? ⟨K.b,8,none⟩=some K.l.2.2/\w'.cell? ⟨K.b,9,none⟩=some (.int .i64 K.l.1.root)/\w'.cell? ⟨K.b,12,none⟩=some (.slice (some ⟨K.gi,0,none⟩) K.n K.n)/\w'.cell? ⟨K.b,13,none⟩=some (.slice (some ⟨K.gh,0,none⟩) K.h K.h)/\w'.cell? ⟨K.b,14,none⟩=some (.slice none 0 0)):=fun w' hb=>⟨HC.out w' hb 5,HC.out w' hb 6,HC.out w' hb 7,HC.out w' hb 8,HC.out w' hb 9,HC.out w' hb 12,HC.out w' hb 13,HC.out w' hb 14⟩;have HD0:Hid (∀w',Below w.heap.size w w'->w'.cell? ⟨K.b,0,none⟩=some (.string ⟨K.e.1.label.toArray⟩)/\w'.cell? ⟨K.b,1,none⟩=some (.int .i64 K.e.1.conc)/\w'.cell? ⟨K.b,2,none⟩=some K.e.2.1/\w'.cell? ⟨K.b,3,none⟩=some K.e.2.2/\w'.cell? ⟨K.b,4,none⟩=some (.int .i64 K.e.1.root)/\w'.cell? ⟨K.b,12,none⟩=some (.slice (some ⟨K.gi,0,none⟩) K.n K.n)/\w'.cell? ⟨K.b,13,none⟩=some (.slice (some ⟨K.gh,0,none⟩) K.h K.h)/\w'.cell? ⟨K.b,14,none⟩=some (.slice none 0 0)):=fun w' hb=>⟨HC.out w' hb 0,HC.out w' hb 1,HC.out w' hb 2,HC.out w' hb 3,HC.out w' hb 4,HC.out w' hb 12,HC.out w' hb 13,HC.out w' hb 14⟩;have lb:=yG c0;obtain⟨ea,ec,q1,-⟩:=h.eM.sum;obtain⟨eg,egc,q2,-⟩:=h.eM.guard;obtain⟨la,lc,q3,-⟩:=h.lM.sum;obtain⟨lg,lgc,q4,-⟩:=h.lM.guard;have c2':w.cell? ⟨K.b,2,none⟩=some (.slice ea K.e.1.sum.length ec):=by rw[<-q1];exact c2
 have c3':w.cell? ⟨K.b,3,none⟩=some (.slice eg K.e.1.guard.length egc):=by rw[<-q2];exact c3
 rw[q1,q2]at HA1 HD0;rw[q3,q4]at HD HA2;clear c2 c3;clear hc HC h q1 q2 q3 q4;generalize qU K.e.1 (aF K s)=a1 at *;generalize qU K.l.1 (aF K s)=a2 at *;generalize uV K s=ans at *;generalize K.e.1.label=el at *;generalize K.e.1.conc=eo at *;generalize K.e.1.root=er at *;generalize K.e.1.sum.length=en at *;generalize K.e.1.guard.length=em at *;generalize K.l.1.label=ll at *;generalize K.l.1.conc=lo at *;generalize K.l.1.root=lr at *;generalize K.l.1.sum.length=ln at *;generalize K.l.1.guard.length=lm at *
 go_enter Tryz.func175,Tryz.ntmps175
 cases a1
 ·have HR2:Hid (ans=false):=HR.out
  clear HR HA2 HD
  go_upto_region 1 with fail
  go_region_held3 (fun w'=>w'.cell? ⟨K.b,0,none⟩=some (.string ⟨el.toArray⟩)/\w'.cell? ⟨K.b,1,none⟩=some (.int .i64 eo)/\w'.cell? ⟨K.b,2,none⟩=some (.slice ea en ec)/\w'.cell? ⟨K.b,3,none⟩=some (.slice eg em egc)/\w'.cell? ⟨K.b,4,none⟩=some (.int .i64 er)/\w'.cell? ⟨K.b,12,none⟩=some (.slice (some ⟨K.gi,0,none⟩) K.n K.n)/\w'.cell? ⟨K.b,13,none⟩=some (.slice (some ⟨K.gh,0,none⟩) K.h K.h)/\w'.cell? ⟨K.b,14,none⟩=some (.slice none 0 0)) (go_keep) (
   (go_at_call 132;refine(HA1.out _ (po (tg _ _))).mono ?_;rintro e w4 ⟨rfl,hb4⟩;have hB4:Below w.heap.size w w4:=(po (tg _ _)).trans hb4;obtain⟨u0,u1,u2,u3,u4,u5,u6,u7⟩:=HD0.out w4 hB4))
  all_goals
   go_wp2_with fail
   go_ret
   exact⟨zF HR2.out.symm,hB4⟩
 ·have HR2:Hid (ans=a2):=HR.out
  clear HR
  go_upto_region 1 with fail
  go_region_held3 (fun w'=>w'.cell? ⟨K.b,0,none⟩=some (.string ⟨el.toArray⟩)/\w'.cell? ⟨K.b,1,none⟩=some (.int .i64 eo)/\w'.cell? ⟨K.b,2,none⟩=some (.slice ea en ec)/\w'.cell? ⟨K.b,3,none⟩=some (.slice eg em egc)/\w'.cell? ⟨K.b,4,none⟩=some (.int .i64 er)/\w'.cell? ⟨K.b,12,none⟩=some (.slice (some ⟨K.gi,0,none⟩) K.n K.n)/\w'.cell? ⟨K.b,13,none⟩=some (.slice (some ⟨K.gh,0,none⟩) K.h K.h)/\w'.cell? ⟨K.b,14,none⟩=some (.slice none 0 0)) (go_keep) (
   (go_at_call 132;refine(HA1.out _ (po (tg _ _))).mono ?_;rintro e w4 ⟨rfl,hb4⟩;have hB4:Below w.heap.size w w4:=(po (tg _ _)).trans hb4;obtain⟨u0,u1,u2,u3,u4,u5,u6,u7⟩:=HD0.out w4 hB4))
  all_goals
   obtain⟨d5,d6,d7,d8,d9,d12,d13,d14⟩:=HD.out w4 hB4;have lb4:=yG d5;have HB4:=zA hB4;have hs4:=hB4.size;clear hB4 hb4 c0 c1 c2' c3' c4 c12 c13 c14 u0 u1 u2 u3 u4 u5 u6 u7
   go_upto_region 3 with fail
   go_region_held3 (fun w'=>w'.cell? ⟨K.b,5,none⟩=some (.string ⟨ll.toArray⟩)/\w'.cell? ⟨K.b,6,none⟩=some (.int .i64 lo)/\w'.cell? ⟨K.b,7,none⟩=some (.slice la ln lc)/\w'.cell? ⟨K.b,8,none⟩=some (.slice lg lm lgc)/\w'.cell? ⟨K.b,9,none⟩=some (.int .i64 lr)/\w'.cell? ⟨K.b,12,none⟩=some (.slice (some ⟨K.gi,0,none⟩) K.n K.n)/\w'.cell? ⟨K.b,13,none⟩=some (.slice (some ⟨K.gh,0,none⟩) K.h K.h)/\w'.cell? ⟨K.b,14,none⟩=some (.slice none 0 0)) (go_keep) (
    (go_at_call 132;refine(HA2.out _ (po HB4.out)).mono ?_;rintro e w5 ⟨rfl,hb5⟩;have hB5:Below w.heap.size w w5:=(po HB4.out).trans (hb5.mono hs4);obtain⟨v5,v6,v7,v8,v9,v12,v13,v14⟩:=HD.out w5 hB5))
   all_goals
    go_wp2_with fail
    go_ret
    exact⟨zF HR2.out.symm,hB5⟩
theorem zGD(w:World)(K:SK)(s:vW)(t:jJ)(v:Nat)(ok:XN K)(ht:t∈K.sw)(h:kW w K s) :
 Calls Tryz.prog 176 #[.pointer (some ⟨K.b,0,none⟩),.agg #[.bool t.flag,.int .i64 (t.place:Nat)],.int .i64 (v:Nat)] w fun e w'=>e=.returned (.tuple #[])/\kW w' K (cB s t v)/\Below K.B w w':=by
 have hc:=h.cells;have c12:w.cell? ⟨K.b,12,none⟩=some (.slice (some ⟨K.gi,0,none⟩) K.n K.n):=hc 12;have c13:w.cell? ⟨K.b,13,none⟩=some (.slice (some ⟨K.gh,0,none⟩) K.h K.h):=hc 13;have lb:=yG c12;have nb:w.heap.size≠K.b:=by omega
 have hB:K.B<=w.heap.size:=p7 ok.lob (ph lb);have hn:=ok.n;have hh:=ok.h;have tgI:=ok.tgI t ht;have tgH:=ok.tgH t ht;have loi:=ok.loi;have loh:=ok.loh;obtain⟨tf,tp⟩:=t;simp only at tgI tgH ⊢;cases tf
 ·have hp:tp<K.h:=tgH rfl
  have hpI:(tp:Int)<(K.h:Int):=by omega
  have d13:∀o,(w.alloc o).cell? ⟨K.b,13,none⟩=some (.slice (some ⟨K.gh,0,none⟩) K.h K.h):=fun o=>((h.below (fj (j1 _) o)).cells 13).trans rfl
  have HS:Hid (∀w',Below (w.setCell ⟨K.gh,tp,none⟩ (.bool ((v:Int)==1))).heap.size (w.setCell ⟨K.gh,tp,none⟩ (.bool ((v:Int)==1))) w'->kW w' K (cB s ⟨false,tp⟩ v)/\Below K.B w w'):=fun w' hb=>by
   have e:((v:Int)==1)=decide (v=1):=by by_cases h9:v=1 <;> simp[h9] <;> omega
   have hk:=(tg K.B w).setCell (p:=⟨K.gh,tp,none⟩) loh (.bool ((v:Int)==1));refine⟨?_,hk.trans (hb.mono (p7 hB hk.size))⟩;rw[e]at hb;exact(h.setH hp _ (tm rfl) (fun r _ hr=>tb hr)).below hb
  have HSd:Hid (∀w',Below w.heap.size w w'->w'.cell? ⟨K.gh,tp,none⟩=some (.bool (s.has tp))/\w'.frozen? ⟨K.gh,tp,none⟩=false):=fun w' hb=>⟨(h.below hb).rH.cell hp,(h.below hb).rH.free _⟩;have n1:K.gh≠K.b:=fun e=>by obtain⟨cs,q,_⟩:=h.rH;exact YT q h.hd (by decide) e
  have n1':=n1.symm;have l1:=h.rH.lt;have n2:K.gh≠w.heap.size:=by omega
  have n2':=n2.symm;clear h hc tgI tgH c12 ok ht;generalize s.has tp=old at *
  go_enter Tryz.func176,Tryz.ntmps176
  go_upto_region 3 with fail
  have e13:=d13 (.cells #[.bool false,.int .i64 (tp:Nat)] 216);obtain⟨d1,d2⟩:=HSd.out (w.alloc (.cells #[.bool false,.int .i64 (tp:Nat)] 216)).drew (po (fj (j1 _) _));have e2:((w.setCell ⟨K.gh,tp,none⟩ (.bool ((v:Int)==1))).alloc (.cells #[.bool false,.int .i64 (tp:Nat)] 216)).cell? ⟨w.heap.size,1,none⟩=some (.int .i64 (tp:Nat)):=zB (yW _ _ _ (by simp[World.setCell])) 1
  go_region_held3 (fun w'=>w'.cell? ⟨K.b,13,none⟩=some (.slice (some ⟨K.gh,0,none⟩) K.h K.h)/\w'.cell? ⟨w.heap.size,1,none⟩=some (.int .i64 (tp:Nat))) (go_keep) (fail)
  all_goals
   go_wp2_with fail
   first|go_end0|((try simp only[Exit.inBlock,Exit.then]);refine pb (results_none rfl _ _ _) rfl ?_)
   exact⟨rfl,HS.out _ (po (fj (j1 _) _))⟩
 ·have hp:tp<K.n:=tgI rfl
  have hpI:(tp:Int)<(K.n:Int):=by omega
  have d12:∀o,(w.alloc o).cell? ⟨K.b,12,none⟩=some (.slice (some ⟨K.gi,0,none⟩) K.n K.n):=fun o=>((h.below (fj (j1 _) o)).cells 12).trans rfl
  have HS:Hid (∀w',Below (w.setCell ⟨K.gi,tp,none⟩ (.int .i64 (v:Nat))).heap.size (w.setCell ⟨K.gi,tp,none⟩ (.int .i64 (v:Nat))) w'->kW w' K (cB s ⟨true,tp⟩ v)/\Below K.B w w'):=fun w' hb=>by
   have hk:=(tg K.B w).setCell (p:=⟨K.gi,tp,none⟩) loi (.int .i64 (v:Nat));refine⟨?_,hk.trans (hb.mono (p7 hB hk.size))⟩;exact(h.setI hp _ (tm rfl) (fun r _ hr=>tb hr)).below hb
  have HSd:Hid (∀w',Below w.heap.size w w'->w'.cell? ⟨K.gi,tp,none⟩=some (.int .i64 (s.inp tp))/\w'.frozen? ⟨K.gi,tp,none⟩=false):=fun w' hb=>⟨(h.below hb).rI.cell hp,(h.below hb).rI.free _⟩;have n1:K.gi≠K.b:=fun e=>by obtain⟨cs,q,_⟩:=h.rI;exact YT q h.hd (by decide) e
  have n1':=n1.symm;have l1:=h.rI.lt;have n2:K.gi≠w.heap.size:=by omega
  have n2':=n2.symm;clear h hc tgI tgH c13 ok ht;generalize s.inp tp=old at *
  go_enter Tryz.func176,Tryz.ntmps176
  go_upto_region 2 with fail
  have e12:=d12 (.cells #[.bool true,.int .i64 (tp:Nat)] 216);obtain⟨d1,d2⟩:=HSd.out (w.alloc (.cells #[.bool true,.int .i64 (tp:Nat)] 216)).drew (po (fj (j1 _) _));have e2:((w.setCell ⟨K.gi,tp,none⟩ (.int .i64 (v:Nat))).alloc (.cells #[.bool true,.int .i64 (tp:Nat)] 216)).cell? ⟨w.heap.size,1,none⟩=some (.int .i64 (tp:Nat)):=zB (yW _ _ _ (by simp[World.setCell])) 1
  go_region_held3 (fun w'=>w'.cell? ⟨K.b,12,none⟩=some (.slice (some ⟨K.gi,0,none⟩) K.n K.n)/\w'.cell? ⟨w.heap.size,1,none⟩=some (.int .i64 (tp:Nat))) (go_keep) (fail)
  all_goals
   go_wp2_with fail
   first|go_end0|((try simp only[Exit.inBlock,Exit.then]);refine pb (results_none rfl _ _ _) rfl ?_)
   exact⟨rfl,HS.out _ (po (fj (j1 _) _))⟩
theorem jy(l:List jJ)(i:Nat)(h:i<l.length):l.drop i=l.getD i Ur::l.drop (i+1):=by
 rw[pm h];simp[List.getD,h]
def Zt(K:SK)(at':Nat)(w:World)(s:vW)(w':World)(e:Ending):Prop:=∃r s',e=.returned (.bool r)/\kW w' K s'/\Below K.B w w'/\iZ (uV K) (K.sw.drop at') s s' r
theorem Zo(K:SK)(ok:XN K):∀(m at':Nat) (w:World) (s:vW),at'+m=K.sw.length->kW w K s ->
 Calls Tryz.prog 143 #[.pointer (some ⟨K.b,0,none⟩),.int .i64 (at':Nat)] w fun e w'=>Zt K at' w s w' e:=by
 intro m
 induction m with
 | zero =>
   intro at' w s hm h;have HB:=zA (VY w K s ok h)
   have HP:Hid (∀w',Below w.heap.size w w'->Zt K at' w s w' (.returned (.bool (uV K s)))):=fun w' hb=>by
    refine⟨_,s,rfl,h.below hb,hb.mono (p7 ok.lob (ph (zL h.hd))),?_⟩;rw[pf (by omega)];exact DP _ _
   have hc:=h.cells;have c11:w.cell? ⟨K.b,11,none⟩=some (.slice K.sa K.sw.length K.sc):=hc 11;have hi:¬(at':Int)<(K.sw.length:Int):=by omega
   have hi2:(K.sw.length:Int)<=(at':Int):=by omega
   clear h hc hm;generalize uV K s=ans at *;generalize K.sw.length=n at *
   go_enter Tryz.func143,Tryz.ntmps143
   go_wp2_with fail
   refine HB.out.mono ?_;rintro e w1 ⟨rfl,hb1⟩;have HQ:=zA (HP.out w1 hb1);clear hb1;go_wp2_with fail
   first|exact HQ.out|(go_ret;exact HQ.out)
 | succ m ih =>
   intro at' w s hm h;have zK4:at'<K.sw.length:=by omega
   have hf:=ok.sw;have hdr:=jy K.sw at' zK4;have htm:K.sw.getD at' Ur∈K.sw:=by simp[List.getD,zK4]
   have HI:Hid (∀w1 s1,kW w1 K s1->Calls Tryz.prog 143 #[.pointer (some ⟨K.b,0,none⟩),.int .i64 ((at':Int)+1)] w1 fun e w'=>∃r s',e=.returned (.bool r)/\kW w' K s'/\Below K.B w1 w'/\iZ (uV K) (K.sw.drop (at'+1)) s1 s' r):=fun w1 s1 h1=>ih (at'+1) w1 s1 (by omega) h1;have HT:Hid (∀w1 s1 (v:Nat),kW w1 K s1->Calls Tryz.prog 176 #[.pointer (some ⟨K.b,0,none⟩),.agg #[.bool (K.sw.getD at' Ur).flag,.int .i64 ((K.sw.getD at' Ur).place:Nat)],.int .i64 (v:Nat)] w1 fun e w'=>e=.returned (.tuple #[])/\kW w' K (cB s1 (K.sw.getD at' Ur) v)/\Below K.B w1 w'):=fun w1 s1 v h1=>zGD w1 K s1 _ v ok htm h1;have HC:Hid (∀w1 s1,kW w1 K s1->w1.cell? ⟨K.b,11,none⟩=some (.slice K.sa K.sw.length K.sc)/\∃g,K.sa=some ⟨g,0,none⟩/\w1.cell? ⟨g,at'*2,none⟩=some (.bool (K.sw.getD at' Ur).flag)/\w1.cell? ⟨g,at'*2+1,none⟩=some (.int .i64 ((K.sw.getD at' Ur).place:Nat))):=fun w1 s1 h1=>⟨h1.cells 11,h1.tog zK4⟩;have HY:Hid (∀v s1 s2 w2,v<=1->ZK (uV K) (K.sw.getD at' Ur) (K.sw.drop (at'+1)) s s1 v->kW w2 K s2->Below K.B w w2->iZ (uV K) (K.sw.drop (at'+1)) (cB s1 (K.sw.getD at' Ur) v) s2 true->Zt K at' w s w2 (.returned (.bool true))):=fun v s1 s2 w2 hv h1 h2 h3 h4=>⟨true,s2,rfl,h2,h3,by rw[hdr];exact DQ hv h1 h4⟩;have HN:Hid (∀s1 w1,ZK (uV K) (K.sw.getD at' Ur) (K.sw.drop (at'+1)) s s1 2->kW w1 K s1->Below K.B w w1->Zt K at' w s w1 (.returned (.bool false))):=fun s1 w1 h1 h2 h3=>⟨false,s1,rfl,h2,h3,by rw[hdr];exact DR h1⟩;have HM0:=zA (U1 (uV K) (K.sw.getD at' Ur) (K.sw.drop (at'+1)) s);have HS:=zA h;have h11:=(HC.out w s h).1;have hltI:(at':Int)<(K.sw.length:Int):=by omega
   have hltD:decide (K.sw.length<=at')=false:=tq (by omega);have hltN:¬K.sw.length<=at':=by omega
   clear h ih hdr htm ok hm;generalize K.sw.getD at' Ur=T at *;generalize K.sw.drop (at'+1)=S at *;generalize hnn:K.sw.length=n at *;clear hnn;obtain⟨Tf,Tp⟩:=T;simp only at HT HC
   go_enter Tryz.func143,Tryz.ntmps143
   go_wp2_with fail
   go_loopw [5] (fun iv wr=>∃(v:Nat) (s1:vW),v<=2/\iv=.int .i64 v/\Hid (kW wr K s1)/\Hid (Below K.B w wr)/\Hid (ZK (uV K) ⟨Tf,Tp⟩ S s s1 v)) (fun iv _=>2-(intOf iv).toNat)
   case atStart=>exact⟨0,s,by omega,rfl,HS,zA (tg _ _),HM0⟩
   case round =>
    obtain⟨v,s1,hv,rfl,HSr,zKM,HMr⟩:=hrel;by_cases hv1:v<=1
    ·obtain⟨k11,g,ea,k0,k1⟩:=HC.out wr s1 HSr.out
     rw[ea]at k11;have hvI:(v:Int)<=1:=by omega
     have HTv:=zA (HT.out wr s1 v HSr.out);clear ea;go_wp2_with fail
     refine HTv.out.mono ?_;rintro e w2 ⟨rfl,hS2,hB2⟩;have HS2:=zA hS2;have HB2:Hid (Below K.B w w2):=zKM.out.trans hB2;have HI2:=zA (HI.out w2 _ hS2);clear hS2 hB2 k11 k0 k1;go_wp2_with fail
     refine HI2.out.mono ?_;rintro e w3 ⟨r,s3,rfl,hS3,hB3,hR3⟩;have HB3:Hid (Below K.B w w3):=HB2.out.trans hB3;cases r
     ·have HM3:=zA (yf HMr.out hR3)
      have HS3:=zA hS3;clear hS3 hB3 hR3;go_wp2_with fail
      go_roundw
      case rel=>exact⟨v+1,s3,by omega,by go_num,HS3,HB3,HM3⟩
      case measure=>simp[intOf];omega
     ·have HQ:=zA (HY.out v s1 s3 w3 hv1 HMr.out hS3 HB3.out hR3)
      clear hS3 hB3 hR3;go_wp2_with fail
      first|exact HQ.out|(go_ret;exact HQ.out)
    ·obtain rfl:v=2:=by omega
     have HQ:=zA (HN.out s1 wr HMr.out HSr.out zKM.out);go_wp2_with fail
     first|exact HQ.out|(go_ret;exact HQ.out)
theorem zHJ:(Tryz.prog.info? 221).map (·.size)=some 2:=by kernel_rfl
def zn0:mK:=⟨0,0,0⟩
def yq(r:Nat)(n:mK)(s:Int × Int):Int × Int:=if n.rank=r then (if s.1<n.lo then n.lo else s.1,if n.hi<s.2 then n.hi else s.2) else s
theorem Jv(r:Nat)(L:List mK)(i:Nat)(s:Int × Int)(h:i<L.length):qF r (L.drop i) s=qF r (L.drop (i+1)) (yq r (L.getD i zn0) s):=by
 rw[pm h,qF];simp[List.getD,h,yq]
theorem GU{i:Nat}(h:i<np):(bG np Z rk).getD i zn0=⟨(Z i).1,(Z i).2,rk i⟩:=by simp[bG,List.getD,h]
def zG7(a b:Int):Obj:=.cells #[.int .i64 a,.int .i64 b] 221 (0,0)
structure zB8(w wr:World)(x y:Int):Prop where
 bel:Below w.heap.size w wr
 sz:w.heap.size+2<=wr.heap.size
 res:wr.heap[w.heap.size]? = some (.cells #[.int .i64 0,.int .i64 0] 221 (0,0))
 zn:wr.heap[w.heap.size+1]? = some (.cells #[.int .i64 x,.int .i64 y] 221 (0,0))
theorem zB8.alloc(h:zB8 w wr x y)(o:Obj):zB8 w (wr.alloc o) x y:=⟨h.bel.alloc (by have:=h.sz;omega) o,by have:=h.sz;simp;omega,zU h.res,zU h.zn⟩
theorem zB8.set0(h:zB8 w wr x y)(v:Int):zB8 w (wr.setCell ⟨w.heap.size+1,0,none⟩ (.int .i64 v)) v y :=
 ⟨h.bel.setCell (p:=⟨w.heap.size+1,0,none⟩) (mw _) _,by have:=h.sz;simp[World.setCell];exact this,by rw[py wr ⟨w.heap.size+1,0,none⟩ w.heap.size _ (by simp)];exact h.res,by rw[tr wr _ 0 _ _ _ h.zn];simp⟩
theorem zB8.set1(h:zB8 w wr x y)(v:Int):zB8 w (wr.setCell ⟨w.heap.size+1,1,none⟩ (.int .i64 v)) x v :=
 ⟨h.bel.setCell (p:=⟨w.heap.size+1,1,none⟩) (mw _) _,by have:=h.sz;simp[World.setCell];exact this,by rw[py wr ⟨w.heap.size+1,1,none⟩ w.heap.size _ (by simp)];exact h.res,by rw[tr wr _ 1 _ _ _ h.zn];simp⟩
theorem Ju(w:World)(K:SK)(s:vW)(r:Nat)(ok:XN K)(h:kW w K s) :
 Calls Tryz.prog 173 #[.pointer (some ⟨K.b,0,none⟩),.int .i64 (r:Nat)] w fun e w'=>e=.returned (.agg #[.int .i64 (vQ (bG K.np s.Z s.rk) r).1,.int .i64 (vQ (bG K.np s.Z s.rk) r).2])/\Below w.heap.size w w':=by
 have HS:=zA h;have c10:w.cell? ⟨K.b,10,none⟩=some (.slice K.na K.np K.nc):=h.cells 10;have lb:=yG c10;have nb:w.heap.size≠K.b:=by omega
 have hnp:=ok.np;have HL:=zA (rP K.np s.Z s.rk);have HAt:=zA (fun i (hi:i<K.np)=>GU (Z:=s.Z) (rk:=s.rk) hi);have HE0:Hid (qF r ((bG K.np s.Z s.rk).drop 0) (0,9999)=vQ (bG K.np s.Z s.rk) r):=rfl;generalize bG K.np s.Z s.rk=L at *;generalize vQ L r=ans at *;obtain⟨a1,a2⟩:=ans;simp only;have HNa:Hid (0<K.np->K.na=some ⟨K.gn,0,none⟩):=fun h0=>(h.rN h0).1;clear h ok;generalize K.na=na at *
 go_enter Tryz.func173,Tryz.ntmps173
 go_wp2_with fail
 generalize hO1:Obj.cells #[Value.int .i64 0,.int .i64 0] 221=O1 at *;have y0:((w.alloc O1).alloc (zG7 0 9999)).heap[w.heap.size]? = some (zG7 0 0):=hO1 ▸ zU (zG _ _);have y1:((w.alloc O1).alloc (zG7 0 9999)).heap[w.heap.size+1]? = some (zG7 0 9999):=yW _ _ _ (by simp);have hb0:Below w.heap.size w ((w.alloc O1).alloc (zG7 0 9999)):=(fj (j1 _) _).alloc (by simp) _;have hs0:w.heap.size+2<=((w.alloc O1).alloc (zG7 0 9999)).heap.size:=by simp
 unfold zG7 at y0 y1 hb0 hs0;have HY0:=zA y0;have HY1:=zA y1;have HB0:=zA hb0;clear y0 y1 hb0 hO1;generalize (w.alloc O1).alloc (.cells #[.int .i64 0,.int .i64 9999] 221 (0,0))=w0 at *
 go_loopw [14] (fun iv wr=>∃(i:Nat) (lo hi:Int),i<=K.np/\iv=.int .i64 i/\Hid (zB8 w wr lo hi)/\Hid (qF r (L.drop i) (lo,hi)=(a1,a2))) (fun iv _=>K.np-(intOf iv).toNat)
 case atStart=>exact⟨0,0,9999,ty _,rfl,zA ⟨HB0.out,hs0,HY0.out,HY1.out⟩,HE0⟩
 case round =>
  obtain⟨i,lo,hi,zKF,rfl,HI,HE⟩:=hrel;have HB:=zA HI.out.bel;have zKD:=HI.out.sz;have HZ0:=zA HI.out.res;have HZ1:=zA HI.out.zn;have z0:wr.cell? ⟨w.heap.size+1,0,none⟩=some (.int .i64 lo):=zB HZ1.out 0;have z1:wr.cell? ⟨w.heap.size+1,1,none⟩=some (.int .i64 hi):=zB HZ1.out 1;have y1:∀j,wr.frozen? ⟨w.heap.size+1,j,none⟩=false:=fun j=>by simp[World.frozen?,HZ1.out]
  by_cases zK4:i<K.np
  ·have ii:(i:Int)<(K.np:Int):=by omega
   obtain⟨-,n0,n1,n2,n3,n4,-⟩:=(HS.out.below HB.out).num zK4;have ea:=HNa.out (by omega);subst ea;have hE:=HE.out;rw[Jv r L i (lo,hi) (by rw[HL.out];exact zK4),HAt.out i zK4]at hE;have HE2:=zA hE;have lg:=yG n0;have ng:wr.heap.size≠K.gn:=by omega
   have m1:wr.heap.size≠w.heap.size+1:=by omega
   have m2:w.heap.size+1<wr.heap.size:=by omega
   have m3:w.heap.size+1≠wr.heap.size:=by omega
   clear HE hE;generalize K.P i=pp at *;generalize K.za i=za at *;generalize (K.zs i).length=zl at *;generalize K.zc i=zc at *;generalize s.Z i=zz at *;generalize s.rk i=rr at *;obtain⟨zl1,zh1⟩:=zz;simp only at n2 n3 HE2;unfold yq at HE2;simp only at HE2;by_cases k0:rr=r
   ·subst k0
    rw[tm rfl]at HE2;by_cases k1:lo<zl1
    ·rw[tm k1]at HE2
     by_cases k2:zh1<hi
     ·rw[tm k2]at HE2
      go_wp2_with fail
      go_roundw
      case rel=>exact⟨i+1,zl1,zh1,by omega,by go_num,zA (((HI.out.set0 zl1).set1 zh1).alloc _),HE2⟩
      case measure=>simp[intOf];omega
     ·rw[tb k2]at HE2
      go_wp2_with fail
      go_roundw
      case rel=>exact⟨i+1,zl1,hi,by omega,by go_num,zA ((HI.out.set0 zl1).alloc _),HE2⟩
      case measure=>simp[intOf];omega
    ·rw[tb k1]at HE2
     by_cases k2:zh1<hi
     ·rw[tm k2]at HE2
      go_wp2_with fail
      go_roundw
      case rel=>exact⟨i+1,lo,zh1,by omega,by go_num,zA ((HI.out.set1 zh1).alloc _),HE2⟩
      case measure=>simp[intOf];omega
     ·rw[tb k2]at HE2
      go_wp2_with fail
      go_roundw
      case rel=>exact⟨i+1,lo,hi,by omega,by go_num,zA (HI.out.alloc _),HE2⟩
      case measure=>simp[intOf];omega
   ·rw[tb k0]at HE2
    have b0:((rr:Int)==(r:Int))=false:=by rw[mh];omega
    have b1:((rr:Int) != (r:Int))=true:=by simp only[bne,b0];rfl
    clear k0;go_wp2_with fail
    go_roundw
    case rel=>exact⟨i+1,lo,hi,by omega,by go_num,zA (HI.out.alloc _),HE2⟩
    case measure=>simp[intOf];omega
  ·have ii:¬(i:Int)<(K.np:Int):=by omega
   have HE2:Hid ((lo,hi)=(a1,a2)):=by have:=HE.out;rw[pf (by rw[HL.out];omega)]at this;exact this
   have w0c:wr.cell? ⟨w.heap.size,0,none⟩=some (.int .i64 0):=zB HZ0.out 0;have w0d:wr.cell? ⟨w.heap.size,1,none⟩=some (.int .i64 0):=zB HZ0.out 1;have y0:∀j,wr.frozen? ⟨w.heap.size,j,none⟩=false:=fun j=>by simp[World.frozen?,HZ0.out]
   have HFr:Hid (((wr.setCell ⟨w.heap.size,0,none⟩ (.int .i64 lo)).setCell ⟨w.heap.size,1,none⟩ (.int .i64 hi)).heap[w.heap.size]? = some (.cells #[.int .i64 lo,.int .i64 hi] 221 (0,0))):=by
    have q1:=tr wr _ 0 _ _ (.int .i64 lo) HZ0.out;have q2:=tr _ _ 1 _ _ (.int .i64 hi) q1;unfold Hid;rw[q2];simp
   have HBf:Hid (Below w.heap.size w ((wr.setCell ⟨w.heap.size,0,none⟩ (.int .i64 lo)).setCell ⟨w.heap.size,1,none⟩ (.int .i64 hi))):=(HB.out.setCell (by simp) _).setCell (by simp) _;go_wp2_with fail
   refine pb (v:=.agg #[.int .i64 lo,.int .i64 hi]) (results_cell_row Tryz.results173 _ _ w.heap.size 221 #[.int .i64 lo,.int .i64 hi] (0,0) _ rfl HFr.out Tryz.underlying221 rfl zHJ) rfl ⟨?_,HBf.out⟩;have:=HE2.out;simp only[Prod.mk.injEq]at this;rw[this.1,this.2]
theorem Gx(r:Nat)(L:List mK)(i:Nat)(h:i<L.length):bR r (L.drop i)=(if (L.getD i zn0).rank=r then 1 else 0)+bR r (L.drop (i+1)):=by
 rw[pm h,bR];simp[List.getD,h]
theorem VQ(r:Nat)(L:List mK):bR r L<=L.length:=by
 induction L with
 | nil=>simp[bR]
 | cons n L ih=>rw[bR,pd];split <;> omega
def bB(K:SK)(s:vW)(r:Nat)(v:Int)(i:Nat)(x:Nat):Int:=if (List.range i).any (fun p=>decide (K.P p=x)&&decide (s.rk p=r))=true then v else s.inp x
theorem Fp(K:SK)(s:vW)(r:Nat)(v:Int):bB K s r v 0=s.inp:=by funext x;unfold bB;simp
theorem Fq(K:SK)(s:vW)(r:Nat)(v:Int)(i:Nat)(h:s.rk i≠r):bB K s r v (i+1)=bB K s r v i:=by
 funext x;unfold bB;rw[lh,List.any_append];simp[h]
theorem zCN(K:SK)(s:vW)(r:Nat)(v:Int)(i:Nat)(h:s.rk i=r):bB K s r v (i+1) (K.P i)=v:=by
 unfold bB;rw[lh,List.any_append];simp[h]
theorem UX(K:SK)(s:vW)(r:Nat)(v:Int)(i x:Nat)(h:x≠K.P i):bB K s r v (i+1) x=bB K s r v i x:=by
 have:(K.P i=x)=False:=eq_false fun e=>h e.symm;unfold bB;rw[lh,List.any_append];simp[this]
theorem zCO(w:World)(K:SK)(s:vW)(r:Nat)(v:Int)(ok:XN K)(h:kW w K s) :
 Calls Tryz.prog 174 #[.pointer (some ⟨K.b,0,none⟩),.int .i64 (r:Nat),.int .i64 v] w fun e w'=>e=.returned (.int .i64 (bR r (bG K.np s.Z s.rk):Nat))/\kW w' K { s with inp:=bB K s r v K.np }/\zC w.heap.size K.gi w w':=by
 have c10:w.cell? ⟨K.b,10,none⟩=some (.slice K.na K.np K.nc):=h.cells 10;have lb:=yG c10;have hnp:=ok.np;have hn:=ok.n;have HS0:Hid (kW w K { s with inp:=bB K s r v 0 }):=by unfold Hid;rw[Fp];exact h
 have HL:=zA (rP K.np s.Z s.rk);have HAt:=zA (fun i (hi:i<K.np)=>GU (Z:=s.Z) (rk:=s.rk) hi);have HE0:Hid (0+bR r ((bG K.np s.Z s.rk).drop 0)=bR r (bG K.np s.Z s.rk)):=by unfold Hid;simp
 have HCl:=zA (VQ r (bG K.np s.Z s.rk));have HP:=zA ok.P;generalize bG K.np s.Z s.rk=L at *;generalize bR r L=ans at *;have HNa:Hid (0<K.np->K.na=some ⟨K.gn,0,none⟩):=fun h0=>(h.rN h0).1;clear h ok;generalize K.na=na at *
 go_enter Tryz.func174,Tryz.ntmps174
 go_wp2_with fail
 go_loopw [7,15] (fun nv iv wr=>∃(i n:Nat),i<=K.np/\n<=i/\nv=.int .i64 n/\iv=.int .i64 i/\Hid (zC w.heap.size K.gi w wr)/\Hid (kW wr K { s with inp:=bB K s r v i })/\Hid (n+bR r (L.drop i)=ans)) (fun _ iv _=>K.np-(intOf iv).toNat)
 case atStart=>exact⟨0,0,ty _,j1 _,rfl,rfl,zA (zC.refl _ _ _),HS0,HE0⟩
 case round =>
  obtain⟨i,n,hi,hni,rfl,rfl,HB,HS,HE⟩:=hrel;have zKH:=HB.out.size;by_cases zK4:i<K.np
  ·have ii:(i:Int)<(K.np:Int):=by omega
   obtain⟨-,n0,n1,n2,n3,n4,-⟩:=HS.out.num zK4;have ea:=HNa.out (by omega);subst ea;simp only at n2 n3 n4;have d12:wr.cell? ⟨K.b,12,none⟩=some (.slice (some ⟨K.gi,0,none⟩) K.n K.n):=HS.out.cells 12;have hE:=HE.out;rw[Gx r L i (by rw[HL.out];exact zK4),HAt.out i zK4]at hE;have HE2:=zA hE;have lg:=yG n0;have ng:wr.heap.size≠K.gn:=by omega
   have lbr:=yG d12;have nbr:wr.heap.size≠K.b:=by omega
   have lgi:=HS.out.rI.lt;have ngi:wr.heap.size≠K.gi:=by omega
   have ngi':K.gi≠wr.heap.size:=by omega
   have nib:K.gi≠K.b:=fun e=>by obtain⟨cs,q,_⟩:=HS.out.rI;exact YT q HS.out.hd (by decide) e
   have nib':=nib.symm;have hpn:=HP.out i zK4;have hpI:(K.P i:Int)<(K.n:Int):=by omega
   have HSk:Hid (s.rk i≠r->∀o,kW (wr.alloc o) K { s with inp:=bB K s r v (i+1) }/\zC w.heap.size K.gi w (wr.alloc o)):=fun zK8 o=>⟨by rw[Fq K s r v i zK8];exact HS.out.below (fj (j1 _) o),HB.out.alloc zKH o⟩
   have zKN:Hid (s.rk i=r->∀w',Below (wr.setCell ⟨K.gi,K.P i,none⟩ (.int .i64 v)).heap.size (wr.setCell ⟨K.gi,K.P i,none⟩ (.int .i64 v)) w'->kW w' K { s with inp:=bB K s r v (i+1) }/\zC w.heap.size K.gi w w'):=fun he w' hb=>by
    have h1:=HS.out.setI hpn v (zCN K s r v i he) (fun x _ hx=>UX K s r v i x hx);refine⟨h1.below hb,?_⟩;have hk:=HB.out.setCell (p:=⟨K.gi,K.P i,none⟩) (.inr rfl) (.int .i64 v);exact hk.trans (zC.of_below (hb.mono (by have:=hk.size;exact this)))
   have HSd:Hid (∀w',Below wr.heap.size wr w'->w'.cell? ⟨K.gi,K.P i,none⟩=some (.int .i64 (bB K s r v i (K.P i)))/\w'.frozen? ⟨K.gi,K.P i,none⟩=false):=fun w' hb=>⟨(HS.out.below hb).rI.cell hpn,(HS.out.below hb).rI.free _⟩;clear HE hE;generalize bB K s r v i (K.P i)=old at *;generalize K.P i=pp at *;generalize K.za i=za at *;generalize (K.zs i).length=zl at *;generalize K.zc i=zc at *;generalize s.Z i=zz at *;generalize s.rk i=rr at *;obtain⟨zl1,zh1⟩:=zz;simp only at n2 n3 HE2;by_cases k0:rr=r
   ·have HE3:Hid (n+1+bR r (L.drop (i+1))=ans):=by have:=HE2.out;rw[tm k0]at this;unfold Hid;omega
    have HSt2:=zA (zKN.out k0);clear HE2 HSk zKN;subst k0
    go_upto_region 6 with fail
    obtain⟨d1,d2⟩:=HSd.out (wr.alloc (.cells #[.int .i64 (pp:Nat),.slice za zl zc,.int .i64 zl1,.int .i64 zh1,.int .i64 (rr:Nat)] 223)).drew (po (fj (j1 _) _));have e2:((wr.setCell ⟨K.gi,pp,none⟩ (.int .i64 v)).alloc (.cells #[.int .i64 (pp:Nat),.slice za zl zc,.int .i64 zl1,.int .i64 zh1,.int .i64 (rr:Nat)] 223)).cell? ⟨wr.heap.size,0,none⟩=some (.int .i64 (pp:Nat)):=zB (yW _ _ _ (by simp[World.setCell])) 0
    go_region_held3 (fun w'=>w'.cell? ⟨K.b,12,none⟩=some (.slice (some ⟨K.gi,0,none⟩) K.n K.n)/\w'.cell? ⟨wr.heap.size,0,none⟩=some (.int .i64 (pp:Nat))) (go_keep) (fail)
    all_goals
     go_wp2_with fail
     go_roundw
     case rel=>exact⟨i+1,n+1,by omega,by omega,by go_num,by go_num,zA (HSt2.out _ (po (fj (j1 _) _))).2,zA (HSt2.out _ (po (fj (j1 _) _))).1,HE3⟩
     case measure=>simp[intOf];omega
   ·have HE3:Hid (n+bR r (L.drop (i+1))=ans):=by have:=HE2.out;rw[tb k0]at this;unfold Hid;omega
    have HSk2:=zA (HSk.out k0);have b0:((rr:Int)==(r:Int))=false:=by rw[mh];omega
    clear HE2 HSk zKN k0;go_wp2_with fail
    go_roundw
    case rel=>exact⟨i+1,n,by omega,by omega,by first|rfl|go_num,by go_num,zA (HSk2.out _).2,zA (HSk2.out _).1,HE3⟩
    case measure=>simp[intOf];omega
  ·have ii:¬(i:Int)<(K.np:Int):=by omega
   obtain rfl:i=K.np:=by omega
   have HE2:Hid (n=ans):=by have:=HE.out;rw[pf (by rw[HL.out];omega)]at this;unfold Hid;simpa[bR] using this
   clear HE;go_wp2_with fail
   go_ret
   exact⟨yQ (congrArg (fun (x:Nat)=>(x:Int)) HE2.out),HS.out,HB.out⟩
structure rL(K:SK)(s s1:vW)(r:Nat)(out:List Int):Prop where
 z:s1.Z=s.Z/\s1.rk=s.rk/\s1.has=s.has
 off:∀i,(∀p,p<K.np->K.P p≠i)->s1.inp i=s.inp i
 num:∀p,p<K.np->s.rk p<r->s1.inp (K.P p)=out.getD (s.rk p) 0
 len:out.length=r
theorem KC(K:SK)(s:vW):rL K s s 0 []:=⟨⟨rfl,rfl,rfl⟩,fun _ _=>rfl,fun p _ h=>absurd h (by omega),rfl⟩
theorem KQ(K:SK)(s:vW)(r:Nat)(v:Int)(x:Nat)(h:∀p,p<K.np->K.P p=x->s.rk p≠r):bB K s r v K.np x=s.inp x:=by
 unfold bB;rw[tb];intro hh;obtain⟨p,hp,hq⟩:=md.1 hh;rw[pj,pt,pt]at hq;exact h p (by simpa using hp) hq.1 hq.2
theorem zCM(K:SK)(s:vW)(r:Nat)(v:Int)(p:Nat)(hp:p<K.np)(h:s.rk p=r):bB K s r v K.np (K.P p)=v:=by
 unfold bB;rw[tm];exact md.2 ⟨p,by simpa using hp,by simp[h]⟩
theorem Z7{K:SK}(inj:∀p q,p<K.np->q<K.np->K.P p=K.P q->p=q){r:Nat}{out:List Int}(h:rL K s s1 r out)(v:Int):rL K s { s1 with inp:=bB K s1 r v K.np } (r+1) (out++[v]):=by
 refine⟨h.z,fun i hi=>?_,fun p hp hr=>?_,by simp[h.len]⟩
 ·rw[<-h.off i hi];exact KQ K s1 r v i fun p hp e=>absurd e (hi p hp)
 ·have hl:=h.len
  by_cases hr2:s.rk p=r
  ·rw[show ({ s1 with inp:=bB K s1 r v K.np }:vW).inp (K.P p)=v from zCM K s1 r v p hp (by rw[h.z.2.1];exact hr2)]
   rw[hr2,<-hl];simp[List.getD]
  ·have e:({ s1 with inp:=bB K s1 r v K.np }:vW).inp (K.P p)=s1.inp (K.P p):=KQ K s1 r v _ fun q hq e=>by
    rw[inj q p hq hp e,h.z.2.1];exact hr2
   rw[e,h.num p hp (by omega)];simp[List.getD,mt (show s.rk p<out.length by omega)]
theorem UC{K:SK}{r:Nat}{out:List Int}(h:rL K s s1 r out)(hs:nQ (bG K.np s.Z s.rk)=some out)(hr:∀p,p<K.np->s.rk p<r):eF K.np K.P s s1 true :=
 ⟨h.z,h.off,fun _=>⟨out,hs,fun p hp=>h.num p hp (hr p hp)⟩,fun h=>absurd h (by simp)⟩
theorem Fa{K:SK}{r:Nat}{out:List Int}(h:rL K s s1 r out)(hs:nQ (bG K.np s.Z s.rk)=none):eF K.np K.P s s1 false :=
 ⟨h.z,h.off,fun h=>absurd h (by simp),fun _=>hs⟩
theorem zG8{r:Nat}(h:pJ r (bG np Z rk)=np):∀p,p<np->rk p<r:=fun p hp =>
 aY (L:=bG np Z rk) (by rw[rP];exact h) (⟨(Z p).1,(Z p).2,rk p⟩:mK) (p8.2 ⟨p,by simpa using hp,rfl⟩)
def Ke(K:SK)(w:World)(s:vW)(w':World)(e:Ending):Prop:=∃r s',e=.returned (.bool r)/\kW w' K s'/\Below K.B w w'/\eF K.np K.P s s' r
theorem Jx(w:World)(K:SK)(s:vW)(ok:XN K)(hrk:∀p,p<K.np->s.rk p<K.np)(h:kW w K s) :
 Calls Tryz.prog 142 #[.pointer (some ⟨K.b,0,none⟩)] w fun e w'=>Ke K w s w' e:=by
 have c10:w.cell? ⟨K.b,10,none⟩=some (.slice K.na K.np K.nc):=h.cells 10;have lb:=yG c10;have hBw:K.B<=w.heap.size:=p7 ok.lob (ph lb);have hnp:=ok.np;have HS0:=zA h;have HLl:=zA (rP K.np s.Z s.rk);have HE0:Hid (wT (bG K.np s.Z s.rk) (K.np-0) 0 0 0 []=nQ (bG K.np s.Z s.rk)):=by unfold Hid nQ;rw[rP];rfl
 have HP0:Hid (0=pJ 0 (bG K.np s.Z s.rk)):=(aW _).symm;have HM0:=zA (KC K s);have HY:Hid (∀s1 w1 r out,rL K s s1 r out->nQ (bG K.np s.Z s.rk)=some out->(∀p,p<K.np->s.rk p<r)->kW w1 K s1->Below K.B w w1->Ke K w s w1 (.returned (.bool true))):=fun s1 w1 r out h1 h2 h3 h4 h5=>⟨true,s1,rfl,h4,h5,UC h1 h2 h3⟩;have HN:Hid (∀s1 w1 r out,rL K s s1 r out->nQ (bG K.np s.Z s.rk)=none->kW w1 K s1->Below K.B w w1->Ke K w s w1 (.returned (.bool false))):=fun s1 w1 r out h1 h2 h4 h5=>⟨false,s1,rfl,h4,h5,Fa h1 h2⟩;have HCf:Hid (∀r,pJ r (bG K.np s.Z s.rk)=K.np->∀p,p<K.np->s.rk p<r):=fun r h=>zG8 h
 have HSh:Hid (∀r w1 s1,kW w1 K s1->s1.Z=s.Z->s1.rk=s.rk->Calls Tryz.prog 173 #[.pointer (some ⟨K.b,0,none⟩),.int .i64 (r:Nat)] w1 fun e w'=>e=.returned (.agg #[.int .i64 (vQ (bG K.np s.Z s.rk) r).1,.int .i64 (vQ (bG K.np s.Z s.rk) r).2])/\Below w1.heap.size w1 w'):=fun r w1 s1 h1 h2 h3=>by
  have:=Ju w1 K s1 r ok h1;rw[h2,h3]at this;exact this
 have HPl:Hid (∀r v w1 s1,kW w1 K s1->s1.Z=s.Z->s1.rk=s.rk->Calls Tryz.prog 174 #[.pointer (some ⟨K.b,0,none⟩),.int .i64 (r:Nat),.int .i64 v] w1 fun e w'=>e=.returned (.int .i64 (bR r (bG K.np s.Z s.rk):Nat))/\kW w' K { s1 with inp:=bB K s1 r v K.np }/\zC w1.heap.size K.gi w1 w'):=fun r v w1 s1 h1 h2 h3=>by
  have:=zCO w1 K s1 r v ok h1;rw[show bG K.np s1.Z s1.rk=bG K.np s.Z s.rk by rw[h2,h3]]at this;exact this
 have HGe:=zA (fun r=>aI r (bG K.np s.Z s.rk) (0,9999));have HCl:=zA (fun r=>VQ r (bG K.np s.Z s.rk));have HLt:=zA (fun r=>(Zm r (bG K.np s.Z s.rk)).1);have HSu:=zA (fun r=>aX r (bG K.np s.Z s.rk));have HRk:=zA hrk;have loi:=ok.loi;have HIj:=zA ok.inj;rw[HLl.out]at HLt HCl;generalize bG K.np s.Z s.rk=L at *;clear h ok hrk
 go_enter Tryz.func142,Tryz.ntmps142
 go_wp2_with fail
 go_loopw [3,4,13] (fun lv pv iv wr=>∃(r pl:Nat) (xV:Int) (out:List Int) (s1:vW),r<=K.np/\lv=.int .i64 xV/\pv=.int .i64 pl/\iv=.int .i64 r /\ -1<=xV/\xV<=10000/\Hid (Below K.B w wr)/\Hid (kW wr K s1)/\Hid (rL K s s1 r out)/\Hid (pl=pJ r L)/\Hid (wT L (K.np-r) r xV pl out=nQ L)) (fun _ _ iv _=>K.np-(intOf iv).toNat)
 case atStart=>exact⟨0,0,0,[],s,ty _,rfl,rfl,rfl,by omega,by omega,zA (tg _ _),HS0,HM0,HP0,HE0⟩
 case round =>
  obtain⟨r,pl,xV,out,s1,hr,rfl,rfl,rfl,hl1,hl2,HB,HS,HM,HPl2,HE⟩:=hrel;have zKH:=HB.out.size;have hple:pl<=K.np:=by rw[HPl2.out];exact HLt.out r
  have d10:wr.cell? ⟨K.b,10,none⟩=some (.slice K.na K.np K.nc):=HS.out.cells 10;by_cases zK4:r<K.np
  ·have ii:(r:Int)<(K.np:Int):=by omega
   have hE:=HE.out;rw[show K.np-r=(K.np-(r+1))+1 by omega,wT,HLl.out]at hE;by_cases k0:pl=K.np
   ·rw[tm k0]at hE
    have HQ:=zA (HY.out s1 wr r out HM.out hE.symm (HCf.out r (by rw[<-HPl2.out];exact k0)) HS.out HB.out);clear hE HE;subst k0;go_wp2_with fail
    first|exact HQ.out|(go_ret;exact HQ.out)
   rw[tb k0]at hE;have HE2:=zA hE;have b0:((pl:Int)==(K.np:Int))=false:=by rw[mh];omega
   have HSh1:=zA (HSh.out r wr s1 HS.out HM.out.z.1 HM.out.z.2.1);have hge:=HGe.out r;have HPl1:=zA (fun v w' (hb:Below wr.heap.size wr w')=>HPl.out r v w' s1 (HS.out.below hb) HM.out.z.1 HM.out.z.2.1);have hg1:0<=(vQ L r).1:=hge.1;have hg2:(vQ L r).2<=9999:=hge.2.1;have hcl:=HCl.out r;have HSu1:=zA (HSu.out r);clear hge hE HE k0 c10;generalize vQ L r=sh at *;generalize bR r L=cn at *;obtain⟨h1,h2⟩:=sh;simp only at HE2 HSh1 hg1 hg2;have nbr:∀(w':World),Below wr.heap.size wr w'->K.b<w'.heap.size:=fun w' hb=>by have:=hb.size;have:=yG d10;omega
   go_wp2_with fail
   refine HSh1.out.mono ?_;rintro e w2 ⟨rfl,hb2⟩;have HB2:=zA hb2;have hs2:=hb2.size
   have HFin:Hid (∀v w',Below w2.heap.size w2 w'->w'.heap[w2.heap.size]? = some (.cells #[.int .i64 v,.int .i64 h2] 221 (0,0))->∀w3,zC w'.heap.size K.gi w' w3->w3.cell? ⟨w2.heap.size,0,none⟩=some (.int .i64 v)/\Below K.B w w3):=fun v w' hb hz w3 hk=>by
    have zK8:w2.heap.size≠K.gi:=fun e=>by have:=(HS.out.below HB2.out).rI.lt;omega
    refine⟨?_,?_⟩
    ·rw[hk.cell (p:=⟨w2.heap.size,0,none⟩) (zL hz) zK8];exact(zB hz 0).trans rfl
    ·exact(HB.out.trans ((HB2.out.trans (hb.mono hs2)).mono (by omega))).trans (hk.below (by have:=hb.size;omega) loi)
   have HBn:Hid (∀w',Below w2.heap.size w2 w'->Below wr.heap.size wr w'/\Below K.B w w'):=fun w' hb=>⟨HB2.out.trans (hb.mono hs2),HB.out.trans ((HB2.out.trans (hb.mono hs2)).mono (by omega))⟩;clear hb2 d10;by_cases k1:h1<xV
   ·simp only[tm k1]at HE2
    have hz:(w2.alloc (.cells #[.int .i64 xV,.int .i64 h2] 221)).heap[w2.heap.size]? = some (.cells #[.int .i64 xV,.int .i64 h2] 221 (0,0)):=zG _ _;have hbz:Below w2.heap.size w2 (w2.alloc (.cells #[.int .i64 xV,.int .i64 h2] 221)):=fj (j1 _) _;have HZ:=zA hz;have HBz:=zA hbz;clear hz hbz;by_cases k2:h2<xV
    ·rw[tm k2]at HE2
     have HQ:=zA (HN.out s1 _ r out HM.out HE2.out.symm (HS.out.below (HBn.out _ HBz.out).1) (HBn.out _ HBz.out).2);go_wp2_with fail
     first|exact HQ.out|(go_ret;exact HQ.out)
    ·rw[tb k2]at HE2
     have HPc:=zA (HPl1.out xV _ (HBn.out _ HBz.out).1);have HF2:=zA (HFin.out xV _ HBz.out HZ.out);have zKN:=zA (Z7 HIj.out HM.out xV);go_wp2_with fail
     refine HPc.out.mono ?_;rintro e w3 ⟨rfl,hS3,hk3⟩;obtain⟨f1,f2⟩:=HF2.out w3 hk3;have HS3:=zA hS3;have HB3:=zA f2;clear hS3 hk3 f2;by_cases k3:cn=0
     ·rw[tm k3]at HE2
      have HQ:=zA (HN.out _ w3 _ _ zKN.out HE2.out.symm HS3.out HB3.out);subst k3;go_wp2_with fail
      first|exact HQ.out|(go_ret;exact HQ.out)
     ·rw[tb k3]at HE2
      have b3:((cn:Int)==0)=false:=by rw[mh];omega
      clear k3;go_wp2_with fail
      go_roundw
      case rel=>exact⟨r+1,pl+cn,xV+1,out++[xV],_,by omega,by first|rfl|go_num,by go_num,by go_num,by omega,by omega,HB3,HS3,zKN,zA (by rw[HSu1.out,HPl2.out]),HE2⟩
      case measure=>simp[intOf];omega
   ·simp only[tb k1]at HE2
    have hz:(w2.alloc (.cells #[.int .i64 h1,.int .i64 h2] 221)).heap[w2.heap.size]? = some (.cells #[.int .i64 h1,.int .i64 h2] 221 (0,0)):=zG _ _;have hbz:Below w2.heap.size w2 (w2.alloc (.cells #[.int .i64 h1,.int .i64 h2] 221)):=fj (j1 _) _;have HZ:=zA hz;have HBz:=zA hbz;clear hz hbz;by_cases k2:h2<h1
    ·rw[tm k2]at HE2
     have HQ:=zA (HN.out s1 _ r out HM.out HE2.out.symm (HS.out.below (HBn.out _ HBz.out).1) (HBn.out _ HBz.out).2);go_wp2_with fail
     first|exact HQ.out|(go_ret;exact HQ.out)
    ·rw[tb k2]at HE2
     have HPc:=zA (HPl1.out h1 _ (HBn.out _ HBz.out).1);have HF2:=zA (HFin.out h1 _ HBz.out HZ.out);have zKN:=zA (Z7 HIj.out HM.out h1);go_wp2_with fail
     refine HPc.out.mono ?_;rintro e w3 ⟨rfl,hS3,hk3⟩;obtain⟨f1,f2⟩:=HF2.out w3 hk3;have HS3:=zA hS3;have HB3:=zA f2;clear hS3 hk3 f2;by_cases k3:cn=0
     ·rw[tm k3]at HE2
      have HQ:=zA (HN.out _ w3 _ _ zKN.out HE2.out.symm HS3.out HB3.out);subst k3;go_wp2_with fail
      first|exact HQ.out|(go_ret;exact HQ.out)
     ·rw[tb k3]at HE2
      have b3:((cn:Int)==0)=false:=by rw[mh];omega
      clear k3;go_wp2_with fail
      go_roundw
      case rel=>exact⟨r+1,pl+cn,h1+1,out++[h1],_,by omega,by first|rfl|go_num,by go_num,by go_num,by omega,by omega,HB3,HS3,zKN,zA (by rw[HSu1.out,HPl2.out]),HE2⟩
      case measure=>simp[intOf];omega
  ·obtain rfl:r=K.np:=by omega
   have ii:¬(K.np:Int)<(K.np:Int):=by omega
   have hE:=HE.out;rw[ff,wT]at hE;have HQ:=zA (HY.out s1 wr K.np out HM.out hE.symm HRk.out HS.out HB.out);clear hE HE;go_wp2_with fail
   first|exact HQ.out|(go_ret;exact HQ.out)
end Go.Proofs.YtnbpdffdnphbeabGreatDoor
