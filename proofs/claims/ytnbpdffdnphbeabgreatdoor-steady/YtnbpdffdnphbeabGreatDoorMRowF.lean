import Derived.Test.YtnbpdffdnphbeabGreatDoorDAsk
import Derived.Maps.AppendAt
import Derived.Test.YtnbpdffdnphbeabGreatDoorMLoad
open Go.Proofs.Tryz
set_option maxHeartbeats 2000000
set_option maxRecDepth 100000
namespace Go.Proofs.YtnbpdffdnphbeabGreatDoor
open Go.RowKit
variable{cs:Array Value}{G:List Bool}{out:List Int}{rs:List MX}{xs ys:List Value}{ls:List zE}{x y:MX}{h g m k n gi p j sc a np nc gh H gn B:Nat}{fz:Nat × Nat}{has:Nat->Bool}{Z:Nat->Int × Int}{F:Nat->List (Int × Int)}{P rk:Nat->Nat}{f:Nat->Value}{na sa:Option Addr}{t t':TypeId}{iv sv nv d v':Value}{wy wx w' w wr:World}
def kZ(w:World)(g:Nat)(t:TypeId)(n:Nat)(f:Nat->Value):Prop:=∃cs,w.heap[g]? = some (.cells cs t (0,0))/\∀j,j<n->cs[j]? = some (f j)
theorem kZ.cell(h:kZ w g t n f)(hj:j<n):w.cell? ⟨g,j,none⟩=some (f j):=by
 obtain⟨cs,h1,h2⟩:=h;exact(zC h1 j).trans (h2 j hj)
theorem kZ.free(h:kZ w g t n f)(j:Nat):w.frozen? ⟨g,j,none⟩=false:=by
 obtain⟨cs,h1,_⟩:=h;simp[World.frozen?,h1]
theorem kZ.lt(h:kZ w g t n f):g<w.heap.size:=by
 obtain⟨cs,h1,_⟩:=h;exact zP h1
theorem kZ.below(h:kZ w g t n f)(hb:Below w.heap.size w w'):kZ w' g t n f:=by
 obtain⟨cs,h1,h2⟩:=h;exact⟨cs,by rw[hb.block g (zP h1)];exact h1,h2⟩
theorem kZ.other(h:kZ w g t n f){g':Nat}(v:Value)(aL:g≠g'):kZ (w.setCell ⟨g',j,none⟩ v) g t n f:=by
 obtain⟨cs,h1,h2⟩:=h;exact⟨cs,by rw[bh w ⟨g',j,none⟩ g v aL];exact h1,h2⟩
theorem kZ.set{f':Nat->Value}(h:kZ w g t n f)(v:Value)(hj:j<n)(e1:f' j=v)(e2:∀x,x<n->x≠j->f' x=f x):kZ (w.setCell ⟨g,j,none⟩ v) g t n f':=by
 obtain⟨cs,h1,h2⟩:=h
 have dV:j<cs.size:=by
  rcases mc j cs.size with h3|h3
  ·exact h3
  ·have:=h2 j hj;rw[pw h3]at this;cases this
 refine⟨_,p9 w g j cs t v h1,λx hx=>?_⟩;by_cases ju:x=j
 ·subst ju;rw[e1];simp[dV]
 ·rw[e2 x hx ju,Array.getElem?_setIfInBounds,tj (λe=>ju e.symm)];exact h2 x hx
theorem kZ.ay(h:kZ w g t n f):kQ w (some ⟨g,0,none⟩) ((List.range n).map f):=by
 right
 refine⟨g,rfl,λj hj=>?_⟩;have nR:j<n:=by simpa using hj
 rw[h.cell nR];simp[nR]
def EN(z:Int × Int):List Value:=[.int .i64 z.1,.int .i64 z.2]
def fR(l:List (Int × Int)):List Value:=l.flatMap EN
theorem mU(a b:List (Int × Int)):fR (a++b)=fR a++fR b:=by unfold fR;rw[lk]
theorem US:(prog.info? 221).map (λi=>(i.zero,i.size,i.bytes))=some (some (.agg #[.int .i64 0,.int .i64 0]),2,16):=by kernel_rfl
theorem iK(z:Int × Int)(b:Int):(kS z b).length<=3:=by
 unfold kS;split
 ·simp
 ·simp only[tm];split <;> split <;> simp
theorem Us{cs:List Value}(hg:w.heap[g]? = some (.cells cs.toArray t (0,0)))(hB:B<=g)(n:Nat)(hl:cs.length=n*k)(hn:n<=maxLen):w.ownsRow B t k (.slice (some ⟨g,0,none⟩) n n) n cs :=
 ⟨hl,.inr ⟨g,n,cs.toArray,rfl,hB,hg,tg _,hn,by simp[hl],by simp[<-hl]⟩⟩
theorem Ot(w:World)(z:Int × Int)(b:Int)(hb : -1000000<=b/\b<=1000000) :
 Calls prog 172 #[.agg #[.int .i64 z.1,.int .i64 z.2],.int .i64 b] w λe w'=>∃v,e=.returned v/\w'.ownsRow w.heap.size 221 2 v (kS z b).length (fR (kS z b))/\Below w.heap.size w w':=by
 obtain⟨i0,ai,hz0,hz1,aV⟩:=du US;obtain⟨lo,hi⟩:=z;have sN:wrap64 (b-1)=b-1:=by unfold wrap64;omega
 have sM:wrap64 (b+1)=b+1:=by unfold wrap64;omega
 have HS:Hid (kS (lo,hi) b=if b<lo\/hi<b then [(lo,hi)] else ((if lo<b then [(lo,b-1)] else [])++[(b,b)])++(if b<hi then [(b+1,hi)] else [])):=rfl;simp only
 go_enter func172,ntmps172
 by_cases k0:b<lo\/hi<b
 ·have HE:Hid (kS (lo,hi) b=[(lo,hi)]):=by unfold Hid;rw[HS.out,tr k0]
  have HF:Hid (∀O:Obj,((w.alloc O).alloc (.cells #[.int .i64 lo,.int .i64 hi] 221)).ownsRow w.heap.size 221 2 (.slice (some ⟨w.heap.size+1,0,none⟩) 1 1) (kS (lo,hi) b).length (fR (kS (lo,hi) b))/\Below w.heap.size w ((w.alloc O).alloc (.cells #[.int .i64 lo,.int .i64 hi] 221))):=λO=>by
   rw[HE.out];exact⟨Us (cs:=[.int .i64 lo,.int .i64 hi]) (uA _ _ _ (by simp)) (my _) 1 rfl (by unfold maxLen;omega),(fk (tg _) _).alloc (by simp) _⟩
  by_cases k1:b<lo
  ·clear k0
   go_wp2_with fail
   go_ret
   exact⟨_,rfl,(HF.out _).1,(HF.out _).2⟩
  ·have k2:hi<b:=k0.resolve_left k1
   clear k0;go_wp2_with fail
   go_ret
   exact⟨_,rfl,(HF.out _).1,(HF.out _).2⟩
 ·have k1:¬b<lo:=λh=>k0 (.inl h)
  have k2:¬hi<b:=λh=>k0 (.inr h);have HE:Hid (kS (lo,hi) b=((if lo<b then [(lo,b-1)] else [])++[(b,b)])++(if b<hi then [(b+1,hi)] else [])):=by unfold Hid;rw[HS.out,tj k0]
  clear k0 HS
  go_upto_region 4 with fail
  generalize jU:Obj.cells #[Value.int .i64 lo,.int .i64 hi] 221=Oz at *;have hs0:(w.alloc Oz).heap.size=w.heap.size+1:=by simp
  have ag:Hid (((w.alloc Oz).alloc (.cells #[] 221)).ownsRow (w.heap.size+1) 221 2 (.slice (some ⟨w.heap.size+1,0,none⟩) 0 0) 0 (fR [])):=⟨rfl,.inr ⟨w.heap.size+1,0,#[],rfl,tg _,uA _ _ _ hs0,tg _,p8,rfl,rfl⟩⟩;have ar:Hid (Below w.heap.size w ((w.alloc Oz).alloc (.cells #[] 221))):=(fk (tg _) _).alloc (by omega) _;have cL:Hid (((w.alloc Oz).alloc (.cells #[] 221)).heap[w.heap.size]? = some (Obj.cells #[Value.int .i64 lo,.int .i64 hi] 221)):=by unfold Hid;rw[jU];exact yD (zF _ _)
  have hs1:w.heap.size+2<=((w.alloc Oz).alloc (.cells #[] 221)).heap.size:=by simp
  clear jU hs0;generalize (w.alloc Oz).alloc (.cells #[] 221)=w0 at *;generalize Value.slice (some ⟨w.heap.size+1,0,none⟩) 0 0=v0 at *;have o7:w0.cell? ⟨w.heap.size,0,none⟩=some (.int .i64 lo):=(zC cL.out 0).trans rfl;have o6:w0.cell? ⟨w.heap.size,1,none⟩=some (.int .i64 hi):=(zC cL.out 1).trans rfl;by_cases k3:lo<b
  ·rw[tr k3]at HE
   by_cases k4:b<hi
   ·rw[tr k4]at HE
    go_wp2_with (at_builtin;refine wpList_append_own _ rfl _ _ 218 rfl (w.heap.size+1) 221 i0 _ 2 16 underlying218 ai hz0 hz1 aV rfl (by decide) _ _ _ rfl (ag.out.alloc _) ⟨w0.heap.size,0,none⟩ 1 1 [.int .i64 lo,.int .i64 (b-1)] rfl rfl ?bM ?bL ?bK ?bJ ?bI ?_)
    try (case bM=>first|exact zM _ _ _ _ rfl|exact λ_ _ h=>h)
    try (case bL=>first|exact⟨rfl,rfl⟩|rfl|(intro u hu;simp at hu;rcases hu with rfl|rfl <;> rfl))
    try (case bK=>unfold maxLen;omega)
    try (case bJ=>omega)
    try (case bI=>first|omega|(simp;omega))
    intro v1 w1 aG aH _;have bO:Hid (Below w.heap.size w w1):=(ar.out.alloc (by omega) _).grown aH (by simp;omega) (λk hk=>by have h1:=(zW ag.out k hk).1;omega);have aR:Hid (w1.ownsRow (w.heap.size+1) 221 2 v1 (0+1) (fR ([]++[(lo,(b-1))]))):=by unfold Hid;rw[mU];exact aG
    have aP:Hid (w1.heap[w.heap.size]? = some (Obj.cells #[Value.int .i64 lo,.int .i64 hi] 221)):=by
     unfold Hid;rw[aH.block w.heap.size (by simp;omega) (λe=>by have h1:=(zW ag.out _ e.symm).1;omega)];exact yD cL.out
    have eG:w.heap.size+2<=w1.heap.size:=(by have h1:=aH.size;simp at h1;omega);have eB:w1.cell? ⟨w.heap.size,0,none⟩=some (.int .i64 lo):=(zC aP.out 0).trans rfl;have eA:w1.cell? ⟨w.heap.size,1,none⟩=some (.int .i64 hi):=(zC aP.out 1).trans rfl;clear aG aH
    go_wp2_with (at_builtin;refine wpList_append_own _ rfl _ _ 218 rfl (w.heap.size+1) 221 i0 _ 2 16 underlying218 ai hz0 hz1 aV rfl (by decide) _ _ _ rfl (aR.out.alloc _) ⟨w1.heap.size,0,none⟩ 1 1 [.int .i64 b,.int .i64 b] rfl rfl ?cK ?cI ?cH ?cE ?cD ?_)
    try (case cK=>first|exact zM _ _ _ _ rfl|exact λ_ _ h=>h)
    try (case cI=>first|exact⟨rfl,rfl⟩|rfl|(intro u hu;simp at hu;rcases hu with rfl|rfl <;> rfl))
    try (case cH=>unfold maxLen;omega)
    try (case cE=>omega)
    try (case cD=>first|omega|(simp;omega))
    intro v2 w2 aG aH _;have cV:Hid (Below w.heap.size w w2):=(bO.out.alloc (by omega) _).grown aH (by simp;omega) (λk hk=>by have h1:=(zW aR.out k hk).1;omega);have bN:Hid (w2.ownsRow (w.heap.size+1) 221 2 v2 (1+1) (fR (([]++[(lo,(b-1))])++[(b,b)]))):=by unfold Hid;rw[mU];exact aG
    have aY:Hid (w2.heap[w.heap.size]? = some (Obj.cells #[Value.int .i64 lo,.int .i64 hi] 221)):=by
     unfold Hid;rw[aH.block w.heap.size (by simp;omega) (λe=>by have h1:=(zW aR.out _ e.symm).1;omega)];exact yD aP.out
    have fq:w.heap.size+2<=w2.heap.size:=(by have h1:=aH.size;simp at h1;omega);have fT:w2.cell? ⟨w.heap.size,0,none⟩=some (.int .i64 lo):=(zC aY.out 0).trans rfl;have fS:w2.cell? ⟨w.heap.size,1,none⟩=some (.int .i64 hi):=(zC aY.out 1).trans rfl;clear aG aH
    go_wp2_with (at_builtin;refine wpList_append_own _ rfl _ _ 218 rfl (w.heap.size+1) 221 i0 _ 2 16 underlying218 ai hz0 hz1 aV rfl (by decide) _ _ _ rfl (bN.out.alloc _) ⟨w2.heap.size,0,none⟩ 1 1 [.int .i64 (b+1),.int .i64 hi] rfl rfl ?lH ?lD ?lC ?lB ?k9 ?_)
    try (case lH=>first|exact zM _ _ _ _ rfl|exact λ_ _ h=>h)
    try (case lD=>first|exact⟨rfl,rfl⟩|rfl|(intro u hu;simp at hu;rcases hu with rfl|rfl <;> rfl))
    try (case lC=>unfold maxLen;omega)
    try (case lB=>omega)
    try (case k9=>first|omega|(simp;omega))
    intro v3 w3 aG aH _;have mM:Hid (Below w.heap.size w w3):=(cV.out.alloc (by omega) _).grown aH (by simp;omega) (λk hk=>by have h1:=(zW bN.out k hk).1;omega);have l5:Hid (w3.ownsRow (w.heap.size+1) 221 2 v3 (2+1) (fR ((([]++[(lo,(b-1))])++[(b,b)])++[((b+1),hi)]))):=by unfold Hid;rw[mU];exact aG
    have gw:Hid (w3.heap[w.heap.size]? = some (Obj.cells #[Value.int .i64 lo,.int .i64 hi] 221)):=by
     unfold Hid;rw[aH.block w.heap.size (by simp;omega) (λe=>by have h1:=(zW bN.out _ e.symm).1;omega)];exact yD aY.out
    have pn:w.heap.size+2<=w3.heap.size:=(by have h1:=aH.size;simp at h1;omega);have o5:w3.cell? ⟨w.heap.size,0,none⟩=some (.int .i64 lo):=(zC gw.out 0).trans rfl;have o4:w3.cell? ⟨w.heap.size,1,none⟩=some (.int .i64 hi):=(zC gw.out 1).trans rfl;clear aG aH;go_wp2_with fail
    go_ret
    exact⟨_,rfl,by rw[HE.out];exact yN l5.out (my _),mM.out⟩
   ·rw[tj k4]at HE
    go_wp2_with (at_builtin;refine wpList_append_own _ rfl _ _ 218 rfl (w.heap.size+1) 221 i0 _ 2 16 underlying218 ai hz0 hz1 aV rfl (by decide) _ _ _ rfl (ag.out.alloc _) ⟨w0.heap.size,0,none⟩ 1 1 [.int .i64 lo,.int .i64 (b-1)] rfl rfl ?k8 ?kz ?ky ?kx ?ku ?_)
    try (case k8=>first|exact zM _ _ _ _ rfl|exact λ_ _ h=>h)
    try (case kz=>first|exact⟨rfl,rfl⟩|rfl|(intro u hu;simp at hu;rcases hu with rfl|rfl <;> rfl))
    try (case ky=>unfold maxLen;omega)
    try (case kx=>omega)
    try (case ku=>first|omega|(simp;omega))
    intro v1 w1 aG aH _;have bO:Hid (Below w.heap.size w w1):=(ar.out.alloc (by omega) _).grown aH (by simp;omega) (λk hk=>by have h1:=(zW ag.out k hk).1;omega);have aR:Hid (w1.ownsRow (w.heap.size+1) 221 2 v1 (0+1) (fR ([]++[(lo,(b-1))]))):=by unfold Hid;rw[mU];exact aG
    have aP:Hid (w1.heap[w.heap.size]? = some (Obj.cells #[Value.int .i64 lo,.int .i64 hi] 221)):=by
     unfold Hid;rw[aH.block w.heap.size (by simp;omega) (λe=>by have h1:=(zW ag.out _ e.symm).1;omega)];exact yD cL.out
    have eG:w.heap.size+2<=w1.heap.size:=(by have h1:=aH.size;simp at h1;omega);have eB:w1.cell? ⟨w.heap.size,0,none⟩=some (.int .i64 lo):=(zC aP.out 0).trans rfl;have eA:w1.cell? ⟨w.heap.size,1,none⟩=some (.int .i64 hi):=(zC aP.out 1).trans rfl;clear aG aH
    go_wp2_with (at_builtin;refine wpList_append_own _ rfl _ _ 218 rfl (w.heap.size+1) 221 i0 _ 2 16 underlying218 ai hz0 hz1 aV rfl (by decide) _ _ _ rfl (aR.out.alloc _) ⟨w1.heap.size,0,none⟩ 1 1 [.int .i64 b,.int .i64 b] rfl rfl ?kt ?ks ?kr ?kq ?ko ?_)
    try (case kt=>first|exact zM _ _ _ _ rfl|exact λ_ _ h=>h)
    try (case ks=>first|exact⟨rfl,rfl⟩|rfl|(intro u hu;simp at hu;rcases hu with rfl|rfl <;> rfl))
    try (case kr=>unfold maxLen;omega)
    try (case kq=>omega)
    try (case ko=>first|omega|(simp;omega))
    intro v2 w2 aG aH _;have cV:Hid (Below w.heap.size w w2):=(bO.out.alloc (by omega) _).grown aH (by simp;omega) (λk hk=>by have h1:=(zW aR.out k hk).1;omega);have bN:Hid (w2.ownsRow (w.heap.size+1) 221 2 v2 (1+1) (fR (([]++[(lo,(b-1))])++[(b,b)]))):=by unfold Hid;rw[mU];exact aG
    have aY:Hid (w2.heap[w.heap.size]? = some (Obj.cells #[Value.int .i64 lo,.int .i64 hi] 221)):=by
     unfold Hid;rw[aH.block w.heap.size (by simp;omega) (λe=>by have h1:=(zW aR.out _ e.symm).1;omega)];exact yD aP.out
    have fq:w.heap.size+2<=w2.heap.size:=(by have h1:=aH.size;simp at h1;omega);have fT:w2.cell? ⟨w.heap.size,0,none⟩=some (.int .i64 lo):=(zC aY.out 0).trans rfl;have fS:w2.cell? ⟨w.heap.size,1,none⟩=some (.int .i64 hi):=(zC aY.out 1).trans rfl;clear aG aH;go_wp2_with fail
    go_ret
    exact⟨_,rfl,by rw[HE.out];exact yN bN.out (my _),cV.out⟩
  ·rw[tj k3]at HE
   by_cases k4:b<hi
   ·rw[tr k4]at HE
    go_wp2_with (at_builtin;refine wpList_append_own _ rfl _ _ 218 rfl (w.heap.size+1) 221 i0 _ 2 16 underlying218 ai hz0 hz1 aV rfl (by decide) _ _ _ rfl (ag.out.alloc _) ⟨w0.heap.size,0,none⟩ 1 1 [.int .i64 b,.int .i64 b] rfl rfl ?kn ?km ?kl ?kj ?ki ?_)
    try (case kn=>first|exact zM _ _ _ _ rfl|exact λ_ _ h=>h)
    try (case km=>first|exact⟨rfl,rfl⟩|rfl|(intro u hu;simp at hu;rcases hu with rfl|rfl <;> rfl))
    try (case kl=>unfold maxLen;omega)
    try (case kj=>omega)
    try (case ki=>first|omega|(simp;omega))
    intro v1 w1 aG aH _;have bO:Hid (Below w.heap.size w w1):=(ar.out.alloc (by omega) _).grown aH (by simp;omega) (λk hk=>by have h1:=(zW ag.out k hk).1;omega);have aR:Hid (w1.ownsRow (w.heap.size+1) 221 2 v1 (0+1) (fR ([]++[(b,b)]))):=by unfold Hid;rw[mU];exact aG
    have aP:Hid (w1.heap[w.heap.size]? = some (Obj.cells #[Value.int .i64 lo,.int .i64 hi] 221)):=by
     unfold Hid;rw[aH.block w.heap.size (by simp;omega) (λe=>by have h1:=(zW ag.out _ e.symm).1;omega)];exact yD cL.out
    have eG:w.heap.size+2<=w1.heap.size:=(by have h1:=aH.size;simp at h1;omega);have eB:w1.cell? ⟨w.heap.size,0,none⟩=some (.int .i64 lo):=(zC aP.out 0).trans rfl;have eA:w1.cell? ⟨w.heap.size,1,none⟩=some (.int .i64 hi):=(zC aP.out 1).trans rfl;clear aG aH
    go_wp2_with (at_builtin;refine wpList_append_own _ rfl _ _ 218 rfl (w.heap.size+1) 221 i0 _ 2 16 underlying218 ai hz0 hz1 aV rfl (by decide) _ _ _ rfl (aR.out.alloc _) ⟨w1.heap.size,0,none⟩ 1 1 [.int .i64 (b+1),.int .i64 hi] rfl rfl ?kh ?kg ?kf ?ke ?kd ?_)
    try (case kh=>first|exact zM _ _ _ _ rfl|exact λ_ _ h=>h)
    try (case kg=>first|exact⟨rfl,rfl⟩|rfl|(intro u hu;simp at hu;rcases hu with rfl|rfl <;> rfl))
    try (case kf=>unfold maxLen;omega)
    try (case ke=>omega)
    try (case kd=>first|omega|(simp;omega))
    intro v2 w2 aG aH _;have cV:Hid (Below w.heap.size w w2):=(bO.out.alloc (by omega) _).grown aH (by simp;omega) (λk hk=>by have h1:=(zW aR.out k hk).1;omega);have bN:Hid (w2.ownsRow (w.heap.size+1) 221 2 v2 (1+1) (fR (([]++[(b,b)])++[((b+1),hi)]))):=by unfold Hid;rw[mU];exact aG
    have aY:Hid (w2.heap[w.heap.size]? = some (Obj.cells #[Value.int .i64 lo,.int .i64 hi] 221)):=by
     unfold Hid;rw[aH.block w.heap.size (by simp;omega) (λe=>by have h1:=(zW aR.out _ e.symm).1;omega)];exact yD aP.out
    have fq:w.heap.size+2<=w2.heap.size:=(by have h1:=aH.size;simp at h1;omega);have fT:w2.cell? ⟨w.heap.size,0,none⟩=some (.int .i64 lo):=(zC aY.out 0).trans rfl;have fS:w2.cell? ⟨w.heap.size,1,none⟩=some (.int .i64 hi):=(zC aY.out 1).trans rfl;clear aG aH;go_wp2_with fail
    go_ret
    exact⟨_,rfl,by rw[HE.out];exact yN bN.out (my _),cV.out⟩
   ·rw[tj k4]at HE
    go_wp2_with (at_builtin;refine wpList_append_own _ rfl _ _ 218 rfl (w.heap.size+1) 221 i0 _ 2 16 underlying218 ai hz0 hz1 aV rfl (by decide) _ _ _ rfl (ag.out.alloc _) ⟨w0.heap.size,0,none⟩ 1 1 [.int .i64 b,.int .i64 b] rfl rfl ?kc ?kb ?ka ?kW ?kV ?_)
    try (case kc=>first|exact zM _ _ _ _ rfl|exact λ_ _ h=>h)
    try (case kb=>first|exact⟨rfl,rfl⟩|rfl|(intro u hu;simp at hu;rcases hu with rfl|rfl <;> rfl))
    try (case ka=>unfold maxLen;omega)
    try (case kW=>omega)
    try (case kV=>first|omega|(simp;omega))
    intro v1 w1 aG aH _;have bO:Hid (Below w.heap.size w w1):=(ar.out.alloc (by omega) _).grown aH (by simp;omega) (λk hk=>by have h1:=(zW ag.out k hk).1;omega);have aR:Hid (w1.ownsRow (w.heap.size+1) 221 2 v1 (0+1) (fR ([]++[(b,b)]))):=by unfold Hid;rw[mU];exact aG
    have aP:Hid (w1.heap[w.heap.size]? = some (Obj.cells #[Value.int .i64 lo,.int .i64 hi] 221)):=by
     unfold Hid;rw[aH.block w.heap.size (by simp;omega) (λe=>by have h1:=(zW ag.out _ e.symm).1;omega)];exact yD cL.out
    have eG:w.heap.size+2<=w1.heap.size:=(by have h1:=aH.size;simp at h1;omega);have eB:w1.cell? ⟨w.heap.size,0,none⟩=some (.int .i64 lo):=(zC aP.out 0).trans rfl;have eA:w1.cell? ⟨w.heap.size,1,none⟩=some (.int .i64 hi):=(zC aP.out 1).trans rfl;clear aG aH;go_wp2_with fail
    go_ret
    exact⟨_,rfl,by rw[HE.out];exact yN aR.out (my _),bO.out⟩
theorem Uc(zs:List (Int × Int))(b:Int)(i:Nat)(h:i<zs.length):vN (zs.take (i+1)) b=vN (zs.take i) b++kS (zs.getD i (0,0)) b:=by
 unfold vN;rw[dc,lk,pm h,show zs.getD i (0,0)=zs[i] by simp[List.getD,h]];simp
theorem Cx(zs:List (Int × Int))(b:Int):(vN zs b).length<=3*zs.length:=by
 unfold vN
 induction zs with
 | nil=>simp
 | cons z r ih=>rw[cg,tm,pb];have:=iK z b;omega
theorem jo{a:Option Addr}{l:List (Int × Int)}(h:kQ w a (fR l)){i:Nat}(hi:i<l.length):∃g,a=some ⟨g,0,none⟩/\w.cell? ⟨g,i*2,none⟩=some (.int .i64 (l.getD i (0,0)).1)/\w.cell? ⟨g,i*2+1,none⟩=some (.int .i64 (l.getD i (0,0)).2):=by
 obtain⟨g,e,c0⟩:=h.at ((zV EN 2 (λ_=>rfl) (0,0) l i 0 hi (by decide)).trans rfl);obtain⟨g',e',c1⟩:=h.at ((zV EN 2 (λ_=>rfl) (0,0) l i 1 hi (by decide)).trans rfl);obtain rfl:g=g':=by rw[e]at e';simpa using e'
 exact⟨g,e,c0,c1⟩
structure Kz(zs:List (Int × Int)):Prop where
 ok:∀z∈zs,z.1<=z.2
 up:zs.Pairwise λz z'=>z.2<z'.1
theorem YD{z:Int × Int}(h:z.1<=z.2)(b:Int):Kz (kS z b):=by
 unfold kS;by_cases h1:b<z.1\/z.2<b
 ·rw[tr h1];exact⟨λx hx=>by simp at hx;subst hx;exact h,List.pairwise_singleton _ _⟩
 ·rw[tj h1]
  by_cases h2:z.1<b <;> by_cases h3:b<z.2 <;> simp only[h2,h3,dj,if_false,lu,mt,li] <;>
   refine⟨λx hx=>?_,?_⟩ <;> (try (simp at hx;(try rcases hx with rfl|rfl|rfl) <;> (try rcases hx with rfl|rfl) <;> (try subst hx) <;> simp <;> omega)) <;> simp <;> omega
theorem Kz.split{zs:List (Int × Int)}(h:Kz zs)(b:Int):Kz (vN zs b):=by
 refine⟨λx hx=>?_,List.pairwise_flatMap.2 ⟨λz hz=>(YD (h.ok z hz) b).up,h.up.imp λ{z z'} sJ x hx y hy=>?_⟩⟩
 ·obtain⟨z,hz,hx⟩:=bg.1 hx
  exact(YD (h.ok z hz) b).ok x hx
 ·have:=oH hx
  have:=oH hy;omega
theorem iJ{z:Int × Int}{b:Int}(h:b<z.1\/z.2<b):kS z b=[z]:=by unfold kS;rw[tr h]
theorem Ub{zs:List (Int × Int)}{b:Int}(h:∀z∈zs,b<z.1):(vN zs b).length=zs.length:=by
 unfold vN
 induction zs with
 | nil=>rfl
 | cons z r ih=>rw[cg,iJ (.inl (h z (by simp))),tm,ih λx hx=>h x (by simp[hx])];simp;omega
theorem zp{zs:List (Int × Int)}(h:Kz zs)(b:Int):(vN zs b).length<=zs.length+2:=by
 induction zs with
 | nil=>simp[vN]
 | cons z r ih =>
   have hu:=List.pairwise_cons.1 h.up;have e:vN (z::r) b=kS z b++vN r b:=(by unfold vN;rw[cg]);rw[e,tm,pb];by_cases h1:b<z.1\/z.2<b
   ·rw[iJ h1]
    have:=ih ⟨λx hx=>h.ok x (by simp[hx]),hu.2⟩;simp;omega
   ·have h2:=Ub (zs:=r) (b:=b) λx hx=>by have:=hu.1 x hx;omega
    have h3:=iK z b;omega
theorem Zd(zs:List (Int × Int))(l:List Int)(x:Int):xV zs (l++[x])=vN (xV zs l) x:=by unfold xV;rw[List.foldl_append];rfl
def j6(zs:List (Int × Int)):Prop:=Kz zs\/∃z,zs=[z]/\z.2<z.1
theorem j6.split{zs:List (Int × Int)}(h:j6 zs)(b:Int):j6 (vN zs b)/\(vN zs b).length<=zs.length+2:=by
 rcases h with h|⟨z,rfl,hz⟩
 ·exact⟨.inl (h.split b),zp h b⟩
 ·have e:vN [z] b=[z]:=by unfold vN;rw[cg,iJ (by omega)];rfl
  rw[e];exact⟨.inr ⟨z,rfl,hz⟩,by simp⟩
theorem Vz(lo hi:Int):j6 [(lo,hi)]:=by
 by_cases h:lo<=hi
 ·exact .inl ⟨λz hz=>by simp at hz;subst hz;exact h,List.pairwise_singleton _ _⟩
 ·exact .inr ⟨_,rfl,by show hi<lo;omega⟩
theorem dS{zs:List (Int × Int)}(h:j6 zs)(l:List Int):∀i,i<=l.length->j6 (xV zs (l.take i))/\(xV zs (l.take i)).length<=zs.length+2*i:=by
 intro i
 induction i with
 | zero=>intro _;simp only[List.take_zero];exact⟨h,by simp[xV]⟩
 | succ i ih =>
   intro hi;obtain⟨h1,h2⟩:=ih (by omega);rw[dc,pm (by omega),Option.toList_some,Zd];obtain⟨h3,h4⟩:=h1.split l[i];exact⟨h3,by omega⟩
theorem YC(zs:List (Int × Int))(l:List Int)(i:Nat)(h:i<l.length):xV zs (l.take (i+1))=vN (xV zs (l.take i)) (l.getD i 0):=by
 rw[dc,pm h,Option.toList_some,Zd];simp[List.getD,h]
theorem jr(l:List (Int × Int))(i:Nat)(h:i<l.length):fR (l.take (i+1))=fR (l.take i)++[.int .i64 (l.getD i (0,0)).1,.int .i64 (l.getD i (0,0)).2]:=by
 rw[dc,mU,pm h];simp[fR,EN,List.getD,h]
theorem XJ(w:World)(a:Option Addr)(c:Nat)(zs:List (Int × Int))(b:Int)(hb : -1000000<=b/\b<=1000000)(hz:kQ w a (fR zs))(hf:zs.length<=100000) :
 Calls prog 141 #[.slice a zs.length c,.int .i64 b] w λe w'=>∃v,e=.returned v/\w'.ownsRow w.heap.size 221 2 v (vN zs b).length (fR (vN zs b))/\Below w.heap.size w w':=by
 obtain⟨i0,ai,hz0,hz1,aV⟩:=du US;have HZ:=zA hz;have hJ:=zA (λw' z=>Ot w' z b hb);clear hz hb
 go_enter func141,ntmps141
 go_wp2_with fail
 have ag:Hid ((w.alloc (.cells #[] 221)).ownsRow w.heap.size 221 2 (.slice (some ⟨w.heap.size,0,none⟩) 0 0) (vN (zs.take 0) b).length (fR (vN (zs.take 0) b))):=⟨rfl,.inr ⟨w.heap.size,0,#[],rfl,tg _,zF _ _,tg _,p8,rfl,rfl⟩⟩;have ar:Hid (Below w.heap.size w (w.alloc (.cells #[] 221))):=fk (tg _) _;generalize w.alloc (.cells #[] 221)=w0 at *
 go_loopw [5,13] (λov iv wr=>∃(i:Nat),i<=zs.length/\iv=.int .i64 i/\Hid (Below w.heap.size w wr)/\Hid (wr.ownsRow w.heap.size 221 2 ov (vN (zs.take i) b).length (fR (vN (zs.take i) b)))) (λ_ iv _=>zs.length-(intOf iv).toNat)
 case atStart=>exact⟨0,p8,rfl,ar,ag⟩
 case round =>
  obtain⟨i,hi,rfl,HB,HO⟩:=hrel;have c5:=HB.out.size;obtain⟨oa,oc,rfl⟩:=zO HO.out;by_cases aC:i<zs.length
  ·have ii:(i:Int)<(zs.length:Int):=by omega
   obtain⟨g,rfl,q0,q1⟩:=jo (HZ.out.below HB.out) aC;have lg:=yJ q0;have ng:wr.heap.size≠g:=by omega
   have qz:=zA (Uc zs b i aC);have hle:(vN (zs.take i) b).length<=300000:=tu (Cx _ _) (by simp;omega);have qR:=iK (zs.getD i (0,0)) b;have dZ:=zA (λw'=>hJ.out w' (zs.getD i (0,0)));have jD:Hid (∀o,Below w.heap.size w (wr.alloc o)):=λo=>HB.out.alloc c5 o;have iN:Hid (∀o,(wr.alloc o).ownsRow w.heap.size 221 2 (.slice oa (vN (zs.take i) b).length oc) (vN (zs.take i) b).length (fR (vN (zs.take i) b))):=λo=>HO.out.alloc o;generalize vN (zs.take i) b=A0 at *;generalize kS (zs.getD i (0,0)) b=P at *;generalize zs.getD i (0,0)=z at *;obtain⟨zl,zh⟩:=z;simp only at q0 q1 dZ;go_wp2_with fail
   generalize jU:Obj.cells #[Value.int .i64 zl,.int .i64 zh] 221=Oz at *;have bV:=zA (jD.out Oz);have eU:=zA (iN.out Oz);have pq:w.heap.size<=(wr.alloc Oz).heap.size:=by simp;omega
   clear jU jD iN;generalize wr.alloc Oz=wn at *;refine(dZ.out wn).mono ?_;rintro e w2 ⟨v,rfl,aT,aN⟩;obtain⟨pa,pc,rfl⟩:=zO aT;have aS:Hid (Below w.heap.size w w2):=bV.out.trans (aN.mono pq);have bw:=aN.size
   have eV:Hid (w2.ownsRow w.heap.size 221 2 (.slice oa A0.length oc) A0.length (fR (A0++P.take 0))):=by
    rw[List.take_zero,mt];refine⟨eU.out.1,?_⟩;rcases eU.out.2 with k|⟨g',cap,yB,k1,k2,k3,k4⟩
    ·exact .inl k
    ·exact .inr ⟨g',cap,yB,k1,k2,by rw[aN.block g' (zP k3)];exact k3,k4⟩
   have rK:Hid (∀j,j<P.length->∃pg,pa=some ⟨pg,0,none⟩/\wn.heap.size<=pg/\pg<w2.heap.size):=λj hj=>by
    rcases aT.2 with ⟨k1,k2⟩|⟨g',cap,yB,k1,k2,k3,k4⟩
    ·omega
    ·simp only[ct]at k1
     exact⟨g',k1.1,k2,zP k3⟩
   obtain⟨cp,cm,e1,aO,-,-⟩:=oJ aT;simp only[ct]at e1;obtain⟨rfl,-,rfl⟩:=e1;have dN:=zA aO
   have zO1:Hid (∀k pg,(Value.slice oa A0.length oc).ownBlock=some k->pa=some ⟨pg,0,none⟩->k≠pg):=λk pg h1 h2=>by
    have h3:=(zW eU.out k h1).2;intro e;rcases aT.2 with ⟨k1,k2⟩|⟨g',cap,yB,k1,k2,k3,k4⟩
    ·simp only[ct]at k1;rw[k1.1]at h2;cases h2
    ·simp only[ct]at k1;rw[k1.1]at h2;simp at h2;(try omega)
   clear aT aO aN;have su:=qR;go_wp2_with fail
   generalize fe:wr=ry at *;clear fe
   go_loopw [5,21] (λov iv wr=>∃(j:Nat),j<=P.length/\iv=.int .i64 j/\Hid (Below w.heap.size w wr)/\Hid (wr.ownsRow w.heap.size 221 2 ov (A0.length+j) (fR (A0++P.take j)))/\Hid (kQ wr pa (fR P))/\Hid (∀k pg,ov.ownBlock=some k->pa=some ⟨pg,0,none⟩->k≠pg)/\w2.heap.size<=wr.heap.size) (λ_ iv _=>P.length-(intOf iv).toNat)
   case atStart=>exact⟨0,p8,rfl,aS,eV,dN,zO1,tg _⟩
   case round =>
    obtain⟨j,hj,rfl,mN,l7,ot,oV,sO⟩:=hrel;have jw:=mN.out.size;obtain⟨va,vc,rfl⟩:=zO l7.out;by_cases dv:j<P.length
    ·have jj:(j:Int)<(P.length:Int):=by omega
     obtain⟨pg,rfl,qK,qJ⟩:=rK.out j dv;obtain⟨fU,e3,r0,r1⟩:=jo ot.out dv;obtain rfl:pg=fU:=by simpa using e3
     have sA:=yJ r0;have r8:wr.heap.size≠pg:=(by omega);have oL:=zA (jr P j dv);generalize P.getD j (0,0)=y at *;obtain⟨yl,yh⟩:=y;simp only at r0 r1 oL;have iN:Hid (∀o,(wr.alloc o).ownsRow w.heap.size 221 2 (.slice va (A0.length+j) vc) (A0.length+j) (fR (A0++P.take j))):=λo=>l7.out.alloc o;have jD:Hid (∀o,Below w.heap.size w (wr.alloc o)):=λo=>mN.out.alloc jw o;have ou:Hid (∀o,kQ (wr.alloc o) (some ⟨pg,0,none⟩) (fR P)):=λo=>ot.out.below (fk (tg _) o)
     go_upto_region 8 with fail
     generalize kI:Obj.cells #[Value.int .i64 yl,.int .i64 yh] 221=Oy at *;have j9:(wr.alloc Oy).cell? ⟨wr.heap.size,0,none⟩=some (.int .i64 yl):=by rw[<-kI];exact(zC (zF _ _) 0).trans rfl
     have j8:(wr.alloc Oy).cell? ⟨wr.heap.size,1,none⟩=some (.int .i64 yh):=(by rw[<-kI];exact(zC (zF _ _) 1).trans rfl);have oO:=zA (iN.out Oy);have fP:=zA (jD.out Oy);have rZ:=zA (ou.out Oy);have pk:(wr.alloc Oy).heap.size=wr.heap.size+1:=(by simp);have jy:w.heap.size<=(wr.alloc Oy).heap.size:=(by omega);have jx:pg<(wr.alloc Oy).heap.size:=(by omega);have pY:w2.heap.size<=(wr.alloc Oy).heap.size:=(by omega);clear kI iN jD ou pk;generalize wr.alloc Oy=wy at *
     go_wp2_with (at_builtin;refine wpList_append_own_at _ rfl _ _ 218 rfl w.heap.size 221 i0 _ 2 16 underlying218 ai hz0 hz1 aV rfl (by decide) _ _ _ rfl (oO.out.alloc _) ⟨wy.heap.size,0,none⟩ 1 1 [.int .i64 yl,.int .i64 yh] rfl rfl ?kU ?kT ?kR ?kP ?kO ?_)
     try (case kU=>first|exact zM _ _ _ _ rfl|exact λ_ _ h=>h)
     try (case kT=>first|exact⟨rfl,rfl⟩|rfl|(intro u hu;simp at hu;rcases hu with rfl|rfl <;> rfl))
     try (case kR=>unfold maxLen;omega)
     try (case kP=>omega)
     try (case kO=>first|omega|(simp;omega))
     intro v3 w3 aG aH _ dC;have ak:Hid (Below w.heap.size w w3):=(fP.out.alloc jy _).grown aH (by simp;omega) (zS oO.out)
     have rP:Hid (w3.ownsRow w.heap.size 221 2 v3 (A0.length+(j+1)) (fR (A0++P.take (j+1)))):=by
      unfold Hid;rw[mU,oL.out,<-po,<-mU,<-dg];exact aG
     have ri:Hid (kQ w3 (some ⟨pg,0,none⟩) (fR P)):=by
      rcases rZ.out with k|⟨g',k1,k2⟩
      ·exact .inl k
      ·simp at k1;subst k1
       refine .inr ⟨pg,rfl,λx hx=>?_⟩;rw[<-k2 x hx];rw[bq (w:=wy.alloc _) (a:=⟨pg,x,none⟩) (aH.block pg (by simp;omega) (λe=>oV.out pg pg e.symm rfl rfl))];exact bq (w:=wy) (a:=⟨pg,x,none⟩) (ld _ _ jx)
     have rR:Hid (∀k fU,v3.ownBlock=some k->(some ⟨pg,0,none⟩:Option Addr)=some ⟨fU,0,none⟩->k≠fU):=λk fU h1 h2=>by
      simp at h2;subst h2;rcases dC with h3|h3
      ·exact oV.out k pg (h3 ▸ h1) rfl
      ·rw[h3]at h1;simp at h1;omega
     have j1:w2.heap.size<=w3.heap.size:=(by have:=aH.size;simp at this;omega);clear aG aH dC j9 j8;go_wp2_with fail
     go_roundw
     case rel=>exact⟨j+1,by omega,by go_num,ak,rP,ri,rR,j1⟩
     case measure=>simp[intOf];omega
    ·have jj:¬(j:Int)<(P.length:Int):=by omega
     obtain rfl:j=P.length:=by omega
     have rO:Hid (wr.ownsRow w.heap.size 221 2 (.slice va (A0.length+P.length) vc) (vN (zs.take (i+1)) b).length (fR (vN (zs.take (i+1)) b))):=by
      have:=l7.out;rw[co]at this;unfold Hid;rw[qz.out,tm];exact this
     go_wp2_with fail
     go_roundw
     case rel=>exact⟨i+1,by omega,by go_num,mN,rO⟩
     case measure=>simp[intOf];omega
  ·have ii:¬(i:Int)<(zs.length:Int):=by omega
   have il:Hid (vN (zs.take i) b=vN zs b):=by unfold Hid;rw[f8 (by omega)]
   go_wp2_with fail
   go_ret
   exact⟨_,rfl,by rw[<-il.out];exact HO.out,HB.out⟩
theorem GH(w:World)(x:yA)(ea la:Option Addr)(ec lc:Nat)(eb lb:List Int)(he:gJ w ea eb)(hl:gJ w la lb)(hb:∀y∈eb++lb,-1000000<=y/\y<=1000000) :
 Calls prog 97 #[FO x,.slice ea eb.length ec,.slice la lb.length lc] w λe w'=>∃v,e=.returned v/\w'.ownsRow w.heap.size 221 2 v (oB x.low x.high eb lb).length (fR (oB x.low x.high eb lb))/\Below w.heap.size w w':=by
 have sj:=he.aj;have si:=hl.aj;have rV:=zA he;have eh:=zA hl;have bc:Hid (∀i,i<eb.length -> -1000000<=eb.getD i 0/\eb.getD i 0<=1000000):=λi hi=>hb _ (pj.2 (.inl (by simp[List.getD,hi])));have bb:Hid (∀i,i<lb.length -> -1000000<=lb.getD i 0/\lb.getD i 0<=1000000):=λi hi=>hb _ (pj.2 (.inr (by simp[List.getD,hi])));obtain⟨xn,xf,lo,hi⟩:=x;have fX:[(lo,hi)].length=1:=rfl;have mK:=zA (λi hi'=>dS (Vz lo hi) eb i hi');have ik:=zA (λi hi'=>dS (dS (Vz lo hi) eb eb.length (tg _)).1 lb i hi');have lT:=zA (λi hi'=>YC [(lo,hi)] eb i hi');have rA:=zA (λi hi'=>YC (xV [(lo,hi)] (eb.take eb.length)) lb i hi');have HE:Hid (xV (xV [(lo,hi)] (eb.take eb.length)) (lb.take lb.length)=oB lo hi eb lb):=by unfold Hid oB;rw[co,co]
 simp only[FO];generalize oB lo hi eb lb=aw at *;clear he hl hb
 go_enter func97,ntmps97
 go_wp2_with fail
 generalize jW:Obj.cells #[.string ⟨xn.toArray⟩,.bool xf,.int .i64 lo,.int .i64 hi] 204=O1 at *;have ag:Hid (((w.alloc O1).alloc (.cells #[.int .i64 lo,.int .i64 hi] 221)).ownsRow w.heap.size 221 2 (.slice (some ⟨w.heap.size+1,0,none⟩) 1 1) (xV [(lo,hi)] (eb.take 0)).length (fR (xV [(lo,hi)] (eb.take 0)))):=Us (cs:=[.int .i64 lo,.int .i64 hi]) (uA _ _ _ (by simp)) (my _) 1 rfl (by unfold maxLen;omega);have ar:Hid (Below w.heap.size w ((w.alloc O1).alloc (.cells #[.int .i64 lo,.int .i64 hi] 221))):=(fk (tg _) _).alloc (by simp) _;clear jW;generalize (w.alloc O1).alloc (.cells #[.int .i64 lo,.int .i64 hi] 221)=w0 at *;generalize [(lo,hi)]=Z0 at *;have nx:=zA fX;clear fX
 go_loopw [7,20] (λov iv wr=>∃(i:Nat),i<=eb.length/\iv=.int .i64 i/\Hid (Below w.heap.size w wr)/\Hid (wr.ownsRow w.heap.size 221 2 ov (xV Z0 (eb.take i)).length (fR (xV Z0 (eb.take i))))) (λ_ iv _=>eb.length-(intOf iv).toNat)
 case atStart=>exact⟨0,p8,rfl,ar,ag⟩
 case round =>
  obtain⟨i,hi',rfl,HB,HO⟩:=hrel;have c5:=HB.out.size;obtain⟨va,vc,rfl,aO,-,-⟩:=oJ HO.out;by_cases aC:i<eb.length
  ·have ii:(i:Int)<(eb.length:Int):=by omega
   obtain⟨g,rfl,q⟩:=(rV.out.below HB.out).at aC;have aV:=(mK.out i hi').2;have jt:=nx.out;have hJ:=zA (XJ wr va vc _ (eb.getD i 0) (bc.out i aC) aO (by omega));clear jt;have lR:=zA (lT.out i aC);clear aO;generalize xV Z0 (eb.take i)=A0 at *;generalize eb.getD i 0=y at *;go_wp2_with fail
   refine hJ.out.mono ?_;rintro e w2 ⟨v,rfl,gD,aN⟩;have aS:Hid (Below w.heap.size w w2):=HB.out.trans (aN.mono c5);have eV:Hid (w2.ownsRow w.heap.size 221 2 v (xV Z0 (eb.take (i+1))).length (fR (xV Z0 (eb.take (i+1))))):=by rw[lR.out];exact yN gD c5
   clear gD aN;go_wp2_with fail
   go_roundw
   case rel=>exact⟨i+1,by omega,by go_num,aS,eV⟩
   case measure=>simp[intOf];omega
  ·have ii:¬(i:Int)<(eb.length:Int):=by omega
   obtain rfl:i=eb.length:=by omega
   have qe:=(mK.out eb.length (tg _)).2;rw[nx.out]at qe;generalize xV Z0 (eb.take eb.length)=Z1 at *;have bp:Hid (wr.ownsRow w.heap.size 221 2 (.slice va Z1.length vc) (xV Z1 (lb.take 0)).length (fR (xV Z1 (lb.take 0)))):=HO.out;generalize fe:wr=wq at *;clear fe mK lT aO;go_wp2_with fail
   go_loopw [7,30] (λov iv wr=>∃(i:Nat),i<=lb.length/\iv=.int .i64 i/\Hid (Below w.heap.size w wr)/\Hid (wr.ownsRow w.heap.size 221 2 ov (xV Z1 (lb.take i)).length (fR (xV Z1 (lb.take i))))) (λ_ iv _=>lb.length-(intOf iv).toNat)
   case atStart=>exact⟨0,p8,rfl,HB,bp⟩
   case round =>
    obtain⟨i,hi',rfl,bU,oN⟩:=hrel;have fp:=bU.out.size;by_cases dv:i<lb.length
    ·have jj:(i:Int)<(lb.length:Int):=by omega
     obtain⟨g,rfl,q⟩:=(eh.out.below bU.out).at dv;obtain⟨va,vc,rfl,aO,-,-⟩:=oJ oN.out;have aV:=(ik.out i hi').2;have hJ:=zA (λ(h:(xV Z1 (lb.take i)).length<=100000)=>XJ wr va vc _ (lb.getD i 0) (bb.out i dv) aO h);have lR:=zA (rA.out i dv);have jt:(xV Z1 (lb.take i)).length<=100000:=by omega
     clear aO;generalize xV Z1 (lb.take i)=A0 at *;generalize lb.getD i 0=y at *;go_wp2_with fail
     refine(hJ.out jt).mono ?_;rintro e w2 ⟨v,rfl,gD,aN⟩;have aS:Hid (Below w.heap.size w w2):=bU.out.trans (aN.mono fp);have eV:Hid (w2.ownsRow w.heap.size 221 2 v (xV Z1 (lb.take (i+1))).length (fR (xV Z1 (lb.take (i+1))))):=by rw[lR.out];exact yN gD fp
     clear gD aN;go_wp2_with fail
     go_roundw
     case rel=>exact⟨i+1,by omega,by go_num,aS,eV⟩
     case measure=>simp[intOf];omega
    ·have jj:¬(i:Int)<(lb.length:Int):=by omega
     obtain rfl:i=lb.length:=by omega
     go_wp2_with fail
     go_ret
     exact⟨_,rfl,by rw[<-HE.out];exact oN.out,bU.out⟩
structure jX where
 flag:Bool
 place:Nat
variable{S T:List jX}
def BT:jX:=⟨false,0⟩
structure vW where
 Z:Nat->Int × Int
 rk:Nat->Nat
 inp:Nat->Int
 has:Nat->Bool
variable{s' s s1 s2:vW}{both:vW->Bool}
def jP(s:vW)(t:jX)(v:Nat):vW :=
 if t.flag=true then { s with inp:=λi=>if i=t.place then (v:Int) else s.inp i } else { s with has:=λc=>if c=t.place then decide (v=1) else s.has c }
theorem Fy(s:vW)(t:jX)(v:Nat):(jP s t v).Z=s.Z/\(jP s t v).rk=s.rk:=by unfold jP;split <;> exact⟨rfl,rfl⟩
def CY(S:List jX)(i:Nat):Prop:=∀t∈S,¬(t.flag=true/\t.place=i)
def Eg(S:List jX)(c:Nat):Prop:=∀t∈S,¬(t.flag=false/\t.place=c)
structure pI(S:List jX)(s t:vW):Prop where
 inp:∀i,CY S i->t.inp i=s.inp i
 has:∀c,Eg S c->t.has c=s.has c
def sW(S:List jX)(s:vW):Prop:=∀t∈S,t.flag=true->s.inp t.place=0\/s.inp t.place=1
def Fw(s:vW)(t:jX)(v:Nat):Prop:=(t.flag=true->s.inp t.place=(v:Int))/\(t.flag=false->s.has t.place=decide (v=1))
theorem pI.refl(S:List jX)(s:vW):pI S s s:=⟨λ_ _=>rfl,λ_ _=>rfl⟩
theorem pI.trans{a b c:vW}(h:pI S a b)(k:pI S b c):pI S a c:=⟨λi hi=>(k.inp i hi).trans (h.inp i hi),λi hi=>(k.has i hi).trans (h.has i hi)⟩
theorem pI.more{a b:vW}(h:pI S a b)(hs:∀t∈S,t∈T):pI T a b:=⟨λi hi=>h.inp i λt ht=>hi t (hs t ht),λi hi=>h.has i λt ht=>hi t (hs t ht)⟩
theorem dI{t:jX}(ht:t∈S)(s:vW)(v:Nat):pI S s (jP s t v):=by
 unfold jP;cases hf:t.flag
 ·rw[tj (by simp)];exact⟨λ_ _=>rfl,λc hc=>tj λe=>hc t ht ⟨hf,e.symm⟩⟩
 ·rw[tr rfl];exact⟨λi hi=>tj λe=>hi t ht ⟨hf,e.symm⟩,λ_ _=>rfl⟩
theorem iE(s:vW)(t:jX)(v:Nat):Fw (jP s t v) t v:=by
 unfold jP Fw;cases hf:t.flag
 ·rw[tj (by simp)];exact⟨λh=>x' h (by simp),λ_=>tr rfl⟩
 ·rw[tr rfl];exact⟨λ_=>tr rfl,λh=>x' h (by simp)⟩
def Yd(both:vW->Bool):List jX->vW->vW × Bool
 | [],s=>(s,both s)
 | T::S,s=>if (Yd both S (jP s T 0)).2=true then Yd both S (jP s T 0) else Yd both S (jP (Yd both S (jP s T 0)).1 T 1)
structure ZQ(both:vW->Bool)(S:List jX)(s s':vW)(r:Bool):Prop where
 z:s'.Z=s.Z/\s'.rk=s.rk
 eq:pI S s s'
 yes:r=true->both s'=true/\sW S s'
 no:r=false->∀t,t.Z=s.Z->t.rk=s.rk->pI S s t->sW S t->both t=false
 fn:Yd both S s=(s',r)
theorem zd(both:vW->Bool)(s:vW):ZQ both [] s s (both s) :=
 ⟨⟨rfl,rfl⟩,pI.refl _ _,λh=>⟨h,λt ht=>by simp at ht⟩,λh t h1 h2 h3 _=>by
  have e:t=s:=by
   cases t;cases s
   simp only at h1 h2;subst h1 h2;congr
   ·funext i;exact h3.inp i λt ht=>by simp at ht
   ·funext i;exact h3.has i λt ht=>by simp at ht
  rw[e];exact h,rfl⟩
structure YV(both:vW->Bool)(T:jX)(S:List jX)(s s':vW)(v:Nat):Prop where
 z:s'.Z=s.Z/\s'.rk=s.rk
 eq:pI (T::S) s s'
 no:∀u,u<v->∀t,t.Z=s.Z->t.rk=s.rk->pI (T::S) s t->sW (T::S) t->Fw t T u->both t=false
 fn:(v=0->s'=s)/\(v=1->Yd both S (jP s T 0)=(s',false))/\(v=2->∃s1,Yd both S (jP s T 0)=(s1,false)/\Yd both S (jP s1 T 1)=(s',false))
theorem Cr(both:vW->Bool)(T:jX)(S:List jX)(s:vW):YV both T S s s 0:=⟨⟨rfl,rfl⟩,pI.refl _ _,λu hu=>x' hu (by omega),λ_=>rfl,λh=>x' h (by omega),λh=>x' h (by omega)⟩
theorem JG{T:jX}{t:vW}{v:Nat}(h1:pI (T::S) s s1)(h2:pI (T::S) s t)(hv:Fw t T v):pI S (jP s1 T v) t:=by
 have hn:=iE s1 T v;have ht:=dI (S:=[T]) (t:=T) (by simp) s1 v;refine⟨λi hi=>?_,λc hc=>?_⟩
 ·by_cases h:T.flag=true/\T.place=i
  ·rw[<-h.2,hv.1 h.1,hn.1 h.1]
  ·have ho:CY (T::S) i:=λq hq=>by
    rcases pi.1 hq with rfl|hq
    ·exact h
    ·exact hi q hq
   rw[h2.inp i ho,<-h1.inp i ho];exact(ht.inp i λq hq=>by simp at hq;subst hq;exact h).symm
 ·by_cases h:T.flag=false/\T.place=c
  ·rw[<-h.2,hv.2 h.1,hn.2 h.1]
  ·have ho:Eg (T::S) c:=λq hq=>by
    rcases pi.1 hq with rfl|hq
    ·exact h
    ·exact hc q hq
   rw[h2.has c ho,<-h1.has c ho];exact(ht.has c λq hq=>by simp at hq;subst hq;exact h).symm
theorem ze{T:jX}{v:Nat}(hv:v<=1)(h:YV both T S s s1 v)(k:ZQ both S (jP s1 T v) s2 true):ZQ both (T::S) s s2 true:=by
 have hz:=Fy s1 T v;have heq:pI (T::S) s s2:=(h.eq.trans (dI (by simp) s1 v)).trans (k.eq.more λt ht=>by simp[ht]);refine⟨⟨by rw[k.z.1,hz.1,h.z.1],by rw[k.z.2,hz.2,h.z.2]⟩,heq,λ_=>⟨(k.yes rfl).1,λt ht hf=>?_⟩,λh=>x' h (by simp),?_⟩
 ·rcases pi.1 ht with rfl|ht
  ·by_cases ho:∃q∈S,q.flag=true/\q.place=t.place
   ·obtain⟨q,hq,h1,h2⟩:=ho
    rw[<-h2];exact(k.yes rfl).2 q hq h1
   ·rw[k.eq.inp t.place λq hq hh=>ho ⟨q,hq,hh⟩,(iE s1 t v).1 hf]
    omega
  ·exact(k.yes rfl).2 t ht hf
 ·rcases(show v=0\/v=1 by omega) with rfl|rfl
  ·have e:=h.fn.1 rfl
   have q:=k.fn;rw[e]at q;rw[Yd,q,tr rfl]
  ·rw[Yd,h.fn.2.1 rfl,tj (by simp)]
   exact k.fn
theorem Sw{T:jX}{v:Nat}(h:YV both T S s s1 v)(k:ZQ both S (jP s1 T v) s2 false):YV both T S s s2 (v+1):=by
 have hz:=Fy s1 T v;refine⟨⟨by rw[k.z.1,hz.1,h.z.1],by rw[k.z.2,hz.2,h.z.2]⟩,(h.eq.trans (dI (by simp) s1 v)).trans (k.eq.more λt ht=>by simp[ht]),λu hu t e1 e2 ht hb nC=>?_,λe=>x' e (by omega),λe=>?_,λe=>?_⟩
 ·by_cases fo:u<v
  ·exact h.no u fo t e1 e2 ht hb nC
  ·obtain rfl:u=v:=by omega
   exact k.no rfl t (by rw[e1,hz.1,h.z.1]) (by rw[e2,hz.2,h.z.2]) (JG h.eq ht nC) λq hq=>hb q (by simp[hq])
 ·obtain rfl:v=0:=by omega
  have q:=k.fn;rw[h.fn.1 rfl]at q;exact q
 ·obtain rfl:v=1:=by omega
  exact⟨s1,h.fn.2.1 rfl,k.fn⟩
theorem zg{T:jX}(h:YV both T S s s1 2):ZQ both (T::S) s s1 false:=by
 refine⟨h.z,h.eq,λh=>x' h (by simp),λ_ t e1 e2 ht hb=>?_,?_⟩
 ·cases hf:T.flag
  ·cases hv:t.has T.place
   ·exact h.no 0 (by omega) t e1 e2 ht hb ⟨λh=>x' (hf.symm.trans h) (by simp),λ_=>hv⟩
   ·exact h.no 1 (by omega) t e1 e2 ht hb ⟨λh=>x' (hf.symm.trans h) (by simp),λ_=>hv⟩
  ·rcases hb T (by simp) hf with hv|hv
   ·exact h.no 0 (by omega) t e1 e2 ht hb ⟨λ_=>hv,λh=>x' (hf.symm.trans h) (by simp)⟩
   ·exact h.no 1 (by omega) t e1 e2 ht hb ⟨λ_=>hv,λh=>x' (hf.symm.trans h) (by simp)⟩
 ·obtain⟨s0,q1,q2⟩:=h.fn.2.2 rfl
  rw[Yd,q1,tj (by simp)];exact q2
theorem I6(both:vW->Bool)(S:List jX):∀s,pI S s (Yd both S s).1:=by
 induction S with
 | nil=>intro s;exact pI.refl _ _
 | cons T S ih =>
   intro s;have h1:∀s v,pI (T::S) s (Yd both S (jP s T v)).1:=λs v=>(dI (by simp) s v).trans ((ih _).more λt ht=>by simp[ht]);rw[Yd];split
   ·exact h1 s 0
   ·exact(h1 s 0).trans (h1 _ 1)
def bA(np:Nat)(Z:Nat->Int × Int)(rk:Nat->Nat):List lX:=(List.range np).map λp=>⟨(Z p).1,(Z p).2,rk p⟩
theorem aA(np:Nat)(Z:Nat->Int × Int)(rk:Nat->Nat):(bA np Z rk).length=np:=by simp[bA]
theorem bH{Z':Nat->Int × Int}{fw:Nat->Nat}(h1:∀p,p<np->Z p=Z' p)(h2:∀p,p<np->rk p=fw p):bA np Z rk=bA np Z' fw:=by
 unfold bA;exact List.map_congr_left λp hp=>by rw[h1 p (by simpa using hp),h2 p (by simpa using hp)]
structure mD(np:Nat)(P:Nat->Nat)(S:List jX)(s t:vW):Prop where
 inp:∀i,(∀p,p<np->P p≠i)->CY S i->t.inp i=s.inp i
 has:∀c,Eg S c->t.has c=s.has c
theorem mD.refl(np:Nat)(P:Nat->Nat)(S:List jX)(s:vW):mD np P S s s:=⟨λ_ _ _=>rfl,λ_ _=>rfl⟩
theorem mD.trans{a b c:vW}(h:mD np P S a b)(k:mD np P S b c):mD np P S a c:=⟨λi h1 h2=>(k.inp i h1 h2).trans (h.inp i h1 h2),λi h1=>(k.has i h1).trans (h.has i h1)⟩
theorem mD.symm{a b:vW}(h:mD np P S a b):mD np P S b a:=⟨λi h1 h2=>(h.inp i h1 h2).symm,λi h1=>(h.has i h1).symm⟩
theorem pI.rest{a b:vW}(h:pI S a b):mD np P S a b:=⟨λi _ h2=>h.inp i h2,h.has⟩
def pJ(np:Nat)(P:Nat->Nat)(rk:Nat->Nat)(o:List Int)(t:vW):Prop:=∀p,p<np->t.inp (P p)=o.getD (rk p) 0
structure wT(np:Nat)(P:Nat->Nat)(s s':vW)(r:Bool):Prop where
 z:s'.Z=s.Z/\s'.rk=s.rk/\s'.has=s.has
 off:∀i,(∀p,p<np->P p≠i)->s'.inp i=s.inp i
 yes:r=true->∃o,fN (bA np s.Z s.rk)=some o/\pJ np P s.rk o s'
 no:r=false->fN (bA np s.Z s.rk)=none
def H9(both:vW->Bool)(np:Nat)(P:Nat->Nat)(S:List jX)(Z:Nat->Int × Int)(a:Nat)(s:vW)(rk:Nat->Nat):Prop:=∀b fw,a<=b->b<np->(∀p,p<b->fw p=rk p)->fw b<rk b->(∀p,p<np->fw p<np)->∀o,fN (bA np Z fw)=some o->∀t,mD np P S s t->pJ np P fw o t->sW S t->both t=false
structure ZR(both:vW->Bool)(np:Nat)(P:Nat->Nat)(S:List jX)(a:Nat)(s s':vW)(r:Bool):Prop where
 z:s'.Z=s.Z
 kp:∀p,p<a->s'.rk p=s.rk p
 rest:mD np P S s s'
 yes:r=true->both s'=true/\sW S s'/\∃rk o,(∀p,p<np->rk p<np)/\fN (bA np s.Z rk)=some o/\pJ np P rk o s'
 no:r=false->∀rk,(∀p,p<a->rk p=s.rk p)->(∀p,p<np->rk p<np)->∀o,fN (bA np s.Z rk)=some o->∀t,mD np P S s t->pJ np P rk o t->sW S t->both t=false
 Ai:r=true->∃rk o s1,(∀p,p<np->rk p<np)/\(∀p,p<a->rk p=s.rk p)/\fN (bA np s.Z rk)=some o/\pJ np P rk o s1/\mD np P S s s1/\Yd both S s1=(s',true)/\H9 both np P S s.Z a s rk
def GF(both:vW->Bool):Prop:=∀s t:vW,s.inp=t.inp->s.has=t.has->both s=both t
theorem pI.symm{a b:vW}(h:pI S a b):pI S b a:=⟨λi hi=>(h.inp i hi).symm,λc hc=>(h.has c hc).symm⟩
theorem O3(gV:GF both)(S:List jX):∀s t,pI S s t->(Yd both S s).2=(Yd both S t).2/\((Yd both S s).2=true->(Yd both S s).1.inp=(Yd both S t).1.inp/\(Yd both S s).1.has=(Yd both S t).1.has):=by
 induction S with
 | nil =>
   intro s t h;have e1:s.inp=t.inp:=funext λi=>(h.inp i λt ht=>by simp at ht).symm;have e2:s.has=t.has:=funext λi=>(h.has i λt ht=>by simp at ht).symm;exact⟨gV s t e1 e2,λ_=>⟨e1,e2⟩⟩
 | cons T S ih =>
   have nE:∀s t v,pI (T::S) s t->pI S (jP s T v) (jP t T v):=λs t v h=>JG (pI.refl _ _) (h.trans (dI (by simp) t v)) (iE t T v);have h1:∀s,pI (T::S) s (Yd both S (jP s T 0)).1:=λs=>(dI (by simp) s 0).trans ((I6 both S _).more λt ht=>by simp[ht]);intro s t h;obtain⟨k1,k2⟩:=ih _ _ (nE s t 0 h);rw[Yd,Yd,<-k1];split
   ·rename_i hy
    exact⟨k1,λ_=>k2 hy⟩
   ·exact ih _ _ (nE _ _ 1 (((h1 s).symm.trans h).trans (h1 t)))
theorem CB(ha:np<=a)(h:wT np P s s' false):ZR both np P S a s s' false:=by
 refine⟨h.z.1,λp _=>by rw[h.z.2.1],⟨λi h1 _=>h.off i h1,λc _=>by rw[h.z.2.2]⟩,λh=>x' h (by simp),λ_ rk av _ o ho=>?_,λh=>x' h (by simp)⟩;rw[bH (Z':=s.Z) (fw:=s.rk) (λ_ _=>rfl) λp hp=>av p (by omega),h.no rfl]at ho;exact x' ho (by simp)
theorem CA(gV:GF both){r:Bool}(ha:np<=a)(hP:∀p,p<np->CY S (P p))(hr:∀p,p<a->s.rk p<np)(h:wT np P s s1 true)(k:ZQ both S s1 s2 r):ZR both np P S a s s2 r:=by
 obtain⟨o,ho,hn⟩:=h.yes rfl;have h1:mD np P S s s1:=⟨λi h1 _=>h.off i h1,λc _=>by rw[h.z.2.2]⟩;refine⟨by rw[k.z.1,h.z.1],λp _=>by rw[k.z.2,h.z.2.1],h1.trans k.eq.rest,λcq=>⟨(k.yes cq).1,(k.yes cq).2,s.rk,o,λp hp=>hr p (by omega),ho,λp hp=>?_⟩,λcq rk av _ o' bQ t ht c9 hb=>?_,λcq=>⟨s.rk,o,s1,λp hp=>hr p (by omega),λ_ _=>rfl,ho,hn,h1,by rw[k.fn,cq],λb _ h1 h2=>x' h1 (by omega)⟩⟩
 ·rw[k.eq.inp _ (hP p hp)];exact hn p hp
 ·have e:bA np s.Z rk=bA np s.Z s.rk:=bH (λ_ _=>rfl) λp hp=>av p (by omega)
  rw[e,ho]at bQ;obtain rfl:o=o':=by simpa using bQ
  have:=k.no cq { t with Z:=s1.Z,rk:=s1.rk } rfl rfl ⟨λi hi=>?_,λc hc=>?_⟩ hb
  ·rw[<-this];exact gV _ _ rfl rfl
  ·by_cases hp:∃p,p<np/\P p=i
   ·obtain⟨p,hp,rfl⟩:=hp
    show t.inp (P p)=_;rw[c9 p hp,hn p hp,av p (by omega)]
   ·have aT:∀p,p<np->P p≠i:=λp h1 h2=>hp ⟨p,h1,h2⟩
    show t.inp i=_;rw[ht.inp i aT hi,h.off i aT]
  ·show t.has c=_
   rw[ht.has c hc,h.z.2.2]
def rC(s:vW)(a v:Nat):vW:={ s with rk:=λp=>if p=a then v else s.rk p }
structure ZS(both:vW->Bool)(np:Nat)(P:Nat->Nat)(S:List jX)(a:Nat)(s s':vW)(v:Nat):Prop where
 z:s'.Z=s.Z
 kp:∀p,p<a->s'.rk p=s.rk p
 rest:mD np P S s s'
 no:∀u,u<v->∀rk,(∀p,p<a->rk p=s.rk p)->rk a=u->(∀p,p<np->rk p<np)->∀o,fN (bA np s.Z rk)=some o->∀t,mD np P S s t->pJ np P rk o t->sW S t->both t=false
theorem CC(both:vW->Bool)(np:Nat)(P:Nat->Nat)(S:List jX)(a:Nat)(s:vW):ZS both np P S a s s 0:=⟨rfl,λ_ _=>rfl,mD.refl _ _ _ _,λu hu=>x' hu (by omega)⟩
theorem Zh(h:mD np P S s s1)(a v:Nat):mD np P S s (rC s1 a v):=⟨h.inp,h.has⟩
theorem yg{v:Nat}(h:ZS both np P S a s s1 v)(k:ZR both np P S (a+1) (rC s1 a v) s2 true):ZR both np P S a s s2 true:=by
 refine⟨k.z.trans h.z,λp hp=>?_,(Zh h.rest a v).trans k.rest,λ_=>?_,λh=>x' h (by simp),λ_=>?_⟩
 ·rw[k.kp p (by omega)];show (if p=a then v else s1.rk p)=_;rw[i6];exact h.kp p hp
 ·have:=k.yes rfl
  rw[show (rC s1 a v).Z=s.Z from h.z]at this;exact this
 ·obtain⟨rk,o,sx,q1,q2,q3,q4,q5,q6,q7⟩:=k.Ai rfl
  have ez:(rC s1 a v).Z=s.Z:=h.z;rw[ez]at q3 q7;have ea:rk a=v:=by rw[q2 a (by omega)];exact tr rfl
  have el:∀p,p<a->rk p=s.rk p:=λp hp=>by
   rw[q2 p (by omega)];show (if p=a then v else s1.rk p)=_;rw[i6];exact h.kp p hp
  refine⟨rk,o,sx,q1,el,q3,q4,(Zh h.rest a v).trans q5,q6,λb fw gY hb cu aC hn' o' bQ t ht c9 eK=>?_⟩;by_cases e:a=b
  ·subst e
   exact h.no (fw a) (by omega) fw (λp hp=>by rw[cu p hp,el p hp]) rfl hn' o' bQ t ht c9 eK
  ·exact q7 b fw (by omega) hb cu aC hn' o' bQ t ((Zh h.rest a v).symm.trans ht) c9 eK
theorem Sf{v:Nat}(h:ZS both np P S a s s1 v)(k:ZR both np P S (a+1) (rC s1 a v) s2 false):ZS both np P S a s s2 (v+1):=by
 refine⟨k.z.trans h.z,λp hp=>?_,(Zh h.rest a v).trans k.rest,λu hu rk h1 h2 h3 o ho t ht hn hb=>?_⟩
 ·rw[k.kp p (by omega)];show (if p=a then v else s1.rk p)=_;rw[i6];exact h.kp p hp
 ·by_cases fo:u<v
  ·exact h.no u fo rk h1 h2 h3 o ho t ht hn hb
  ·obtain rfl:u=v:=by omega
   refine k.no rfl rk (λp hp=>?_) h3 o (by rw[show (rC s1 a u).Z=s.Z from h.z];exact ho) t ((Zh h.rest a u).symm.trans ht) hn hb;show rk p=if p=a then u else s1.rk p;by_cases bP:p=a
   ·rw[tr bP,bP];exact h2
   ·rw[tj bP,h.kp p (by omega)];exact h1 p (by omega)
theorem yi(ha:a<np)(h:ZS both np P S a s s1 np):ZR both np P S a s s1 false :=
 ⟨h.z,h.kp,h.rest,λh=>x' h (by simp),λ_ rk h1 h3 o ho t ht hn hb=>h.no (rk a) (h3 a ha) rk h1 rfl h3 o ho t ht hn hb,λh=>x' h (by simp)⟩
def Jq(zs:Nat->List (Int × Int))(zi:Nat->Nat):Nat->Int × Int:=λp=>(zs p).getD (zi p) (0,0)
def LP(both:vW->Bool)(np:Nat)(P:Nat->Nat)(zs:Nat->List (Int × Int))(S:List jX)(a:Nat)(s:vW)(zi:Nat->Nat):Prop:=∀b dR,a<=b->b<np->(∀p,p<b->Jq zs dR p=Jq zs zi p)->dR b<zi b->(∀p,p<np->dR p<(zs p).length)->∀rk,(∀p,p<np->rk p<np)->∀o,fN (bA np (Jq zs dR) rk)=some o->∀t,mD np P S s t->pJ np P rk o t->sW S t->both t=false
structure nY(both:vW->Bool)(np:Nat)(P:Nat->Nat)(zs:Nat->List (Int × Int))(S:List jX)(a:Nat)(s s':vW)(r:Bool):Prop where
 rest:mD np P S s s'
 kp:∀p,p<a->s'.Z p=s.Z p
 yes:r=true->both s'=true/\sW S s'/\∃Z rk o,(∀p,p<np->Z p∈zs p)/\(∀p,p<np->rk p<np)/\fN (bA np Z rk)=some o/\pJ np P rk o s'
 no:r=false->∀Z,(∀p,p<a->Z p=s.Z p)->(∀p,p<np->Z p∈zs p)->∀rk,(∀p,p<np->rk p<np)->∀o,fN (bA np Z rk)=some o->∀t,mD np P S s t->pJ np P rk o t->sW S t->both t=false
 Ai:r=true->∃zi rk o s1,(∀p,p<np->zi p<(zs p).length)/\(∀p,p<a->Jq zs zi p=s.Z p)/\(∀p,p<np->rk p<np)/\fN (bA np (Jq zs zi) rk)=some o/\pJ np P rk o s1/\mD np P S s s1/\Yd both S s1=(s',true)/\LP both np P zs S a s zi/\H9 both np P S (Jq zs zi) 0 s rk
theorem jp{zs:Nat->List (Int × Int)}{r:Bool}(ha:np<=a)(hz:∀p,p<a->s.Z p∈zs p)(h:ZR both np P S 0 s s' r):nY both np P zs S a s s' r:=by
 refine⟨h.rest,λp _=>by rw[h.z],λhr=>?_,λhr Z h1 _ rk h3 o ho t ht hn hb=>?_,λhr=>?_⟩
 ·obtain⟨q1,q2,rk,o,q3,q4,q5⟩:=h.yes hr
  exact⟨q1,q2,s.Z,rk,o,λp hp=>hz p (by omega),q3,q4,q5⟩
 ·refine h.no hr rk (λp hp=>x' hp (by omega)) h3 o ?_ t ht hn hb
  rw[<-bH (Z:=Z) (rk:=rk) (λp hp=>h1 p (by omega)) λ_ _=>rfl];exact ho
 ·obtain⟨rk,o,sx,q1,q2,q3,q4,q5,q6,q7⟩:=h.Ai hr
  obtain⟨zi,jn⟩:∃zi:Nat->Nat,∀p,p<a->zi p<(zs p).length/\Jq zs zi p=s.Z p:=by
   have hx:∀p,∃u,p<a->u<(zs p).length/\(zs p).getD u (0,0)=s.Z p:=λp=>by
    by_cases hp:p<a
    ·obtain⟨u,hu,e⟩:=dz (hz p hp)
     exact⟨u,λ_=>⟨hu,by simp[List.getD,hu,e]⟩⟩
    ·exact⟨0,λh=>x' h hp⟩
   exact⟨λp=>Classical.choose (hx p),λp hp=>Classical.choose_spec (hx p) hp⟩
  have ez:∀fw,bA np s.Z fw=bA np (Jq zs zi) fw:=λfw=>bH (λp hp=>(jn p (by omega)).2.symm) λ_ _=>rfl;refine⟨zi,rk,o,sx,λp hp=>(jn p (by omega)).1,λp hp=>(jn p hp).2,q1,by rw[<-ez];exact q3,q4,q5,q6,λb _ h1 h2=>x' h1 (by omega),λb fw gY hb cu aC hn' o' bQ => ?_⟩;rw[<-ez]at bQ;exact q7 b fw gY hb cu aC hn' o' bQ
def nF(s:vW)(a:Nat)(z:Int × Int):vW:={ s with Z:=λp=>if p=a then z else s.Z p }
structure eY(both:vW->Bool)(np:Nat)(P:Nat->Nat)(zs:Nat->List (Int × Int))(S:List jX)(a:Nat)(s s':vW)(v:Nat):Prop where
 kp:∀p,p<a->s'.Z p=s.Z p
 rest:mD np P S s s'
 no:∀u,u<v->∀Z,(∀p,p<a->Z p=s.Z p)->Z a=(zs a).getD u (0,0)->(∀p,p<np->Z p∈zs p)->∀rk,(∀p,p<np->rk p<np)->∀o,fN (bA np Z rk)=some o->∀t,mD np P S s t->pJ np P rk o t->sW S t->both t=false
theorem BY(both:vW->Bool)(np:Nat)(P:Nat->Nat)(zs:Nat->List (Int × Int))(S:List jX)(a:Nat)(s:vW):eY both np P zs S a s s 0:=⟨λ_ _=>rfl,mD.refl _ _ _ _,λu hu=>x' hu (by omega)⟩
theorem aF(h:mD np P S s s1)(a:Nat)(z:Int × Int):mD np P S s (nF s1 a z):=⟨h.inp,h.has⟩
theorem GK{zs:Nat->List (Int × Int)}{v:Nat}(h:eY both np P zs S a s s1 v)(hv:v<(zs a).length)(hz:∀p,p<a->s.Z p∈zs p):∀p,p<a+1->(nF s1 a ((zs a).getD v (0,0))).Z p∈zs p:=λp hp=>by
 show (if p=a then (zs a).getD v (0,0) else s1.Z p)∈zs p;by_cases bP:p=a
 ·rw[tr bP,bP];simp[List.getD,hv]
 ·rw[tj bP,h.kp p (by omega)];exact hz p (by omega)
theorem GJ{zs:Nat->List (Int × Int)}{v:Nat}(hv:v<(zs a).length)(h:eY both np P zs S a s s1 v)(k:nY both np P zs S (a+1) (nF s1 a ((zs a).getD v (0,0))) s2 true):nY both np P zs S a s s2 true:=by
 refine⟨(aF h.rest a _).trans k.rest,λp hp=>?_,λ_=>k.yes rfl,λh=>x' h (by simp),λ_=>?_⟩
 ·rw[k.kp p (by omega)];show (if p=a then _ else s1.Z p)=_;rw[i6];exact h.kp p hp
 ·obtain⟨zi,rk,o,sx,q0,q1,q2,q3,q4,q5,q6,q7,q8⟩:=k.Ai rfl
  have ea:Jq zs zi a=(zs a).getD v (0,0):=by rw[q1 a (by omega)];exact tr rfl
  have el:∀p,p<a->Jq zs zi p=s.Z p:=λp hp=>by
   rw[q1 p (by omega)];show (if p=a then _ else s1.Z p)=_;rw[i6];exact h.kp p hp
  have e2:Jq zs (λp=>if p=a then v else zi p)=Jq zs zi:=funext λp=>by
   by_cases hp:p=a
   ·subst hp;rw[ea];unfold Jq;simp only[dj]
   ·unfold Jq;simp only[tj hp]
  refine⟨λp=>if p=a then v else zi p,rk,o,sx,λp hp=>?_,λp hp=>by rw[e2];exact el p hp,q2,by rw[e2];exact q3,q4,(aF h.rest a _).trans q5,q6,λb dR gY hb cu aC hn' fw hr' o' bQ t ht c9 eK=>?_,λb fw gY hb cu aC hn' o' bQ t ht c9 eK=>?_⟩
  ·by_cases aT:p=a
   ·simp only[aT,dj];exact hv
   ·simp only[tj aT];exact q0 p hp
  ·rw[e2]at cu
   by_cases e:a=b
   ·subst e
    simp only[dj]at aC;exact h.no (dR a) aC (Jq zs dR) (λp hp=>by rw[cu p hp,el p hp]) rfl (λp hp=>by unfold Jq;simp[List.getD,hn' p hp]) fw hr' o' bQ t ht c9 eK
   ·simp only[tj (λq=>e (Eq.symm q))]at aC
    exact q7 b dR (by omega) hb cu aC hn' fw hr' o' bQ t ((aF h.rest a _).symm.trans ht) c9 eK
  ·rw[e2]at bQ
   exact q8 b fw gY hb cu aC hn' o' bQ t ((aF h.rest a _).symm.trans ht) c9 eK
theorem jq{both:vW->Bool}{np:Nat}{P:Nat->Nat}{zs:Nat->List (Int × Int)}{S:List jX}{a v:Nat}{s s1 s2:vW}(h:eY both np P zs S a s s1 v)(k:nY both np P zs S (a+1) (nF s1 a ((zs a).getD v (0,0))) s2 false):eY both np P zs S a s s2 (v+1):=by
 refine⟨λp hp=>?_,(aF h.rest a _).trans k.rest,λu hu Z h1 h2 h3 rk h4 o ho t ht hn hb=>?_⟩
 ·rw[k.kp p (by omega)];show (if p=a then _ else s1.Z p)=_;rw[i6];exact h.kp p hp
 ·by_cases fo:u<v
  ·exact h.no u fo Z h1 h2 h3 rk h4 o ho t ht hn hb
  ·obtain rfl:u=v:=by omega
   refine k.no rfl Z (λp hp=>?_) h3 rk h4 o ho t ((aF h.rest a _).symm.trans ht) hn hb;show Z p=if p=a then _ else s1.Z p;by_cases bP:p=a
   ·rw[tr bP,bP];exact h2
   ·rw[tj bP,h.kp p (by omega)];exact h1 p (by omega)
theorem GL{zs:Nat->List (Int × Int)}(ha:a<np)(h:eY both np P zs S a s s1 (zs a).length):nY both np P zs S a s s1 false:=by
 refine⟨h.rest,h.kp,λh=>x' h (by simp),λ_ Z h1 h3 rk h4 o ho t ht hn hb=>?_,λh=>x' h (by simp)⟩;obtain⟨u,hu,e⟩:=dz (h3 a ha);exact h.no u hu Z h1 (by simp[List.getD,hu,e]) h3 rk h4 o ho t ht hn hb
theorem Bi{α:Type}(f g:Nat->α)(n:Nat):(∀p,p<n->f p=g p)\/∃b,b<n/\(∀p,p<b->f p=g p)/\f b≠g b:=by
 induction n with
 | zero=>exact .inl λp hp=>x' hp (by omega)
 | succ n ih =>
   rcases ih with h|⟨b,h1,h2,h3⟩
   ·by_cases e:f n=g n
    ·exact .inl λp hp=>by
      by_cases aT:p<n
      ·exact h p aT
      ·obtain rfl:p=n:=by omega
       exact e
    ·exact .inr ⟨n,by omega,h,e⟩
   ·exact .inr ⟨b,by omega,h2,h3⟩
theorem GI(gV:GF both){zs:Nat->List (Int × Int)}(hP:∀p,p<np->CY S (P p))(h:nY both np P zs S 0 s s1 true)(k:nY both np P zs S 0 s s2 true):s1.inp=s2.inp/\s1.has=s2.has:=by
 obtain⟨zi,rk,o,sx,a0,-,a2,a3,a4,a5,a6,a7,a8⟩:=h.Ai rfl;obtain⟨zj,rj,o',sy,b0,-,b2,b3,b4,b5,b6,b7,b8⟩:=k.Ai rfl
 have gT:∀ {u v:vW} {rk:Nat->Nat} {o:List Int},pJ np P rk o u->mD np P S s u->Yd both S u=(v,true)->mD np P S s v/\pJ np P rk o v:=λ{u v rk o} h1 h2 h3=>by
  have e:=I6 both S u;rw[h3]at e;exact⟨h2.trans e.rest,λp hp=>by rw[e.inp _ (hP p hp)];exact h1 p hp⟩
 obtain⟨c1,c2⟩:=gT a4 a5 a6;obtain⟨d1,d2⟩:=gT b4 b5 b6;obtain⟨y1,y2,-⟩:=h.yes rfl;obtain⟨x1,x2,-⟩:=k.yes rfl
 have ez:∀p,p<np->Jq zs zi p=Jq zs zj p:=by
  rcases Bi (Jq zs zi) (Jq zs zj) np with q|⟨b,q1,q2,q3⟩
  ·exact q
  ·exfalso
   rcases Nat.lt_trichotomy (zi b) (zj b) with l|l|l
   ·have:=b7 b zi (by omega) q1 q2 l a0 rk a2 o a3 s1 c1 c2 y2
    rw[y1]at this;cases this
   ·exact q3 (by unfold Jq;rw[l])
   ·have:=a7 b zj (by omega) q1 (λp hp=>(q2 p hp).symm) l b0 rj b2 o' b3 s2 d1 d2 x2
    rw[x1]at this;cases this
 have er:∀p,p<np->rk p=rj p:=by
  rcases Bi rk rj np with q|⟨b,q1,q2,q3⟩
  ·exact q
  ·exfalso
   rcases Nat.lt_trichotomy (rk b) (rj b) with l|l|l
   ·have:=b8 b rk (by omega) q1 q2 l a2 o (by rw[<-bH ez (rk:=rk) (fw:=rk) λ_ _=>rfl];exact a3) s1 c1 c2 y2
    rw[y1]at this;cases this
   ·exact q3 l
   ·have:=a8 b rj (by omega) q1 (λp hp=>(q2 p hp).symm) l b2 o' (by rw[bH ez (rk:=rj) (fw:=rj) λ_ _=>rfl];exact b3) s2 d1 d2 x2
    rw[x1]at this;cases this
 rw[bH ez er,b3]at a3;obtain rfl:o'=o:=by simpa using a3
 have jM:pI S sx sy:=by
  refine⟨λi hi=>?_,λc hc=>by rw[b5.has c hc,a5.has c hc]⟩;by_cases hp:∃p,p<np/\P p=i
  ·obtain⟨p,hp,rfl⟩:=hp
   rw[b4 p hp,a4 p hp,er p hp]
  ·have aT:∀p,p<np->P p≠i:=λp h1 h2=>hp ⟨p,h1,h2⟩
   rw[b5.inp i aT hi,a5.inp i aT hi]
 have:=(O3 gV S sx sy jM).2 (by rw[a6]);rw[a6,b6]at this;exact this
def Af(t:jX):List Value:=[.bool t.flag,.int .i64 (t.place:Nat)]
structure SK where
 B:Nat
 b:Nat
 e:MX
 l:MX
 np:Nat
 P:Nat->Nat
 zs:Nat->List (Int × Int)
 za:Nat->Option Addr
 zc:Nat->Nat
 na:Option Addr
 gn:Nat
 nc:Nat
 sw:List jX
 sa:Option Addr
 sc:Nat
 gi:Nat
 gh:Nat
 n:Nat
 h:Nat
def aZ(K:SK)(s:vW)(j:Nat):Value :=
 if j%5=0 then .int .i64 (K.P (j/5):Nat) else if j%5=1 then .slice (K.za (j/5)) (K.zs (j/5)).length (K.zc (j/5)) else if j%5=2 then .int .i64 (s.Z (j/5)).1 else if j%5=3 then .int .i64 (s.Z (j/5)).2 else .int .i64 (s.rk (j/5):Nat)
def K'(K:SK):Array Value := #[.string ⟨K.e.1.label.toArray⟩,.int .i64 K.e.1.ae,K.e.2.1,K.e.2.2,.int .i64 K.e.1.root,.string ⟨K.l.1.label.toArray⟩,.int .i64 K.l.1.ae,K.l.2.1,K.l.2.2,.int .i64 K.l.1.root,.slice K.na K.np K.nc,.slice K.sa K.sw.length K.sc,.slice (some ⟨K.gi,0,none⟩) K.n K.n,.slice (some ⟨K.gh,0,none⟩) K.h K.h,.slice none 0 0]
structure jQ(w:World)(K:SK)(s:vW):Prop where
 hd:w.heap[K.b]? = some (.cells (K' K) 170 (0,0))
 rN:0<K.np->K.na=some ⟨K.gn,0,none⟩/\kZ w K.gn 223 (5*K.np) (aZ K s)
 rI:kZ w K.gi 3 K.n (λi=>.int .i64 (s.inp i))
 rH:kZ w K.gh 4 K.h (λc=>.bool (s.has c))
 sw:xX w 216 K.sa (K.sw.flatMap Af)
 zn:∀p,p<K.np->xX w 221 (K.za p) (fR (K.zs p))
 eM:kE w K.e
 lM:kE w K.l
structure Je(K:SK):Prop where
 EW:K.B<=K.b
 gz:K.B<=K.gi
 iq:K.B<=K.gh
 He:0<K.np->K.B<=K.gn
 np:K.np<=100
 n:K.n<=10000
 h:K.h<=10000
 sw:K.sw.length<=20000
 zs:∀p,p<K.np->(K.zs p).length<=100000
 P:∀p,p<K.np->K.P p<K.n
 inj:∀p q,p<K.np->q<K.np->K.P p=K.P q->p=q
 off:∀p,p<K.np->CY K.sw (K.P p)
 Ag:∀t∈K.sw,t.flag=true->t.place<K.n
 Ah:∀t∈K.sw,t.flag=false->t.place<K.h
theorem Qh{b:Nat}{cs':Array Value}{qo:Nat × Nat}(h1:w.heap[a]? = some (.cells cs t fz))(h2:w.heap[b]? = some (.cells cs' t' qo))(aL:t≠t'):a≠b:=λe=>by
 subst e;rw[h1]at h2;simp only[bi,Obj.cells.injEq]at h2;exact aL h2.2.1
theorem kZ.ne{b:Nat}{n':Nat}{f':Nat->Value}(h1:kZ w a t n f)(h2:kZ w b t' n' f')(aL:t≠t'):a≠b:=by
 obtain⟨cs,q1,_⟩:=h1;obtain⟨cs',q2,_⟩:=h2;exact Qh q1 q2 aL
theorem xX.row{a:Option Addr}(h:xX w t a xs)(u:Value)(hr:kZ w g t' n f)(aL:t≠t'):xX (w.setCell ⟨g,j,none⟩ u) t a xs:=by
 obtain⟨cs,q,_⟩:=hr;exact h.set q aL
theorem kE.row(h:kE w x)(u:Value)(hr:kZ w g t' n f)(h1:260≠t')(h2:263≠t'):kE (w.setCell ⟨g,j,none⟩ u) x:=by
 obtain⟨a,c,e1,q1⟩:=h.sum;obtain⟨a',c',e2,q2⟩:=h.guard;exact⟨⟨a,c,e1,q1.row u hr h1⟩,⟨a',c',e2,q2.row u hr h2⟩,h.ek,h.ef⟩
theorem jQ.below{K:SK}(h:jQ w K s)(hb:Below w.heap.size w w'):jQ w' K s :=
 ⟨by rw[hb.block _ (zP h.hd)];exact h.hd,λh0=>⟨(h.rN h0).1,(h.rN h0).2.below hb⟩,h.rI.below hb,h.rH.below hb,h.sw.below hb,λp hp=>(h.zn p hp).below hb,h.eM.below hb,h.lM.below hb⟩
theorem DA{b:Nat}(h:w.heap[b]? = some (.cells cs t fz))(u:Value)(hr:kZ w g t' n f)(aL:t≠t':=by decide):(w.setCell ⟨g,j,none⟩ u).heap[b]? = some (.cells cs t fz):=by
 obtain⟨cs',q,_⟩:=hr;rw[bh w ⟨g,j,none⟩ b u (Qh h q aL)];exact h
theorem jQ.hY{K:SK}(h:jQ w K s){i:Nat}(hi:i<K.n)(v:Int){f:Nat->Int}(e1:f i=v)(e2:∀r,r<K.n->r≠i->f r=s.inp r):jQ (w.setCell ⟨K.gi,i,none⟩ (.int .i64 v)) K { s with inp:=f } :=
 ⟨DA h.hd _ h.rI,λh0=>⟨(h.rN h0).1,(h.rN h0).2.other _ ((h.rN h0).2.ne h.rI (by decide))⟩,h.rI.set _ hi (gk (Value.int .i64) e1) (λx hx aL=>gk (Value.int .i64) (e2 x hx aL)),h.rH.other _ (h.rH.ne h.rI (by decide)),h.sw.row _ h.rI (by decide),λp hp=>(h.zn p hp).row _ h.rI (by decide),h.eM.row _ h.rI (by decide) (by decide),h.lM.row _ h.rI (by decide) (by decide)⟩
theorem jQ.gu{K:SK}(h:jQ w K s){i:Nat}(hi:i<K.h)(v:Bool){f:Nat->Bool}(e1:f i=v)(e2:∀r,r<K.h->r≠i->f r=s.has r):jQ (w.setCell ⟨K.gh,i,none⟩ (.bool v)) K { s with has:=f } :=
 ⟨DA h.hd _ h.rH,λh0=>⟨(h.rN h0).1,(h.rN h0).2.other _ ((h.rN h0).2.ne h.rH (by decide))⟩,h.rI.other _ (h.rI.ne h.rH (by decide)),h.rH.set _ hi (gk Value.bool e1) (λx hx aL=>gk Value.bool (e2 x hx aL)),h.sw.row _ h.rH (by decide),λp hp=>(h.zn p hp).row _ h.rH (by decide),h.eM.row _ h.rH (by decide) (by decide),h.lM.row _ h.rH (by decide) (by decide)⟩
theorem jQ.ny{K:SK}(h:jQ w K s)(hj:j<5*K.np)(v:Value)(e0:s'.inp=s.inp/\s'.has=s.has)(e1:aZ K s' j=v)(e2:∀x,x<5*K.np->x≠j->aZ K s' x=aZ K s x):jQ (w.setCell ⟨K.gn,j,none⟩ v) K s':=by
 have hN:=h.rN (by omega);exact⟨DA h.hd _ hN.2,λ_=>⟨hN.1,hN.2.set _ hj e1 e2⟩,by rw[e0.1];exact h.rI.other _ (h.rI.ne hN.2 (by decide)),by rw[e0.2];exact h.rH.other _ (h.rH.ne hN.2 (by decide)),h.sw.row _ hN.2 (by decide),λp hp=>(h.zn p hp).row _ hN.2 (by decide),h.eM.row _ hN.2 (by decide) (by decide),h.lM.row _ hN.2 (by decide) (by decide)⟩
theorem jQ.C'{K:SK}(h:jQ w K s)(hp:p<K.np)(v:Nat):jQ (w.setCell ⟨K.gn,p*5+4,none⟩ (.int .i64 (v:Nat))) K (rC s p v):=by
 refine h.ny (by omega) _ ⟨rfl,rfl⟩ ?_ λx hx aL=>?_
 ·unfold aZ rC
  rw[i6,i6,i6,i6,show (p*5+4)/5=p by omega];simp
 ·unfold aZ rC
  by_cases h4:x%5=4
  ·have:x/5≠p:=by omega
   simp[h4,this]
  ·rcases(show x%5=0\/x%5=1\/x%5=2\/x%5=3 by omega) with h|h|h|h <;> simp[h]
theorem jQ.A'{K:SK}(h:jQ w K s)(hp:p<K.np)(z:Int × Int):jQ ((w.setCell ⟨K.gn,p*5+2,none⟩ (.int .i64 z.1)).setCell ⟨K.gn,p*5+3,none⟩ (.int .i64 z.2)) K (nF s p z):=by
 have h1:jQ (w.setCell ⟨K.gn,p*5+2,none⟩ (.int .i64 z.1)) K (nF s p (z.1,(s.Z p).2)):=by
  refine h.ny (by omega) _ ⟨rfl,rfl⟩ ?_ λx hx aL=>?_
  ·unfold aZ nF
   rw[i6,i6,u',show (p*5+2)/5=p by omega];simp
  ·unfold aZ nF
   by_cases h4:x/5=p
   ·rcases(show x%5=0\/x%5=1\/x%5=3\/x%5=4 by omega) with h|h|h|h <;> simp[h,h4]
   ·simp[h4]
 refine h1.ny (by omega) _ ⟨rfl,rfl⟩ ?_ λx hx aL=>?_
 ·unfold aZ nF
  rw[i6,i6,i6,u',show (p*5+3)/5=p by omega];simp
 ·unfold aZ nF
  by_cases h4:x/5=p
  ·rcases(show x%5=0\/x%5=1\/x%5=2\/x%5=4 by omega) with h|h|h|h <;> simp[h,h4]
  ·simp[h4]
def iI(K:SK)(s:vW):vH:=⟨(List.range K.n).map s.inp,(List.range K.h).map s.has,[]⟩
def qO(K:SK)(s:vW):Bool:=kY K.e.1 (iI K s)&&kY K.l.1 (iI K s)
theorem Bz(K:SK):GF (qO K):=λs t h1 h2=>by unfold qO iI;rw[h1,h2]
theorem jQ.state{K:SK}(ok:Je K)(h:jQ w K s):wR w (some ⟨K.gi,0,none⟩) (some ⟨K.gh,0,none⟩) none (iI K s):=by
 have:=ok.n;have:=ok.h;refine⟨⟨?_,by simp[iI];omega⟩,⟨?_,by simp[iI];omega⟩,⟨.inl rfl,by simp[iI]⟩⟩
 ·have:=h.rI.ay
  simp only[iI,cQ,List.map_map];exact this
 ·have:=h.rH.ay
  simp only[iI,Kt,List.map_map];exact this
theorem jQ.cells{K:SK}(h:jQ w K s)(j:Nat):w.cell? ⟨K.b,j,none⟩=(K' K)[j]? := zC h.hd j
theorem jQ.num{K:SK}(h:jQ w K s)(hp:p<K.np):K.na=some ⟨K.gn,0,none⟩/\w.cell? ⟨K.gn,p*5,none⟩=some (.int .i64 (K.P p:Nat))/\w.cell? ⟨K.gn,p*5+1,none⟩=some (.slice (K.za p) (K.zs p).length (K.zc p))/\w.cell? ⟨K.gn,p*5+2,none⟩=some (.int .i64 (s.Z p).1)/\w.cell? ⟨K.gn,p*5+3,none⟩=some (.int .i64 (s.Z p).2)/\w.cell? ⟨K.gn,p*5+4,none⟩=some (.int .i64 (s.rk p:Nat))/\∀j,w.frozen? ⟨K.gn,j,none⟩=false:=by
 obtain⟨h0,h1⟩:=h.rN (by omega);refine⟨h0,(h1.cell (by omega)).trans ?_,(h1.cell (by omega)).trans ?_,(h1.cell (by omega)).trans ?_,(h1.cell (by omega)).trans ?_,(h1.cell (by omega)).trans ?_,h1.free⟩
 ·unfold aZ;rw[u',show (p*5)/5=p by omega]
 ·unfold aZ;rw[i6,u',show (p*5+1)/5=p by omega]
 ·unfold aZ;rw[i6,i6,u',show (p*5+2)/5=p by omega]
 ·unfold aZ;rw[i6,i6,i6,u',show (p*5+3)/5=p by omega]
 ·unfold aZ;rw[i6,i6,i6,i6,show (p*5+4)/5=p by omega]
theorem jQ.EO{K:SK}(h:jQ w K s){i:Nat}(hi:i<K.sw.length):∃g,K.sa=some ⟨g,0,none⟩/\w.cell? ⟨g,i*2,none⟩=some (.bool (K.sw.getD i BT).flag)/\w.cell? ⟨g,i*2+1,none⟩=some (.int .i64 ((K.sw.getD i BT).place:Nat)):=by
 have hc:=h.sw.ay;obtain⟨g,e,c0⟩:=hc.at ((zV Af 2 (λ_=>rfl) BT K.sw i 0 hi (by decide)).trans rfl);obtain⟨g',e',c1⟩:=hc.at ((zV Af 2 (λ_=>rfl) BT K.sw i 1 hi (by decide)).trans rfl);obtain rfl:g=g':=by rw[e]at e';simpa using e'
 exact⟨g,e,c0,c1⟩
theorem QS(w:World)(K:SK)(s:vW)(ok:Je K)(h:jQ w K s)(x:MX)(hx:x=K.e\/x=K.l) :
 Calls prog 132 #[.agg #[.string ⟨x.1.label.toArray⟩,.int .i64 x.1.ae,x.2.1,x.2.2,.int .i64 x.1.root],.agg #[.slice (some ⟨K.gi,0,none⟩) K.n K.n,.slice (some ⟨K.gh,0,none⟩) K.h K.h,.slice none 0 0]] w λe w'=>e=.returned (.bool (kY x.1 (iI K s)))/\Below w.heap.size w w':=by
 have h1:=Dr w (some ⟨K.gi,0,none⟩) (some ⟨K.gh,0,none⟩) none K.n K.h 0 (iI K s) x (by rcases hx with rfl|rfl;exact h.eM;exact h.lM) (h.state ok);have e:ru (some ⟨K.gi,0,none⟩) (some ⟨K.gh,0,none⟩) none K.n K.h 0 (iI K s)=.agg #[.slice (some ⟨K.gi,0,none⟩) K.n K.n,.slice (some ⟨K.gh,0,none⟩) K.h K.h,.slice none 0 0]:=by simp[ru,iI]
 rw[e]at h1;exact h1
theorem B1(w:World)(K:SK)(s:vW)(ok:Je K)(h:jQ w K s) :
 Calls prog 175 #[.pointer (some ⟨K.b,0,none⟩)] w λe w'=>e=.returned (.bool (qO K s))/\Below w.heap.size w w':=by
 have mW:=zA (λw' (hb:Below w.heap.size w w')=>QS w' K s ok (h.below hb) K.e (.inl rfl));have mV:=zA (λw' (hb:Below w.heap.size w w')=>QS w' K s ok (h.below hb) K.l (.inr rfl));have HC:=zA (λw' (hb:Below w.heap.size w w')=>(h.below hb).cells);have HR:Hid (qO K s=(kY K.e.1 (iI K s)&&kY K.l.1 (iI K s))):=rfl;have hc:=HC.out w (tl _ _);have c0:w.cell? ⟨K.b,0,none⟩=some (.string ⟨K.e.1.label.toArray⟩):=hc 0;have c1:w.cell? ⟨K.b,1,none⟩=some (.int .i64 K.e.1.ae):=hc 1;have c2:w.cell? ⟨K.b,2,none⟩=some (K.e.2.1):=hc 2;have c3:w.cell? ⟨K.b,3,none⟩=some (K.e.2.2):=hc 3;have c4:w.cell? ⟨K.b,4,none⟩=some (.int .i64 K.e.1.root):=hc 4;have fJ:w.cell? ⟨K.b,12,none⟩=some (.slice (some ⟨K.gi,0,none⟩) K.n K.n):=hc 12;have gq:w.cell? ⟨K.b,13,none⟩=some (.slice (some ⟨K.gh,0,none⟩) K.h K.h):=hc 13;have lI:w.cell? ⟨K.b,14,none⟩=some (.slice none 0 0):=hc 14;have HD:Hid (∀w',Below w.heap.size w w'->w'.cell? ⟨K.b,5,none⟩=some (.string ⟨K.l.1.label.toArray⟩)/\w'.cell? ⟨K.b,6,none⟩=some (.int .i64 K.l.1.ae)/\w'.cell? ⟨K.b,7,none⟩=some K.l.2.1/\w'.cell? ⟨K.b,8,none⟩=some K.l.2.2/\w'.cell? ⟨K.b,9,none⟩=some (.int .i64 K.l.1.root)/\w'.cell? ⟨K.b,12,none⟩=some (.slice (some ⟨K.gi,0,none⟩) K.n K.n)/\w'.cell? ⟨K.b,13,none⟩=some (.slice (some ⟨K.gh,0,none⟩) K.h K.h)/\w'.cell? ⟨K.b,14,none⟩=some (.slice none 0 0)):=λw' hb=>⟨HC.out w' hb 5,HC.out w' hb 6,HC.out w' hb 7,HC.out w' hb 8,HC.out w' hb 9,HC.out w' hb 12,HC.out w' hb 13,HC.out w' hb 14⟩;have mL:Hid (∀w',Below w.heap.size w w'->w'.cell? ⟨K.b,0,none⟩=some (.string ⟨K.e.1.label.toArray⟩)/\w'.cell? ⟨K.b,1,none⟩=some (.int .i64 K.e.1.ae)/\w'.cell? ⟨K.b,2,none⟩=some K.e.2.1/\w'.cell? ⟨K.b,3,none⟩=some K.e.2.2/\w'.cell? ⟨K.b,4,none⟩=some (.int .i64 K.e.1.root)/\w'.cell? ⟨K.b,12,none⟩=some (.slice (some ⟨K.gi,0,none⟩) K.n K.n)/\w'.cell? ⟨K.b,13,none⟩=some (.slice (some ⟨K.gh,0,none⟩) K.h K.h)/\w'.cell? ⟨K.b,14,none⟩=some (.slice none 0 0)):=λw' hb=>⟨HC.out w' hb 0,HC.out w' hb 1,HC.out w' hb 2,HC.out w' hb 3,HC.out w' hb 4,HC.out w' hb 12,HC.out w' hb 13,HC.out w' hb 14⟩;have lb:=uM c0;obtain⟨ea,ec,q1,-⟩:=h.eM.sum;obtain⟨eg,kM,q2,-⟩:=h.eM.guard;obtain⟨la,lc,q3,-⟩:=h.lM.sum;obtain⟨lg,pP,q4,-⟩:=h.lM.guard;have qu:w.cell? ⟨K.b,2,none⟩=some (.slice ea K.e.1.sum.length ec):=by rw[<-q1];exact c2
 have qt:w.cell? ⟨K.b,3,none⟩=some (.slice eg K.e.1.guard.length kM):=by rw[<-q2];exact c3
 rw[q1,q2]at mW mL;rw[q3,q4]at HD mV;clear c2 c3;clear hc HC h q1 q2 q3 q4;generalize kY K.e.1 (iI K s)=a1 at *;generalize kY K.l.1 (iI K s)=a2 at *;generalize qO K s=aw at *;generalize K.e.1.label=el at *;generalize K.e.1.ae=eo at *;generalize K.e.1.root=er at *;generalize K.e.1.sum.length=en at *;generalize K.e.1.guard.length=em at *;generalize K.l.1.label=ll at *;generalize K.l.1.ae=lo at *;generalize K.l.1.root=lr at *;generalize K.l.1.sum.length=ln at *;generalize K.l.1.guard.length=lm at *
 go_enter func175,ntmps175
 cases a1
 ·have df:Hid (aw=false):=HR.out
  clear HR mV HD
  go_upto_region 1 with fail
  go_region_held3 (λw'=>w'.cell? ⟨K.b,0,none⟩=some (.string ⟨el.toArray⟩)/\w'.cell? ⟨K.b,1,none⟩=some (.int .i64 eo)/\w'.cell? ⟨K.b,2,none⟩=some (.slice ea en ec)/\w'.cell? ⟨K.b,3,none⟩=some (.slice eg em kM)/\w'.cell? ⟨K.b,4,none⟩=some (.int .i64 er)/\w'.cell? ⟨K.b,12,none⟩=some (.slice (some ⟨K.gi,0,none⟩) K.n K.n)/\w'.cell? ⟨K.b,13,none⟩=some (.slice (some ⟨K.gh,0,none⟩) K.h K.h)/\w'.cell? ⟨K.b,14,none⟩=some (.slice none 0 0)) (go_keep) (
   (go_at_call 132;refine(mW.out _ (md (tl _ _))).mono ?_;rintro e w4 ⟨rfl,eN⟩;have dY:Below w.heap.size w w4:=(md (tl _ _)).trans eN;obtain⟨u0,u1,u2,u3,u4,u5,u6,u7⟩:=mL.out w4 dY))
  all_goals
   go_wp2_with fail
   go_ret
   exact⟨zG df.out.symm,dY⟩
 ·have df:Hid (aw=a2):=HR.out
  clear HR
  go_upto_region 1 with fail
  go_region_held3 (λw'=>w'.cell? ⟨K.b,0,none⟩=some (.string ⟨el.toArray⟩)/\w'.cell? ⟨K.b,1,none⟩=some (.int .i64 eo)/\w'.cell? ⟨K.b,2,none⟩=some (.slice ea en ec)/\w'.cell? ⟨K.b,3,none⟩=some (.slice eg em kM)/\w'.cell? ⟨K.b,4,none⟩=some (.int .i64 er)/\w'.cell? ⟨K.b,12,none⟩=some (.slice (some ⟨K.gi,0,none⟩) K.n K.n)/\w'.cell? ⟨K.b,13,none⟩=some (.slice (some ⟨K.gh,0,none⟩) K.h K.h)/\w'.cell? ⟨K.b,14,none⟩=some (.slice none 0 0)) (go_keep) (
   (go_at_call 132;refine(mW.out _ (md (tl _ _))).mono ?_;rintro e w4 ⟨rfl,eN⟩;have dY:Below w.heap.size w w4:=(md (tl _ _)).trans eN;obtain⟨u0,u1,u2,u3,u4,u5,u6,u7⟩:=mL.out w4 dY))
  all_goals
   obtain⟨d5,d6,d7,d8,d9,d12,d13,d14⟩:=HD.out w4 dY;have sH:=uM d5;have cW:=zA dY;have jz:=dY.size;clear dY eN c0 c1 qu qt c4 fJ gq lI u0 u1 u2 u3 u4 u5 u6 u7
   go_upto_region 3 with fail
   go_region_held3 (λw'=>w'.cell? ⟨K.b,5,none⟩=some (.string ⟨ll.toArray⟩)/\w'.cell? ⟨K.b,6,none⟩=some (.int .i64 lo)/\w'.cell? ⟨K.b,7,none⟩=some (.slice la ln lc)/\w'.cell? ⟨K.b,8,none⟩=some (.slice lg lm pP)/\w'.cell? ⟨K.b,9,none⟩=some (.int .i64 lr)/\w'.cell? ⟨K.b,12,none⟩=some (.slice (some ⟨K.gi,0,none⟩) K.n K.n)/\w'.cell? ⟨K.b,13,none⟩=some (.slice (some ⟨K.gh,0,none⟩) K.h K.h)/\w'.cell? ⟨K.b,14,none⟩=some (.slice none 0 0)) (go_keep) (
    (go_at_call 132;refine(mV.out _ (md cW.out)).mono ?_;rintro e w5 ⟨rfl,eL⟩;have fG:Below w.heap.size w w5:=(md cW.out).trans (eL.mono jz);obtain⟨v5,v6,v7,v8,v9,v12,r7,r6⟩:=HD.out w5 fG))
   all_goals
    go_wp2_with fail
    go_ret
    exact⟨zG df.out.symm,fG⟩
theorem M8(w:World)(K:SK)(s:vW)(t:jX)(v:Nat)(ok:Je K)(ht:t∈K.sw)(h:jQ w K s) :
 Calls prog 176 #[.pointer (some ⟨K.b,0,none⟩),.agg #[.bool t.flag,.int .i64 (t.place:Nat)],.int .i64 (v:Nat)] w λe w'=>e=.returned (.tuple #[])/\jQ w' K (jP s t v)/\Below K.B w w':=by
 have hc:=h.cells;have fJ:w.cell? ⟨K.b,12,none⟩=some (.slice (some ⟨K.gi,0,none⟩) K.n K.n):=hc 12;have gq:w.cell? ⟨K.b,13,none⟩=some (.slice (some ⟨K.gh,0,none⟩) K.h K.h):=hc 13;have lb:=uM fJ;have nb:w.heap.size≠K.b:=by omega
 have hB:K.B<=w.heap.size:=tu ok.EW (p7 lb);have hn:=ok.n;have hh:=ok.h;have Ag:=ok.Ag t ht;have Ah:=ok.Ah t ht;have gz:=ok.gz;have iq:=ok.iq;obtain⟨tf,tp⟩:=t;simp only at Ag Ah ⊢;cases tf
 ·have hp:tp<K.h:=Ah rfl
  have nM:(tp:Int)<(K.h:Int):=by omega
  have d13:∀o,(w.alloc o).cell? ⟨K.b,13,none⟩=some (.slice (some ⟨K.gh,0,none⟩) K.h K.h):=λo=>((h.below (fk (tg _) o)).cells 13).trans rfl
  have HS:Hid (∀w',Below (w.setCell ⟨K.gh,tp,none⟩ (.bool ((v:Int)==1))).heap.size (w.setCell ⟨K.gh,tp,none⟩ (.bool ((v:Int)==1))) w'->jQ w' K (jP s ⟨false,tp⟩ v)/\Below K.B w w'):=λw' hb=>by
   have e:((v:Int)==1)=decide (v=1):=(by by_cases h9:v=1 <;> simp[h9] <;> omega);have hk:=(tl K.B w).setCell (p:=⟨K.gh,tp,none⟩) iq (.bool ((v:Int)==1));refine⟨?_,hk.trans (hb.mono (tu hB hk.size))⟩;rw[e]at hb;exact(h.gu hp _ (tr rfl) (λr _ hr=>tj hr)).below hb
  have hW:Hid (∀w',Below w.heap.size w w'->w'.cell? ⟨K.gh,tp,none⟩=some (.bool (s.has tp))/\w'.frozen? ⟨K.gh,tp,none⟩=false):=λw' hb=>⟨(h.below hb).rH.cell hp,(h.below hb).rH.free _⟩;have n1:K.gh≠K.b:=λe=>by obtain⟨cs,q,_⟩:=h.rH;exact Qh q h.hd (by decide) e
  have pL:=n1.symm;have l1:=h.rH.lt;have n2:K.gh≠w.heap.size:=by omega
  have pK:=n2.symm;clear h hc Ag Ah fJ ok ht;generalize s.has tp=old at *
  go_enter func176,ntmps176
  go_upto_region 3 with fail
  have s6:=d13 (.cells #[.bool false,.int .i64 (tp:Nat)] 216);obtain⟨d1,d2⟩:=hW.out (w.alloc (.cells #[.bool false,.int .i64 (tp:Nat)] 216)).drew (md (fk (tg _) _));have e2:((w.setCell ⟨K.gh,tp,none⟩ (.bool ((v:Int)==1))).alloc (.cells #[.bool false,.int .i64 (tp:Nat)] 216)).cell? ⟨w.heap.size,1,none⟩=some (.int .i64 (tp:Nat)):=zC (uA _ _ _ (by simp[World.setCell])) 1
  go_region_held3 (λw'=>w'.cell? ⟨K.b,13,none⟩=some (.slice (some ⟨K.gh,0,none⟩) K.h K.h)/\w'.cell? ⟨w.heap.size,1,none⟩=some (.int .i64 (tp:Nat))) (go_keep) (fail)
  all_goals
   go_wp2_with fail
   first|go_end0|((try simp only[Exit.inBlock,Exit.then]);refine pe (oe rfl _ _ _) rfl ?_)
   exact⟨rfl,HS.out _ (md (fk (tg _) _))⟩
 ·have hp:tp<K.n:=Ag rfl
  have nM:(tp:Int)<(K.n:Int):=by omega
  have d12:∀o,(w.alloc o).cell? ⟨K.b,12,none⟩=some (.slice (some ⟨K.gi,0,none⟩) K.n K.n):=λo=>((h.below (fk (tg _) o)).cells 12).trans rfl
  have HS:Hid (∀w',Below (w.setCell ⟨K.gi,tp,none⟩ (.int .i64 (v:Nat))).heap.size (w.setCell ⟨K.gi,tp,none⟩ (.int .i64 (v:Nat))) w'->jQ w' K (jP s ⟨true,tp⟩ v)/\Below K.B w w'):=λw' hb=>by
   have hk:=(tl K.B w).setCell (p:=⟨K.gi,tp,none⟩) gz (.int .i64 (v:Nat));refine⟨?_,hk.trans (hb.mono (tu hB hk.size))⟩;exact(h.hY hp _ (tr rfl) (λr _ hr=>tj hr)).below hb
  have hW:Hid (∀w',Below w.heap.size w w'->w'.cell? ⟨K.gi,tp,none⟩=some (.int .i64 (s.inp tp))/\w'.frozen? ⟨K.gi,tp,none⟩=false):=λw' hb=>⟨(h.below hb).rI.cell hp,(h.below hb).rI.free _⟩;have n1:K.gi≠K.b:=λe=>by obtain⟨cs,q,_⟩:=h.rI;exact Qh q h.hd (by decide) e
  have pL:=n1.symm;have l1:=h.rI.lt;have n2:K.gi≠w.heap.size:=by omega
  have pK:=n2.symm;clear h hc Ag Ah gq ok ht;generalize s.inp tp=old at *
  go_enter func176,ntmps176
  go_upto_region 2 with fail
  have s7:=d12 (.cells #[.bool true,.int .i64 (tp:Nat)] 216);obtain⟨d1,d2⟩:=hW.out (w.alloc (.cells #[.bool true,.int .i64 (tp:Nat)] 216)).drew (md (fk (tg _) _));have e2:((w.setCell ⟨K.gi,tp,none⟩ (.int .i64 (v:Nat))).alloc (.cells #[.bool true,.int .i64 (tp:Nat)] 216)).cell? ⟨w.heap.size,1,none⟩=some (.int .i64 (tp:Nat)):=zC (uA _ _ _ (by simp[World.setCell])) 1
  go_region_held3 (λw'=>w'.cell? ⟨K.b,12,none⟩=some (.slice (some ⟨K.gi,0,none⟩) K.n K.n)/\w'.cell? ⟨w.heap.size,1,none⟩=some (.int .i64 (tp:Nat))) (go_keep) (fail)
  all_goals
   go_wp2_with fail
   first|go_end0|((try simp only[Exit.inBlock,Exit.then]);refine pe (oe rfl _ _ _) rfl ?_)
   exact⟨rfl,HS.out _ (md (fk (tg _) _))⟩
theorem P7(l:List jX)(i:Nat)(h:i<l.length):l.drop i=l.getD i BT::l.drop (i+1):=by
 rw[ph h];simp[List.getD,h]
def Y4(K:SK)(at':Nat)(w:World)(s:vW)(w':World)(e:Ending):Prop:=∃r s',e=.returned (.bool r)/\jQ w' K s'/\Below K.B w w'/\ZQ (qO K) (K.sw.drop at') s s' r
theorem Yy(K:SK)(ok:Je K):∀(m at':Nat) (w:World) (s:vW),at'+m=K.sw.length->jQ w K s ->
 Calls prog 143 #[.pointer (some ⟨K.b,0,none⟩),.int .i64 (at':Nat)] w λe w'=>Y4 K at' w s w' e:=by
 intro m
 induction m with
 | zero =>
   intro at' w s hm h;have HB:=zA (B1 w K s ok h)
   have HP:Hid (∀w',Below w.heap.size w w'->Y4 K at' w s w' (.returned (.bool (qO K s)))):=λw' hb=>by
    refine⟨_,s,rfl,h.below hb,hb.mono (tu ok.EW (p7 (zP h.hd))),?_⟩;rw[pf (by omega)];exact zd _ _
   have hc:=h.cells;have tA:w.cell? ⟨K.b,11,none⟩=some (.slice K.sa K.sw.length K.sc):=hc 11;have hi:¬(at':Int)<(K.sw.length:Int):=(by omega);have se:(K.sw.length:Int)<=(at':Int):=(by omega);clear h hc hm;generalize qO K s=aw at *;generalize K.sw.length=n at *
   go_enter func143,ntmps143
   go_wp2_with fail
   refine HB.out.mono ?_;rintro e w1 ⟨rfl,hb1⟩;have HQ:=zA (HP.out w1 hb1);clear hb1;go_wp2_with fail
   first|exact HQ.out|(go_ret;exact HQ.out)
 | succ m ih =>
   intro at' w s hm h;have aC:at'<K.sw.length:=by omega
   have hf:=ok.sw;have hdr:=P7 K.sw at' aC;have nD:K.sw.getD at' BT∈K.sw:=(by simp[List.getD,aC]);have HI:Hid (∀w1 s1,jQ w1 K s1->Calls prog 143 #[.pointer (some ⟨K.b,0,none⟩),.int .i64 ((at':Int)+1)] w1 λe w'=>∃r s',e=.returned (.bool r)/\jQ w' K s'/\Below K.B w1 w'/\ZQ (qO K) (K.sw.drop (at'+1)) s1 s' r):=λw1 s1 h1=>ih (at'+1) w1 s1 (by omega) h1;have HT:Hid (∀w1 s1 (v:Nat),jQ w1 K s1->Calls prog 176 #[.pointer (some ⟨K.b,0,none⟩),.agg #[.bool (K.sw.getD at' BT).flag,.int .i64 ((K.sw.getD at' BT).place:Nat)],.int .i64 (v:Nat)] w1 λe w'=>e=.returned (.tuple #[])/\jQ w' K (jP s1 (K.sw.getD at' BT) v)/\Below K.B w1 w'):=λw1 s1 v h1=>M8 w1 K s1 _ v ok nD h1;have HC:Hid (∀w1 s1,jQ w1 K s1->w1.cell? ⟨K.b,11,none⟩=some (.slice K.sa K.sw.length K.sc)/\∃g,K.sa=some ⟨g,0,none⟩/\w1.cell? ⟨g,at'*2,none⟩=some (.bool (K.sw.getD at' BT).flag)/\w1.cell? ⟨g,at'*2+1,none⟩=some (.int .i64 ((K.sw.getD at' BT).place:Nat))):=λw1 s1 h1=>⟨h1.cells 11,h1.EO aC⟩;have HY:Hid (∀v s1 s2 w2,v<=1->YV (qO K) (K.sw.getD at' BT) (K.sw.drop (at'+1)) s s1 v->jQ w2 K s2->Below K.B w w2->ZQ (qO K) (K.sw.drop (at'+1)) (jP s1 (K.sw.getD at' BT) v) s2 true->Y4 K at' w s w2 (.returned (.bool true))):=λv s1 s2 w2 hv h1 h2 h3 h4=>⟨true,s2,rfl,h2,h3,by rw[hdr];exact ze hv h1 h4⟩;have HN:Hid (∀s1 w1,YV (qO K) (K.sw.getD at' BT) (K.sw.drop (at'+1)) s s1 2->jQ w1 K s1->Below K.B w w1->Y4 K at' w s w1 (.returned (.bool false))):=λs1 w1 h1 h2 h3=>⟨false,s1,rfl,h2,h3,by rw[hdr];exact zg h1⟩;have ed:=zA (Cr (qO K) (K.sw.getD at' BT) (K.sw.drop (at'+1)) s);have HS:=zA h;have ql:=(HC.out w s h).1;have gM:(at':Int)<(K.sw.length:Int):=(by omega);have gN:decide (K.sw.length<=at')=false:=ty (by omega);have gL:¬K.sw.length<=at':=(by omega);clear h ih hdr nD ok hm;generalize K.sw.getD at' BT=T at *;generalize K.sw.drop (at'+1)=S at *;generalize qM:K.sw.length=n at *;clear qM;obtain⟨Tf,Tp⟩:=T;simp only at HT HC
   go_enter func143,ntmps143
   go_wp2_with fail
   go_loopw [5] (λiv wr=>∃(v:Nat) (s1:vW),v<=2/\iv=.int .i64 v/\Hid (jQ wr K s1)/\Hid (Below K.B w wr)/\Hid (YV (qO K) ⟨Tf,Tp⟩ S s s1 v)) (λiv _=>2-(intOf iv).toNat)
   case atStart=>exact⟨0,s,by omega,rfl,HS,zA (tl _ _),ed⟩
   case round =>
    obtain⟨v,s1,hv,rfl,bo,dU,bT⟩:=hrel;by_cases hv1:v<=1
    ·obtain⟨mv,g,ea,k0,k1⟩:=HC.out wr s1 bo.out
     rw[ea]at mv;have jL:(v:Int)<=1:=by omega
     have qy:=zA (HT.out wr s1 v bo.out);clear ea;go_wp2_with fail
     refine qy.out.mono ?_;rintro e w2 ⟨rfl,fB,gl⟩;have iD:=zA fB;have aS:Hid (Below K.B w w2):=dU.out.trans gl;have eh:=zA (HI.out w2 _ fB);clear fB gl mv k0 k1;go_wp2_with fail
     refine eh.out.mono ?_;rintro e w3 ⟨r,s3,rfl,aX,cC,bR⟩;have ak:Hid (Below K.B w w3):=aS.out.trans cC;cases r
     ·have iX:=zA (Sw bT.out bR)
      have cM:=zA aX;clear aX cC bR;go_wp2_with fail
      go_roundw
      case rel=>exact⟨v+1,s3,by omega,by go_num,cM,ak,iX⟩
      case measure=>simp[intOf];omega
     ·have HQ:=zA (HY.out v s1 s3 w3 hv1 bT.out aX ak.out bR)
      clear aX cC bR;go_wp2_with fail
      first|exact HQ.out|(go_ret;exact HQ.out)
    ·obtain rfl:v=2:=by omega
     have HQ:=zA (HN.out s1 wr bT.out bo.out dU.out);go_wp2_with fail
     first|exact HQ.out|(go_ret;exact HQ.out)
theorem MS:(prog.info? 221).map (·.size)=some 2:=by kernel_rfl
def Eb:lX:=⟨0,0,0⟩
def E3(r:Nat)(n:lX)(s:Int × Int):Int × Int:=if n.aq=r then (if s.1<n.lo then n.lo else s.1,if n.hi<s.2 then n.hi else s.2) else s
theorem KJ(r:Nat)(L:List lX)(i:Nat)(s:Int × Int)(h:i<L.length):kF r (L.drop i) s=kF r (L.drop (i+1)) (E3 r (L.getD i Eb) s):=by
 rw[ph h,kF];simp[List.getD,h,E3]
theorem js{i:Nat}(h:i<np):(bA np Z rk).getD i Eb=⟨(Z i).1,(Z i).2,rk i⟩:=by simp[bA,List.getD,h]
def AR(a b:Int):Obj:=.cells #[.int .i64 a,.int .i64 b] 221 (0,0)
structure zGN(w wr:World)(x y:Int):Prop where
 af:Below w.heap.size w wr
 sz:w.heap.size+2<=wr.heap.size
 res:wr.heap[w.heap.size]? = some (.cells #[.int .i64 0,.int .i64 0] 221 (0,0))
 zn:wr.heap[w.heap.size+1]? = some (.cells #[.int .i64 x,.int .i64 y] 221 (0,0))
theorem zGN.alloc{x y:Int}(h:zGN w wr x y)(o:Obj):zGN w (wr.alloc o) x y:=⟨h.af.alloc (by have:=h.sz;omega) o,by have:=h.sz;simp;omega,yD h.res,yD h.zn⟩
theorem zGN.sq{x y:Int}(h:zGN w wr x y)(v:Int):zGN w (wr.setCell ⟨w.heap.size+1,0,none⟩ (.int .i64 v)) v y :=
 ⟨h.af.setCell (p:=⟨w.heap.size+1,0,none⟩) (my _) _,by have:=h.sz;simp[World.setCell];exact this,by rw[bh wr ⟨w.heap.size+1,0,none⟩ w.heap.size _ (by simp)];exact h.res,by rw[p9 wr _ 0 _ _ _ h.zn];simp⟩
theorem zGN.od{x y:Int}(h:zGN w wr x y)(v:Int):zGN w (wr.setCell ⟨w.heap.size+1,1,none⟩ (.int .i64 v)) x v :=
 ⟨h.af.setCell (p:=⟨w.heap.size+1,1,none⟩) (my _) _,by have:=h.sz;simp[World.setCell];exact this,by rw[bh wr ⟨w.heap.size+1,1,none⟩ w.heap.size _ (by simp)];exact h.res,by rw[p9 wr _ 1 _ _ _ h.zn];simp⟩
theorem KI(w:World)(K:SK)(s:vW)(r:Nat)(ok:Je K)(h:jQ w K s) :
 Calls prog 173 #[.pointer (some ⟨K.b,0,none⟩),.int .i64 (r:Nat)] w λe w'=>e=.returned (.agg #[.int .i64 (uC (bA K.np s.Z s.rk) r).1,.int .i64 (uC (bA K.np s.Z s.rk) r).2])/\Below w.heap.size w w':=by
 have HS:=zA h;have ax:w.cell? ⟨K.b,10,none⟩=some (.slice K.na K.np K.nc):=h.cells 10;have lb:=uM ax;have nb:w.heap.size≠K.b:=by omega
 have fA:=ok.np;have HL:=zA (aA K.np s.Z s.rk);have mS:=zA (λi (hi:i<K.np)=>js (Z:=s.Z) (rk:=s.rk) hi);have im:Hid (kF r ((bA K.np s.Z s.rk).drop 0) (0,9999)=uC (bA K.np s.Z s.rk) r):=rfl;generalize bA K.np s.Z s.rk=L at *;generalize uC L r=aw at *;obtain⟨a1,a2⟩:=aw;simp only;have mC:Hid (0<K.np->K.na=some ⟨K.gn,0,none⟩):=λh0=>(h.rN h0).1;clear h ok;generalize K.na=na at *
 go_enter func173,ntmps173
 go_wp2_with fail
 generalize jW:Obj.cells #[Value.int .i64 0,.int .i64 0] 221=O1 at *;have y0:((w.alloc O1).alloc (AR 0 9999)).heap[w.heap.size]? = some (AR 0 0):=jW ▸ yD (zF _ _);have y1:((w.alloc O1).alloc (AR 0 9999)).heap[w.heap.size+1]? = some (AR 0 9999):=uA _ _ _ (by simp);have hb0:Below w.heap.size w ((w.alloc O1).alloc (AR 0 9999)):=(fk (tg _) _).alloc (by simp) _;have hs0:w.heap.size+2<=((w.alloc O1).alloc (AR 0 9999)).heap.size:=by simp
 unfold AR at y0 y1 hb0 hs0;have qx:=zA y0;have gy:=zA y1;have ar:=zA hb0;clear y0 y1 hb0 jW;generalize (w.alloc O1).alloc (.cells #[.int .i64 0,.int .i64 9999] 221 (0,0))=w0 at *
 go_loopw [14] (λiv wr=>∃(i:Nat) (lo hi:Int),i<=K.np/\iv=.int .i64 i/\Hid (zGN w wr lo hi)/\Hid (kF r (L.drop i) (lo,hi)=(a1,a2))) (λiv _=>K.np-(intOf iv).toNat)
 case atStart=>exact⟨0,0,9999,p8,rfl,zA ⟨ar.out,hs0,qx.out,gy.out⟩,im⟩
 case round =>
  obtain⟨i,lo,hi,e7,rfl,HI,HE⟩:=hrel;have HB:=zA HI.out.af;have dV:=HI.out.sz;have cL:=zA HI.out.res;have lJ:=zA HI.out.zn;have z0:wr.cell? ⟨w.heap.size+1,0,none⟩=some (.int .i64 lo):=zC lJ.out 0;have z1:wr.cell? ⟨w.heap.size+1,1,none⟩=some (.int .i64 hi):=zC lJ.out 1;have y1:∀j,wr.frozen? ⟨w.heap.size+1,j,none⟩=false:=λj=>by simp[World.frozen?,lJ.out]
  by_cases aC:i<K.np
  ·have ii:(i:Int)<(K.np:Int):=by omega
   obtain⟨-,n0,n1,n2,n3,n4,-⟩:=(HS.out.below HB.out).num aC;have ea:=mC.out (by omega);subst ea;have hE:=HE.out;rw[KJ r L i (lo,hi) (by rw[HL.out];exact aC),mS.out i aC]at hE;have aD:=zA hE;have lg:=uM n0;have ng:wr.heap.size≠K.gn:=by omega
   have m1:wr.heap.size≠w.heap.size+1:=(by omega);have m2:w.heap.size+1<wr.heap.size:=(by omega);have m3:w.heap.size+1≠wr.heap.size:=(by omega);clear HE hE;generalize K.P i=pp at *;generalize K.za i=za at *;generalize (K.zs i).length=zl at *;generalize K.zc i=zc at *;generalize s.Z i=zz at *;generalize s.rk i=rr at *;obtain⟨dQ,cy⟩:=zz;simp only at n2 n3 aD;unfold E3 at aD;simp only at aD;by_cases k0:rr=r
   ·subst k0
    rw[tr rfl]at aD;by_cases k1:lo<dQ
    ·rw[tr k1]at aD
     by_cases k2:cy<hi
     ·rw[tr k2]at aD
      go_wp2_with fail
      go_roundw
      case rel=>exact⟨i+1,dQ,cy,by omega,by go_num,zA (((HI.out.sq dQ).od cy).alloc _),aD⟩
      case measure=>simp[intOf];omega
     ·rw[tj k2]at aD
      go_wp2_with fail
      go_roundw
      case rel=>exact⟨i+1,dQ,hi,by omega,by go_num,zA ((HI.out.sq dQ).alloc _),aD⟩
      case measure=>simp[intOf];omega
    ·rw[tj k1]at aD
     by_cases k2:cy<hi
     ·rw[tr k2]at aD
      go_wp2_with fail
      go_roundw
      case rel=>exact⟨i+1,lo,cy,by omega,by go_num,zA ((HI.out.od cy).alloc _),aD⟩
      case measure=>simp[intOf];omega
     ·rw[tj k2]at aD
      go_wp2_with fail
      go_roundw
      case rel=>exact⟨i+1,lo,hi,by omega,by go_num,zA (HI.out.alloc _),aD⟩
      case measure=>simp[intOf];omega
   ·rw[tj k0]at aD
    have b0:((rr:Int)==(r:Int))=false:=(by rw[lj];omega);have b1:((rr:Int) != (r:Int))=true:=(by simp only[bne,b0];rfl);clear k0;go_wp2_with fail
    go_roundw
    case rel=>exact⟨i+1,lo,hi,by omega,by go_num,zA (HI.out.alloc _),aD⟩
    case measure=>simp[intOf];omega
  ·have ii:¬(i:Int)<(K.np:Int):=by omega
   have aD:Hid ((lo,hi)=(a1,a2)):=(by have:=HE.out;rw[pf (by rw[HL.out];omega)]at this;exact this);have r5:wr.cell? ⟨w.heap.size,0,none⟩=some (.int .i64 0):=zC cL.out 0;have rz:wr.cell? ⟨w.heap.size,1,none⟩=some (.int .i64 0):=zC cL.out 1;have y0:∀j,wr.frozen? ⟨w.heap.size,j,none⟩=false:=λj=>by simp[World.frozen?,cL.out]
   have cU:Hid (((wr.setCell ⟨w.heap.size,0,none⟩ (.int .i64 lo)).setCell ⟨w.heap.size,1,none⟩ (.int .i64 hi)).heap[w.heap.size]? = some (.cells #[.int .i64 lo,.int .i64 hi] 221 (0,0))):=by
    have q1:=p9 wr _ 0 _ _ (.int .i64 lo) cL.out;have q2:=p9 _ _ 1 _ _ (.int .i64 hi) q1;unfold Hid;rw[q2];simp
   have mO:Hid (Below w.heap.size w ((wr.setCell ⟨w.heap.size,0,none⟩ (.int .i64 lo)).setCell ⟨w.heap.size,1,none⟩ (.int .i64 hi))):=(HB.out.setCell (by simp) _).setCell (by simp) _;go_wp2_with fail
   refine pe (v:=.agg #[.int .i64 lo,.int .i64 hi]) (results_cell_row results173 _ _ w.heap.size 221 #[.int .i64 lo,.int .i64 hi] (0,0) _ rfl cU.out underlying221 rfl MS) rfl ⟨?_,mO.out⟩;have:=aD.out;simp only[Prod.mk.injEq]at this;rw[this.1,this.2]
theorem qv(r:Nat)(L:List lX)(i:Nat)(h:i<L.length):dB r (L.drop i)=(if (L.getD i Eb).aq=r then 1 else 0)+dB r (L.drop (i+1)):=by
 rw[ph h,dB];simp[List.getD,h]
theorem Bt(r:Nat)(L:List lX):dB r L<=L.length:=by
 induction L with
 | nil=>simp[dB]
 | cons n L ih=>rw[dB,pb];split <;> omega
def cF(K:SK)(s:vW)(r:Nat)(v:Int)(i:Nat)(x:Nat):Int:=if (List.range i).any (λp=>decide (K.P p=x)&&decide (s.rk p=r))=true then v else s.inp x
theorem yw(K:SK)(s:vW)(r:Nat)(v:Int):cF K s r v 0=s.inp:=by funext x;unfold cF;simp
theorem yx(K:SK)(s:vW)(r:Nat)(v:Int)(i:Nat)(h:s.rk i≠r):cF K s r v (i+1)=cF K s r v i:=by
 funext x;unfold cF;rw[bf,List.any_append];simp[h]
theorem OY(K:SK)(s:vW)(r:Nat)(v:Int)(i:Nat)(h:s.rk i=r):cF K s r v (i+1) (K.P i)=v:=by
 unfold cF;rw[bf,List.any_append];simp[h]
theorem CL(K:SK)(s:vW)(r:Nat)(v:Int)(i x:Nat)(h:x≠K.P i):cF K s r v (i+1) x=cF K s r v i x:=by
 have:(K.P i=x)=False:=eq_false λe=>h e.symm;unfold cF;rw[bf,List.any_append];simp[this]
theorem OX(w:World)(K:SK)(s:vW)(r:Nat)(v:Int)(ok:Je K)(h:jQ w K s) :
 Calls prog 174 #[.pointer (some ⟨K.b,0,none⟩),.int .i64 (r:Nat),.int .i64 v] w λe w'=>e=.returned (.int .i64 (dB r (bA K.np s.Z s.rk):Nat))/\jQ w' K { s with inp:=cF K s r v K.np }/\zB w.heap.size K.gi w w':=by
 have ax:w.cell? ⟨K.b,10,none⟩=some (.slice K.na K.np K.nc):=h.cells 10;have lb:=uM ax;have fA:=ok.np;have hn:=ok.n;have lh:Hid (jQ w K { s with inp:=cF K s r v 0 }):=by unfold Hid;rw[yw];exact h
 have HL:=zA (aA K.np s.Z s.rk);have mS:=zA (λi (hi:i<K.np)=>js (Z:=s.Z) (rk:=s.rk) hi);have im:Hid (0+dB r ((bA K.np s.Z s.rk).drop 0)=dB r (bA K.np s.Z s.rk)):=by unfold Hid;simp
 have dN:=zA (Bt r (bA K.np s.Z s.rk));have HP:=zA ok.P;generalize bA K.np s.Z s.rk=L at *;generalize dB r L=aw at *;have mC:Hid (0<K.np->K.na=some ⟨K.gn,0,none⟩):=λh0=>(h.rN h0).1;clear h ok;generalize K.na=na at *
 go_enter func174,ntmps174
 go_wp2_with fail
 go_loopw [7,15] (λnv iv wr=>∃(i n:Nat),i<=K.np/\n<=i/\nv=.int .i64 n/\iv=.int .i64 i/\Hid (zB w.heap.size K.gi w wr)/\Hid (jQ wr K { s with inp:=cF K s r v i })/\Hid (n+dB r (L.drop i)=aw)) (λ_ iv _=>K.np-(intOf iv).toNat)
 case atStart=>exact⟨0,0,p8,tg _,rfl,rfl,zA (zB.refl _ _ _),lh,im⟩
 case round =>
  obtain⟨i,n,hi,sS,rfl,rfl,HB,HS,HE⟩:=hrel;have c5:=HB.out.size;by_cases aC:i<K.np
  ·have ii:(i:Int)<(K.np:Int):=by omega
   obtain⟨-,n0,n1,n2,n3,n4,-⟩:=HS.out.num aC;have ea:=mC.out (by omega);subst ea;simp only at n2 n3 n4;have d12:wr.cell? ⟨K.b,12,none⟩=some (.slice (some ⟨K.gi,0,none⟩) K.n K.n):=HS.out.cells 12;have hE:=HE.out;rw[qv r L i (by rw[HL.out];exact aC),mS.out i aC]at hE;have aD:=zA hE;have lg:=uM n0;have ng:wr.heap.size≠K.gn:=by omega
   have pR:=uM d12;have pH:wr.heap.size≠K.b:=(by omega);have jJ:=HS.out.rI.lt;have mr:wr.heap.size≠K.gi:=(by omega);have fV:K.gi≠wr.heap.size:=(by omega);have pG:K.gi≠K.b:=λe=>by obtain⟨cs,q,_⟩:=HS.out.rI;exact Qh q HS.out.hd (by decide) e
   have pF:=pG.symm;have e9:=HP.out i aC;have nM:(K.P i:Int)<(K.n:Int):=(by omega);have fK:Hid (s.rk i≠r->∀o,jQ (wr.alloc o) K { s with inp:=cF K s r v (i+1) }/\zB w.heap.size K.gi w (wr.alloc o)):=λaL o=>⟨by rw[yx K s r v i aL];exact HS.out.below (fk (tg _) o),HB.out.alloc c5 o⟩
   have aQ:Hid (s.rk i=r->∀w',Below (wr.setCell ⟨K.gi,K.P i,none⟩ (.int .i64 v)).heap.size (wr.setCell ⟨K.gi,K.P i,none⟩ (.int .i64 v)) w'->jQ w' K { s with inp:=cF K s r v (i+1) }/\zB w.heap.size K.gi w w'):=λhe w' hb=>by
    have h1:=HS.out.hY e9 v (OY K s r v i he) (λx _ hx=>CL K s r v i x hx);refine⟨h1.below hb,?_⟩;have hk:=HB.out.setCell (p:=⟨K.gi,K.P i,none⟩) (.inr rfl) (.int .i64 v);exact hk.trans (zB.az (hb.mono (by have:=hk.size;exact this)))
   have hW:Hid (∀w',Below wr.heap.size wr w'->w'.cell? ⟨K.gi,K.P i,none⟩=some (.int .i64 (cF K s r v i (K.P i)))/\w'.frozen? ⟨K.gi,K.P i,none⟩=false):=λw' hb=>⟨(HS.out.below hb).rI.cell e9,(HS.out.below hb).rI.free _⟩;clear HE hE;generalize cF K s r v i (K.P i)=old at *;generalize K.P i=pp at *;generalize K.za i=za at *;generalize (K.zs i).length=zl at *;generalize K.zc i=zc at *;generalize s.Z i=zz at *;generalize s.rk i=rr at *;obtain⟨dQ,cy⟩:=zz;simp only at n2 n3 aD;by_cases k0:rr=r
   ·have il:Hid (n+1+dB r (L.drop (i+1))=aw):=by have:=aD.out;rw[tr k0]at this;unfold Hid;omega
    have hD:=zA (aQ.out k0);clear aD fK aQ;subst k0
    go_upto_region 6 with fail
    obtain⟨d1,d2⟩:=hW.out (wr.alloc (.cells #[.int .i64 (pp:Nat),.slice za zl zc,.int .i64 dQ,.int .i64 cy,.int .i64 (rr:Nat)] 223)).drew (md (fk (tg _) _));have e2:((wr.setCell ⟨K.gi,pp,none⟩ (.int .i64 v)).alloc (.cells #[.int .i64 (pp:Nat),.slice za zl zc,.int .i64 dQ,.int .i64 cy,.int .i64 (rr:Nat)] 223)).cell? ⟨wr.heap.size,0,none⟩=some (.int .i64 (pp:Nat)):=zC (uA _ _ _ (by simp[World.setCell])) 0
    go_region_held3 (λw'=>w'.cell? ⟨K.b,12,none⟩=some (.slice (some ⟨K.gi,0,none⟩) K.n K.n)/\w'.cell? ⟨wr.heap.size,0,none⟩=some (.int .i64 (pp:Nat))) (go_keep) (fail)
    all_goals
     go_wp2_with fail
     go_roundw
     case rel=>exact⟨i+1,n+1,by omega,by omega,by go_num,by go_num,zA (hD.out _ (md (fk (tg _) _))).2,zA (hD.out _ (md (fk (tg _) _))).1,il⟩
     case measure=>simp[intOf];omega
   ·have il:Hid (n+dB r (L.drop (i+1))=aw):=by have:=aD.out;rw[tj k0]at this;unfold Hid;omega
    have hT:=zA (fK.out k0);have b0:((rr:Int)==(r:Int))=false:=(by rw[lj];omega);clear aD fK aQ k0;go_wp2_with fail
    go_roundw
    case rel=>exact⟨i+1,n,by omega,by omega,by first|rfl|go_num,by go_num,zA (hT.out _).2,zA (hT.out _).1,il⟩
    case measure=>simp[intOf];omega
  ·have ii:¬(i:Int)<(K.np:Int):=by omega
   obtain rfl:i=K.np:=by omega
   have aD:Hid (n=aw):=(by have:=HE.out;rw[pf (by rw[HL.out];omega)]at this;unfold Hid;simpa[dB] using this);clear HE;go_wp2_with fail
   go_ret
   exact⟨yY (gk (λ(x:Nat)=>(x:Int)) aD.out),HS.out,HB.out⟩
structure sX(K:SK)(s s1:vW)(r:Nat)(out:List Int):Prop where
 z:s1.Z=s.Z/\s1.rk=s.rk/\s1.has=s.has
 off:∀i,(∀p,p<K.np->K.P p≠i)->s1.inp i=s.inp i
 num:∀p,p<K.np->s.rk p<r->s1.inp (K.P p)=out.getD (s.rk p) 0
 len:out.length=r
theorem Ue(K:SK)(s:vW):sX K s s 0 []:=⟨⟨rfl,rfl,rfl⟩,λ_ _=>rfl,λp _ h=>x' h (by omega),rfl⟩
theorem Up(K:SK)(s:vW)(r:Nat)(v:Int)(x:Nat)(h:∀p,p<K.np->K.P p=x->s.rk p≠r):cF K s r v K.np x=s.inp x:=by
 unfold cF;rw[tj];intro hh;obtain⟨p,hp,hq⟩:=mw.1 hh;rw[ma,ml,ml]at hq;exact h p (by simpa using hp) hq.1 hq.2
theorem OZ(K:SK)(s:vW)(r:Nat)(v:Int)(p:Nat)(hp:p<K.np)(h:s.rk p=r):cF K s r v K.np (K.P p)=v:=by
 unfold cF;rw[tr];exact mw.2 ⟨p,by simpa using hp,by simp[h]⟩
theorem YE{K:SK}(inj:∀p q,p<K.np->q<K.np->K.P p=K.P q->p=q){r:Nat}(h:sX K s s1 r out)(v:Int):sX K s { s1 with inp:=cF K s1 r v K.np } (r+1) (out++[v]):=by
 refine⟨h.z,λi hi=>?_,λp hp hr=>?_,by simp[h.len]⟩
 ·rw[<-h.off i hi];exact Up K s1 r v i λp hp e=>x' e (hi p hp)
 ·have hl:=h.len
  by_cases cq:s.rk p=r
  ·rw[show ({ s1 with inp:=cF K s1 r v K.np }:vW).inp (K.P p)=v from OZ K s1 r v p hp (by rw[h.z.2.1];exact cq)]
   rw[cq,<-hl];simp[List.getD]
  ·have e:({ s1 with inp:=cF K s1 r v K.np }:vW).inp (K.P p)=s1.inp (K.P p):=Up K s1 r v _ λq hq e=>by
    rw[inj q p hq hp e,h.z.2.1];exact cq
   rw[e,h.num p hp (by omega)];simp[List.getD,mj (show s.rk p<out.length by omega)]
theorem C0{K:SK}{r:Nat}(h:sX K s s1 r out)(hs:fN (bA K.np s.Z s.rk)=some out)(hr:∀p,p<K.np->s.rk p<r):wT K.np K.P s s1 true :=
 ⟨h.z,h.off,λ_=>⟨out,hs,λp hp=>h.num p hp (hr p hp)⟩,λh=>x' h (by simp)⟩
theorem zt{K:SK}{r:Nat}(h:sX K s s1 r out)(hs:fN (bA K.np s.Z s.rk)=none):wT K.np K.P s s1 false :=
 ⟨h.z,h.off,λh=>x' h (by simp),λ_=>hs⟩
theorem NI{r:Nat}(h:mR r (bA np Z rk)=np):∀p,p<np->rk p<r:=λp hp =>
 wK (L:=bA np Z rk) (by rw[aA];exact h) (⟨(Z p).1,(Z p).2,rk p⟩:lX) (pd.2 ⟨p,by simpa using hp,rfl⟩)
def VB(K:SK)(w:World)(s:vW)(w':World)(e:Ending):Prop:=∃r s',e=.returned (.bool r)/\jQ w' K s'/\Below K.B w w'/\wT K.np K.P s s' r
theorem KL(w:World)(K:SK)(s:vW)(ok:Je K)(av:∀p,p<K.np->s.rk p<K.np)(h:jQ w K s) :
 Calls prog 142 #[.pointer (some ⟨K.b,0,none⟩)] w λe w'=>VB K w s w' e:=by
 have ax:w.cell? ⟨K.b,10,none⟩=some (.slice K.na K.np K.nc):=h.cells 10;have lb:=uM ax;have aU:K.B<=w.heap.size:=tu ok.EW (p7 lb);have fA:=ok.np;have lh:=zA h;have oX:=zA (aA K.np s.Z s.rk);have im:Hid (Yf (bA K.np s.Z s.rk) (K.np-0) 0 0 0 []=fN (bA K.np s.Z s.rk)):=by unfold Hid fN;rw[aA];rfl
 have rM:Hid (0=mR 0 (bA K.np s.Z s.rk)):=(wG _).symm;have ed:=zA (Ue K s);have HY:Hid (∀s1 w1 r out,sX K s s1 r out->fN (bA K.np s.Z s.rk)=some out->(∀p,p<K.np->s.rk p<r)->jQ w1 K s1->Below K.B w w1->VB K w s w1 (.returned (.bool true))):=λs1 w1 r out h1 h2 h3 h4 h5=>⟨true,s1,rfl,h4,h5,C0 h1 h2 h3⟩;have HN:Hid (∀s1 w1 r out,sX K s s1 r out->fN (bA K.np s.Z s.rk)=none->jQ w1 K s1->Below K.B w w1->VB K w s w1 (.returned (.bool false))):=λs1 w1 r out h1 h2 h4 h5=>⟨false,s1,rfl,h4,h5,zt h1 h2⟩;have rf:Hid (∀r,mR r (bA K.np s.Z s.rk)=K.np->∀p,p<K.np->s.rk p<r):=λr h=>NI h
 have rE:Hid (∀r w1 s1,jQ w1 K s1->s1.Z=s.Z->s1.rk=s.rk->Calls prog 173 #[.pointer (some ⟨K.b,0,none⟩),.int .i64 (r:Nat)] w1 λe w'=>e=.returned (.agg #[.int .i64 (uC (bA K.np s.Z s.rk) r).1,.int .i64 (uC (bA K.np s.Z s.rk) r).2])/\Below w1.heap.size w1 w'):=λr w1 s1 h1 h2 h3=>by
  have:=KI w1 K s1 r ok h1;rw[h2,h3]at this;exact this
 have ly:Hid (∀r v w1 s1,jQ w1 K s1->s1.Z=s.Z->s1.rk=s.rk->Calls prog 174 #[.pointer (some ⟨K.b,0,none⟩),.int .i64 (r:Nat),.int .i64 v] w1 λe w'=>e=.returned (.int .i64 (dB r (bA K.np s.Z s.rk):Nat))/\jQ w' K { s1 with inp:=cF K s1 r v K.np }/\zB w1.heap.size K.gi w1 w'):=λr v w1 s1 h1 h2 h3=>by
  have:=OX w1 K s1 r v ok h1;rw[show bA K.np s1.Z s1.rk=bA K.np s.Z s.rk by rw[h2,h3]]at this;exact this
 have ie:=zA (λr=>iL r (bA K.np s.Z s.rk) (0,9999));have dN:=zA (λr=>Bt r (bA K.np s.Z s.rk));have oW:=zA (λr=>(Yw r (bA K.np s.Z s.rk)).1);have rB:=zA (λr=>wH r (bA K.np s.Z s.rk));have fL:=zA av;have gz:=ok.gz;have oZ:=zA ok.inj;rw[oX.out]at oW dN;generalize bA K.np s.Z s.rk=L at *;clear h ok av
 go_enter func142,ntmps142
 go_wp2_with fail
 go_loopw [3,4,13] (λlv pv iv wr=>∃(r pl:Nat) (vL:Int) (out:List Int) (s1:vW),r<=K.np/\lv=.int .i64 vL/\pv=.int .i64 pl/\iv=.int .i64 r /\ -1<=vL/\vL<=10000/\Hid (Below K.B w wr)/\Hid (jQ wr K s1)/\Hid (sX K s s1 r out)/\Hid (pl=mR r L)/\Hid (Yf L (K.np-r) r vL pl out=fN L)) (λ_ _ iv _=>K.np-(intOf iv).toNat)
 case atStart=>exact⟨0,0,0,[],s,p8,rfl,rfl,rfl,by omega,by omega,zA (tl _ _),lh,ed,rM,im⟩
 case round =>
  obtain⟨r,pl,vL,out,s1,hr,rfl,rfl,rfl,sV,sU,HB,HS,HM,dL,HE⟩:=hrel;have c5:=HB.out.size;have qG:pl<=K.np:=by rw[dL.out];exact oW.out r
  have d10:wr.cell? ⟨K.b,10,none⟩=some (.slice K.na K.np K.nc):=HS.out.cells 10;by_cases aC:r<K.np
  ·have ii:(r:Int)<(K.np:Int):=by omega
   have hE:=HE.out;rw[show K.np-r=(K.np-(r+1))+1 by omega,Yf,oX.out]at hE;by_cases k0:pl=K.np
   ·rw[tr k0]at hE
    have HQ:=zA (HY.out s1 wr r out HM.out hE.symm (rf.out r (by rw[<-dL.out];exact k0)) HS.out HB.out);clear hE HE;subst k0;go_wp2_with fail
    first|exact HQ.out|(go_ret;exact HQ.out)
   rw[tj k0]at hE;have aD:=zA hE;have b0:((pl:Int)==(K.np:Int))=false:=by rw[lj];omega
   have hV:=zA (rE.out r wr s1 HS.out HM.out.z.1 HM.out.z.2.1);have j5:=ie.out r;have iM:=zA (λv w' (hb:Below wr.heap.size wr w')=>ly.out r v w' s1 (HS.out.below hb) HM.out.z.1 HM.out.z.2.1);have hg1:0<=(uC L r).1:=j5.1;have qb:(uC L r).2<=9999:=j5.2.1;have sk:=dN.out r;have hC:=zA (rB.out r);clear j5 hE HE k0 ax;generalize uC L r=sh at *;generalize dB r L=cn at *;obtain⟨h1,h2⟩:=sh;simp only at aD hV hg1 qb;have pH:∀(w':World),Below wr.heap.size wr w'->K.b<w'.heap.size:=λw' hb=>by have:=hb.size;have:=uM d10;omega
   go_wp2_with fail
   refine hV.out.mono ?_;rintro e w2 ⟨rfl,aN⟩;have aS:=zA aN;have bw:=aN.size
   have ig:Hid (∀v w',Below w2.heap.size w2 w'->w'.heap[w2.heap.size]? = some (.cells #[.int .i64 v,.int .i64 h2] 221 (0,0))->∀w3,zB w'.heap.size K.gi w' w3->w3.cell? ⟨w2.heap.size,0,none⟩=some (.int .i64 v)/\Below K.B w w3):=λv w' hb hz w3 hk=>by
    have aL:w2.heap.size≠K.gi:=λe=>by have:=(HS.out.below aS.out).rI.lt;omega
    refine⟨?_,?_⟩
    ·rw[hk.cell (p:=⟨w2.heap.size,0,none⟩) (zP hz) aL];exact(zC hz 0).trans rfl
    ·exact(HB.out.trans ((aS.out.trans (hb.mono bw)).mono (by omega))).trans (hk.below (by have:=hb.size;omega) gz)
   have bV:Hid (∀w',Below w2.heap.size w2 w'->Below wr.heap.size wr w'/\Below K.B w w'):=λw' hb=>⟨aS.out.trans (hb.mono bw),HB.out.trans ((aS.out.trans (hb.mono bw)).mono (by omega))⟩;clear aN d10;by_cases k1:h1<vL
   ·simp only[tr k1]at aD
    have hz:(w2.alloc (.cells #[.int .i64 vL,.int .i64 h2] 221)).heap[w2.heap.size]? = some (.cells #[.int .i64 vL,.int .i64 h2] 221 (0,0)):=zF _ _;have gU:Below w2.heap.size w2 (w2.alloc (.cells #[.int .i64 vL,.int .i64 h2] 221)):=fk (tg _) _;have HZ:=zA hz;have bU:=zA gU;clear hz gU;by_cases k2:h2<vL
    ·rw[tr k2]at aD
     have HQ:=zA (HN.out s1 _ r out HM.out aD.out.symm (HS.out.below (bV.out _ bU.out).1) (bV.out _ bU.out).2);go_wp2_with fail
     first|exact HQ.out|(go_ret;exact HQ.out)
    ·rw[tj k2]at aD
     have lz:=zA (iM.out vL _ (bV.out _ bU.out).1);have ik:=zA (ig.out vL _ bU.out HZ.out);have aQ:=zA (YE oZ.out HM.out vL);go_wp2_with fail
     refine lz.out.mono ?_;rintro e w3 ⟨rfl,aX,gP⟩;obtain⟨f1,f2⟩:=ik.out w3 gP;have cM:=zA aX;have ak:=zA f2;clear aX gP f2;by_cases k3:cn=0
     ·rw[tr k3]at aD
      have HQ:=zA (HN.out _ w3 _ _ aQ.out aD.out.symm cM.out ak.out);subst k3;go_wp2_with fail
      first|exact HQ.out|(go_ret;exact HQ.out)
     ·rw[tj k3]at aD
      have b3:((cn:Int)==0)=false:=(by rw[lj];omega);clear k3;go_wp2_with fail
      go_roundw
      case rel=>exact⟨r+1,pl+cn,vL+1,out++[vL],_,by omega,by first|rfl|go_num,by go_num,by go_num,by omega,by omega,ak,cM,aQ,zA (by rw[hC.out,dL.out]),aD⟩
      case measure=>simp[intOf];omega
   ·simp only[tj k1]at aD
    have hz:(w2.alloc (.cells #[.int .i64 h1,.int .i64 h2] 221)).heap[w2.heap.size]? = some (.cells #[.int .i64 h1,.int .i64 h2] 221 (0,0)):=zF _ _;have gU:Below w2.heap.size w2 (w2.alloc (.cells #[.int .i64 h1,.int .i64 h2] 221)):=fk (tg _) _;have HZ:=zA hz;have bU:=zA gU;clear hz gU;by_cases k2:h2<h1
    ·rw[tr k2]at aD
     have HQ:=zA (HN.out s1 _ r out HM.out aD.out.symm (HS.out.below (bV.out _ bU.out).1) (bV.out _ bU.out).2);go_wp2_with fail
     first|exact HQ.out|(go_ret;exact HQ.out)
    ·rw[tj k2]at aD
     have lz:=zA (iM.out h1 _ (bV.out _ bU.out).1);have ik:=zA (ig.out h1 _ bU.out HZ.out);have aQ:=zA (YE oZ.out HM.out h1);go_wp2_with fail
     refine lz.out.mono ?_;rintro e w3 ⟨rfl,aX,gP⟩;obtain⟨f1,f2⟩:=ik.out w3 gP;have cM:=zA aX;have ak:=zA f2;clear aX gP f2;by_cases k3:cn=0
     ·rw[tr k3]at aD
      have HQ:=zA (HN.out _ w3 _ _ aQ.out aD.out.symm cM.out ak.out);subst k3;go_wp2_with fail
      first|exact HQ.out|(go_ret;exact HQ.out)
     ·rw[tj k3]at aD
      have b3:((cn:Int)==0)=false:=(by rw[lj];omega);clear k3;go_wp2_with fail
      go_roundw
      case rel=>exact⟨r+1,pl+cn,h1+1,out++[h1],_,by omega,by first|rfl|go_num,by go_num,by go_num,by omega,by omega,ak,cM,aQ,zA (by rw[hC.out,dL.out]),aD⟩
      case measure=>simp[intOf];omega
  ·obtain rfl:r=K.np:=by omega
   have ii:¬(K.np:Int)<(K.np:Int):=(by omega);have hE:=HE.out;rw[Nat.sub_self,Yf]at hE;have HQ:=zA (HY.out s1 wr K.np out HM.out hE.symm fL.out HS.out HB.out);clear hE HE;go_wp2_with fail
   first|exact HQ.out|(go_ret;exact HQ.out)
def sY(K:SK)(at':Nat)(w:World)(s:vW)(w':World)(e:Ending):Prop:=∃r s',e=.returned (.bool r)/\jQ w' K s'/\Below K.B w w'/\ZR (qO K) K.np K.P K.sw at' s s' r
theorem J3(K:SK)(ok:Je K):∀(m at':Nat) (w:World) (s:vW),at'+m=K.np->(∀p,p<at'->s.rk p<K.np)->jQ w K s ->
 Calls prog 100 #[.pointer (some ⟨K.b,0,none⟩),.int .i64 (at':Nat)] w λe w'=>sY K at' w s w' e:=by
 intro m
 induction m with
 | zero =>
   intro at' w s hm av h;obtain rfl:at'=K.np:=by omega
   have rD:=zA (KL w K s ok av h);have jb:=zA (λw1 s1 (h1:jQ w1 K s1)=>Yy K ok K.sw.length 0 w1 s1 (by omega) h1);have HN:Hid (∀s1 w1,jQ w1 K s1->Below K.B w w1->wT K.np K.P s s1 false->sY K K.np w s w1 (.returned (.bool false))):=λs1 w1 h1 h2 h3=>⟨false,s1,rfl,h1,h2,CB (tg _) h3⟩
   have HY:Hid (∀s1 w1,Below K.B w w1->wT K.np K.P s s1 true->∀e w2,Y4 K 0 w1 s1 w2 e->∃r,e=.returned (.bool r)/\sY K K.np w s w2 (.returned (.bool r))):=λs1 w1 h2 h3 e w2 h4=>by
    obtain⟨r,s2,rfl,q1,q2,q3⟩:=h4;exact⟨r,rfl,r,s2,rfl,q1,h2.trans q2,CA (Bz K) (tg _) ok.off av h3 q3⟩
   have ax:w.cell? ⟨K.b,10,none⟩=some (.slice K.na K.np K.nc):=h.cells 10;have hi:¬(K.np:Int)<(K.np:Int):=(by omega);clear h hm av ok
   go_enter func100,ntmps100
   go_wp2_with fail
   refine rD.out.mono ?_;rintro e w1 ⟨r,s1,rfl,jS,jY,jT⟩;cases r
   ·have HQ:=zA (HN.out s1 w1 jS jY jT)
    clear jS jY jT;go_wp2_with fail
    first|exact HQ.out|(go_ret;exact HQ.out)
   ·have gy:=zA (HY.out s1 w1 jY jT)
    have lU:=zA (jb.out w1 s1 jS);clear jS jY jT;generalize Y4 K 0 w1 s1=Q1 at *;go_wp2_with fail
    refine lU.out.mono ?_;rintro e w2 hp;obtain⟨r,rfl,hq⟩:=gy.out _ _ hp;have HQ:=zA hq;clear hq hp;go_wp2_with fail
    first|exact HQ.out|(go_ret;exact HQ.out)
 | succ m ih =>
   intro at' w s hm av h;have aC:at'<K.np:=by omega
   have hf:=ok.np;have HI:Hid (∀w1 s1,(∀p,p<at'+1->s1.rk p<K.np)->jQ w1 K s1->Calls prog 100 #[.pointer (some ⟨K.b,0,none⟩),.int .i64 ((at':Int)+1)] w1 λe w'=>sY K (at'+1) w1 s1 w' e):=λw1 s1 hk h1=>ih (at'+1) w1 s1 (by omega) hk h1
   have HC:Hid (∀w1 s1,jQ w1 K s1->w1.cell? ⟨K.b,10,none⟩=some (.slice (some ⟨K.gn,0,none⟩) K.np K.nc)/\w1.cell? ⟨K.gn,at'*5+4,none⟩=some (.int .i64 (s1.rk at':Nat))/\w1.frozen? ⟨K.gn,at'*5+4,none⟩=false):=λw1 s1 h1=>by
    have hn:=h1.num aC;refine⟨?_,hn.2.2.2.2.2.1,hn.2.2.2.2.2.2 _⟩;have:=h1.cells 10;rw[<-hn.1];exact this
   have aQ:Hid (∀w1 s1 (v:Nat),v<K.np->ZS (qO K) K.np K.P K.sw at' s s1 v->jQ w1 K s1->Below K.B w w1->(∀p,p<at'+1->(rC s1 at' v).rk p<K.np)/\jQ (w1.setCell ⟨K.gn,at'*5+4,none⟩ (.int .i64 (v:Nat))) K (rC s1 at' v)/\Below K.B w (w1.setCell ⟨K.gn,at'*5+4,none⟩ (.int .i64 (v:Nat)))):=λw1 s1 v hv hm h1 hb=>by
    refine⟨λp hp=>?_,h1.C' aC v,hb.setCell (p:=⟨K.gn,at'*5+4,none⟩) (ok.He (by omega)) _⟩;show (if p=at' then v else s1.rk p)<K.np;by_cases bP:p=at'
    ·rw[tr bP];exact hv
    ·rw[tj bP,hm.kp p (by omega)];exact av p (by omega)
   have HY:Hid (∀v s1 s2 w2,ZS (qO K) K.np K.P K.sw at' s s1 v->jQ w2 K s2->Below K.B w w2->ZR (qO K) K.np K.P K.sw (at'+1) (rC s1 at' v) s2 true->sY K at' w s w2 (.returned (.bool true))):=λv s1 s2 w2 h1 h2 h3 h4=>⟨true,s2,rfl,h2,h3,yg h1 h4⟩;have HN:Hid (∀s1 w1,ZS (qO K) K.np K.P K.sw at' s s1 K.np->jQ w1 K s1->Below K.B w w1->sY K at' w s w1 (.returned (.bool false))):=λs1 w1 h1 h2 h3=>⟨false,s1,rfl,h2,h3,yi aC h1⟩;have ed:=zA (CC (qO K) K.np K.P K.sw at' s);have HS:=zA h;have qm:=(HC.out w s h).1;have gM:(at':Int)<(K.np:Int):=(by omega);have gN:decide (K.np<=at')=false:=ty (by omega);have gL:¬K.np<=at':=(by omega);clear h ih ok hm av
   go_enter func100,ntmps100
   go_wp2_with fail
   go_loopw [23] (λiv wr=>∃(v:Nat) (s1:vW),v<=K.np/\iv=.int .i64 v/\Hid (jQ wr K s1)/\Hid (Below K.B w wr)/\Hid (ZS (qO K) K.np K.P K.sw at' s s1 v)) (λiv _=>K.np-(intOf iv).toNat)
   case atStart=>exact⟨0,s,by omega,rfl,HS,zA (tl _ _),ed⟩
   case round =>
    obtain⟨v,s1,hv,rfl,bo,dU,bT⟩:=hrel;by_cases hv1:v<K.np
    ·obtain⟨mz,k0,k1⟩:=HC.out wr s1 bo.out
     obtain⟨p1,p2,p3⟩:=aQ.out wr s1 v hv1 bT.out bo.out dU.out;have jL:(v:Int)<(K.np:Int):=by omega
     have eh:=zA (HI.out _ _ p1 p2);have aS:=zA p3;clear p1 p2 p3;go_wp2_with fail
     refine eh.out.mono ?_;rintro e w3 ⟨r,s3,rfl,aX,cC,bR⟩;have ak:Hid (Below K.B w w3):=aS.out.trans cC;cases r
     ·have iX:=zA (Sf bT.out bR)
      have cM:=zA aX;clear aX cC bR;go_wp2_with fail
      go_roundw
      case rel=>exact⟨v+1,s3,by omega,by go_num,cM,ak,iX⟩
      case measure=>simp[intOf];omega
     ·have HQ:=zA (HY.out v s1 s3 w3 bT.out aX ak.out bR)
      clear aX cC bR;go_wp2_with fail
      first|exact HQ.out|(go_ret;exact HQ.out)
    ·obtain rfl:v=K.np:=by omega
     have HQ:=zA (HN.out s1 wr bT.out bo.out dU.out);have jL:¬(K.np:Int)<(K.np:Int):=by omega
     go_wp2_with fail
     first|exact HQ.out|(go_ret;exact HQ.out)
def QW(K:SK)(at':Nat)(w:World)(s:vW)(w':World)(e:Ending):Prop:=∃r s',e=.returned (.bool r)/\jQ w' K s'/\Below K.B w w'/\nY (qO K) K.np K.P K.zs K.sw at' s s' r
theorem J2(K:SK)(ok:Je K):∀(m at':Nat) (w:World) (s:vW),at'+m=K.np->(∀p,p<at'->s.Z p∈K.zs p)->jQ w K s ->
 Calls prog 67 #[.pointer (some ⟨K.b,0,none⟩),.int .i64 (at':Nat)] w λe w'=>QW K at' w s w' e:=by
 intro m
 induction m with
 | zero =>
   intro at' w s hm hz h;obtain rfl:at'=K.np:=by omega
   have fL:=zA (J3 K ok K.np 0 w s (by omega) (λp hp=>x' hp (by omega)) h)
   have HY:Hid (∀e w2,sY K 0 w s w2 e->∃r,e=.returned (.bool r)/\QW K K.np w s w2 (.returned (.bool r))):=λe w2 h4=>by
    obtain⟨r,s2,rfl,q1,q2,q3⟩:=h4;exact⟨r,rfl,r,s2,rfl,q1,q2,jp (tg _) hz q3⟩
   have ax:w.cell? ⟨K.b,10,none⟩=some (.slice K.na K.np K.nc):=h.cells 10;have hi:¬(K.np:Int)<(K.np:Int):=(by omega);clear h hm hz ok;generalize sY K 0 w s=Q1 at *
   go_enter func67,ntmps67
   go_wp2_with fail
   refine fL.out.mono ?_;rintro e w2 hp;obtain⟨r,rfl,hq⟩:=HY.out _ _ hp;have HQ:=zA hq;clear hq hp;go_wp2_with fail
   first|exact HQ.out|(go_ret;exact HQ.out)
 | succ m ih =>
   intro at' w s hm hz h;have aC:at'<K.np:=by omega
   have hf:=ok.np;have sf:=ok.zs at' aC;have HI:Hid (∀w1 s1,(∀p,p<at'+1->s1.Z p∈K.zs p)->jQ w1 K s1->Calls prog 67 #[.pointer (some ⟨K.b,0,none⟩),.int .i64 ((at':Int)+1)] w1 λe w'=>QW K (at'+1) w1 s1 w' e):=λw1 s1 hk h1=>ih (at'+1) w1 s1 (by omega) hk h1
   have HC:Hid (∀w1 s1,jQ w1 K s1->w1.cell? ⟨K.b,10,none⟩=some (.slice (some ⟨K.gn,0,none⟩) K.np K.nc)/\w1.cell? ⟨K.gn,at'*5+1,none⟩=some (.slice (K.za at') (K.zs at').length (K.zc at'))/\(w1.cell? ⟨K.gn,at'*5+2,none⟩=some (.int .i64 (s1.Z at').1)/\w1.cell? ⟨K.gn,at'*5+3,none⟩=some (.int .i64 (s1.Z at').2))/\w1.frozen? ⟨K.gn,at'*5+2,none⟩=false/\w1.frozen? ⟨K.gn,at'*5+3,none⟩=false):=λw1 s1 h1=>by
    have hn:=h1.num aC;refine⟨?_,hn.2.2.1,⟨hn.2.2.2.1,hn.2.2.2.2.1⟩,hn.2.2.2.2.2.2 _,hn.2.2.2.2.2.2 _⟩;have:=h1.cells 10;rw[<-hn.1];exact this
   have qw:Hid (∀w1 s1 (v:Nat),jQ w1 K s1->v<(K.zs at').length->∃g,K.za at'=some ⟨g,0,none⟩/\w1.cell? ⟨g,v*2,none⟩=some (.int .i64 ((K.zs at').getD v (0,0)).1)/\w1.cell? ⟨g,v*2+1,none⟩=some (.int .i64 ((K.zs at').getD v (0,0)).2)):=λw1 s1 v h1 hv=>jo (h1.zn at' aC).ay hv
   have aQ:Hid (∀w1 s1 (v:Nat),v<(K.zs at').length->eY (qO K) K.np K.P K.zs K.sw at' s s1 v->jQ w1 K s1->Below K.B w w1->(∀p,p<at'+1->(nF s1 at' ((K.zs at').getD v (0,0))).Z p∈K.zs p)/\∀w2,Below ((w1.setCell ⟨K.gn,at'*5+2,none⟩ (.int .i64 ((K.zs at').getD v (0,0)).1)).setCell ⟨K.gn,at'*5+2+1,none⟩ (.int .i64 ((K.zs at').getD v (0,0)).2)).heap.size ((w1.setCell ⟨K.gn,at'*5+2,none⟩ (.int .i64 ((K.zs at').getD v (0,0)).1)).setCell ⟨K.gn,at'*5+2+1,none⟩ (.int .i64 ((K.zs at').getD v (0,0)).2)) w2->jQ w2 K (nF s1 at' ((K.zs at').getD v (0,0)))/\Below K.B w w2/\w2.cell? ⟨K.b,10,none⟩=some (.slice (some ⟨K.gn,0,none⟩) K.np K.nc)):=λw1 s1 v hv hm h1 hb=>by
    refine⟨GK hm hv hz,λw2 aN=>?_⟩;have nQ:=zP h1.hd;have sT:=ok.EW;have hS:=(h1.A' aC ((K.zs at').getD v (0,0))).below aN;have hk:=(hb.setCell (p:=⟨K.gn,at'*5+2,none⟩) (ok.He (by omega)) (.int .i64 ((K.zs at').getD v (0,0)).1)).setCell (p:=⟨K.gn,at'*5+2+1,none⟩) (ok.He (by omega)) (.int .i64 ((K.zs at').getD v (0,0)).2);refine⟨hS,hk.trans (aN.mono ?_),(HC.out _ _ hS).1⟩;have:K.B<=w1.heap.size:=by omega
    simpa[World.setCell] using this
   have HY:Hid (∀v s1 s2 w2,v<(K.zs at').length->eY (qO K) K.np K.P K.zs K.sw at' s s1 v->jQ w2 K s2->Below K.B w w2->nY (qO K) K.np K.P K.zs K.sw (at'+1) (nF s1 at' ((K.zs at').getD v (0,0))) s2 true->QW K at' w s w2 (.returned (.bool true))):=λv s1 s2 w2 h0 h1 h2 h3 h4=>⟨true,s2,rfl,h2,h3,GJ h0 h1 h4⟩;have HN:Hid (∀s1 w1,eY (qO K) K.np K.P K.zs K.sw at' s s1 (K.zs at').length->jQ w1 K s1->Below K.B w w1->QW K at' w s w1 (.returned (.bool false))):=λs1 w1 h1 h2 h3=>⟨false,s1,rfl,h2,h3,GL aC h1⟩;have ed:=zA (BY (qO K) K.np K.P K.zs K.sw at' s);have HS:=zA h;obtain⟨qm,ql,-,-⟩:=HC.out w s h;have gM:(at':Int)<(K.np:Int):=(by omega);have gN:decide (K.np<=at')=false:=ty (by omega);have gL:¬K.np<=at':=(by omega);clear h ih ok hm hz;generalize nA:(K.zs at').length=zn at *;have tB:=zA nA;clear nA;generalize K.za at'=za at *
   go_enter func67,ntmps67
   go_wp2_with fail
   go_loopw [25] (λiv wr=>∃(v:Nat) (s1:vW),v<=zn/\iv=.int .i64 v/\Hid (jQ wr K s1)/\Hid (Below K.B w wr)/\Hid (eY (qO K) K.np K.P K.zs K.sw at' s s1 v)) (λiv _=>zn-(intOf iv).toNat)
   case atStart=>exact⟨0,s,by omega,rfl,HS,zA (tl _ _),ed⟩
   case round =>
    obtain⟨v,s1,hv,rfl,bo,dU,bT⟩:=hrel;by_cases hv1:v<zn
    ·obtain⟨mz,k1,⟨k2,k3⟩,f2,f3⟩:=HC.out wr s1 bo.out
     obtain⟨p1,p2⟩:=aQ.out wr s1 v hv1 bT.out bo.out dU.out;obtain⟨g,ez,z0,z1⟩:=qw.out wr s1 v bo.out hv1;subst ez;have jL:(v:Int)<(zn:Int):=by omega
     have rL:=zA p1;have oM:=zA p2;have hM:=zA bT.out;have lg:=uM z0;have sD:=uM k1;have lb:=uM mz;have n1:wr.heap.size≠g:=(by omega);have n2:wr.heap.size≠K.gn:=(by omega);have n3:wr.heap.size≠K.b:=(by omega);have n4:K.gn≠wr.heap.size:=(by omega);have iQ:=zA (λs3 => @jq (qO K) K.np K.P K.zs K.sw at' v s s1 s3 bT.out);have gy:=zA (λs3 w3=>HY.out v s1 s3 w3 hv1 bT.out);clear p1 p2;generalize (K.zs at').getD v (0,0)=zz at *;obtain⟨cf,ck⟩:=zz;simp only at z0 z1 oM;generalize (s1.Z at').1=o1 at *;generalize (s1.Z at').2=o2 at *
     go_upto_region 6 with fail
     obtain⟨fB,gl,kN⟩:=oM.out (((wr.setCell ⟨K.gn,at'*5+2,none⟩ (.int .i64 cf)).setCell ⟨K.gn,at'*5+2+1,none⟩ (.int .i64 ck)).alloc (.cells #[.int .i64 cf,.int .i64 ck] 221)).drew (md (fk (tg _) _));have e0:(((wr.setCell ⟨K.gn,at'*5+2,none⟩ (.int .i64 cf)).setCell ⟨K.gn,at'*5+2+1,none⟩ (.int .i64 ck)).alloc (.cells #[.int .i64 cf,.int .i64 ck] 221)).cell? ⟨wr.heap.size,0,none⟩=some (.int .i64 cf):=zC (uA _ _ _ (by simp[World.setCell])) 0;have e1:(((wr.setCell ⟨K.gn,at'*5+2,none⟩ (.int .i64 cf)).setCell ⟨K.gn,at'*5+2+1,none⟩ (.int .i64 ck)).alloc (.cells #[.int .i64 cf,.int .i64 ck] 221)).cell? ⟨wr.heap.size,1,none⟩=some (.int .i64 ck):=zC (uA _ _ _ (by simp[World.setCell])) 1;have qs:(((wr.setCell ⟨K.gn,at'*5+2,none⟩ (.int .i64 cf)).setCell ⟨K.gn,at'*5+2+1,none⟩ (.int .i64 ck)).alloc (.cells #[.int .i64 cf,.int .i64 ck] 221)).cell? ⟨K.b,10,none⟩=some (.slice (some ⟨K.gn,0,none⟩) K.np K.nc):=kN;have eh:=zA (HI.out _ _ rL.out fB);have aS:=zA gl;clear fB gl kN
     go_region_held3 (λw'=>w'.cell? ⟨K.b,10,none⟩=some (.slice (some ⟨K.gn,0,none⟩) K.np K.nc)/\w'.cell? ⟨wr.heap.size,0,none⟩=some (.int .i64 cf)/\w'.cell? ⟨wr.heap.size,1,none⟩=some (.int .i64 ck)) (go_keep) (fail)
     all_goals
      go_wp2_with fail
      refine eh.out.mono ?_;rintro e w3 ⟨r,s3,rfl,aX,cC,bR⟩;have ak:Hid (Below K.B w w3):=aS.out.trans cC;cases r
      ·have iX:=zA (iQ.out s3 bR)
       have cM:=zA aX;clear aX cC bR;go_wp2_with fail
       go_roundw
       case rel=>exact⟨v+1,s3,by omega,by go_num,cM,ak,iX⟩
       case measure=>simp[intOf];omega
      ·have HQ:=zA (gy.out s3 w3 aX ak.out bR)
       clear aX cC bR;go_wp2_with fail
       first|exact HQ.out|(go_ret;exact HQ.out)
    ·obtain rfl:v=zn:=by omega
     have HQ:=zA (HN.out s1 wr bT.out bo.out dU.out);have jL:¬(v:Int)<(v:Int):=by omega
     go_wp2_with fail
     first|exact HQ.out|(go_ret;exact HQ.out)
def mZ(I:List yA)(e l:xN)(i:Nat):List Nat:=(List.range i).filter λi=>kL e l i&&xZ I i
theorem Ux(I:List yA)(e l:xN)(i:Nat):mZ I e l (i+1)=mZ I e l i++(if (kL e l i&&xZ I i)=true then [i] else []):=by
 unfold mZ;rw[bf,fb,List.filter_cons,List.filter_nil]
def qI(I:List yA)(e l:xN)(i:Nat):List jX:=((List.range i).filter λi=>kL e l i && !xZ I i).map λi=>⟨true,i⟩
theorem Ct(I:List yA)(e l:xN)(i:Nat):qI I e l (i+1)=qI I e l i++(if (kL e l i && !xZ I i)=true then [⟨true,i⟩] else []):=by
 unfold qI;rw[bf,fb,bj,List.filter_cons,List.filter_nil];split <;> rfl
def uS(e l:xN)(c:Nat):List jX:=((List.range c).filter λc => !uQ e l c&&(vZ e c || vZ l c)).map λc=>⟨false,c⟩
theorem Cs(e l:xN)(c:Nat):uS e l (c+1)=uS e l c++(if (!uQ e l c&&(vZ e c || vZ l c))=true then [⟨false,c⟩] else []):=by
 unfold uS;rw[bf,fb,bj,List.filter_cons,List.filter_nil];split <;> rfl
theorem Qb(I:List yA)(e l:xN)(i:Nat):(mZ I e l i).length<=i:=by have:=f0 (λi=>kL e l i&&xZ I i) (List.range i);simpa[mZ] using this
theorem JI(I:List yA)(e l:xN)(i:Nat):(qI I e l i).length<=i:=by unfold qI;rw[pt];have:=f0 (λi=>kL e l i && !xZ I i) (List.range i);simpa using this
theorem JH(e l:xN)(c:Nat):(uS e l c).length<=c:=by unfold uS;rw[pt];have:=f0 (λc => !uQ e l c&&(vZ e c || vZ l c)) (List.range c);simpa using this
structure NE where
 place:Nat
 za:Option Addr
 zc:Nat
variable{L:List NE}
def AB(F:Nat->List (Int × Int))(x:NE):List Value:=[.int .i64 (x.place:Nat),.slice x.za (F x.place).length x.zc,.int .i64 0,.int .i64 0,.int .i64 0]
def iS(F:Nat->List (Int × Int))(l:List NE):List Value:=l.flatMap (AB F)
theorem SE(F:Nat->List (Int × Int))(a b:List NE):iS F (a++b)=iS F a++iS F b:=by unfold iS;rw[lk]
def XA(l:List jX):List Value:=l.flatMap Af
theorem S6(a b:List jX):XA (a++b)=XA a++XA b:=by unfold XA;rw[lk]
def Cw(x y:MX)(nv sv iv hv:Value):Array Value := #[.string ⟨x.1.label.toArray⟩,.int .i64 x.1.ae,x.2.1,x.2.2,.int .i64 x.1.root,.string ⟨y.1.label.toArray⟩,.int .i64 y.1.ae,y.2.1,y.2.2,.int .i64 y.1.root,nv,sv,iv,hv,.slice none 0 0]
def Fs:Array Value := #[.string ⟨#[]⟩,.int .i64 0,.slice none 0 0,.slice none 0 0,.int .i64 0,.string ⟨#[]⟩,.int .i64 0,.slice none 0 0,.slice none 0 0,.int .i64 0,.slice none 0 0,.slice none 0 0,.slice none 0 0,.slice none 0 0,.slice none 0 0]
theorem I4(x y:MX)(nv sv iv hv:Value):(prog.info? 170).map (·.size)=some (Cw x y nv sv iv hv).size:=by
 show _=some 15;kernel_rfl
theorem F6{hv:Value}(h1:x.2.1.oneCell'=true)(h2:x.2.2.oneCell'=true)(h3:y.2.1.oneCell'=true)(h4:y.2.2.oneCell'=true)(h5:nv.oneCell'=true)(h6:sv.oneCell'=true)(h7:iv.oneCell'=true)(h8:hv.oneCell'=true):(Cw x y nv sv iv hv).all (·.oneCell')=true:=by
 unfold Cw;simp only[List.all_toArray,ff,List.all_nil,h1,h2,h3,h4,h5,h6,h7,h8];rfl
theorem kZ.grown{e:TypeId}(h:kZ w g t n f){v:Value}(aG:w.ownsRow B e k v m ys)(aL:t≠e)(hg:w.grownBy w' v.ownBlock):kZ w' g t n f:=by
 obtain⟨cs,h1,h2⟩:=h;refine⟨cs,?_,h2⟩;rw[hg.block g (zP h1) (λe1=>?_)]
 ·exact h1
 ·rcases aG.2 with ⟨k1,_⟩|⟨g',cap,yB,k1,_,k3,_⟩
  ·rw[k1]at e1;simp[Value.ownBlock]at e1
  ·rw[k1]at e1;simp[Value.ownBlock]at e1
   subst e1;rw[h1]at k3;simp only[bi,Obj.cells.injEq]at k3;exact aL k3.2.1
structure Xg(w wx:World)(x y:MX)(n h gi gh:Nat)(nv sv:Value)(inp:Nat->Int)(has:Nat->Bool):Prop where
 af:Below w.heap.size w wx
 sz:w.heap.size+4<=wx.heap.size
 bx:wx.heap[w.heap.size]? = some (.cells #[.string ⟨x.1.label.toArray⟩,.int .i64 x.1.ae,x.2.1,x.2.2,.int .i64 x.1.root] 162 (0,0))
 AL:wx.heap[w.heap.size+1]? = some (.cells #[.string ⟨y.1.label.toArray⟩,.int .i64 y.1.ae,y.2.1,y.2.2,.int .i64 y.1.root] 162 (0,0))
 res:wx.heap[w.heap.size+1+1]? = some (.cells Fs 170 (0,0))
 hd:wx.heap[w.heap.size+1+1+1]? = some (.cells (Cw x y nv sv (.slice (some ⟨gi,0,none⟩) n n) (.slice (some ⟨gh,0,none⟩) h h)) 170 (0,0))
 rI:kZ wx gi 3 n (λi=>.int .i64 (inp i))
 rH:kZ wx gh 4 h (λc=>.bool (has c))
 gz:w.heap.size+4<=gi
 iq:w.heap.size+4<=gh
theorem Xg.below{inp:Nat->Int}(k:Xg w wx x y n h gi gh nv sv inp has)(hb:Below wx.heap.size wx wy):Xg w wy x y n h gi gh nv sv inp has:=by
 have hs:=k.sz;have hz:=hb.size;exact⟨k.af.trans (hb.mono (by omega)),by omega,by rw[hb.block _ (by omega)];exact k.bx,by rw[hb.block _ (by omega)];exact k.AL,by rw[hb.block _ (by omega)];exact k.res,by rw[hb.block _ (by omega)];exact k.hd,k.rI.below hb,k.rH.below hb,k.gz,k.iq⟩
theorem Xg.hY{inp f:Nat->Int}(k:Xg w wx x y n h gi gh nv sv inp has){i:Nat}(hi:i<n)(v:Int)(e1:f i=v)(e2:∀r,r<n->r≠i->f r=inp r):Xg w (wx.setCell ⟨gi,i,none⟩ (.int .i64 v)) x y n h gi gh nv sv f has:=by
 have hs:=k.sz;have hl:=k.gz;refine⟨k.af.setCell (p:=⟨gi,i,none⟩) (by show w.heap.size<=gi;omega) _,by simp[World.setCell];exact hs,?_,?_,?_,?_,k.rI.set _ hi (gk (Value.int .i64) e1) (λa ha aL=>gk (Value.int .i64) (e2 a ha aL)),k.rH.other _ (k.rH.ne k.rI (by decide)),k.gz,k.iq⟩
 ·rw[bh wx ⟨gi,i,none⟩ _ _ (by show w.heap.size≠gi;omega)];exact k.bx
 ·rw[bh wx ⟨gi,i,none⟩ _ _ (by show w.heap.size+1≠gi;omega)];exact k.AL
 ·rw[bh wx ⟨gi,i,none⟩ _ _ (by show w.heap.size+1+1≠gi;omega)];exact k.res
 ·rw[bh wx ⟨gi,i,none⟩ _ _ (by show w.heap.size+1+1+1≠gi;omega)];exact k.hd
theorem Xg.gu{inp:Nat->Int}{f:Nat->Bool}(k:Xg w wx x y n h gi gh nv sv inp has){i:Nat}(hi:i<h)(v:Bool)(e1:f i=v)(e2:∀r,r<h->r≠i->f r=has r):Xg w (wx.setCell ⟨gh,i,none⟩ (.bool v)) x y n h gi gh nv sv inp f:=by
 have hs:=k.sz;have hl:=k.iq;refine⟨k.af.setCell (p:=⟨gh,i,none⟩) (by show w.heap.size<=gh;omega) _,by simp[World.setCell];exact hs,?_,?_,?_,?_,k.rI.other _ (k.rI.ne k.rH (by decide)),k.rH.set _ hi (gk Value.bool e1) (λa ha aL=>gk Value.bool (e2 a ha aL)),k.gz,k.iq⟩
 ·rw[bh wx ⟨gh,i,none⟩ _ _ (by show w.heap.size≠gh;omega)];exact k.bx
 ·rw[bh wx ⟨gh,i,none⟩ _ _ (by show w.heap.size+1≠gh;omega)];exact k.AL
 ·rw[bh wx ⟨gh,i,none⟩ _ _ (by show w.heap.size+1+1≠gh;omega)];exact k.res
 ·rw[bh wx ⟨gh,i,none⟩ _ _ (by show w.heap.size+1+1+1≠gh;omega)];exact k.hd
theorem Xg.AH{inp:Nat->Int}(k:Xg w wx x y n h gi gh nv sv inp has){v mo mf:Value}(e:(Cw x y nv sv (.slice (some ⟨gi,0,none⟩) n n) (.slice (some ⟨gh,0,none⟩) h h)).setIfInBounds j v=Cw x y mo mf (.slice (some ⟨gi,0,none⟩) n n) (.slice (some ⟨gh,0,none⟩) h h)):Xg w (wx.setCell ⟨w.heap.size+1+1+1,j,none⟩ v) x y n h gi gh mo mf inp has:=by
 have hs:=k.sz;have l1:=k.gz;have l2:=k.iq;refine⟨k.af.setCell (p:=⟨w.heap.size+1+1+1,j,none⟩) (by show w.heap.size<=w.heap.size+1+1+1;omega) _,by simp[World.setCell];exact hs,?_,?_,?_,?_,k.rI.other _ (by omega),k.rH.other _ (by omega),k.gz,k.iq⟩
 ·rw[bh wx ⟨w.heap.size+1+1+1,j,none⟩ _ _ (by show w.heap.size≠w.heap.size+1+1+1;omega)];exact k.bx
 ·rw[bh wx ⟨w.heap.size+1+1+1,j,none⟩ _ _ (by show w.heap.size+1≠w.heap.size+1+1+1;omega)];exact k.AL
 ·rw[bh wx ⟨w.heap.size+1+1+1,j,none⟩ _ _ (by show w.heap.size+1+1≠w.heap.size+1+1+1;omega)];exact k.res
 ·rw[p9 wx _ j _ _ _ k.hd,e]
theorem Xg.ny{inp:Nat->Int}(k:Xg w wx x y n h gi gh nv sv inp has)(v:Value):Xg w (wx.setCell ⟨w.heap.size+1+1+1,10,none⟩ v) x y n h gi gh v sv inp has:=k.AH rfl
theorem Xg.AV{inp:Nat->Int}(k:Xg w wx x y n h gi gh nv sv inp has)(v:Value):Xg w (wx.setCell ⟨w.heap.size+1+1+1,11,none⟩ v) x y n h gi gh nv v inp has:=k.AH rfl
theorem Xg.grown{inp:Nat->Int}(k:Xg w wx x y n h gi gh nv sv inp has){e:TypeId}{q:Nat}{v:Value}(aG:wx.ownsRow (w.heap.size+4) e m v q ys)(h1:3≠e)(h2:4≠e)(hg:wx.grownBy wy v.ownBlock):Xg w wy x y n h gi gh nv sv inp has:=by
 have hs:=k.sz;have hb:=λb (hb:b<w.heap.size+4)=>hg.block b (by omega) (λe1=>by have:=(zW aG b e1.symm).1;omega);exact⟨k.af.grown hg (by omega) (λb hb=>by have:=(zW aG b hb).1;omega),by have:=hg.size;omega,by rw[hb _ (by omega)];exact k.bx,by rw[hb _ (by omega)];exact k.AL,by rw[hb _ (by omega)];exact k.res,by rw[hb _ (by omega)];exact k.hd,k.rI.grown aG h1 hg,k.rH.grown aG h2 hg,k.gz,k.iq⟩
theorem Xg.fresh{w4:World}(bx:w4.heap[w.heap.size]? = some (.cells #[.string ⟨x.1.label.toArray⟩,.int .i64 x.1.ae,x.2.1,x.2.2,.int .i64 x.1.root] 162 (0,0)))(AL:w4.heap[w.heap.size+1]? = some (.cells #[.string ⟨y.1.label.toArray⟩,.int .i64 y.1.ae,y.2.1,y.2.2,.int .i64 y.1.root] 162 (0,0)))(res:w4.heap[w.heap.size+1+1]? = some (.cells Fs 170 (0,0)))(hd:w4.heap[w.heap.size+1+1+1]? = some (.cells (Cw x y (.slice none 0 0) (.slice none 0 0) (.slice none 0 0) (.slice none 0 0)) 170 (0,0)))(af:Below w.heap.size w w4)(hs:w.heap.size+4<=w4.heap.size)(hb:Below w4.heap.size w4 wx)(hI:wx.heap[gi]? = some (.cells (iC (List.replicate n 0)) 3 (0,0)))(hH:wx.heap[gh]? = some (.cells (gC (List.replicate h false)) 4 (0,0)))(l1:w4.heap.size<=gi)(l2:w4.heap.size<=gh) :
 Xg w (((wx.setCell ⟨w.heap.size+1+1+1,12,none⟩ (.slice (some ⟨gi,0,none⟩) n n)).setCell ⟨w.heap.size+1+1+1,13,none⟩ (.slice (some ⟨gh,0,none⟩) h h)).setCell ⟨w.heap.size+1+1+1,14,none⟩ (.slice none 0 0)) x y n h gi gh (.slice none 0 0) (.slice none 0 0) (λ_=>0) (λ_=>false):=by
 have hz:=hb.size;have ne:∀(v:Value) (j:Nat) (W:World) (b:Nat),b≠w.heap.size+1+1+1->(W.setCell ⟨w.heap.size+1+1+1,j,none⟩ v).heap[b]? = W.heap[b]? := λv j W b hb=>bh W ⟨w.heap.size+1+1+1,j,none⟩ b v hb;have q0:wx.heap[w.heap.size+1+1+1]? = _:=(hb.block _ (by omega)).trans hd;have q1:=p9 wx _ 12 _ _ (.slice (some ⟨gi,0,none⟩) n n) q0;have q2:=p9 _ _ 13 _ _ (.slice (some ⟨gh,0,none⟩) h h) q1;have q3:=p9 _ _ 14 _ _ (.slice none 0 0) q2;refine⟨?_,by simp[World.setCell];omega,?_,?_,?_,q3,?_,?_,by omega,by omega⟩
 ·have h0:w.heap.size<=w.heap.size+1+1+1:=by omega
  exact((((af.trans (hb.mono (by omega))).setCell (p:=⟨w.heap.size+1+1+1,12,none⟩) h0 _).setCell (p:=⟨w.heap.size+1+1+1,13,none⟩) h0 _).setCell (p:=⟨w.heap.size+1+1+1,14,none⟩) h0 _)
 ·rw[ne _ _ _ _ (by omega),ne _ _ _ _ (by omega),ne _ _ _ _ (by omega),hb.block _ (by omega)];exact bx
 ·rw[ne _ _ _ _ (by omega),ne _ _ _ _ (by omega),ne _ _ _ _ (by omega),hb.block _ (by omega)];exact AL
 ·rw[ne _ _ _ _ (by omega),ne _ _ _ _ (by omega),ne _ _ _ _ (by omega),hb.block _ (by omega)];exact res
 ·refine⟨_,by rw[ne _ _ _ _ (by omega),ne _ _ _ _ (by omega),ne _ _ _ _ (by omega)];exact hI,λj hj=>?_⟩
  rw[MN (by simpa using hj)];simp[List.getD,hj]
 ·refine⟨_,by rw[ne _ _ _ _ (by omega),ne _ _ _ _ (by omega),ne _ _ _ _ (by omega)];exact hH,λj hj=>?_⟩
  rw[Q9 (by simpa using hj)];simp[List.getD,hj]
theorem Zk{v:Value}(h:w.ownsRow B t k v n xs){b:Nat}{u:Value}(hb:w.heap[b]? = some (.cells cs t' fz))(aL:t≠t':=by decide):(w.setCell ⟨b,j,none⟩ u).ownsRow B t k v n xs:=⟨h.1,by
 rcases h.2 with q|⟨g',cap,yB,k1,k2,q3,k4⟩
 ·exact .inl q
 ·exact .inr ⟨g',cap,yB,k1,k2,by rw[bh w ⟨b,j,none⟩ g' u (Qh q3 hb aL)];exact q3,k4⟩⟩
theorem Zl{v:Value}(h:w.ownsRow B t k v n xs)(u:Value)(hr:kZ w g t' m f)(aL:t≠t':=by decide):(w.setCell ⟨g,j,none⟩ u).ownsRow B t k v n xs:=by
 obtain⟨cs,q,_⟩:=hr;exact Zk h q aL
theorem Zm{v:Value}(h:w.ownsRow B t k v n xs)(hb:Below w.heap.size w w'):w'.ownsRow B t k v n xs:=⟨h.1,by
 rcases h.2 with q|⟨g',cap,yB,k1,k2,q3,k4⟩
 ·exact .inl q
 ·exact .inr ⟨g',cap,yB,k1,k2,by rw[hb.block g' (zP q3)];exact q3,k4⟩⟩
theorem XX{v:Value}(h:w.ownsRow B t k v n xs){B' q:Nat}(aG:w.ownsRow B' t' m v' q ys)(aL:t≠t')(hg:w.grownBy w' v'.ownBlock):w'.ownsRow B t k v n xs:=⟨h.1,by
 rcases h.2 with q|⟨g',cap,yB,k1,k2,q3,k4⟩
 ·exact .inl q
 ·refine .inr ⟨g',cap,yB,k1,k2,?_,k4⟩
  rw[hg.block g' (zP q3) (λe1=>?_)]
  ·exact q3
  ·rcases aG.2 with ⟨p1,_⟩|⟨g2,_,_,p1,_,p3,_⟩
   ·rw[p1]at e1;simp[Value.ownBlock]at e1
   ·rw[p1]at e1;simp[Value.ownBlock]at e1
    subst e1;rw[q3]at p3;simp only[bi,Obj.cells.injEq]at p3;exact aL p3.2.1⟩
structure YX(w wr:World)(x y:MX)(n h gi gh:Nat)(F:Nat->List (Int × Int))(nv sv:Value)(L:List NE)(T:List jX)(inp:Nat->Int)(has:Nat->Bool):Prop where
 ns:Xg w wr x y n h gi gh nv sv inp has
 au:wr.ownsRow (w.heap.size+4) 223 5 nv L.length (iS F L)
 zn:∀q∈L,xX wr 221 q.za (fR (F q.place))
 hU:wr.ownsRow (w.heap.size+4) 216 2 sv T.length (XA T)
theorem YX.below{inp:Nat->Int}(k:YX w wr x y n h gi gh F nv sv L T inp has)(hb:Below wr.heap.size wr wy):YX w wy x y n h gi gh F nv sv L T inp has :=
 ⟨k.ns.below hb,Zm k.au hb,λq hq=>(k.zn q hq).below hb,Zm k.hU hb⟩
theorem YX.hY{inp f:Nat->Int}(k:YX w wr x y n h gi gh F nv sv L T inp has){i:Nat}(hi:i<n)(v:Int)(e1:f i=v)(e2:∀r,r<n->r≠i->f r=inp r):YX w (wr.setCell ⟨gi,i,none⟩ (.int .i64 v)) x y n h gi gh F nv sv L T f has :=
 ⟨k.ns.hY hi v e1 e2,Zl k.au _ k.ns.rI,λq hq=>(k.zn q hq).row _ k.ns.rI (by decide),Zl k.hU _ k.ns.rI⟩
theorem YX.gu{inp:Nat->Int}{f:Nat->Bool}(k:YX w wr x y n h gi gh F nv sv L T inp has){i:Nat}(hi:i<h)(v:Bool)(e1:f i=v)(e2:∀r,r<h->r≠i->f r=has r):YX w (wr.setCell ⟨gh,i,none⟩ (.bool v)) x y n h gi gh F nv sv L T inp f :=
 ⟨k.ns.gu hi v e1 e2,Zl k.au _ k.ns.rH,λq hq=>(k.zn q hq).row _ k.ns.rH (by decide),Zl k.hU _ k.ns.rH⟩
theorem YX.EO{inp:Nat->Int}(k:YX w wr x y n h gi gh F nv sv L T inp has)(t:jX)(aG:wy.ownsRow (w.heap.size+4) 216 2 v' (T.length+1) (XA T++Af t))(hg:wr.grownBy wy sv.ownBlock):YX w (wy.setCell ⟨w.heap.size+1+1+1,11,none⟩ v') x y n h gi gh F nv v' L (T++[t]) inp has:=by
 have k1:=k.ns.grown k.hU (by decide) (by decide) hg;refine⟨k1.AV v',Zk (XX k.au k.hU (by decide) hg) k1.hd,λq hq=>((k.zn q hq).grown k.hU (by decide) hg).set k1.hd (by decide),?_⟩;rw[S6,tm];have e:XA [t]=Af t:=by simp[XA]
 rw[e];exact Zk aG k1.hd
theorem YX.num{inp:Nat->Int}(k:YX w wr x y n h gi gh F nv sv L T inp has)(q:NE)(hq:xX wr 221 q.za (fR (F q.place)))(aG:wy.ownsRow (w.heap.size+4) 223 5 v' (L.length+1) (iS F L++AB F q))(hg:wr.grownBy wy nv.ownBlock):YX w (wy.setCell ⟨w.heap.size+1+1+1,10,none⟩ v') x y n h gi gh F v' sv (L++[q]) T inp has:=by
 have k1:=k.ns.grown k.au (by decide) (by decide) hg;refine⟨k1.ny v',?_,λr hr=>?_,Zk (XX k.hU k.au (by decide) hg) k1.hd⟩
 ·rw[SE,tm]
  have e:iS F [q]=AB F q:=by simp[iS]
  rw[e];exact Zk aG k1.hd
 ·rcases pj.1 hr with hr|hr
  ·exact((k.zn r hr).grown k.au (by decide) hg).set k1.hd (by decide)
  ·simp at hr;subst hr
   exact(hq.grown k.au (by decide) hg).set k1.hd (by decide)
theorem ye(w:World)(g k:Nat)(cs:Array Value)(h:k≠g):(w.setRow g cs).heap[k]? = w.heap[k]? := by
 unfold World.setRow;simp only[Array.getElem?_modify];rw[i6]
structure zNQ(w wr:World)(n h gi gh:Nat)(F:Nat->List (Int × Int))(nv sv:Value)(L:List NE)(T:List jX)(inp:Nat->Int)(has:Nat->Bool):Prop where
 af:Below w.heap.size w wr
 au:wr.ownsRow (w.heap.size+4) 223 5 nv L.length (iS F L)
 zn:∀q∈L,xX wr 221 q.za (fR (F q.place))
 hU:wr.ownsRow (w.heap.size+4) 216 2 sv T.length (XA T)
 rI:kZ wr gi 3 n (λi=>.int .i64 (inp i))
 rH:kZ wr gh 4 h (λc=>.bool (has c))
 gz:w.heap.size<=gi
 iq:w.heap.size<=gh
theorem YX.done{inp:Nat->Int}(k:YX w wr x y n h gi gh F nv sv L T inp has)(cs:Array Value):zNQ w (wr.setRow (w.heap.size+1+1) cs) n h gi gh F nv sv L T inp has:=by
 have aL:∀ {g:Nat} {c:Array Value} {t:TypeId} {fz:Nat × Nat},wr.heap[g]? = some (.cells c t fz)->t≠170->(wr.setRow (w.heap.size+1+1) cs).heap[g]? = wr.heap[g]? := λh1 h2=>ye _ _ _ _ (Qh h1 k.ns.res h2)
 have aG:∀ {t:TypeId} {m q:Nat} {v:Value} {ys:List Value},wr.ownsRow (w.heap.size+4) t m v q ys->t≠170->(wr.setRow (w.heap.size+1+1) cs).ownsRow (w.heap.size+4) t m v q ys:=λh1 h2=>⟨h1.1,by
  rcases h1.2 with q|⟨g',cap,yB,k1,k2,q3,k4⟩
  ·exact .inl q
  ·exact .inr ⟨g',cap,yB,k1,k2,by rw[aL q3 h2];exact q3,k4⟩⟩
 have hrow:∀ {t:TypeId} {g m:Nat} {f:Nat->Value},kZ wr g t m f->t≠170->kZ (wr.setRow (w.heap.size+1+1) cs) g t m f:=λh1 h2=>by
  obtain⟨c,q1,q2⟩:=h1;exact⟨c,by rw[aL q1 h2];exact q1,q2⟩
 have l1:=k.ns.gz;have l2:=k.ns.iq;exact⟨yK k.ns.af (by omega) _,aG k.au (by decide),λq hq=>(k.zn q hq).keep λg c fz hg=>aL hg (by decide),aG k.hU (by decide),hrow k.ns.rI (by decide),hrow k.ns.rH (by decide),by omega,by omega⟩
def lV(I:List yA)(i j:Nat):Int:=if j<i then (jV I j).low else 0
def lW(e l:xN)(c j:Nat):Bool:=decide (j<c)&&uQ e l j
theorem Nu:(prog.info? 223).map (λi=>(i.zero,i.size,i.bytes))=some (some (.agg #[.int .i64 0,.slice none 0 0,.int .i64 0,.int .i64 0,.int .i64 0]),5,56):=by kernel_rfl
theorem Nw:(prog.info? 216).map (λi=>(i.zero,i.size,i.bytes))=some (some (.agg #[.bool false,.int .i64 0]),2,16):=by kernel_rfl
def VE(I:List yA)(H:Nat)(x y:MX)(w w':World)(e:Ending):Prop:=∃gi gh nv sv L,e=.returned (.agg (Cw x y nv sv (.slice (some ⟨gi,0,none⟩) I.length I.length) (.slice (some ⟨gh,0,none⟩) H H)))/\zNQ w w' I.length H gi gh (pC I x.1 y.1) nv sv L (qI I x.1 y.1 I.length++uS x.1 y.1 H) (lV I I.length) (lW x.1 y.1 H)/\L.map NE.place=vB I x.1 y.1
theorem ud(I:List yA)(i:Nat):lV I (i+1) i=(jV I i).low/\∀r,r≠i->lV I (i+1) r=lV I i r:=by
 refine⟨by unfold lV;rw[u'],λr hr=>?_⟩;unfold lV;by_cases h:r<i
 ·rw[u',tr h]
 ·rw[i6,tj h]
theorem ul(e l:xN)(i:Nat):lW e l (i+1) i=uQ e l i/\∀r,r≠i->lW e l (i+1) r=lW e l i r:=by
 refine⟨by unfold lW;simp,λr hr=>?_⟩;unfold lW;by_cases h:r<i
 ·rw[tz h,tz (show r<i+1 by omega)]
 ·rw[ty h,ty (show ¬r<i+1 by omega)]
theorem oT(r:xN)(i:Nat):(xS r i).length<=r.guard.length:=by unfold xS;rw[pt];exact f0 _ _
theorem Ka{a:Option Addr}{I:List yA}(h:kQ w a (I.flatMap kD)){i:Nat}(hi:i<I.length):∃g,a=some ⟨g,0,none⟩/\w.cell? ⟨g,i*4,none⟩=some (.string ⟨(jV I i).name.toArray⟩)/\w.cell? ⟨g,i*4+1,none⟩=some (.bool (jV I i).ft)/\w.cell? ⟨g,i*4+2,none⟩=some (.int .i64 (jV I i).low)/\w.cell? ⟨g,i*4+3,none⟩=some (.int .i64 (jV I i).high):=by
 obtain⟨g,e,c0⟩:=h.at ((zV kD 4 (λ_=>rfl) nw I i 0 hi (by decide)).trans rfl);obtain⟨g1,e1,c1⟩:=h.at ((zV kD 4 (λ_=>rfl) nw I i 1 hi (by decide)).trans rfl);obtain⟨g2,e2,c2⟩:=h.at ((zV kD 4 (λ_=>rfl) nw I i 2 hi (by decide)).trans rfl);obtain⟨g3,e3,c3⟩:=h.at ((zV kD 4 (λ_=>rfl) nw I i 3 hi (by decide)).trans rfl);obtain rfl:g=g1:=by rw[e]at e1;simpa using e1
 obtain rfl:g=g2:=by rw[e]at e2;simpa using e2
 obtain rfl:g=g3:=by rw[e]at e3;simpa using e3
 exact⟨g,e,c0,c1,c2,c3⟩
theorem U1(w:World)(b o:Nat)(I:List yA)(H:Nat)(x y:MX)(ia ca:Option Addr)(ic cc:Nat)(h0:w.cell? ⟨b,o,none⟩=some (.slice ia I.length ic))(h1:w.cell? ⟨b,o+1,none⟩=some (.slice ca H cc))(hI:xX w 204 ia (I.flatMap kD))(hx:kE w x)(hy:kE w y)(fI:I.length<=10000)(fH:H<=10000)(nX:∀i z,z∈xS x.1 i++xS y.1 i -> -1000000<=z/\z<=1000000)(e8:∀i,(pC I x.1 y.1 i).length<=100000) :
 Calls prog 66 #[.pointer (some ⟨b,o,none⟩),qS x,qS y] w λe w'=>VE I H x y w w' e:=by
 have lb:=uM h0;obtain⟨i0,ai,hz0,hz1,aV⟩:=du Nw;obtain⟨j0,qa,qY,jR,qX⟩:=du Nu;have jI:=zA (λw' (hb:Below w.heap.size w w') i (hi:i<I.length)=>Ka (hI.below hb).ay hi);have dP:=zA (λw' (hb:Below w.heap.size w w') (c:Nat)=>YZ w' x c (hx.below hb));have dO:=zA (λw' (hb:Below w.heap.size w w') (c:Nat)=>YZ w' y c (hy.below hb));have bc:=zA (λw' (hb:Below w.heap.size w w') (c:Nat)=>BS w' x c (hx.below hb));have bb:=zA (λw' (hb:Below w.heap.size w w') (c:Nat)=>BS w' y c (hy.below hb));have eX:=zA (λw' (hb:Below w.heap.size w w') (c:Nat)=>GC w' x c (hx.below hb));have eW:=zA (λw' (hb:Below w.heap.size w w') (c:Nat)=>GC w' y c (hy.below hb));have ew:=zA (λw' (hb:Below w.heap.size w w') (c:Nat)=>K5 w' x c (hx.below hb));have et:=zA (λw' (hb:Below w.heap.size w w') (c:Nat)=>K5 w' y c (hy.below hb));have nu:Hid (∀w' i (ea la:Option Addr) (ec lc:Nat),gJ w' ea (xS x.1 i)->gJ w' la (xS y.1 i)->Calls prog 97 #[FO (jV I i),.slice ea (xS x.1 i).length ec,.slice la (xS y.1 i).length lc] w' λe w''=>∃v,e=.returned v/\w''.ownsRow w'.heap.size 221 2 v (pC I x.1 y.1 i).length (fR (pC I x.1 y.1 i))/\Below w'.heap.size w' w''):=λw' i ea la ec lc h1 h2=>GH w' (jV I i) ea la ec lc _ _ h1 h2 (nX i);have jA:Hid (∀i,(xS x.1 i).length<=10000):=λi=>tu (oT _ _) hx.ef;have iw:Hid (∀i,(xS y.1 i).length<=10000):=λi=>tu (oT _ _) hy.ef;have oR:=zA (λi=>Ux I x.1 y.1 i);have dZ:=zA (λi=>Ct I x.1 y.1 i);have iD:=zA (λi=>Cs x.1 y.1 i);have oU:=zA (λi=>Qb I x.1 y.1 i);have eS:=zA (λi=>JI I x.1 y.1 i);have lf:=zA (λi=>JH x.1 y.1 i);have mG:=zA (λi=>ud I i);have rW:=zA (λi=>ul x.1 y.1 i);have o0:Hid (∀i,kL x.1 y.1 i=(pT x.1 i || pT y.1 i)):=λ_=>rfl;have rQ:Hid (∀i,uQ x.1 y.1 i=(lE x.1 i || lE y.1 i)):=λ_=>rfl;have dM:Hid (∀i,xZ I i = !(jV I i).ft):=λ_=>rfl;have jd:Hid (∀w' gi gh nv sv L,zNQ w w' I.length H gi gh (pC I x.1 y.1) nv sv L (qI I x.1 y.1 I.length++uS x.1 y.1 H) (lV I I.length) (lW x.1 y.1 H)->L.map NE.place=mZ I x.1 y.1 I.length->VE I H x y w w' (.returned (.agg (Cw x y nv sv (.slice (some ⟨gi,0,none⟩) I.length I.length) (.slice (some ⟨gh,0,none⟩) H H))))):=λw' gi gh nv sv L h1 h2=>⟨gi,gh,nv,sv,L,rfl,h1,h2⟩;have nz:=zA e8;obtain⟨pa,pc,e1,-⟩:=hx.sum;obtain⟨ga,gc,e2,-⟩:=hx.guard;obtain⟨cp,cm,e3,-⟩:=hy.sum;obtain⟨dG,dD,e4,-⟩:=hy.guard
 have cx:Hid (∀wr n gi gh F nv sv L T f g,YX w wr x y n H gi gh F nv sv L T f g->((wr.cell? ⟨w.heap.size,0,none⟩=some (.string ⟨x.1.label.toArray⟩)/\wr.cell? ⟨w.heap.size,1,none⟩=some (.int .i64 x.1.ae)/\wr.cell? ⟨w.heap.size,2,none⟩=some (.slice pa x.1.sum.length pc)/\wr.cell? ⟨w.heap.size,3,none⟩=some (.slice ga x.1.guard.length gc)/\wr.cell? ⟨w.heap.size,4,none⟩=some (.int .i64 x.1.root))/\(wr.cell? ⟨w.heap.size+1,0,none⟩=some (.string ⟨y.1.label.toArray⟩)/\wr.cell? ⟨w.heap.size+1,1,none⟩=some (.int .i64 y.1.ae)/\wr.cell? ⟨w.heap.size+1,2,none⟩=some (.slice cp y.1.sum.length cm)/\wr.cell? ⟨w.heap.size+1,3,none⟩=some (.slice dG y.1.guard.length dD)/\wr.cell? ⟨w.heap.size+1,4,none⟩=some (.int .i64 y.1.root))/\(wr.cell? ⟨w.heap.size+1+1+1,10,none⟩=some nv/\wr.cell? ⟨w.heap.size+1+1+1,11,none⟩=some sv/\wr.cell? ⟨w.heap.size+1+1+1,12,none⟩=some (.slice (some ⟨gi,0,none⟩) n n)/\wr.cell? ⟨w.heap.size+1+1+1,13,none⟩=some (.slice (some ⟨gh,0,none⟩) H H))/\∀j,wr.frozen? ⟨w.heap.size+1+1+1,j,none⟩=false)):=λwr n gi gh F nv sv L T f g k=>by
  have q1:=k.ns.bx;have q2:=k.ns.AL
  rw[e1,e2]at q1;rw[e3,e4]at q2;exact⟨⟨zC q1 0,zC q1 1,zC q1 2,zC q1 3,zC q1 4⟩,⟨zC q2 0,zC q2 1,zC q2 2,zC q2 3,zC q2 4⟩,⟨zC k.ns.hd 10,zC k.ns.hd 11,zC k.ns.hd 12,zC k.ns.hd 13⟩,λj=>by simp[World.frozen?,k.ns.hd]⟩
 have cU:Hid (∀ {w4 wx:World} {n gi gh:Nat},w4.heap[w.heap.size]? = some (.cells #[.string ⟨x.1.label.toArray⟩,.int .i64 x.1.ae,.slice pa x.1.sum.length pc,.slice ga x.1.guard.length gc,.int .i64 x.1.root] 162 (0,0))->w4.heap[w.heap.size+1]? = some (.cells #[.string ⟨y.1.label.toArray⟩,.int .i64 y.1.ae,.slice cp y.1.sum.length cm,.slice dG y.1.guard.length dD,.int .i64 y.1.root] 162 (0,0))->w4.heap[w.heap.size+1+1]? = some (.cells Fs 170 (0,0))->w4.heap[w.heap.size+1+1+1]? = some (.cells #[.string ⟨x.1.label.toArray⟩,.int .i64 x.1.ae,.slice pa x.1.sum.length pc,.slice ga x.1.guard.length gc,.int .i64 x.1.root,.string ⟨y.1.label.toArray⟩,.int .i64 y.1.ae,.slice cp y.1.sum.length cm,.slice dG y.1.guard.length dD,.int .i64 y.1.root,.slice none 0 0,.slice none 0 0,.slice none 0 0,.slice none 0 0,.slice none 0 0] 170 (0,0))->Below w.heap.size w w4->w.heap.size+4<=w4.heap.size->Below w4.heap.size w4 wx->wx.heap[gi]? = some (.cells (iC (List.replicate n 0)) 3 (0,0))->wx.heap[gh]? = some (.cells (gC (List.replicate H false)) 4 (0,0))->w4.heap.size<=gi->w4.heap.size<=gh->YX w (((wx.setCell ⟨w.heap.size+1+1+1,12,none⟩ (.slice (some ⟨gi,0,none⟩) n n)).setCell ⟨w.heap.size+1+1+1,13,none⟩ (.slice (some ⟨gh,0,none⟩) H H)).setCell ⟨w.heap.size+1+1+1,14,none⟩ (.slice none 0 0)) x y n H gi gh (pC I x.1 y.1) (.slice none 0 0) (.slice none 0 0) [] [] (lV I 0) (lW x.1 y.1 0)):=λ{w4 wx n gi gh} q1 q2 q3 q4 q5 q6 q7 q8 q9 pE pD=>by
  have hz:lV I 0=λ_=>0:=by funext j;unfold lV;rw[i6]
  have aV:lW x.1 y.1 0=λ_=>false:=by funext j;unfold lW;rw[ty (by omega)];rfl
  rw[hz,aV];exact⟨Xg.fresh (x:=x) (y:=y) (by rw[e1,e2];exact q1) (by rw[e3,e4];exact q2) q3 (by unfold Cw;rw[e1,e2,e3,e4];exact q4) q5 q6 q7 q8 q9 pE pD,⟨rfl,.inl ⟨rfl,rfl⟩⟩,λq hq=>by simp at hq,⟨rfl,.inl ⟨rfl,rfl⟩⟩⟩
 have l6:Hid (∀nv sv iv hv:Value,nv.oneCell'=true->sv.oneCell'=true->iv.oneCell'=true->hv.oneCell'=true->(Cw x y nv sv iv hv).all (·.oneCell')=true):=λnv sv iv hv h1 h2 h3 h4=>F6 (by rw[e1];rfl) (by rw[e2];rfl) (by rw[e3];rfl) (by rw[e4];rfl) h1 h2 h3 h4
 simp only[qS]at dP dO bc bb eX eW ew et ⊢;rw[e1,e2]at dP bc eX ew;rw[e3,e4]at dO bb eW et;rw[e1,e2,e3,e4];have br:=zA (show x.2.1=_ from e1);clear e1 e2 e3 e4 hx hy nX e8 hI;have nO:=run_make_row' (P:=prog) 22 3 (.int .i64 0) 8 underlying22 Kb rfl .i64 .i64 I.length (by omega) (by omega);have nP:=run_make_row' (P:=prog) 166 4 (.bool false) 1 underlying166 UT rfl .i64 .i64 H (by omega) (by omega);rw[Qk]at nP;rw[vp]at nO;generalize x.1.label=xl at *;generalize x.1.ae=xc at *;generalize x.1.root=xr at *;generalize x.1.sum.length=xn at *;generalize x.1.guard.length=xm at *;generalize y.1.label=yl at *;generalize y.1.ae=yc at *;generalize y.1.root=yr at *;generalize y.1.sum.length=yn at *;generalize y.1.guard.length=ym at *;have h1':=h1;have pS:=lb
 go_enter func66,ntmps66
 go_upto_region 2 with fail
 obtain⟨w4,jK⟩:∃w4,w4=(((w.alloc (Obj.cells #[Value.string ⟨xl.toArray⟩,.int .i64 xc,.slice pa xn pc,.slice ga xm gc,.int .i64 xr] 162)).alloc (Obj.cells #[Value.string ⟨yl.toArray⟩,.int .i64 yc,.slice cp yn cm,.slice dG ym dD,.int .i64 yr] 162)).alloc (Obj.cells Fs 170)).alloc (Obj.cells #[.string ⟨xl.toArray⟩,.int .i64 xc,.slice pa xn pc,.slice ga xm gc,.int .i64 xr,.string ⟨yl.toArray⟩,.int .i64 yc,.slice cp yn cm,.slice dG ym dD,.int .i64 yr,.slice none 0 0,.slice none 0 0,.slice none 0 0,.slice none 0 0,.slice none 0 0] 170):=⟨_,rfl⟩;have bC:=jK;unfold Fs at jK;rw[<-jK];clear jK;have x0:w4.heap[w.heap.size]? = some (.cells #[.string ⟨xl.toArray⟩,.int .i64 xc,.slice pa xn pc,.slice ga xm gc,.int .i64 xr] 162 (0,0)):=by rw[bC];exact yD (yD (yD (zF _ _)))
 have x1:w4.heap[w.heap.size+1]? = some (.cells #[.string ⟨yl.toArray⟩,.int .i64 yc,.slice cp yn cm,.slice dG ym dD,.int .i64 yr] 162 (0,0)):=by rw[bC];exact yD (yD (uA _ _ _ (by simp)))
 have x2:w4.heap[w.heap.size+1+1]? = some (.cells Fs 170 (0,0)):=by rw[bC];exact yD (uA _ _ _ (by simp))
 have x3:w4.heap[w.heap.size+1+1+1]? = some (.cells #[.string ⟨xl.toArray⟩,.int .i64 xc,.slice pa xn pc,.slice ga xm gc,.int .i64 xr,.string ⟨yl.toArray⟩,.int .i64 yc,.slice cp yn cm,.slice dG ym dD,.int .i64 yr,.slice none 0 0,.slice none 0 0,.slice none 0 0,.slice none 0 0,.slice none 0 0] 170 (0,0)):=by rw[bC];exact uA _ _ _ (by simp)
 have jz:w4.heap.size=w.heap.size+4:=by rw[bC];simp
 have cW:Hid (Below w.heap.size w w4):=by unfold Hid;rw[bC];exact(((fk (tg _) _).alloc (by simp) _).alloc (by simp;omega) _).alloc (by simp;omega) _
 have k0:w4.cell? ⟨b,o,none⟩=some (.slice ia I.length ic):=(cW.out.cell (p:=⟨b,o,none⟩) lb).trans h0;have k1:w4.cell? ⟨b,o+1,none⟩=some (.slice ca H cc):=(cW.out.cell (p:=⟨b,o+1,none⟩) lb).trans h1;have l3:w.heap.size+1+1+1<w4.heap.size:=by omega
 have l4:b<w4.heap.size:=by omega
 have HQ:Hid (∀A B:Obj,((w4.alloc A).alloc B).heap[w.heap.size+1+1+1]? = _):=λA B=>yD (yD x3);have f12:∀A B:Obj,((w4.alloc A).alloc B).frozen? ⟨w.heap.size+1+1+1,12,none⟩=false:=λA B=>by simp[World.frozen?,HQ.out A B]
 have f13:∀A B:Obj,((w4.alloc A).alloc B).frozen? ⟨w.heap.size+1+1+1,13,none⟩=false:=λA B=>by simp[World.frozen?,HQ.out A B]
 have f14:∀A B:Obj,((w4.alloc A).alloc B).frozen? ⟨w.heap.size+1+1+1,14,none⟩=false:=λA B=>by simp[World.frozen?,HQ.out A B]
 have fJ:∀A B:Obj,((w4.alloc A).alloc B).cell? ⟨w.heap.size+1+1+1,12,none⟩=some (.slice none 0 0):=λA B=>zC (HQ.out A B) 12;have gq:∀A B:Obj,((w4.alloc A).alloc B).cell? ⟨w.heap.size+1+1+1,13,none⟩=some (.slice none 0 0):=λA B=>zC (HQ.out A B) 13;have lI:∀A B:Obj,((w4.alloc A).alloc B).cell? ⟨w.heap.size+1+1+1,14,none⟩=some (.slice none 0 0):=λA B=>zC (HQ.out A B) 14;have dJ:=zA x0;have lQ:=zA x1;have lN:=zA x2;have lL:=zA x3;have eH:w.heap.size+4<=w4.heap.size:=by omega
 clear bC jz x0 x1 x2 x3
 go_cut [7] from 17 to 30 (λv7 wx=>v7=.pointer (some ⟨w.heap.size+1+1+1,0,none⟩)/\∃gi gh,Hid (YX w wx x y I.length H gi gh (pC I x.1 y.1) (.slice none 0 0) (.slice none 0 0) [] [] (lV I 0) (lW x.1 y.1 0)))
 case first =>
  go_region
  all_goals
   go_wp2_with fail
   go_meet
  ·exact⟨rfl,w4.heap.size,w4.heap.size+1,zA ((cU.out (n:=I.length) (gi:=w4.heap.size) (gh:=w4.heap.size+1) dJ.out lQ.out lN.out lL.out cW.out eH ((fk (tg _) _).alloc (by simp) _) (yD (zF _ _)) (uA _ _ _ (by simp)) (by omega) (by omega)).below (md (tl _ _)))⟩
  ·exact⟨rfl,w4.heap.size+1,w4.heap.size,zA ((cU.out (n:=I.length) (gi:=w4.heap.size+1) (gh:=w4.heap.size) dJ.out lQ.out lN.out lL.out cW.out eH ((fk (tg _) _).alloc (by simp) _) (uA _ _ _ (by simp)) (yD (zF _ _)) (by omega) (by omega)).below (md (tl _ _)))⟩
 case rest =>
  obtain⟨rfl,gi,gh,HS⟩:=hcut;generalize pV:wc=wA at *;clear pV dJ lQ lN lL cW k0 k1 l3 l4 HQ f12 f13 f14 fJ gq lI nO nP eH cU;have eZ:Hid (∀wr,Below w.heap.size w wr->wr.cell? ⟨b,o,none⟩=some (.slice ia I.length ic)/\wr.cell? ⟨b,o+1,none⟩=some (.slice ca H cc)):=λwr hb=>⟨(hb.cell (p:=⟨b,o,none⟩) lb).trans h0,(hb.cell (p:=⟨b,o+1,none⟩) lb).trans h1⟩;obtain⟨k0,k1⟩:=eZ.out wA HS.out.ns.af;clear h0 h1 h1' pS;go_wp2_with fail
  go_loopw [36] (λiv wr=>∃(i:Nat) (nv sv:Value) (L:List NE),i<=I.length/\iv=.int .i64 i/\Hid (YX w wr x y I.length H gi gh (pC I x.1 y.1) nv sv L (qI I x.1 y.1 i) (lV I i) (lW x.1 y.1 0))/\Hid (L.map NE.place=mZ I x.1 y.1 i)) (λiv _=>I.length-(intOf iv).toNat)
  case atStart=>exact⟨0,_,_,[],p8,rfl,HS,zA rfl⟩
  case round =>
   obtain⟨i,nv,sv,L,hi,rfl,HN,HP⟩:=hrel;have dV:=HN.out.ns.sz;by_cases aC:i<I.length
   ·obtain⟨g,rfl,n0,n1,n2,n3⟩:=jI.out wr HN.out.ns.af i aC
    obtain⟨-,-,⟨-,-,d12,-⟩,-⟩:=cx.out _ _ _ _ _ _ _ _ _ _ _ HN.out;have ii:(i:Int)<(I.length:Int):=by omega
    have lg:=uM n0;have ng:wr.heap.size≠g:=(by omega);have m3:w.heap.size+1+1+1<wr.heap.size:=(by omega);have fW:wr.heap.size≠w.heap.size+1+1+1:=(by omega);have ci:wr.cell? ⟨gi,i,none⟩=some (.int .i64 (lV I i i)):=HN.out.ns.rI.cell aC;have fi:wr.frozen? ⟨gi,i,none⟩=false:=HN.out.ns.rI.free i;have jJ:=uM ci;have mr:wr.heap.size≠gi:=(by omega);have fV:gi≠wr.heap.size:=(by omega);have eR:Hid (YX w (wr.setCell ⟨gi,i,none⟩ (.int .i64 (jV I i).low)) x y I.length H gi gh (pC I x.1 y.1) nv sv L (qI I x.1 y.1 i) (lV I (i+1)) (lW x.1 y.1 0)):=HN.out.hY aC _ (mG.out i).1 (λr _ hr=>(mG.out i).2 r hr);have dp:=zA (λw' hb=>dP.out w' hb i);have dn:=zA (λw' hb=>dO.out w' hb i);have jC:=zA (λw' hb=>bc.out w' hb i);have jB:=zA (λw' hb=>bb.out w' hb i);have gx:=zA (λw'=>nu.out w' i);have iz:=jA.out i;have iu:=iw.out i;have cO:=zA (oR.out i);have cN:=zA (dZ.out i);have s4:=oU.out i;have qi:=eS.out i;have s5:L.length<=i:=(by have:=gk List.length HP.out;rw[pt]at this;omega);rw[o0.out i,dM.out i]at cO cN;have sL:=nz.out i;have mB:Hid (∀za zc,AB (pC I x.1 y.1) ⟨i,za,zc⟩=[.int .i64 (i:Nat),.slice za (pC I x.1 y.1 i).length zc,.int .i64 0,.int .i64 0,.int .i64 0]):=λ_ _=>rfl;generalize lV I i i=old at *;generalize jV I i=xi at *;obtain⟨c6,dx,bn,c7⟩:=xi;simp only[FO]at n0 n1 n2 n3 eR cO cN gx;generalize pT x.1 i=q1 at *;generalize pT y.1 i=q2 at *
    go_upto_region 7 with fail
    have iT:Hid (YX w ((wr.setCell ⟨gi,i,none⟩ (.int .i64 bn)).alloc (.cells #[.string ⟨c6.toArray⟩,.bool dx,.int .i64 bn,.int .i64 c7] 204)) x y I.length H gi gh (pC I x.1 y.1) nv sv L (qI I x.1 y.1 i) (lV I (i+1)) (lW x.1 y.1 0)):=eR.out.below (fk (tg _) _);have mI:Hid (((wr.setCell ⟨gi,i,none⟩ (.int .i64 bn)).alloc (.cells #[.string ⟨c6.toArray⟩,.bool dx,.int .i64 bn,.int .i64 c7] 204)).heap[wr.heap.size]? = some (.cells #[.string ⟨c6.toArray⟩,.bool dx,.int .i64 bn,.int .i64 c7] 204 (0,0))):=uA _ _ _ (by simp[World.setCell]);generalize (wr.setCell ⟨gi,i,none⟩ (.int .i64 bn)).alloc (.cells #[.string ⟨c6.toArray⟩,.bool dx,.int .i64 bn,.int .i64 c7] 204)=w7 at *;clear eR n0 n1 n2 n3 ci fi jJ mr fV d12 HN dV m3 fW lg ng;obtain⟨⟨a0,a1,a2,a3,a4⟩,-,-,-⟩:=cx.out _ _ _ _ _ _ _ _ _ _ _ iT.out;have cY:=zA (dp.out w7 iT.out.ns.af)
    have eO:Hid (∀w8,Below w7.heap.size w7 w8->Below w.heap.size w w8/\w8.cell? ⟨w.heap.size+1,0,none⟩=some (.string ⟨yl.toArray⟩)/\w8.cell? ⟨w.heap.size+1,1,none⟩=some (.int .i64 yc)/\w8.cell? ⟨w.heap.size+1,2,none⟩=some (.slice cp yn cm)/\w8.cell? ⟨w.heap.size+1,3,none⟩=some (.slice dG ym dD)/\w8.cell? ⟨w.heap.size+1,4,none⟩=some (.int .i64 yr)):=λw8 hb=>by
     have k:=iT.out.below hb;obtain⟨-,h9,-,-⟩:=cx.out _ _ _ _ _ _ _ _ _ _ _ k;exact⟨k.ns.af,h9⟩
    go_cut [57] from 48 to 57 (λo8 wx=>o8=.bool (!(q1 || q2))/\Hid (Below w7.heap.size w7 wx))
    case first =>
     cases q1
     ·go_wp2_with fail
      refine cY.out.mono ?_;rintro e w8 ⟨rfl,bX⟩;obtain⟨p1,p2,p3,p4,p5,p6⟩:=eO.out w8 bX;have cd:=zA (dn.out w8 p1);have aW:=zA bX;clear bX p1 a0 a1 a2 a3 a4;go_wp2_with fail
      refine cd.out.mono ?_;rintro e w9 ⟨rfl,bD⟩;have bk:Hid (Below w7.heap.size w7 w9):=aW.out.trans (bD.mono aW.out.size);clear bD;cases q2
      ·go_wp2_with fail
       go_meet
       exact⟨rfl,bk⟩
      ·go_wp2_with fail
       go_meet
       exact⟨rfl,bk⟩
     ·go_wp2_with fail
      refine cY.out.mono ?_;rintro e w8 ⟨rfl,bX⟩;have aW:=zA bX;clear bX;go_wp2_with fail
      go_meet
      exact⟨rfl,aW⟩
    case rest =>
     obtain⟨rfl,aW⟩:=hcut;generalize fj:wc=w8 at *;clear fj a0 a1 a2 a3 a4 cY dp dn eO;have bS:=zA (iT.out.below aW.out);have ee:Hid (w8.heap[wr.heap.size]? = some (.cells #[.string ⟨c6.toArray⟩,.bool dx,.int .i64 bn,.int .i64 c7] 204 (0,0))):=by unfold Hid;rw[aW.out.block _ (zP mI.out)];exact mI.out
     clear iT mI aW;generalize (q1 || q2)=qq at *;cases qq
     ·have br:Hid (qI I x.1 y.1 (i+1)=qI I x.1 y.1 i):=by have:=cN.out;unfold Hid;simpa using this
      have aD:Hid (mZ I x.1 y.1 (i+1)=mZ I x.1 y.1 i):=by have:=cO.out;unfold Hid;simpa using this
      go_wp2_with fail
      go_roundw
      case rel=>exact⟨i+1,nv,sv,L,by omega,by go_num,by rw[br.out];exact bS,by rw[aD.out];exact HP⟩
      case measure=>simp[intOf];omega
     ·have u0:w8.cell? ⟨wr.heap.size,0,none⟩=some (.string ⟨c6.toArray⟩):=zC ee.out 0
      have u1:w8.cell? ⟨wr.heap.size,1,none⟩=some (.bool dx):=zC ee.out 1;have u2:w8.cell? ⟨wr.heap.size,2,none⟩=some (.int .i64 bn):=zC ee.out 2;have u3:w8.cell? ⟨wr.heap.size,3,none⟩=some (.int .i64 c7):=zC ee.out 3;obtain⟨⟨a0,a1,a2,a3,a4⟩,⟨b0,b1,b2,b3,b4⟩,⟨d10,d11,d12,d13⟩,dF⟩:=cx.out _ _ _ _ _ _ _ _ _ _ _ bS.out;have pz:=bS.out.ns.sz;have m3:w.heap.size+1+1+1<w8.heap.size:=(by omega);have fW:w8.heap.size≠w.heap.size+1+1+1:=(by omega);cases dx
      ·have br:Hid (qI I x.1 y.1 (i+1)=qI I x.1 y.1 i):=by have:=cN.out;unfold Hid;simpa using this
       have aD:Hid (mZ I x.1 y.1 (i+1)=mZ I x.1 y.1 i++[i]):=(by have:=cO.out;unfold Hid;simpa using this);have jH:=zA (jC.out w8 bS.out.ns.af);go_wp2_with fail
       refine jH.out.mono ?_;rintro e w9 ⟨v9,rfl,nN,bD⟩;have ba:=zA (bS.out.below bD);obtain⟨ea,ec,rfl,dX,-,-⟩:=oJ nN;have om:Hid (gJ w9 ea (xS x.1 i)):=⟨dX,iz⟩;have mH:Hid (w9.heap[wr.heap.size]? = some (.cells #[.string ⟨c6.toArray⟩,.bool false,.int .i64 bn,.int .i64 c7] 204 (0,0))):=by unfold Hid;rw[bD.block _ (zP ee.out)];exact ee.out
       obtain⟨-,⟨e0,e1,e2,e3,e4⟩,-,-⟩:=cx.out _ _ _ _ _ _ _ _ _ _ _ ba.out;have jG:=zA (jB.out w9 ba.out.ns.af);clear nN bD dX u0 u1 u2 u3 a0 a1 a2 a3 a4 b0 b1 b2 b3 b4 d10 d11 d12 d13 dF m3 fW pz bS ee jH;generalize xS x.1 i=be at *;go_wp2_with fail
       refine jG.out.mono ?_;rintro e c8 ⟨v10,rfl,gG,bF⟩;have iU:=zA (ba.out.below bF);obtain⟨la,lc,rfl,cA,-,-⟩:=oJ gG;have oh:Hid (gJ c8 la (xS y.1 i)):=⟨cA,iu⟩;have iY:=zA (om.out.below bF);have cT:Hid (c8.heap[wr.heap.size]? = some (.cells #[.string ⟨c6.toArray⟩,.bool false,.int .i64 bn,.int .i64 c7] 204 (0,0))):=by unfold Hid;rw[bF.block _ (zP mH.out)];exact mH.out
       have u0:c8.cell? ⟨wr.heap.size,0,none⟩=some (.string ⟨c6.toArray⟩):=zC cT.out 0;have u1:c8.cell? ⟨wr.heap.size,1,none⟩=some (.bool false):=zC cT.out 1;have u2:c8.cell? ⟨wr.heap.size,2,none⟩=some (.int .i64 bn):=zC cT.out 2;have u3:c8.cell? ⟨wr.heap.size,3,none⟩=some (.int .i64 c7):=zC cT.out 3;have nr:=zA (gx.out c8 ea la ec lc iY.out oh.out);clear gG bF cA e0 e1 e2 e3 e4 ba mH jG om iY oh;generalize xS y.1 i=bl at *;go_wp2_with fail
       refine nr.out.mono ?_;rintro e dW ⟨v11,rfl,gF,gX⟩;have cS:=zA (iU.out.below gX);obtain⟨za,zc,rfl,nW⟩:=uT gF;have rh:=zA nW;obtain⟨-,-,⟨d10,d11,d12,d13⟩,dF⟩:=cx.out _ _ _ _ _ _ _ _ _ _ _ cS.out;have qB:=cS.out.ns.sz;have m3:w.heap.size+1+1+1<dW.heap.size:=by omega
       have fW:dW.heap.size≠w.heap.size+1+1+1:=(by omega);clear gF gX nW u0 u1 u2 u3 iU cT nr;have iP:=zA (λ(ob:Obj) (wy:World) (v':Value) (aG:wy.ownsRow (w.heap.size+4) 223 5 v' (L.length+1) (iS (pC I x.1 y.1) L++AB (pC I x.1 y.1) ⟨i,za,zc⟩)) (hg:(dW.alloc ob).grownBy wy nv.ownBlock)=>(cS.out.below (fk (tg _) ob)).num ⟨i,za,zc⟩ (rh.out.below (fk (tg _) ob)) aG hg);obtain⟨na,nc,rfl⟩:=zO cS.out.au;have eU:=zA cS.out.au;have ly:Hid ((L++[(⟨i,za,zc⟩:NE)]).map NE.place=mZ I x.1 y.1 (i+1)):=(by unfold Hid;rw[bj,HP.out,aD.out];rfl);rw[mB.out za zc]at iP;generalize (pC I x.1 y.1 i).length=zl at *
       go_wp2_with (at_builtin;refine wpList_append_own _ rfl _ _ 164 rfl (w.heap.size+4) 223 j0 _ 5 56 underlying164 qa qY jR qX rfl (by decide) _ _ _ rfl (eU.out.alloc _) ⟨dW.heap.size,0,none⟩ 1 1 [.int .i64 (i:Nat),.slice za zl zc,.int .i64 0,.int .i64 0,.int .i64 0] rfl rfl ?bM ?bL ?bK ?bJ ?bI ?_)
       try (case bM=>first|exact zM _ _ _ _ rfl|exact λ_ _ h=>h)
       try (case bL=>first|exact⟨rfl,rfl,rfl,rfl,rfl⟩|(intro u hu;simp at hu;rcases hu with rfl|rfl|rfl <;> rfl)|simp[Value.oneCell'])
       try (case bK=>unfold maxLen;omega)
       try (case bJ=>omega)
       try (case bI=>first|omega|(simp;omega))
       intro v12 bu aI aB _;have cR:=zA (iP.out _ bu v12 aI aB)
       have kN:bu.cell? ⟨w.heap.size+1+1+1,10,none⟩=some (.slice na L.length nc):=by
        have hb:=aB.block (w.heap.size+1+1+1) (by simp;omega) (λe=>by have:=(zW eU.out _ e.symm).1;omega);rw[bq (w:=dW.alloc _) (a:=⟨w.heap.size+1+1+1,10,none⟩) hb,bq (w:=dW) (a:=⟨w.heap.size+1+1+1,10,none⟩) (ld _ _ m3)];exact d10
       have f10:bu.frozen? ⟨w.heap.size+1+1+1,10,none⟩=false:=by
        have hb:=aB.block (w.heap.size+1+1+1) (by simp;omega) (λe=>by have:=(zW eU.out _ e.symm).1;omega);rw[dm (w:=dW.alloc _) (a:=⟨w.heap.size+1+1+1,10,none⟩) hb,dm (w:=dW) (a:=⟨w.heap.size+1+1+1,10,none⟩) (ld _ _ m3)];exact dF 10
       obtain⟨va,vc,rfl⟩:=zO aI;clear aI aB d10 d11 d12 d13 dF;go_wp2_with fail
       go_roundw
       case rel=>exact⟨i+1,_,sv,L++[⟨i,za,zc⟩],by omega,by go_num,by rw[br.out];exact cR,ly⟩
       case measure=>simp[intOf];omega
      ·have br:Hid (qI I x.1 y.1 (i+1)=qI I x.1 y.1 i++[⟨true,i⟩]):=by have:=cN.out;unfold Hid;simpa using this
       have aD:Hid (mZ I x.1 y.1 (i+1)=mZ I x.1 y.1 i):=(by have:=cO.out;unfold Hid;simpa using this);have lS:=zA (λ(ob:Obj) (wy:World) (v':Value) (aG:wy.ownsRow (w.heap.size+4) 216 2 v' ((qI I x.1 y.1 i).length+1) (XA (qI I x.1 y.1 i)++[.bool true,.int .i64 (i:Nat)])) (hg:(w8.alloc ob).grownBy wy sv.ownBlock)=>(bS.out.below (fk (tg _) ob)).EO ⟨true,i⟩ aG hg);obtain⟨sa,sc,rfl⟩:=zO bS.out.hU;have eT:=zA bS.out.hU;clear u0 u2 u3 a0 a1 a2 a3 a4 b0 b1 b2 b3 b4
       go_wp2_with (at_builtin;refine wpList_append_own _ rfl _ _ 165 rfl (w.heap.size+4) 216 i0 _ 2 16 underlying165 ai hz0 hz1 aV rfl (by decide) _ _ _ rfl (eT.out.alloc _) ⟨w8.heap.size,0,none⟩ 1 1 [.bool true,.int .i64 (i:Nat)] rfl rfl ?cK ?cI ?cH ?cE ?cD ?_)
       try (case cK=>first|exact zM _ _ _ _ rfl|exact λ_ _ h=>h)
       try (case cI=>first|exact⟨rfl,rfl⟩|(intro u hu;simp at hu;rcases hu with rfl|rfl <;> rfl)|simp[Value.oneCell'])
       try (case cH=>unfold maxLen;omega)
       try (case cE=>omega)
       try (case cD=>first|omega|(simp;omega))
       intro v12 bu aI aB _;have cR:=zA (lS.out _ bu v12 aI aB)
       have qp:bu.cell? ⟨w.heap.size+1+1+1,11,none⟩=some (.slice sa (qI I x.1 y.1 i).length sc):=by
        have hb:=aB.block (w.heap.size+1+1+1) (by simp;omega) (λe=>by have:=(zW eT.out _ e.symm).1;omega);rw[bq (w:=w8.alloc _) (a:=⟨w.heap.size+1+1+1,11,none⟩) hb,bq (w:=w8) (a:=⟨w.heap.size+1+1+1,11,none⟩) (ld _ _ m3)];exact d11
       have f11:bu.frozen? ⟨w.heap.size+1+1+1,11,none⟩=false:=by
        have hb:=aB.block (w.heap.size+1+1+1) (by simp;omega) (λe=>by have:=(zW eT.out _ e.symm).1;omega);rw[dm (w:=w8.alloc _) (a:=⟨w.heap.size+1+1+1,11,none⟩) hb,dm (w:=w8) (a:=⟨w.heap.size+1+1+1,11,none⟩) (ld _ _ m3)];exact dF 11
       obtain⟨va,vc,rfl⟩:=zO aI;clear aI aB d10 d11 d12 d13 dF;go_wp2_with fail
       go_roundw
       case rel=>exact⟨i+1,nv,_,L,by omega,by go_num,by rw[br.out];exact cR,by rw[aD.out];exact HP⟩
       case measure=>simp[intOf];omega
   ·obtain rfl:i=I.length:=by omega
    have ii:¬(I.length:Int)<(I.length:Int):=(by omega);obtain⟨wq,nB⟩:∃wq,wq=wr:=⟨_,rfl⟩;rw[<-nB]at HN ⊢;clear nB dV k0 k1;obtain⟨k0,k1⟩:=eZ.out wq HN.out.ns.af
    have rS:Hid (YX w wq x y I.length H gi gh (pC I x.1 y.1) nv sv L (qI I x.1 y.1 I.length++uS x.1 y.1 0) (lV I I.length) (lW x.1 y.1 0)):=by
     have e:qI I x.1 y.1 I.length++uS x.1 y.1 0=qI I x.1 y.1 I.length:=mt _;unfold Hid;rw[e];exact HN.out
    have sr:=eS.out I.length;clear HN oR dZ oU eS mG jA iw nu bc bb dP dO jI dM o0 nz;go_wp2_with fail
    generalize ni:qI I x.1 y.1 I.length=T1 at *;have lT:=zA ni;clear ni
    go_loopw [91] (λiv wr=>∃(c:Nat) (sv:Value),c<=H/\iv=.int .i64 c/\Hid (YX w wr x y I.length H gi gh (pC I x.1 y.1) nv sv L (T1++uS x.1 y.1 c) (lV I I.length) (lW x.1 y.1 c))) (λiv _=>H-(intOf iv).toNat)
    case atStart=>exact⟨0,_,p8,rfl,rS⟩
    case round =>
     obtain⟨c,sv,hc,rfl,HN⟩:=hrel;by_cases aC:c<H
     ·have jj:(c:Int)<(H:Int):=by omega
      obtain⟨⟨a0,a1,a2,a3,a4⟩,-,-,-⟩:=cx.out _ _ _ _ _ _ _ _ _ _ _ HN.out;have cP:=zA (eX.out wr HN.out.ns.af c);have di:=zA (λw' hb=>eW.out w' hb c);have dt:=zA (λw' hb=>ew.out w' hb c);have dr:=zA (λw' hb=>et.out w' hb c);have dK:=zA (iD.out c);have iZ:=zA (rW.out c);have qg:=lf.out c;rw[rQ.out c]at dK iZ
      have eO:Hid (∀w8,Below wr.heap.size wr w8->(Below w.heap.size w w8/\w8.cell? ⟨w.heap.size+1,0,none⟩=some (.string ⟨yl.toArray⟩)/\w8.cell? ⟨w.heap.size+1,1,none⟩=some (.int .i64 yc)/\w8.cell? ⟨w.heap.size+1,2,none⟩=some (.slice cp yn cm)/\w8.cell? ⟨w.heap.size+1,3,none⟩=some (.slice dG ym dD)/\w8.cell? ⟨w.heap.size+1,4,none⟩=some (.int .i64 yr))/\w8.cell? ⟨w.heap.size,0,none⟩=some (.string ⟨xl.toArray⟩)/\w8.cell? ⟨w.heap.size,1,none⟩=some (.int .i64 xc)/\w8.cell? ⟨w.heap.size,2,none⟩=some (.slice pa xn pc)/\w8.cell? ⟨w.heap.size,3,none⟩=some (.slice ga xm gc)/\w8.cell? ⟨w.heap.size,4,none⟩=some (.int .i64 xr)):=λw8 hb=>by
       have k:=HN.out.below hb;obtain⟨h8,h9,-,-⟩:=cx.out _ _ _ _ _ _ _ _ _ _ _ k;exact⟨⟨k.ns.af,h9⟩,h8⟩
      generalize lE x.1 c=q1 at *;generalize lE y.1 c=q2 at *;generalize vZ x.1 c=q3 at *;generalize vZ y.1 c=q4 at *
      go_upto_region 18 with fail
      go_cut [101] from 94 to 101 (λv wx=>v=.bool (q1 || q2)/\Hid (Below wr.heap.size wr wx))
      case first =>
       cases q1
       ·go_wp2_with fail
        refine cP.out.mono ?_;rintro e w8 ⟨rfl,bX⟩;obtain⟨⟨p1,p2,p3,p4,p5,p6⟩,-⟩:=eO.out w8 bX;have cd:=zA (di.out w8 p1);have aW:=zA bX;clear bX p1 a0 a1 a2 a3 a4;go_wp2_with fail
        refine cd.out.mono ?_;rintro e w9 ⟨rfl,bD⟩;have bk:Hid (Below wr.heap.size wr w9):=aW.out.trans (bD.mono aW.out.size);clear bD;go_wp2_with fail
        go_meet
        exact⟨rfl,bk⟩
       ·go_wp2_with fail
        refine cP.out.mono ?_;rintro e w8 ⟨rfl,bX⟩;have aW:=zA bX;clear bX;go_wp2_with fail
        go_meet
        exact⟨rfl,aW⟩
      case rest =>
       obtain⟨rfl,aW⟩:=hcut;generalize fj:wc=w8 at *;clear fj a0 a1 a2 a3 a4 cP di;generalize (q1 || q2)=qq at *;cases qq
       ·have oo:Hid (lW x.1 y.1 (c+1)=lW x.1 y.1 c):=by
         unfold Hid;funext r;by_cases hr:r=c
         ·subst hr;rw[iZ.out.1];unfold lW;rw[ty (by omega)];rfl
         ·exact iZ.out.2 r hr
        obtain⟨⟨p1,-⟩,a0,a1,a2,a3,a4⟩:=eO.out w8 aW.out;have cb:=zA (dt.out w8 p1);clear p1
        go_upto_region 20 with fail
        go_cut [114] from 107 to 114 (λv wx=>v=.bool (q3 || q4)/\Hid (Below wr.heap.size wr wx))
        case first =>
         cases q3
         ·go_wp2_with fail
          refine cb.out.mono ?_;rintro e w9 ⟨rfl,bD⟩;have bk:Hid (Below wr.heap.size wr w9):=aW.out.trans (bD.mono aW.out.size);obtain⟨⟨p1,p2,p3,p4,p5,p6⟩,-⟩:=eO.out w9 bk.out;have cd:=zA (dr.out w9 p1);clear bD p1 a0 a1 a2 a3 a4;go_wp2_with fail
          refine cd.out.mono ?_;rintro e c8 ⟨rfl,bF⟩;have mQ:Hid (Below wr.heap.size wr c8):=bk.out.trans (bF.mono bk.out.size);clear bF;go_wp2_with fail
          go_meet
          exact⟨rfl,mQ⟩
         ·go_wp2_with fail
          refine cb.out.mono ?_;rintro e w9 ⟨rfl,bD⟩;have bk:Hid (Below wr.heap.size wr w9):=aW.out.trans (bD.mono aW.out.size);clear bD;go_wp2_with fail
          go_meet
          exact⟨rfl,bk⟩
        case rest =>
         obtain⟨rfl,bk⟩:=hcut;generalize fj:wc=w9 at *;clear fj a0 a1 a2 a3 a4 cb dt dr eO aW;have ba:=zA (HN.out.below bk.out);clear HN bk;generalize (q3 || q4)=qh at *;cases qh
         ·have br:Hid (uS x.1 y.1 (c+1)=uS x.1 y.1 c):=by have:=dK.out;unfold Hid;simpa using this
          go_wp2_with fail
          go_roundw
          case rel=>exact⟨c+1,sv,by omega,by go_num,by rw[br.out,oo.out];exact ba⟩
          case measure=>simp[intOf];omega
         ·have br:Hid (T1++uS x.1 y.1 (c+1)=(T1++uS x.1 y.1 c)++[⟨false,c⟩]):=by have:=dK.out;unfold Hid;rw[this];simp
          have ss:(T1++uS x.1 y.1 c).length<=20000:=(by rw[tm];omega);obtain⟨-,-,⟨d10,d11,d12,d13⟩,dF⟩:=cx.out _ _ _ _ _ _ _ _ _ _ _ ba.out;have sQ:=ba.out.ns.sz;have m3:w.heap.size+1+1+1<w9.heap.size:=(by omega);have fW:w9.heap.size≠w.heap.size+1+1+1:=(by omega);have lS:=zA (λ(ob:Obj) (wy:World) (v':Value) (aG:wy.ownsRow (w.heap.size+4) 216 2 v' ((T1++uS x.1 y.1 c).length+1) (XA (T1++uS x.1 y.1 c)++[.bool false,.int .i64 (c:Nat)])) (hg:(w9.alloc ob).grownBy wy sv.ownBlock)=>(ba.out.below (fk (tg _) ob)).EO ⟨false,c⟩ aG hg);obtain⟨sa,sc,rfl⟩:=zO ba.out.hU;have eT:=zA ba.out.hU;generalize qf:T1++uS x.1 y.1 c=TT at *;clear qf
          go_wp2_with (at_builtin;refine wpList_append_own _ rfl _ _ 165 rfl (w.heap.size+4) 216 i0 _ 2 16 underlying165 ai hz0 hz1 aV rfl (by decide) _ _ _ rfl (eT.out.alloc _) ⟨w9.heap.size,0,none⟩ 1 1 [.bool false,.int .i64 (c:Nat)] rfl rfl ?bM ?bL ?bK ?bJ ?bI ?_)
          try (case bM=>first|exact zM _ _ _ _ rfl|exact λ_ _ h=>h)
          try (case bL=>first|exact⟨rfl,rfl⟩|(intro u hu;simp at hu;rcases hu with rfl|rfl <;> rfl)|simp[Value.oneCell'])
          try (case bK=>unfold maxLen;omega)
          try (case bJ=>omega)
          try (case bI=>first|omega|(simp;omega))
          intro v12 bu aI aB _;have cR:=zA (lS.out _ bu v12 aI aB)
          have qp:bu.cell? ⟨w.heap.size+1+1+1,11,none⟩=some (.slice sa TT.length sc):=by
           have hb:=aB.block (w.heap.size+1+1+1) (by simp;omega) (λe=>by have:=(zW eT.out _ e.symm).1;omega);rw[bq (w:=w9.alloc _) (a:=⟨w.heap.size+1+1+1,11,none⟩) hb,bq (w:=w9) (a:=⟨w.heap.size+1+1+1,11,none⟩) (ld _ _ m3)];exact d11
          have f11:bu.frozen? ⟨w.heap.size+1+1+1,11,none⟩=false:=by
           have hb:=aB.block (w.heap.size+1+1+1) (by simp;omega) (λe=>by have:=(zW eT.out _ e.symm).1;omega);rw[dm (w:=w9.alloc _) (a:=⟨w.heap.size+1+1+1,11,none⟩) hb,dm (w:=w9) (a:=⟨w.heap.size+1+1+1,11,none⟩) (ld _ _ m3)];exact dF 11
          obtain⟨va,vc,rfl⟩:=zO aI;clear aI aB d10 d11 d12 d13 dF;go_wp2_with fail
          go_roundw
          case rel=>exact⟨c+1,_,by omega,by go_num,by rw[br.out,oo.out];exact cR⟩
          case measure=>simp[intOf];omega
       ·have br:Hid (uS x.1 y.1 (c+1)=uS x.1 y.1 c):=by have:=dK.out;unfold Hid;simpa using this
        have bS:=zA (HN.out.below aW.out);obtain⟨-,-,⟨-,-,-,d13⟩,-⟩:=cx.out _ _ _ _ _ _ _ _ _ _ _ bS.out;have ch:w8.cell? ⟨gh,c,none⟩=some (.bool (lW x.1 y.1 c c)):=bS.out.ns.rH.cell aC;have fh:w8.frozen? ⟨gh,c,none⟩=false:=bS.out.ns.rH.free c
        have ba:Hid (YX w (w8.setCell ⟨gh,c,none⟩ (.bool true)) x y I.length H gi gh (pC I x.1 y.1) nv sv L (T1++uS x.1 y.1 (c+1)) (lV I I.length) (lW x.1 y.1 (c+1))):=by
         unfold Hid;rw[br.out];exact bS.out.gu aC _ iZ.out.1 (λr _ hr=>iZ.out.2 r hr)
        generalize lW x.1 y.1 c c=old at *;go_wp2_with fail
        go_roundw
        case rel=>exact⟨c+1,sv,by omega,by go_num,ba⟩
        case measure=>simp[intOf];omega
     ·obtain rfl:c=H:=by omega
      have jj:¬(c:Int)<(c:Int):=(by omega);obtain⟨na,nc,rfl⟩:=zO HN.out.au;obtain⟨sa,sc,rfl⟩:=zO HN.out.hU;have ji:=zA (l6.out (.slice na L.length nc) (.slice sa (T1++uS x.1 y.1 c).length sc) (.slice (some ⟨gi,0,none⟩) I.length I.length) (.slice (some ⟨gh,0,none⟩) c c) rfl rfl rfl rfl);have iG:=zA HN.out.ns.res;have rX:=zA HN.out.ns.hd;have mJ:=zA (jd.out _ gi gh _ _ L (HN.out.done (Cw x y (.slice na L.length nc) (.slice sa (T1++uS x.1 y.1 c).length sc) (.slice (some ⟨gi,0,none⟩) I.length I.length) (.slice (some ⟨gh,0,none⟩) c c))) HP.out);have dM:=zA (I4 x y (.slice na L.length nc) (.slice sa (T1++uS x.1 y.1 c).length sc) (.slice (some ⟨gi,0,none⟩) I.length I.length) (.slice (some ⟨gh,0,none⟩) c c));have ja:Hid ((Cw x y (.slice na L.length nc) (.slice sa (T1++uS x.1 y.1 c).length sc) (.slice (some ⟨gi,0,none⟩) I.length I.length) (.slice (some ⟨gh,0,none⟩) c c)).size=15):=rfl;generalize Cw x y (.slice na L.length nc) (.slice sa (T1++uS x.1 y.1 c).length sc) (.slice (some ⟨gi,0,none⟩) I.length I.length) (.slice (some ⟨gh,0,none⟩) c c)=SR at *;clear HN
      go_wp2_with (first
       | (refine wpList_load_row ?bB 170 (.tmp 7) ?ho (w.heap.size+1+1+1) ?hx 170 SR (0,0) _ rX.out underlying170 rfl dM.out ?_
          case ho=>rfl
          case bB=>rfl
          case hx=>rfl)
       | (refine wpList_store_row ?bB 170 (.tmp 6) (.tmp 123) ?ho (w.heap.size+1+1) SR ?hx ?hy 170 Fs iG.out dM.out ?bt ji.out ?_
          case ho=>rfl
          case bB=>rfl
          case hx=>rfl
          case hy=>rfl
          case bt=>rw[ja.out];rfl))
      refine pe (v:=.agg SR) (results_cell_row results66 _ _ (w.heap.size+1+1) 170 SR (0,0) _ rfl (l9 _ _ Fs _ iG.out) underlying170 rfl dM.out) rfl mJ.out
def wX:NE:=⟨0,none,0⟩
def Ar(I:List yA)(H:Nat)(e l:xN):Prop:=∃y,wW I H y/\kY e y=true/\kY l y=true
structure sZ(I:List yA):Prop where
 num:∀i,i<I.length->xZ I i=true->0<=(jV I i).low/\(jV I i).low<=(jV I i).high/\(jV I i).high<=9999
 flag:∀i,i<I.length->xZ I i=false->(jV I i).low=0
 aj:I.length<=100
def fM(w:World)(b:Nat)(I:List yA)(H:Nat)(x y:MX)(L:List NE)(na:Option Addr)(gn nc:Nat)(sa:Option Addr)(sc gi gh:Nat):SK :=
 ⟨w.heap.size,b,x,y,L.length,λp=>(L.getD p wX).place,λp=>pC I x.1 y.1 (L.getD p wX).place,λp=>(L.getD p wX).za,λp=>(L.getD p wX).zc,na,gn,nc,qI I x.1 y.1 I.length++uS x.1 y.1 H,sa,sc,gi,gh,I.length,H⟩
def A7(I:List yA)(H:Nat)(x y:MX):vW:=⟨λ_=>(0,0),λ_=>0,lV I I.length,lW x.1 y.1 H⟩
theorem Yc{I:List yA}{e l:xN}{t:jX}(h:t∈qI I e l I.length++uS e l H):(t.flag=true/\t.place<I.length/\kL e l t.place=true/\xZ I t.place=false)\/(t.flag=false/\t.place<H/\uQ e l t.place=false/\(vZ e t.place || vZ l t.place)=true):=by
 rcases pj.1 h with h|h
 ·obtain⟨i,hi,rfl⟩:=pd.1 h
  have:=mu.1 hi;simp only[me,ma,Bool.not_eq_true']at this;exact .inl ⟨rfl,this.1,this.2.1,this.2.2⟩
 ·obtain⟨i,hi,rfl⟩:=pd.1 h
  have:=mu.1 hi;simp only[me,ma,Bool.not_eq_true']at this;exact .inr ⟨rfl,this.1,this.2.1,this.2.2⟩
theorem F1{I:List yA}{e l:xN}{i:Nat}(h1:i<I.length)(h2:kL e l i=true)(h3:xZ I i=false):(⟨true,i⟩:jX)∈qI I e l I.length++uS e l H :=
 pj.2 (.inl (pd.2 ⟨i,mu.2 ⟨by simpa using h1,by simp[h2,h3]⟩,rfl⟩))
theorem Mw{I:List yA}{e l:xN}{c:Nat}(h1:c<H)(h2:uQ e l c=false)(h3:(vZ e c || vZ l c)=true):(⟨false,c⟩:jX)∈qI I e l I.length++uS e l H :=
 pj.2 (.inr (pd.2 ⟨c,mu.2 ⟨by simpa using h1,by rw[h2,h3];rfl⟩,rfl⟩))
theorem jZ{I:List yA}{e l:xN}(h:L.map NE.place=vB I e l)(hp:p<L.length):(L.getD p wX).place=(vB I e l).getD p 0:=by
 rw[<-h];simp[List.getD,hp]
theorem Uw{I:List yA}{e l:xN}{q:Nat}(hp:p<(vB I e l).length)(hq:q<(vB I e l).length)(h:(vB I e l).getD p 0=(vB I e l).getD q 0):p=q:=by
 have hnd:(vB I e l).Nodup:=List.Pairwise.filter _ List.nodup_range;rw[mq,mq,pm hp,pm hq]at h;exact(List.getElem_inj hnd).1 h
theorem Lg{b:Nat}{I:List yA}(hL:L.map NE.place=vB I x.1 y.1)(hI:sZ I)(fH:H<=10000)(e8:∀i,(pC I x.1 y.1 i).length<=100000)(l1:w.heap.size<=b)(l2:w.heap.size<=gi)(l3:w.heap.size<=gh)(l4:0<L.length->w.heap.size<=gn):Je (fM w b I H x y L na gn nc sa sc gi gh):=by
 have hl:L.length=(vB I x.1 y.1).length:=by rw[<-hL,pt]
 have rq:(vB I x.1 y.1).length<=I.length:=Qb I x.1 y.1 I.length;have h1:=JI I x.1 y.1 I.length;have h2:=JH x.1 y.1 H;have hf:=hI.aj
 have hm:∀p,p<L.length->(L.getD p wX).place<I.length/\kL x.1 y.1 (L.getD p wX).place=true/\xZ I (L.getD p wX).place=true:=λp hp=>by
  rw[jZ hL hp];exact pZ.1 (fY (by omega))
 refine⟨l1,l2,l3,l4,by show L.length<=100;omega,by show I.length<=10000;omega,fH,by show (_++_:List jX).length<=20000;rw[tm];omega,λp _=>e8 _,λp hp=>(hm p hp).1,λp q hp hq e=>?_,λp hp t ht h=>?_,λt ht hf=>?_,λt ht hf=>?_⟩
 ·have e':(vB I x.1 y.1).getD p 0=(vB I x.1 y.1).getD q 0:=by rw[<-jZ hL hp,<-jZ hL hq];exact e
  exact Uw (hl ▸ hp) (hl ▸ hq) e'
 ·rcases Yc ht with ⟨_,_,_,h9⟩|⟨h9,_⟩
  ·rw[h.2]at h9;have:=(hm p hp).2.2;rw[show (fM w b I H x y L na gn nc sa sc gi gh).P p=(L.getD p wX).place from rfl,this]at h9;cases h9
  ·rw[h.1]at h9;cases h9
 ·rcases Yc ht with ⟨_,h9,_⟩|⟨h9,_⟩
  ·exact h9
  ·rw[hf]at h9;cases h9
 ·rcases Yc ht with ⟨h9,_⟩|⟨_,h9,_⟩
  ·rw[hf]at h9;cases h9
  ·exact h9
theorem Ri(l:List Bool)(c:Nat):jO l (c:Int)=(decide (c<l.length)&&l.getD c false):=by
 unfold jO;rw[tz (show (0:Int)<=(c:Int) by omega),bm];by_cases h:c<l.length
 ·rw[tz h,tz (show (c:Int)<(l.length:Int) by omega)];rfl
 ·rw[ty h,ty (show ¬(c:Int)<(l.length:Int) by omega)];rfl
theorem Om{b:Nat}{I:List yA}(hL:L.map NE.place=vB I x.1 y.1)(hI:sZ I)(qL:wU x.1 I.length (xZ I))(qH:wU y.1 I.length (xZ I))(gI:∀c,uQ x.1 y.1 c=true->c<H)(nZ:∀c,(vZ x.1 c || vZ y.1 c)=true->c<H)
 (h:nY (qO (fM w b I H x y L na gn nc sa sc gi gh)) L.length (λp=>(L.getD p wX).place) (λp=>pC I x.1 y.1 (L.getD p wX).place) (qI I x.1 y.1 I.length++uS x.1 y.1 H) 0 (A7 I H x y) s' false):¬Ar I H x.1 y.1:=by
 rintro⟨v,hv,h1,h2⟩;have hl:L.length=(vB I x.1 y.1).length:=by rw[<-hL,pt]
 obtain⟨Z,qd,hZ,rk,sR,qC,o,ho,ht⟩:=Uf qL qH (λi hi hn=>⟨(hI.num i hi hn).1,(hI.num i hi hn).2.2⟩) hv h1 h2
 obtain⟨F,hF⟩:∃F:Nat->Int,(∀p,p<L.length->F (L.getD p wX).place=o.getD (rk.getD p 0) 0)/\∀i,(∀p,p<L.length->(L.getD p wX).place≠i)->F i=if kL x.1 y.1 i=true/\xZ I i=false/\i<I.length then v.inputs.getD i 0 else lV I I.length i:=by
  refine⟨λi=>if hq:∃p,p<L.length/\(L.getD p wX).place=i then o.getD (rk.getD (Classical.choose hq) 0) 0 else if kL x.1 y.1 i=true/\xZ I i=false/\i<I.length then v.inputs.getD i 0 else lV I I.length i,λp hp=>?_,λi hi=>?_⟩
  ·have hq:∃q,q<L.length/\(L.getD q wX).place=(L.getD p wX).place:=⟨p,hp,rfl⟩
   simp only[hq,dite_true];have hc:=Classical.choose_spec hq;have e':(vB I x.1 y.1).getD (Classical.choose hq) 0=(vB I x.1 y.1).getD p 0:=by rw[<-jZ hL hc.1,<-jZ hL hp];exact hc.2
   rw[Uw (hl ▸ hc.1) (hl ▸ hp) e']
  ·have hq:¬ ∃p,p<L.length/\(L.getD p wX).place=i:=λ⟨p,hp,e⟩=>hi p hp e
   simp only[hq,dite_false]
 obtain⟨t,eE⟩:∃t:vW,t=⟨λ_=>(0,0),λ_=>0,F,λc=>uQ x.1 y.1 c || ((vZ x.1 c || vZ y.1 c)&&jO v.has (c:Int))⟩:=⟨_,rfl⟩;have j2:∀i,CY (qI I x.1 y.1 I.length++uS x.1 y.1 H) i->¬(kL x.1 y.1 i=true/\xZ I i=false/\i<I.length):=λi hi hh=>hi _ (F1 hh.2.2 hh.1 hh.2.1) ⟨rfl,rfl⟩
 have fy:mD L.length (λp=>(L.getD p wX).place) (qI I x.1 y.1 I.length++uS x.1 y.1 H) (A7 I H x y) t:=by
  rw[eE];refine⟨λi hp hi=>?_,λc hc=>?_⟩
  ·show F i=lV I I.length i
   rw[hF.2 i hp,tj (j2 i hi)]
  ·show (uQ x.1 y.1 c || ((vZ x.1 c || vZ y.1 c)&&jO v.has (c:Int)))=lW x.1 y.1 H c
   unfold lW;cases hn:uQ x.1 y.1 c
   ·cases ha:(vZ x.1 c || vZ y.1 c)
    ·simp
    ·exact x' ⟨rfl,rfl⟩ (hc _ (Mw (nZ c ha) hn ha))
   ·rw[tz (gI c hn)];simp
 have bW:=h.no rfl (λp=>Z.getD p (0,0)) (λp hp=>x' hp (by omega)) (λp hp=>by rw[jZ hL hp];exact hZ p (by omega)) (λp=>rk.getD p 0) (λp hp=>by
  have aT:p<rk.length:=by omega
  have:=qC (rk.getD p 0) (by simp[List.getD,aT])
  omega) o (by
  have e:bA L.length (λp=>Z.getD p (0,0)) (λp=>rk.getD p 0)=nH Z rk:=by unfold bA nH;rw[qd,hl]
  rw[e];exact ho) t fy (λp hp=>by rw[eE];exact hF.1 p hp) (λq hq qF=>by
  rcases Yc hq with ⟨_,g1,g2,g3⟩|⟨g1,_⟩
  ·have e9:∀p,p<L.length->(L.getD p wX).place≠q.place:=λp hp e=>by
    rw[jZ hL hp]at e;have:=(pZ.1 (fY (I:=I) (e:=x.1) (l:=y.1) (p:=p) (by omega))).2.2;rw[e,g3]at this;cases this
   rw[eE];show F q.place=0\/F q.place=1;rw[hF.2 _ e9,tr ⟨g2,g3,g1⟩];exact hv.flag _ g1 g3
  ·rw[qF]at g1;cases g1)
 have jv:zL4 I x.1 y.1 rk o v (iI (fM w b I H x y L na gn nc sa sc gi gh) t):=by
  have e7:∀i,i<I.length->(iI (fM w b I H x y L na gn nc sa sc gi gh) t).inputs.getD i 0=t.inp i:=λi hi=>by simp[iI,fM,List.getD,hi]
  have gR:∀c:Nat,jO (iI (fM w b I H x y L na gn nc sa sc gi gh) t).has (c:Int)=(decide (c<H)&&t.has c):=λc=>by
   rw[Ri];by_cases hc:c<H
   ·simp[iI,fM,List.getD,hc]
   ·simp[iI,fM,hc]
  refine⟨by simp[iI,fM],λp hp=>?_,λi hi ha hn=>?_,λc hc=>?_,λc hc ha=>?_⟩
  ·have hm:=pZ.1 (fY hp)
   rw[e7 _ hm.1,eE,<-jZ hL (show p<L.length by omega)];exact hF.1 p (by omega)
  ·have e9:∀p,p<L.length->(L.getD p wX).place≠i:=λp hp e=>by
    rw[jZ hL hp]at e;have:=(pZ.1 (fY (I:=I) (e:=x.1) (l:=y.1) (p:=p) (by omega))).2.2;rw[e,hn]at this;cases this
   rw[e7 i hi,eE];show F i=_;rw[hF.2 i e9,tr ⟨ha,hn,hi⟩]
  ·rw[gR,tz (gI c hc),eE]
   show (true&&(uQ x.1 y.1 c || _))=true;rw[hc];rfl
  ·rw[gR,tz (nZ c ha),eE]
   show (true&&(uQ x.1 y.1 c || ((vZ x.1 c || vZ y.1 c)&&jO v.has (c:Int))))=_;rw[hc,ha];simp
 have:=ht _ jv;unfold qO at bW;rw[show (fM w b I H x y L na gn nc sa sc gi gh).e.1=x.1 from rfl,show (fM w b I H x y L na gn nc sa sc gi gh).l.1=y.1 from rfl,this.1,this.2]at bW;cases bW
theorem Sk{b:Nat}{I:List yA}(hL:L.map NE.place=vB I x.1 y.1)(hI:sZ I)
 (h:nY (qO (fM w b I H x y L na gn nc sa sc gi gh)) L.length (λp=>(L.getD p wX).place) (λp=>pC I x.1 y.1 (L.getD p wX).place) (qI I x.1 y.1 I.length++uS x.1 y.1 H) 0 (A7 I H x y) s' true):wW I H (iI (fM w b I H x y L na gn nc sa sc gi gh) s')/\kY x.1 (iI (fM w b I H x y L na gn nc sa sc gi gh) s')=true/\kY y.1 (iI (fM w b I H x y L na gn nc sa sc gi gh) s')=true:=by
 have hl:L.length=(vB I x.1 y.1).length:=by rw[<-hL,pt]
 obtain⟨hb,kA,Z,rk,o,hZ,av,ho,hn⟩:=h.yes rfl;have e7:∀i,i<I.length->(iI (fM w b I H x y L na gn nc sa sc gi gh) s').inputs.getD i 0=s'.inp i:=λi hi=>by simp[iI,fM,List.getD,hi]
 have gO:∀i,i<I.length->(∀p,p<L.length->(L.getD p wX).place≠i)->¬(kL x.1 y.1 i=true/\xZ I i=false)->s'.inp i=(jV I i).low:=λi hi hp qP=>by
  rw[h.rest.inp i hp (λt ht hh=>by
   rcases Yc ht with ⟨_,g1,g2,g3⟩|⟨g1,_⟩
   ·exact qP ⟨hh.2 ▸ g2,hh.2 ▸ g3⟩
   ·rw[hh.1]at g1;cases g1)]
  show lV I I.length i=_;unfold lV;rw[tr hi]
 refine⟨⟨by simp[iI,fM],by simp[iI,fM],λi hi gH=>?_,λi hi hfl=>?_⟩,?_⟩
 ·rw[e7 i hi]
  have hr:=hI.num i hi gH;by_cases ha:kL x.1 y.1 i=true
  ·obtain⟨p,hp,e⟩:=Xn hi ha gH
   have aT:p<L.length:=(by omega);have e2:=jZ hL aT;rw[e]at e2
   have hs:=XN (L:=bA L.length Z rk) (λz hz=>by
    obtain⟨q,hq,rfl⟩:=pd.1 hz;rw[aA];exact av q (by simpa using hq)) ho ⟨(Z p).1,(Z p).2,rk p⟩ (pd.2 ⟨p,by simpa using aT,rfl⟩)
   have fA:=hn p aT;simp only at fA hs;rw[e2]at fA;rw[fA];have sK:=(X0 (jV I i).low (jV I i).high (xS x.1 i) (xS y.1 i)).sub (Z p) (by have:=hZ p aT;rw[e2]at this;exact this);omega
  ·rw[gO i hi (λp hp e=>ha (by
    have:=(pZ.1 (fY (I:=I) (e:=x.1) (l:=y.1) (p:=p) (by omega))).2.1;rw[jZ hL hp]at e;rw[e]at this;exact this)) (λhh=>ha hh.1)]
   omega
 ·rw[e7 i hi]
  by_cases ha:kL x.1 y.1 i=true
  ·exact kA _ (F1 hi ha hfl) rfl
  ·rw[gO i hi (λp hp e=>ha (by
    have:=(pZ.1 (fY (I:=I) (e:=x.1) (l:=y.1) (p:=p) (by omega))).2.1;rw[jZ hL hp]at e;rw[e]at this;exact this)) (λhh=>ha hh.1)]
   exact .inl (hI.flag i hi hfl)
 ·unfold qO at hb
  rw[ma]at hb;exact hb
def AQ:MX:=(⟨[],0,[],[],0⟩,.slice none 0 0,.slice none 0 0)
def qW(rs:List MX)(i:Nat):MX:=rs.getD i AQ
structure J8(w:World)(b o:Nat)(I:List yA)(C:List (Bs × Nat))(rs:List MX)(G:List Bool):Prop where
 inp:∃a c,w.cell? ⟨b,o,none⟩=some (.slice a I.length c)/\xX w 204 a (I.flatMap kD)
 r9:∃a c,w.cell? ⟨b,o+1,none⟩=some (.slice a C.length c)/\xX w 208 a (Jx C)
 og:∃a c,w.cell? ⟨b,o+2,none⟩=some (.slice a rs.length c)/\xX w 162 a (rs.flatMap cG)
 rows:∀x∈rs,kE w x
 gr:Ab w b (o+3) G
 ek:I.length<=100
 ef:C.length<=10000
 nh:rs.length<=10000
theorem J8.below{b o:Nat}{I:List yA}{C:List (Bs × Nat)}(h:J8 w b o I C rs G)(hb:Below w.heap.size w w'):J8 w' b o I C rs G:=by
 obtain⟨a1,c1,p1,q1⟩:=h.inp;obtain⟨a2,c2,p2,q2⟩:=h.r9;obtain⟨a3,c3,p3,q3⟩:=h.og;exact⟨⟨a1,c1,(hb.cell (p:=⟨b,o,none⟩) (yJ p1)).trans p1,q1.below hb⟩,⟨a2,c2,(hb.cell (p:=⟨b,o+1,none⟩) (yJ p2)).trans p2,q2.below hb⟩,⟨a3,c3,(hb.cell (p:=⟨b,o+2,none⟩) (yJ p3)).trans p3,q3.below hb⟩,λx hx=>(h.rows x hx).below hb,h.gr.below hb,h.ek,h.ef,h.nh⟩
theorem Zx{a:Option Addr}(h:kQ w a (rs.flatMap cG)){i:Nat}(hi:i<rs.length):∃g,a=some ⟨g,0,none⟩/\w.cell? ⟨g,i*5,none⟩=some (.string ⟨(qW rs i).1.label.toArray⟩)/\w.cell? ⟨g,i*5+1,none⟩=some (.int .i64 (qW rs i).1.ae)/\w.cell? ⟨g,i*5+2,none⟩=some (qW rs i).2.1/\w.cell? ⟨g,i*5+3,none⟩=some (qW rs i).2.2/\w.cell? ⟨g,i*5+4,none⟩=some (.int .i64 (qW rs i).1.root):=by
 obtain⟨g,e,c0⟩:=h.at ((zV cG 5 (λ_=>rfl) AQ rs i 0 hi (by decide)).trans rfl);obtain⟨g1,e1,c1⟩:=h.at ((zV cG 5 (λ_=>rfl) AQ rs i 1 hi (by decide)).trans rfl);obtain⟨g2,e2,c2⟩:=h.at ((zV cG 5 (λ_=>rfl) AQ rs i 2 hi (by decide)).trans rfl);obtain⟨g3,e3,c3⟩:=h.at ((zV cG 5 (λ_=>rfl) AQ rs i 3 hi (by decide)).trans rfl);obtain⟨g4,e4,c4⟩:=h.at ((zV cG 5 (λ_=>rfl) AQ rs i 4 hi (by decide)).trans rfl);obtain rfl:g=g1:=by rw[e]at e1;simpa using e1
 obtain rfl:g=g2:=by rw[e]at e2;simpa using e2
 obtain rfl:g=g3:=by rw[e]at e3;simpa using e3
 obtain rfl:g=g4:=by rw[e]at e4;simpa using e4
 exact⟨g,e,c0,c1,c2,c3,c4⟩
theorem aJ{i:Nat}(h:i<rs.length):qW rs i∈rs:=by simp[qW,List.getD,h]
def KO(rs:List MX)(G:List Bool)(i j:Nat):Bool:=decide ((qW rs i).1.ae=(qW rs j).1.ae)&&(!Ym G (i:Int) (j:Int) && !Ym G (j:Int) (i:Int))
theorem B8(w:World)(b o:Nat)(I:List yA)(C:List (Bs × Nat))(rs:List MX)(G:List Bool)(i j:Nat)(h:J8 w b o I C rs G)(hi:i<rs.length)(hj:j<rs.length) :
 Calls prog 65 #[.pointer (some ⟨b,o,none⟩),.int .i64 (i:Nat),.int .i64 (j:Nat)] w λe w'=>e=.returned (.bool (KO rs G i j))/\Below w.heap.size w w':=by
 obtain⟨a,c,h2,hr⟩:=h.og;obtain⟨g,rfl,-,ci,-,-,-⟩:=Zx hr.ay hi;obtain⟨g',e',-,cj,-,-,-⟩:=Zx hr.ay hj;obtain rfl:g=g':=by simpa using e'
 have hf:=h.nh;have ii:(i:Int)<(rs.length:Int):=by omega
 have jj:(j:Int)<(rs.length:Int):=by omega
 have HR:Hid (KO rs G i j=(decide ((qW rs i).1.ae=(qW rs j).1.ae)&&(!Ym G (i:Int) (j:Int) && !Ym G (j:Int) (i:Int)))):=rfl;have dZ:=zA (λw' (hb:Below w.heap.size w w')=>iA w' b o G (i:Int) (j:Int) (h.gr.below hb));have iD:=zA (λw' (hb:Below w.heap.size w w')=>iA w' b o G (j:Int) (i:Int) (h.gr.below hb));clear h hr e';generalize KO rs G i j=aw at *;generalize Ym G (i:Int) (j:Int)=s1 at *;generalize Ym G (j:Int) (i:Int)=s2 at *;generalize (qW rs i).1.ae=k1 at *;generalize (qW rs j).1.ae=k2 at *
 go_enter func65,ntmps65
 by_cases hk:k1=k2
 ·have df:Hid (aw=(!s1 && !s2)):=by have:=HR.out;rw[tz hk,bm]at this;exact this
  subst hk;go_wp2_with fail
  go_quiet (fail)
  have jg:Hid (Below w.heap.size w (w.drewN nq)):=xQ (tl _ _) nq;generalize w.drewN nq=wq at *;have iF:=zA (dZ.out wq jg.out);have lZ:=zA (iD.out wq jg.out);clear dZ iD HR;cases s1
  ·have lq:Hid (aw = !s2):=by have:=df.out;simpa[Hid] using this
   go_wp2_with fail
   refine iF.out.mono ?_;rintro e w' ⟨rfl,hw⟩;obtain rfl:=hw.symm;go_wp2_with fail
   refine lZ.out.mono ?_;rintro e w' ⟨rfl,hw⟩;obtain rfl:=hw.symm;go_wp2_with fail
   go_ret
   exact⟨zG lq.out.symm,jg.out⟩
  ·have lq:Hid (aw=false):=by have:=df.out;simpa[Hid] using this
   go_wp2_with fail
   refine iF.out.mono ?_;rintro e w' ⟨rfl,hw⟩;obtain rfl:=hw.symm;go_wp2_with fail
   go_ret
   exact⟨zG lq.out.symm,jg.out⟩
 ·have df:Hid (aw=false):=by have:=HR.out;rw[ty hk,Bool.false_and]at this;exact this
  have b1:(k1==k2)=false:=by simpa using hk
  have b2:(k1 != k2)=true:=by simp only[bne,b1];rfl
  clear hk;go_wp2_with fail
  go_quiet (fail)
  go_wp2_with fail
  go_ret
  exact⟨zG df.out.symm,xQ (tl _ _) _⟩
def K3(I:List yA)(H:Nat)(rs:List MX)(G:List Bool)(i j:Nat):Prop:=i<j/\j<rs.length/\KO rs G i j=true/\Ar I H (qW rs i).1 (qW rs j).1
structure Jf(I:List yA)(H:Nat)(r:xN):Prop where
 pl:wU r I.length (xZ I)
 nd:∀c,lE r c=true->c<H
 ah:∀c,vZ r c=true->c<H
 bd:∀i z,z∈xS r i -> -1000000<=z/\z<=1000000
theorem Fr(I:List yA)(x y:xN)(h1:x.guard.length<=10000)(h2:y.guard.length<=10000)(i:Nat):(pC I x y i).length<=100000:=by
 unfold pC oB;have a1:=dS (Vz (jV I i).low (jV I i).high) (xS x i) (xS x i).length (tg _);rw[co]at a1;have a2:=dS a1.1 (xS y i) (xS y i).length (tg _);rw[co]at a2;have:=a1.2;have:=a2.2;have:=oT x i;have:=oT y i;simp only[pb,ge]at *;omega
def Eo(I:List yA)(H:Nat)(e l:xN)(t:vW):Bool:=kY e ⟨(List.range I.length).map t.inp,(List.range H).map t.has,[]⟩&&kY l ⟨(List.range I.length).map t.inp,(List.range H).map t.has,[]⟩
def Jj(I:List yA)(H:Nat)(e l:xN)(f:Nat->Int)(g:Nat->Bool):Prop:=∃s',nY (Eo I H e l) (vB I e l).length (λp=>(vB I e l).getD p 0) (λp=>pC I e l ((vB I e l).getD p 0)) (qI I e l I.length++uS e l H) 0 ⟨λ_=>(0,0),λ_=>0,lV I I.length,lW e l H⟩ s' true/\f=s'.inp/\g=s'.has
theorem DJ{I:List yA}{e l:xN}{f f':Nat->Int}{g g':Nat->Bool}(h:Jj I H e l f g)(k:Jj I H e l f' g'):f=f'/\g=g':=by
 obtain⟨s,h1,rfl,rfl⟩:=h;obtain⟨s',k1,rfl,rfl⟩:=k;refine GI (λs t e1 e2=>by unfold Eo;rw[e1,e2]) (λp hp t ht hh=>?_) h1 k1;rcases Yc ht with ⟨_,_,_,h9⟩|⟨h9,_⟩
 ·have:=(pZ.1 (fY (I:=I) (e:=e) (l:=l) (p:=p) hp)).2.2
  rw[<-hh.2,h9]at this;cases this
 ·rw[hh.1]at h9;cases h9
structure BM(I:List yA)(H:Nat)(e l:xN)(f:Nat->Int)(g:Nat->Bool):Prop where
 room:wW I H ⟨(List.range I.length).map f,(List.range H).map g,[]⟩
 found:Jj I H e l f g
def Jd(I:List yA)(H:Nat)(x y:MX)(B b gi gh:Nat)(w w':World)(e:Ending):Prop:=∃r,e=.returned (.bool r)/\Below B w w'/\(r=false->¬Ar I H x.1 y.1)/\(r=true->∃(f:Nat->Int) (g:Nat->Bool),(w'.cell? ⟨b,12,none⟩=some (.slice (some ⟨gi,0,none⟩) I.length I.length)/\w'.cell? ⟨b,13,none⟩=some (.slice (some ⟨gh,0,none⟩) H H)/\w'.cell? ⟨b,14,none⟩=some (.slice none 0 0))/\kZ w' gi 3 I.length (λi=>.int .i64 (f i))/\kZ w' gh 4 H (λc=>.bool (g c))/\BM I H x.1 y.1 f g/\kY x.1 ⟨(List.range I.length).map f,(List.range H).map g,[]⟩=true/\kY y.1 ⟨(List.range I.length).map f,(List.range H).map g,[]⟩=true)
theorem Mg(F:Nat->List (Int × Int))(L:List NE)(p:Nat)(hp:p<L.length)(r:Nat)(hr:r<5):(iS F L)[p*5+r]? = (AB F (L.getD p wX))[r]? := zV (AB F) 5 (λ_=>rfl) wX L p r hp hr
theorem Mp(w wr:World)(b:Nat)(I:List yA)(H:Nat)(x y:MX)(gi gh:Nat)(nv sv:Value)(L:List NE)(hN:zNQ w wr I.length H gi gh (pC I x.1 y.1) nv sv L (qI I x.1 y.1 I.length++uS x.1 y.1 H) (lV I I.length) (lW x.1 y.1 H))(hL:L.map NE.place=vB I x.1 y.1)(hb:wr.heap[b]? = some (.cells (Cw x y nv sv (.slice (some ⟨gi,0,none⟩) I.length I.length) (.slice (some ⟨gh,0,none⟩) H H)) 170 (0,0)))(nQ:w.heap.size<=b)(hI:sZ I)(fH:H<=10000)(hx:kE w x)(hy:kE w y)(ox:Jf I H x.1)(oy:Jf I H y.1) :
 Calls prog 67 #[.pointer (some ⟨b,0,none⟩),.int .i64 0] wr λe w'=>Jd I H x y w.heap.size b gi gh wr w' e:=by
 obtain⟨na,nc,rfl⟩:=zO hN.au;obtain⟨sa,sc,rfl,jM⟩:=uT hN.hU;have e8:=Fr I x.1 y.1 hx.ef hy.ef
 obtain⟨gn,gS,j4⟩:∃gn,(0<L.length->na=some ⟨gn,0,none⟩/\kZ wr gn 223 (5*L.length) (λj=>(iS (pC I x.1 y.1) L).getD j (.slice none 0 0)))/\(0<L.length->w.heap.size<=gn):=by
  rcases hN.au.2 with ⟨_,k2⟩|⟨g,cap,yB,k1,k2,k3,k4,k5,k6,k7⟩
  ·exact⟨0,λh=>x' h (by omega),λh=>x' h (by omega)⟩
  ·simp only[ct]at k1
   refine⟨g,λ_=>⟨k1.1,yB,k3,λj hj=>?_⟩,λ_=>by omega⟩;have hl:(iS (pC I x.1 y.1) L).length=L.length*5:=hN.au.1;have jR:j<(iS (pC I x.1 y.1) L).length:=by omega
   have:=xL k3 (n:=L.length*5) k7 (pm jR);rw[zC k3 j]at this;rw[this];simp[List.getD,jR]
 have ok:=Lg (b:=b) (na:=na) (gn:=gn) (nc:=nc) (sa:=sa) (sc:=sc) (gi:=gi) (gh:=gh) hL hI fH e8 nQ hN.gz hN.iq j4
 have hM:jQ wr (fM w b I H x y L na gn nc sa sc gi gh) (A7 I H x y):=by
  refine⟨hb,λh0=>⟨(gS h0).1,?_⟩,hN.rI,hN.rH,jM,λp hp=>?_,hx.below hN.af,hy.below hN.af⟩
  ·obtain⟨cs,q1,q2⟩:=(gS h0).2
   refine⟨cs,q1,λj hj=>?_⟩;rw[q2 j hj];have qV:j/5<L.length:=by have:j<5*L.length:=hj;omega
   have hr:j%5<5:=Nat.mod_lt _ (by decide);have dC:=Mg (pC I x.1 y.1) L (j/5) qV (j%5) hr;rw[show j/5*5+j%5=j by omega]at dC;show some ((iS (pC I x.1 y.1) L).getD j (.slice none 0 0))=_;rw[mq,dC];unfold aZ fM A7;rcases(show j%5=0\/j%5=1\/j%5=2\/j%5=3\/j%5=4 by omega) with h|h|h|h|h <;> rw[h] <;> simp[AB]
  ·have hm:L.getD p wX∈L:=by simp[List.getD,show p<L.length from hp]
   exact hN.zn _ hm
 refine(J2 _ ok L.length 0 wr _ (by show 0+L.length=L.length;omega) (λp hp=>x' hp (by omega)) hM).mono ?_;rintro e w' ⟨r,s',rfl,h1,h2,h3⟩;refine⟨r,rfl,h2,λhr=>?_,λhr=>?_⟩
 ·subst hr
  refine Om hL hI ox.pl oy.pl (λc hc=>?_) (λc hc=>?_) h3
  ·unfold uQ at hc;rcases(ce _ _).mp hc with h|h
   ·exact ox.nd c h
   ·exact oy.nd c h
  ·rcases(ce _ _).mp hc with h|h
   ·exact ox.ah c h
   ·exact oy.ah c h
 ·subst hr
  obtain⟨k1,k2,k3⟩:=Sk hL hI h3
  have eP:(λp=>(L.getD p wX).place)=λp=>(vB I x.1 y.1).getD p 0:=funext λp=>by
   rw[<-hL];by_cases hp:p<L.length
   ·simp[List.getD,hp]
   ·simp[List.getD,hp,wX]
  have qc:Jj I H x.1 y.1 s'.inp s'.has:=by
   have q:nY (Eo I H x.1 y.1) L.length (λp=>(L.getD p wX).place) (λp=>pC I x.1 y.1 ((λp=>(L.getD p wX).place) p)) (qI I x.1 y.1 I.length++uS x.1 y.1 H) 0 ⟨λ_=>(0,0),λ_=>0,lV I I.length,lW x.1 y.1 H⟩ s' true:=h3;rw[eP,show L.length=(vB I x.1 y.1).length by rw[<-hL,pt]]at q;exact⟨s',q,rfl,rfl⟩
  exact⟨s'.inp,s'.has,⟨h1.cells 12,h1.cells 13,h1.cells 14⟩,h1.rI,h1.rH,⟨k1,qc⟩,k2,k3⟩
theorem zNQ.below{inp:Nat->Int}(k:zNQ w wr n h gi gh F nv sv L T inp has)(hb:Below wr.heap.size wr wy):zNQ w wy n h gi gh F nv sv L T inp has :=
 ⟨k.af.trans (hb.mono k.af.size),Zm k.au hb,λq hq=>(k.zn q hq).below hb,Zm k.hU hb,k.rI.below hb,k.rH.below hb,k.gz,k.iq⟩
theorem Sj(w w2:World)(I:List yA)(H:Nat)(x y:MX)(e:Ending)(hp:VE I H x y w w2 e)(hI:sZ I)(fH:H<=10000)(hx:kE w x)(hy:kE w y)(ox:Jf I H x.1)(oy:Jf I H y.1):∃SR gi gh,e=.returned (.agg SR)/\SR.size=15/\(prog.info? 170).map (·.size)=some SR.size/\SR.all (·.oneCell')=true/\Below w.heap.size w w2/\∀(b:Nat) (wr:World),Below w2.heap.size w2 wr->w2.heap.size<=b->wr.heap[b]? = some (.cells SR 170 (0,0))->Calls prog 67 #[.pointer (some ⟨b,0,none⟩),.int .i64 0] wr λe w'=>Jd I H x y w.heap.size b gi gh wr w' e:=by
 obtain⟨gi,gh,nv,sv,L,rfl,hN,hL⟩:=hp;have hb:=hN.af;obtain⟨a1,c1,e1,-⟩:=hx.sum;obtain⟨a2,c2,e2,-⟩:=hx.guard;obtain⟨a3,c3,e3,-⟩:=hy.sum;obtain⟨a4,c4,e4,-⟩:=hy.guard;obtain⟨na,nc,e5⟩:=zO hN.au;obtain⟨sa,sc,e6⟩:=zO hN.hU;refine⟨_,gi,gh,rfl,rfl,I4 _ _ _ _ _ _,F6 (by rw[e1];rfl) (by rw[e2];rfl) (by rw[e3];rfl) (by rw[e4];rfl) (by rw[e5];rfl) (by rw[e6];rfl) rfl rfl,hb,λb wr h1 h2 h3=>Mp w wr b I H x y gi gh nv sv L (hN.below h1) hL h3 (by have:=hb.size;omega) hI fH hx hy ox oy⟩
theorem OQ(h:jN ls){x:zE}(hx:x∈ls)(hk:x.kind=3):∀y∈x.nd,uD ls y=true:=by
 obtain⟨i,hi,rfl⟩:=Vg hx;have he:=h.err i hi;unfold bY at he;rw[i6,i6,tr hk]at he;unfold dT at he
 have hb:(kX (ls.take i) 3 (lA ls i).name || ((lA ls i).sum.any (λx => !tG ls x) || (lA ls i).nd.any (λx => !uD ls x)))=false:=by
  cases hc:(kX (ls.take i) 3 (lA ls i).name || ((lA ls i).sum.any (λx => !tG ls x) || (lA ls i).nd.any (λx => !uD ls x))) with
  | false=>rfl
  | true=>rw[hc,tr rfl]at he;exact M' he
 rw[dy,dy]at hb;intro y hy;have:=List.any_eq_false.1 hb.2.2 y hy;simpa using this
theorem OK{y:zJ}(h:uD ls y=true)(k:y.kind=6):kX ls 2 y.name=true:=by unfold uD at h;rwa [tj (by omega),tr k]at h
theorem Iv{y:zJ}(h:uD ls y=true)(k:y.kind=7):kX ls 1 y.name=true/\(y.other≠[]->kX ls 1 y.other=true):=by
 unfold uD at h;rw[i6,i6,tr k,ma,ce,ml]at h;exact⟨h.2,λho=>h.1.resolve_left ho⟩
theorem Vv(h:jN ls){nm:Bs}{k:Int}(hk:k=1\/k=2)(hh:kX ls k nm=true):∃i:Nat,zQ (qE ls) nm=i/\i<(yC ls).length/\xZ (yC ls) i=decide (k=1):=by
 obtain⟨z,z1,z2,z3⟩:=Lb hh;have hz:z∈jk ls:=LY z1 (by omega);have hm:nm∈qE ls:=by rw[Qy];exact pd.2 ⟨z,hz,z3⟩
 have h0:=(Bj _ _).2 hm;have h1:=fF (qE ls) nm;obtain⟨i,hi⟩:∃i:Nat,zQ (qE ls) nm=i:=⟨(zQ (qE ls) nm).toNat,by omega⟩;have aC:i<(yC ls).length:=by rw[<-Mi];omega
 have dC:=((Km nm (qE ls) (Qu h) 0 i).1 (by rw[cw];exact hi)).2;obtain⟨x,x1,-,x3,x4⟩:=Qx aC;have e:x=z:=MO h x1 hz (by rw[<-x4,dC,z3]);refine⟨i,hi,aC,?_⟩;unfold xZ;rw[x3,e,iV (Vt hz),z2]
theorem Me{N:List zJ}(hg:qZ N){y:zJ}(hy:y∈N)(hk:y.kind=7):0<=y.num/\y.num<=9999:=by
 obtain⟨a,ha,rfl⟩:=dz hy;have e:vY N a=N[a]:=by unfold vY;simp[List.getD,ha]
 have:=(hg a ha).2.2.2 (by rw[e];omega) (by rw[e];omega) (by rw[e];omega);rw[e]at this;exact this.2
theorem Mn(h:jN ls){x:zE}(hx:x∈ls)(hk:x.kind=3)(hg:bG x):Jf (yC ls) (zX ls).length (qT (qE ls) (zX ls) x):=by
 have hN:=OQ h hx hk;have mem:∀y∈(qT (qE ls) (zX ls) x).guard,∃z∈x.nd,lF (qE ls) (zX ls) z=y:=λy hy=>pd.1 hy;refine⟨⟨λy hy fc=>?_,λy hy fc=>?_,λy hy fc ht=>?_⟩,λc hc=>?_,λc hc=>?_,λi z hz=>?_⟩
 ·obtain⟨z,hz,rfl⟩:=mem y hy
  have eC:z.kind=6:=fc;obtain⟨i,h1,h2,h3⟩:=Vv h (.inr rfl) (OK (hN z hz) eC);refine⟨i,h2,?_,h3⟩;show BV (qE ls) (zX ls) z=_;unfold BV;rw[i6,tr (.inl eC),h1]
 ·obtain⟨z,hz,rfl⟩:=mem y hy
  have eC:z.kind=7:=fc;obtain⟨i,h1,h2,h3⟩:=Vv h (.inl rfl) (Iv (hN z hz) eC).1;refine⟨i,h2,?_,h3⟩;show BV (qE ls) (zX ls) z=_;unfold BV;rw[i6,tr (.inr eC),h1]
 ·obtain⟨z,hz,rfl⟩:=mem y hy
  have eC:z.kind=7:=fc;have ho:z.other≠[]:=cr ht;obtain⟨i,h1,h2,h3⟩:=Vv h (.inl rfl) ((Iv (hN z hz) eC).2 ho);refine⟨i,h2,?_,h3⟩;show wo (qE ls) z=_;unfold wo;rw[tj ho,h1]
 ·obtain⟨p,hp,e⟩:=mw.1 hc
  rw[ma,ml,ml]at e;obtain⟨q,hq,rfl⟩:=pd.1 hp;have e1:rm (qE ls) q=3:=e.1;have e2:wu (qE ls) (zX ls) q=(c:Int):=e.2;unfold rm at e1;unfold wu at e2;by_cases nL:q.name=[]
  ·rw[tr nL]at e1;exact M' e1
  ·rw[tj nL]at e1 e2
   by_cases nK:zQ (qE ls) q.name<0
   ·rw[tr nK]at e2
    have:=fF (zX ls) q.name;omega
   ·rw[tj nK]at e1;exact M' e1
 ·obtain⟨y,hy,e⟩:=mw.1 hc
  rw[ma,ml,ml]at e;obtain⟨z,hz,rfl⟩:=mem y hy;have e1:z.kind=5:=e.1;have e2:BV (qE ls) (zX ls) z=(c:Int):=e.2;unfold BV at e2;rw[tr e1]at e2;have:=fF (zX ls) z.name;omega
 ·obtain⟨y,hy,rfl⟩:=pd.1 hz
  obtain⟨h1,h2⟩:=mu.1 hy;rw[ma,ml]at h2;obtain⟨v,hv,rfl⟩:=mem y h1;have:=Me hg.nodes hv h2.1;show -1000000<=v.num/\v.num<=1000000;omega
theorem N0(h:jN ls)(hg:∀x∈ls,bG x):sZ (yC ls):=by
 refine⟨λi hi hn=>?_,λi hi hn=>?_,by have:=UR h;omega⟩
 ·obtain⟨x,x1,x2,x3,-⟩:=Qx hi
  have hk:x.kind=1:=by unfold xZ at hn;rw[x3,iV (Vt x1)]at hn;exact cr hn
  have hp:=hg x x2;have:=Rv h x2 hk;have e1:=hp.EX;have e2:=hp.eu;rw[x3];unfold bE;rw[tr hk];exact⟨e1,this,e2⟩
 ·obtain⟨x,x1,x2,x3,-⟩:=Qx hi
  have hk:¬x.kind=1:=by unfold xZ at hn;rw[x3,iV (Vt x1)]at hn;exact of_decide_eq_false hn
  rw[x3];unfold bE;rw[tj hk]
theorem Nv:(prog.info? 95).map (λi=>(i.zero,i.size,i.bytes))=some (some (.agg #[.string ⟨#[]⟩,.int .i64 0]),2,24):=by kernel_rfl
def tU(I:List yA)(f:Nat->Int)(i:Nat):List Value:=(List.range i).flatMap λj=>[.string ⟨(jV I j).name.toArray⟩,.int .i64 (f j)]
def mX(C:List (Bs × Nat))(g:Nat->Bool)(c:Nat):List Value:=(List.range c).flatMap λj=>[.string ⟨(C.getD j ([],0)).1.toArray⟩,.int .i64 (if g j=true then 1 else 0)]
theorem C1(I:List yA)(f:Nat->Int)(i:Nat):tU I f (i+1)=tU I f i++[.string ⟨(jV I i).name.toArray⟩,.int .i64 (f i)]:=by unfold tU;rw[bf,lk];simp
theorem C3(C:List (Bs × Nat))(g:Nat->Bool)(c:Nat):mX C g (c+1)=mX C g c++[.string ⟨(C.getD c ([],0)).1.toArray⟩,.int .i64 (if g c=true then 1 else 0)]:=by unfold mX;rw[bf,lk];simp
theorem Rx{a:Option Addr}{C:List (Bs × Nat)}(h:kQ w a (Jx C)){i:Nat}(hi:i<C.length):∃g,a=some ⟨g,0,none⟩/\w.cell? ⟨g,i*2,none⟩=some (.string ⟨(C.getD i ([],0)).1.toArray⟩)/\w.cell? ⟨g,i*2+1,none⟩=some (.int .i64 ((C.getD i ([],0)).2:Nat)):=by
 obtain⟨g,e,q1⟩:=h.at ((zV (λx:Bs × Nat=>[Value.string ⟨x.1.toArray⟩,.int .i64 (x.2:Nat)]) 2 (λ_=>rfl) ([],0) C i 0 hi (by decide)).trans rfl);obtain⟨g',e',q2⟩:=h.at ((zV (λx:Bs × Nat=>[Value.string ⟨x.1.toArray⟩,.int .i64 (x.2:Nat)]) 2 (λ_=>rfl) ([],0) C i 1 hi (by decide)).trans rfl);obtain rfl:g=g':=by rw[e]at e';simpa using e'
 exact⟨g,e,q1,q2⟩
theorem Ud(w:World)(b o:Nat)(I:List yA)(C:List (Bs × Nat))(rs:List MX)(G:List Bool)(gi gh:Nat)(f:Nat->Int)(gg:Nat->Bool)(h:J8 w b o I C rs G)(hI:kZ w gi 3 I.length (λi=>.int .i64 (f i)))(hH:kZ w gh 4 C.length (λc=>.bool (gg c))) :
 Calls prog 68 #[.pointer (some ⟨b,o,none⟩),.agg #[.slice (some ⟨gi,0,none⟩) I.length I.length,.slice (some ⟨gh,0,none⟩) C.length C.length,.slice none 0 0]] w λe w'=>∃v,e=.returned v/\w'.ownsRow w.heap.size 95 2 v (I.length+C.length) (tU I f I.length++mX C gg C.length)/\Below w.heap.size w w':=by
 obtain⟨i0,ai,hz0,hz1,aV⟩:=du Nv;obtain⟨ia,ic,c0,nT⟩:=h.inp;obtain⟨ca,cc,c1,nV⟩:=h.r9;have fI:=h.ek;have fC:=h.ef;have jI:=zA (λw' (hb:Below w.heap.size w w') i (hi:i<I.length)=>Ka (nT.below hb).ay hi);have rb:=zA (λw' (hb:Below w.heap.size w w') i (hi:i<C.length)=>Rx (nV.below hb).ay hi);have eZ:Hid (∀w',Below w.heap.size w w'->w'.cell? ⟨b,o,none⟩=some (.slice ia I.length ic)/\w'.cell? ⟨b,o+1,none⟩=some (.slice ca C.length cc)):=λw' hb=>⟨(hb.cell (p:=⟨b,o,none⟩) (yJ c0)).trans c0,(hb.cell (p:=⟨b,o+1,none⟩) (yJ c1)).trans c1⟩;have rG:Hid (∀w',Below w.heap.size w w'->∀i,i<I.length->w'.cell? ⟨gi,i,none⟩=some (.int .i64 (f i))):=λw' hb i hi=>(hI.below hb).cell hi;have rJ:Hid (∀w',Below w.heap.size w w'->∀i,i<C.length->w'.cell? ⟨gh,i,none⟩=some (.bool (gg i))):=λw' hb i hi=>(hH.below hb).cell hi;have lb:=yJ c0;clear h nT nV hI hH c0 c1
 go_enter func68,ntmps68
 go_upto_region 2 with fail
 have ar:Hid (Below w.heap.size w ((w.alloc (.cells #[.slice (some ⟨gi,0,none⟩) I.length I.length,.slice (some ⟨gh,0,none⟩) C.length C.length,.slice none 0 0] 168)).alloc (.cells #[] 95))):=(fk (tg _) _).alloc (by simp) _;have dJ:Hid (((w.alloc (.cells #[.slice (some ⟨gi,0,none⟩) I.length I.length,.slice (some ⟨gh,0,none⟩) C.length C.length,.slice none 0 0] 168)).alloc (.cells #[] 95)).heap[w.heap.size]? = some (.cells #[.slice (some ⟨gi,0,none⟩) I.length I.length,.slice (some ⟨gh,0,none⟩) C.length C.length,.slice none 0 0] 168 (0,0))):=yD (zF _ _);have ag:Hid (((w.alloc (.cells #[.slice (some ⟨gi,0,none⟩) I.length I.length,.slice (some ⟨gh,0,none⟩) C.length C.length,.slice none 0 0] 168)).alloc (.cells #[] 95)).ownsRow (w.heap.size+1) 95 2 (.slice (some ⟨w.heap.size+1,0,none⟩) 0 0) 0 (tU I f 0)):=⟨rfl,.inr ⟨w.heap.size+1,0,#[],rfl,tg _,uA _ _ _ (by simp),tg _,p8,rfl,rfl⟩⟩;have hs0:w.heap.size+1<=((w.alloc (.cells #[.slice (some ⟨gi,0,none⟩) I.length I.length,.slice (some ⟨gh,0,none⟩) C.length C.length,.slice none 0 0] 168)).alloc (.cells #[] 95)).heap.size:=by simp
 generalize (w.alloc (.cells #[.slice (some ⟨gi,0,none⟩) I.length I.length,.slice (some ⟨gh,0,none⟩) C.length C.length,.slice none 0 0] 168)).alloc (.cells #[] 95)=w0 at *;generalize Value.slice (some ⟨w.heap.size+1,0,none⟩) 0 0=v0 at *;have HG:Hid (∀wr,Below (w.heap.size+1) w0 wr->Below w.heap.size w wr/\wr.heap[w.heap.size]? = some (.cells #[.slice (some ⟨gi,0,none⟩) I.length I.length,.slice (some ⟨gh,0,none⟩) C.length C.length,.slice none 0 0] 168 (0,0))):=λwr hb=>⟨ar.out.trans (hb.mono (my _)),(hb.block _ (mh _)).trans dJ.out⟩;obtain⟨d0,d1⟩:=eZ.out w0 ar.out;clear ar dJ;go_wp2_with fail
 go_loopw [5,17] (λov iv wr=>∃(i:Nat),i<=I.length/\iv=.int .i64 i/\Hid (Below (w.heap.size+1) w0 wr)/\Hid (wr.ownsRow (w.heap.size+1) 95 2 ov i (tU I f i))) (λ_ iv _=>I.length-(intOf iv).toNat)
 case atStart=>exact⟨0,p8,rfl,zA (tl _ _),ag⟩
 case round =>
  obtain⟨i,hi,rfl,HB,HO⟩:=hrel;have c5:=HB.out.size;obtain⟨aU,hX⟩:=HG.out wr HB.out;by_cases aC:i<I.length
  ·have ii:(i:Int)<(I.length:Int):=by omega
   obtain⟨g,rfl,n0,n1,n2,n3⟩:=jI.out wr aU i aC;have ci:=rG.out wr aU i aC;have x0:wr.cell? ⟨w.heap.size,0,none⟩=some (.slice (some ⟨gi,0,none⟩) I.length I.length):=zC hX 0;have lg:=yJ n0;have jJ:=yJ ci;have lx:=yJ x0;have m1:wr.heap.size≠g:=by omega
   have m2:wr.heap.size≠gi:=(by omega);have m3:wr.heap.size≠w.heap.size:=(by omega);obtain⟨oa,oc,rfl⟩:=zO HO.out;have eQ:=zA (C1 I f i);have bp:Hid (∀ob,(wr.alloc ob).ownsRow (w.heap.size+1) 95 2 (.slice oa i oc) i (tU I f i)):=λob=>HO.out.alloc ob;have ep:Hid (∀ob,Below (w.heap.size+1) w0 (wr.alloc ob)):=λob=>HB.out.alloc (by omega) ob;clear hX aU;generalize jV I i=xi at *;obtain⟨xn,xf,xl,xh⟩:=xi;simp only at n0 n1 n2 n3 eQ;generalize f i=fv at *
   go_upto_region 5 with fail
   have nn:(wr.alloc (.cells #[.string ⟨xn.toArray⟩,.bool xf,.int .i64 xl,.int .i64 xh] 204)).cell? ⟨wr.heap.size,0,none⟩=some (.string ⟨xn.toArray⟩):=zC (zF _ _) 0;have s9:(wr.alloc (.cells #[.string ⟨xn.toArray⟩,.bool xf,.int .i64 xl,.int .i64 xh] 204)).cell? ⟨w.heap.size,0,none⟩=some (.slice (some ⟨gi,0,none⟩) I.length I.length):=(((tl wr.heap.size wr).alloc (tg _) _).cell (p:=⟨w.heap.size,0,none⟩) lx).trans x0;have s8:(wr.alloc (.cells #[.string ⟨xn.toArray⟩,.bool xf,.int .i64 xl,.int .i64 xh] 204)).cell? ⟨gi,i,none⟩=some (.int .i64 fv):=(((tl wr.heap.size wr).alloc (tg _) _).cell (p:=⟨gi,i,none⟩) jJ).trans ci;have dh:=zA (bp.out (.cells #[.string ⟨xn.toArray⟩,.bool xf,.int .i64 xl,.int .i64 xh] 204));have jF:=zA (ep.out (.cells #[.string ⟨xn.toArray⟩,.bool xf,.int .i64 xl,.int .i64 xh] 204));have fu:w.heap.size+1<=(wr.alloc (.cells #[.string ⟨xn.toArray⟩,.bool xf,.int .i64 xl,.int .i64 xh] 204)).heap.size:=(by simp;omega);clear n0 n1 n2 n3 x0 ci bp ep;generalize wr.alloc (.cells #[.string ⟨xn.toArray⟩,.bool xf,.int .i64 xl,.int .i64 xh] 204)=w5 at *;go_wp2_with fail
   go_region_law ((refine step_append_lies _ (by rfl) _ _ _ (by rfl) (w.heap.size+1) 95 i0 _ 2 24 underlying71 ai hz0 hz1 aV rfl (by decide) (.slice oa i oc) i (tU I f i) (by rfl) (dh.out.drew.alloc _) ⟨w5.heap.size,0,none⟩ 1 1 [.string ⟨xn.toArray⟩,.int .i64 fv] (by rfl) (by rfl) (zM _ _ _ _ rfl) (by simp[Value.oneCell']) (by decide) (by unfold maxLen;omega) (by omega) (by simp;omega) (w5.heap.size+1) (by simp) ?_;intro g2 cap w6 mb aH dC j3))
   all_goals
    have jE:Hid (Below (w.heap.size+1) w0 w6):=(jF.out.drew.alloc fu _).grown aH (by show w.heap.size+1<=(w5.drew.alloc _).heap.size;simp;omega) (zS dh.out);have iO:Hid (w6.ownsRow (w.heap.size+1) 95 2 (.slice (some ⟨g2,0,none⟩) (i+1) cap) (i+1) (tU I f (i+1))):=(by unfold Hid;rw[eQ.out];exact mb);clear aH mb dC j3;go_wp2_with fail
    go_roundw
    case rel=>exact⟨i+1,by omega,by go_num,jE,iO⟩
    case measure=>simp[intOf];omega
  ·obtain rfl:i=I.length:=by omega
   have ii:¬(I.length:Int)<(I.length:Int):=(by omega);obtain⟨k0,k1⟩:=eZ.out wr aU
   have bp:Hid (∀ov,wr.ownsRow (w.heap.size+1) 95 2 ov I.length (tU I f I.length)->wr.ownsRow (w.heap.size+1) 95 2 ov (I.length+0) (tU I f I.length++mX C gg 0)):=λov h=>by
    have e:tU I f I.length++mX C gg 0=tU I f I.length:=mt _;rw[e];exact h
   have eV:=zA (bp.out _ HO.out);clear bp HO hX aU d0 d1;generalize nj:tU I f I.length=SI at *;have jc:=zA nj;clear nj;generalize fe:wr=wq at *;clear fe;go_wp2_with fail
   go_loopw [5,39] (λov iv wr=>∃(c:Nat),c<=C.length/\iv=.int .i64 c/\Hid (Below (w.heap.size+1) w0 wr)/\Hid (wr.ownsRow (w.heap.size+1) 95 2 ov (I.length+c) (SI++mX C gg c))) (λ_ iv _=>C.length-(intOf iv).toNat)
   case atStart=>exact⟨0,p8,rfl,HB,eV⟩
   case round =>
    obtain⟨c,hc,rfl,mP,je⟩:=hrel;have pX:=mP.out.size;obtain⟨aU,hX⟩:=HG.out wr mP.out;obtain⟨oa,oc,rfl⟩:=zO je.out;by_cases gK:c<C.length
    ·have jj:(c:Int)<(C.length:Int):=by omega
     obtain⟨g,rfl,n0,n1⟩:=rb.out wr aU c gK;have ch:=rJ.out wr aU c gK;have x1:wr.cell? ⟨w.heap.size,1,none⟩=some (.slice (some ⟨gh,0,none⟩) C.length C.length):=zC hX 1;have lg:=yJ n0;have sF:=yJ ch;have lx:=yJ x1;have m1:wr.heap.size≠g:=by omega
     have m2:wr.heap.size≠gh:=(by omega);have m3:wr.heap.size≠w.heap.size:=(by omega);have eQ:=zA (C3 C gg c);have bp:Hid (∀ob,(wr.alloc ob).ownsRow (w.heap.size+1) 95 2 (.slice oa (I.length+c) oc) (I.length+c) (SI++mX C gg c)):=λob=>je.out.alloc ob;have ep:Hid (∀ob,Below (w.heap.size+1) w0 (wr.alloc ob)):=λob=>mP.out.alloc (by omega) ob;clear hX aU;generalize (C.getD c ([],0)).1=cn at *;generalize (C.getD c ([],0)).2=cl at *;generalize gg c=gv at *;cases gv
     ·rw[tj (by simp)]at eQ
      go_upto_region 13 with fail
      have nn:(wr.alloc (.cells #[.string ⟨cn.toArray⟩,.int .i64 (cl:Nat)] 208)).cell? ⟨wr.heap.size,0,none⟩=some (.string ⟨cn.toArray⟩):=zC (zF _ _) 0;have dh:=zA (bp.out (.cells #[.string ⟨cn.toArray⟩,.int .i64 (cl:Nat)] 208));have jF:=zA (ep.out (.cells #[.string ⟨cn.toArray⟩,.int .i64 (cl:Nat)] 208));have fu:w.heap.size+1<=(wr.alloc (.cells #[.string ⟨cn.toArray⟩,.int .i64 (cl:Nat)] 208)).heap.size:=(by simp;omega);clear n0 n1 x1 ch bp ep;generalize wr.alloc (.cells #[.string ⟨cn.toArray⟩,.int .i64 (cl:Nat)] 208)=w5 at *
      go_wp2_with (at_builtin;refine wpList_append_own _ rfl _ _ 71 rfl (w.heap.size+1) 95 i0 _ 2 24 underlying71 ai hz0 hz1 aV rfl (by decide) _ _ _ rfl (dh.out.alloc _) ⟨w5.heap.size,0,none⟩ 1 1 [.string ⟨cn.toArray⟩,.int .i64 0] rfl rfl ?bM ?bL ?bK ?bJ ?bI ?_)
      try (case bM=>first|exact zM _ _ _ _ rfl|exact λ_ _ h=>h)
      try (case bL=>first|exact⟨rfl,rfl⟩|(intro u hu;simp at hu;rcases hu with rfl|rfl <;> rfl))
      try (case bK=>unfold maxLen;omega)
      try (case bJ=>omega)
      try (case bI=>first|omega|(simp;omega))
      intro v6 w6 dw fQ _;have jE:Hid (Below (w.heap.size+1) w0 w6):=(jF.out.alloc fu _).grown fQ (by simp;omega) (zS dh.out);have iO:Hid (w6.ownsRow (w.heap.size+1) 95 2 v6 (I.length+(c+1)) (SI++mX C gg (c+1))):=by unfold Hid;rw[eQ.out,<-dg];first|exact dw|(rw[<-po];exact dw)
      clear dw fQ;go_wp2_with fail
      go_roundw
      case rel=>exact⟨c+1,by omega,by go_num,jE,iO⟩
      case measure=>simp[intOf];omega
     ·rw[tr rfl]at eQ
      go_upto_region 13 with fail
      have nn:(wr.alloc (.cells #[.string ⟨cn.toArray⟩,.int .i64 (cl:Nat)] 208)).cell? ⟨wr.heap.size,0,none⟩=some (.string ⟨cn.toArray⟩):=zC (zF _ _) 0;have dh:=zA (bp.out (.cells #[.string ⟨cn.toArray⟩,.int .i64 (cl:Nat)] 208));have jF:=zA (ep.out (.cells #[.string ⟨cn.toArray⟩,.int .i64 (cl:Nat)] 208));have fu:w.heap.size+1<=(wr.alloc (.cells #[.string ⟨cn.toArray⟩,.int .i64 (cl:Nat)] 208)).heap.size:=(by simp;omega);clear n0 n1 x1 ch bp ep;generalize wr.alloc (.cells #[.string ⟨cn.toArray⟩,.int .i64 (cl:Nat)] 208)=w5 at *
      go_wp2_with (at_builtin;refine wpList_append_own _ rfl _ _ 71 rfl (w.heap.size+1) 95 i0 _ 2 24 underlying71 ai hz0 hz1 aV rfl (by decide) _ _ _ rfl (dh.out.alloc _) ⟨w5.heap.size,0,none⟩ 1 1 [.string ⟨cn.toArray⟩,.int .i64 1] rfl rfl ?cK ?cI ?cH ?cE ?cD ?_)
      try (case cK=>first|exact zM _ _ _ _ rfl|exact λ_ _ h=>h)
      try (case cI=>first|exact⟨rfl,rfl⟩|(intro u hu;simp at hu;rcases hu with rfl|rfl <;> rfl))
      try (case cH=>unfold maxLen;omega)
      try (case cE=>omega)
      try (case cD=>first|omega|(simp;omega))
      intro v6 w6 dw fQ _;have jE:Hid (Below (w.heap.size+1) w0 w6):=(jF.out.alloc fu _).grown fQ (by simp;omega) (zS dh.out);have iO:Hid (w6.ownsRow (w.heap.size+1) 95 2 v6 (I.length+(c+1)) (SI++mX C gg (c+1))):=by unfold Hid;rw[eQ.out,<-dg];first|exact dw|(rw[<-po];exact dw)
      clear dw fQ;go_wp2_with fail
      go_roundw
      case rel=>exact⟨c+1,by omega,by go_num,jE,iO⟩
      case measure=>simp[intOf];omega
    ·obtain rfl:c=C.length:=by omega
     have jj:¬(C.length:Int)<(C.length:Int):=(by omega);have mJ:=zA (yN je.out (my w.heap.size));have mO:=zA aU;clear je hX aU;go_wp2_with fail
     go_ret
     exact⟨_,rfl,by rw[jc.out];exact mJ.out,mO.out⟩
def XI(I:List yA)(H:Nat)(f:Nat->Int)(g:Nat->Bool):vH:=⟨(List.range I.length).map f,(List.range H).map g,[]⟩
def Jk(I:List yA)(C:List (Bs × Nat))(rs:List MX)(G:List Bool)(w w':World)(e:Ending):Prop:=Below w.heap.size w w'/\((∃(i j:Nat) (f:Nat->Int) (g:Nat->Bool) (la:Option Addr) (sv:Value),VH (K3 I C.length rs G) i j/\e=.returned (.agg #[.slice la 2 2,sv])/\kQ w' la [.string ⟨(qW rs i).1.label.toArray⟩,.string ⟨(qW rs j).1.label.toArray⟩]/\(∃sa sc,sv=.slice sa (I.length+C.length) sc/\dH w.heap.size w' 95 sa (tU I f I.length++mX C g C.length))/\BM I C.length (qW rs i).1 (qW rs j).1 f g/\kY (qW rs i).1 (XI I C.length f g)=true/\kY (qW rs j).1 (XI I C.length f g)=true)\/((∀i j,¬K3 I C.length rs G i j)/\e=.returned (.agg #[.slice none 0 0,.slice none 0 0])))
theorem Vs(a b:Value):(prog.info? 132).map (·.size)=some (#[a,b]:Array Value).size:=by
 show _=some 2
 kernel_rfl
theorem KK{a b c:Value}(h:w.heap[p]? = some (.cells #[a,b] t (0,0))):((w.setCell ⟨p,0,none⟩ c).setCell ⟨p,1,none⟩ d).heap[p]? = some (.cells #[c,d] t (0,0)):=by
 have q1:=p9 w _ 0 _ _ c h;have q2:=p9 _ _ 1 _ _ d q1;rw[q2];simp
theorem NR{a b c:Value}{a':Option Addr}(h:w.heap[p]? = some (.cells #[a,b] t (0,0)))(hc:xX w t' a' xs)(aL:t'≠t):xX ((w.setCell ⟨p,0,none⟩ c).setCell ⟨p,1,none⟩ d) t' a' xs:=(hc.set h aL).set (p9 w _ 0 _ _ c h) aL
theorem Bw{a b c:Value}{a':Option Addr}(h:w.heap[p]? = some (.cells #[a,b] t (0,0)))(hc:dH B w t' a' xs)(aL:t'≠t:=by decide):dH B ((w.setCell ⟨p,0,none⟩ c).setCell ⟨p,1,none⟩ d) t' a' xs:=(hc.set h aL).set (p9 w _ 0 _ _ c h) aL
theorem Gf{x y:Value}(h:w.heap[g]? = some (.cells #[x,y] t (0,0))):xX w t (some ⟨g,0,none⟩) [x,y]:=.inr ⟨g,_,_,rfl,h,λj hj=>match j,hj with
 | 0,_=>rfl
 | 1,_=>rfl
 | j+2,hj=>x' hj (by simp)⟩
theorem IX(w:World)(b o:Nat)(I:List yA)(C:List (Bs × Nat))(rs:List MX)(G:List Bool)(h:J8 w b o I C rs G)(hI:sZ I)(hr:∀x∈rs,Jf I C.length x.1) :
 Calls prog 51 #[.pointer (some ⟨b,o,none⟩)] w λe w'=>Jk I C rs G w w' e:=by
 have hf:=h.nh;have nU:=h.ef;have sg:=h.ek;have eZ:=zA (λw' (hb:Below w.heap.size w w')=>(h.below hb));have lp:=zA (λw' (hb:Below w.heap.size w w')=>(h.below hb).og);have oK:=zA (λw' (hb:Below w.heap.size w w') (i j:Nat) (hi:i<rs.length) (hj:j<rs.length)=>B8 w' b o I C rs G i j (h.below hb) hi hj)
 have oQ:Hid (∀w' (_:Below w.heap.size w w') (i j:Nat) (_:i<rs.length) (_:j<rs.length),Calls prog 66 #[.pointer (some ⟨b,o,none⟩),qS (qW rs i),qS (qW rs j)] w' λe w2=>∃SR gi gh,e=.returned (.agg SR)/\SR.size=15/\(prog.info? 170).map (·.size)=some SR.size/\SR.all (·.oneCell')=true/\Below w'.heap.size w' w2/\∀(b:Nat) (wr:World),Below w2.heap.size w2 wr->w2.heap.size<=b->wr.heap[b]? = some (.cells SR 170 (0,0))->Calls prog 67 #[.pointer (some ⟨b,0,none⟩),.int .i64 0] wr λe w3=>Jd I C.length (qW rs i) (qW rs j) w'.heap.size b gi gh wr w3 e):=λw' hb i j hi hj=>by
  have hm:=h.below hb;obtain⟨a1,c1,p1,q1⟩:=hm.inp;obtain⟨a2,c2,p2,q2⟩:=hm.r9;have hx:=hm.rows _ (aJ hi);have hy:=hm.rows _ (aJ hj);have ox:=hr _ (aJ hi);have oy:=hr _ (aJ hj);refine(U1 w' b o I C.length (qW rs i) (qW rs j) a1 a2 c1 c2 p1 p2 q1 hx hy (by omega) nU (λk z hz=>?_) (Fr I _ _ hx.ef hy.ef)).mono ?_
  ·rcases List.mem_append.mp hz with h|h
   ·exact ox.bd k z h
   ·exact oy.bd k z h
  ·intro e w2 hp
   exact Sj w' w2 I C.length (qW rs i) (qW rs j) e hp hI nU hx hy ox oy
 have oF:=zA (λw' (hb:Below w.heap.size w w') (gi gh:Nat) (f:Nat->Int) (g:Nat->Bool) (h1:kZ w' gi 3 I.length (λi=>.int .i64 (f i))) (h2:kZ w' gh 4 C.length (λc=>.bool (g c)))=>Ud w' b o I C rs G gi gh f g (h.below hb) h1 h2)
 have oD:Hid (∀i,i<rs.length->(∃a c,(qW rs i).2.1=.slice a (qW rs i).1.sum.length c)/\∃a c,(qW rs i).2.2=.slice a (qW rs i).1.guard.length c):=λi hi=>by
  obtain⟨a,c,e,-⟩:=(h.rows _ (aJ hi)).sum;obtain⟨a',c',e',-⟩:=(h.rows _ (aJ hi)).guard;exact⟨⟨a,c,e⟩,a',c',e'⟩
 have dN:Hid (∀i k,K3 I C.length rs G i k ↔ (i<k/\k<rs.length/\KO rs G i k=true/\Ar I C.length (qW rs i).1 (qW rs k).1)):=λ_ _=>Iff.rfl;have oq:Hid (∀w' e,Below w.heap.size w w'->((∃(i j:Nat) (f:Nat->Int) (g:Nat->Bool) (la:Option Addr) (sv:Value),VH (K3 I C.length rs G) i j/\e=.returned (.agg #[.slice la 2 2,sv])/\kQ w' la [.string ⟨(qW rs i).1.label.toArray⟩,.string ⟨(qW rs j).1.label.toArray⟩]/\(∃sa sc,sv=.slice sa (I.length+C.length) sc/\dH w.heap.size w' 95 sa (tU I f I.length++mX C g C.length))/\BM I C.length (qW rs i).1 (qW rs j).1 f g/\kY (qW rs i).1 (XI I C.length f g)=true/\kY (qW rs j).1 (XI I C.length f g)=true)\/((∀i j,¬K3 I C.length rs G i j)/\e=.returned (.agg #[.slice none 0 0,.slice none 0 0])))->Jk I C rs G w w' e):=λw' e h1 h2=>⟨h1,h2⟩;clear h hI hr eZ;generalize K3 I C.length rs G=R at *;generalize Jk I C rs G w=Q at *
 go_enter func51,ntmps51
 obtain⟨ra,rc,d2,-⟩:=lp.out w (tl _ _);have lb:=yJ d2;have m0:w.heap.size≠b:=by omega
 have ar:Hid (Below w.heap.size w (w.alloc (.cells #[.slice none 0 0,.slice none 0 0] 132))):=fk (tg _) _;have dJ:Hid ((w.alloc (.cells #[.slice none 0 0,.slice none 0 0] 132)).heap[w.heap.size]? = some (.cells #[.slice none 0 0,.slice none 0 0] 132 (0,0))):=zF _ _;have hs0:(w.alloc (.cells #[.slice none 0 0,.slice none 0 0] 132)).heap.size=w.heap.size+1:=by simp
 go_wp2_with fail
 generalize w.alloc (.cells #[.slice none 0 0,.slice none 0 0] 132)=w0 at *;have HG:Hid (∀wr,Below (w.heap.size+1) w0 wr->Below w.heap.size w wr/\wr.heap[w.heap.size]? = some (.cells #[.slice none 0 0,.slice none 0 0] 132 (0,0))):=λwr hb=>⟨ar.out.trans (hb.mono (my _)),(hb.block _ (mh _)).trans dJ.out⟩;clear ar dJ
 go_loopw [13] (λiv wr=>∃(i:Nat),i<=rs.length/\iv=.int .i64 i/\Hid (Below (w.heap.size+1) w0 wr)/\Hid (∀i' k',R i' k'->i<=i')) (λiv _=>rs.length-(intOf iv).toNat)
 case atStart=>exact⟨0,p8,rfl,zA (tl _ _),zA λ_ _ _=>p8⟩
 case round =>
  obtain⟨i,hi,rfl,HB,HM⟩:=hrel;have c5:=HB.out.size;obtain⟨aU,hX⟩:=HG.out wr HB.out;obtain⟨pB,mn,gm,aO⟩:=lp.out wr aU
  obtain⟨e1,e2⟩:pB=ra/\mn=rc:=by
   have:=(aU.cell (p:=⟨b,o+2,none⟩) lb).trans d2;rw[this]at gm;simp only[bi,ct]at gm;exact⟨gm.1.symm,gm.2.2.symm⟩
  subst e1 e2;by_cases aC:i<rs.length
  ·have ii:(i:Int)<(rs.length:Int):=by omega
   have rU:Hid (∀i' k',R i' k'->i<i'\/(i=i'/\0<=k')):=λi' k' h=>by
    have:=HM.out i' k' h;omega
   obtain⟨g,rfl,i0,i1,i2,i3,i4⟩:=Zx aO.ay aC;obtain⟨⟨p1,p2,e1⟩,p3,p4,e2⟩:=oD.out i aC;rw[e1]at i2;rw[e2]at i3;have lg:=yJ i0;have pR:b<wr.heap.size:=by have:=aU.size;omega
   have m1:wr.heap.size≠g:=(by omega);have m2:wr.heap.size≠b:=by omega
   have HEq:Hid (qS (qW rs i)=.agg #[.string ⟨(qW rs i).1.label.toArray⟩,.int .i64 (qW rs i).1.ae,.slice p1 (qW rs i).1.sum.length p2,.slice p3 (qW rs i).1.guard.length p4,.int .i64 (qW rs i).1.root]):=by
    show qS (qW rs i)=_;unfold qS;rw[e1,e2]
   have tC:Hid (∃l,l=(qW rs i).1.label):=⟨_,rfl⟩;clear hX aU aO e1 e2;generalize pU:(qW rs i).1.label=xl at *;generalize (qW rs i).1.ae=xc at *;generalize (qW rs i).1.sum.length=xn at *;generalize (qW rs i).1.guard.length=xm at *;generalize (qW rs i).1.root=xr at *;have jh:=zA (HB.out.alloc (show w.heap.size+1<=wr.heap.size by omega) (.cells #[.string ⟨xl.toArray⟩,.int .i64 xc,.slice p1 xn p2,.slice p3 xm p4,.int .i64 xr] 162));have oC:Hid ((wr.alloc (.cells #[.string ⟨xl.toArray⟩,.int .i64 xc,.slice p1 xn p2,.slice p3 xm p4,.int .i64 xr] 162)).heap[wr.heap.size]? = some (.cells #[.string ⟨xl.toArray⟩,.int .i64 xc,.slice p1 xn p2,.slice p3 xm p4,.int .i64 xr] 162 (0,0))):=zF _ _;have sP:(wr.alloc (.cells #[.string ⟨xl.toArray⟩,.int .i64 xc,.slice p1 xn p2,.slice p3 xm p4,.int .i64 xr] 162)).heap.size=wr.heap.size+1:=by simp
   go_wp2_with fail
   generalize wr.alloc (.cells #[.string ⟨xl.toArray⟩,.int .i64 xc,.slice p1 xn p2,.slice p3 xm p4,.int .i64 xr] 162)=wE at *;clear i0 i1 i2 i3 i4 gm m1 m2;have jM:w.heap.size+1<=wr.heap.size:=by omega
   generalize wr.heap.size=eb at *;have ie:Hid (∀wx,Below (eb+1) wE wx->Below (w.heap.size+1) w0 wx/\wx.heap[eb]? = some (.cells #[.string ⟨xl.toArray⟩,.int .i64 xc,.slice p1 xn p2,.slice p3 xm p4,.int .i64 xr] 162 (0,0))):=λwx hb=>⟨jh.out.trans (hb.mono (by omega)),(hb.block _ (mh _)).trans oC.out⟩;clear jh oC
   go_loopw [23] (λkv wy=>∃(k:Nat),k<=rs.length/\kv=.int .i64 k/\Hid (Below (eb+1) wE wy)/\Hid (∀i' k',R i' k'->i<i'\/(i=i'/\k<=k'))) (λkv _=>rs.length-(intOf kv).toNat)
   case atStart=>exact⟨0,p8,rfl,zA (tl _ _),rU⟩
   case round =>
    obtain⟨k,hk,rfl,fP,mE⟩:=hrel;have pW:=fP.out.size;by_cases b9:k<rs.length
    ·have kk:(k:Int)<(rs.length:Int):=by omega
     obtain⟨nk,hE⟩:=ie.out wr fP.out;obtain⟨aU,hX⟩:=HG.out wr nk;obtain⟨pA,o9,d3,aO⟩:=lp.out wr aU
     obtain⟨e1,e2⟩:pA=some ⟨g,0,none⟩/\o9=mn:=by
      have:=(aU.cell (p:=⟨b,o+2,none⟩) lb).trans d2;rw[this]at d3;simp only[bi,ct]at d3;exact⟨d3.1.symm,d3.2.2.symm⟩
     subst e1 e2;obtain⟨g',e',k0,k1,k2,k3,k4⟩:=Zx aO.ay b9;obtain rfl:g=g':=by simpa using e'
     obtain⟨⟨q1,q2,e1⟩,q3,q4,e2⟩:=oD.out k b9;rw[e1]at k2;rw[e2]at k3;have sG:=yJ k0;have m1:wr.heap.size≠g:=by omega
     have oY:Hid (qS (qW rs k)=.agg #[.string ⟨(qW rs k).1.label.toArray⟩,.int .i64 (qW rs k).1.ae,.slice q1 (qW rs k).1.sum.length q2,.slice q3 (qW rs k).1.guard.length q4,.int .i64 (qW rs k).1.root]):=by
      show qS (qW rs k)=_;unfold qS;rw[e1,e2]
     have ir:=zA (dN.out i k)
     have l8:Hid (¬R i k->∀i' k',R i' k'->i<i'\/(i=i'/\k+1<=k')):=λhn i' k' h=>by
      have h1:=mE.out i' k' h;rcases h1 with h1|⟨h1,h2⟩
      ·exact .inl h1
      ·by_cases qU:k=k'
       ·subst h1 qU;exact x' h hn
       ·exact .inr ⟨h1,by omega⟩
     have n9:Hid (R i k->∀w' (la:Option Addr) (sv:Value) (f:Nat->Int) (gg:Nat->Bool),Below w.heap.size w w'->kQ w' la [.string ⟨xl.toArray⟩,.string ⟨(qW rs k).1.label.toArray⟩]->(∃sa sc,sv=.slice sa (I.length+C.length) sc/\dH w.heap.size w' 95 sa (tU I f I.length++mX C gg C.length))->BM I C.length (qW rs i).1 (qW rs k).1 f gg->kY (qW rs i).1 (XI I C.length f gg)=true->kY (qW rs k).1 (XI I C.length f gg)=true->Q w' (.returned (.agg #[.slice la 2 2,sv]))):=λh w' la sv f gg hb h1 h2 h3 h4 h5=>oq.out w' _ hb (.inl ⟨i,k,f,gg,la,sv,⟨h,mE.out⟩,rfl,by rw[pU];exact h1,h2,h3,h4,h5⟩);have fL:=zA (λw' hb=>oK.out w' hb i k aC b9);have mA:=zA (λw' hb=>oQ.out w' hb i k aC b9);rw[HEq.out,oY.out]at mA;clear aO e' e1 e2 hE hX nk aU oY;generalize (qW rs k).1.label=yl at *;generalize (qW rs k).1.ae=yc at *;generalize (qW rs k).1.sum.length=yn at *;generalize (qW rs k).1.guard.length=ym at *;generalize (qW rs k).1.root=yr at *;generalize KO rs G i k=rv at *;have ow:=zA (fP.out.alloc (show eb+1<=wr.heap.size by omega) (.cells #[.string ⟨yl.toArray⟩,.int .i64 yc,.slice q1 yn q2,.slice q3 ym q4,.int .i64 yr] 162));have oA:Hid ((wr.alloc (.cells #[.string ⟨yl.toArray⟩,.int .i64 yc,.slice q1 yn q2,.slice q3 ym q4,.int .i64 yr] 162)).heap[wr.heap.size]? = some (.cells #[.string ⟨yl.toArray⟩,.int .i64 yc,.slice q1 yn q2,.slice q3 ym q4,.int .i64 yr] 162 (0,0))):=zF _ _;have px:(wr.alloc (.cells #[.string ⟨yl.toArray⟩,.int .i64 yc,.slice q1 yn q2,.slice q3 ym q4,.int .i64 yr] 162)).heap.size=wr.heap.size+1:=by simp
     go_upto_region 7 with fail
     generalize wr.alloc (.cells #[.string ⟨yl.toArray⟩,.int .i64 yc,.slice q1 yn q2,.slice q3 ym q4,.int .i64 yr] 162)=wL at *;clear k0 k1 k2 k3 k4 d3 m1;have py:eb+1<=wr.heap.size:=by omega
     generalize wr.heap.size=ao at *
     have fO:Hid (∀wx,Below (ao+1) wL wx->Below (eb+1) wE wx/\Below w.heap.size w wx/\wx.heap[w.heap.size]? = some (.cells #[.slice none 0 0,.slice none 0 0] 132 (0,0))/\wx.heap[eb]? = some (.cells #[.string ⟨xl.toArray⟩,.int .i64 xc,.slice p1 xn p2,.slice p3 xm p4,.int .i64 xr] 162 (0,0))/\wx.heap[ao]? = some (.cells #[.string ⟨yl.toArray⟩,.int .i64 yc,.slice q1 yn q2,.slice q3 ym q4,.int .i64 yr] 162 (0,0))):=λwx hb=>by
      have h1:=ow.out.trans (hb.mono (by omega));obtain⟨h2,h3⟩:=ie.out wx h1;obtain⟨h4,h5⟩:=HG.out wx h2;exact⟨h1,h4,h5,h3,(hb.block _ (mh _)).trans oA.out⟩
     clear ow oA;have rp:=zA (fO.out wL (tl _ _)).1;by_cases nS:i<k
     ·have gg:¬(k:Int)<=(i:Int):=by omega
      have oI:=zA (fL.out wL (fO.out wL (tl _ _)).2.1);go_wp2_with fail
      refine oI.out.mono ?_;rintro e w2 ⟨rfl,aN⟩;have aS:Hid (Below (ao+1) wL w2):=by rw[px]at aN;exact aN
      clear aN oI;cases rv
      ·have iR:=zA (l8.out (λh=>by have:=(ir.out.1 h).2.2.1;cases this))
       have bV:=zA (fO.out w2 aS.out).1;go_wp2_with fail
       go_roundw
       case rel=>exact⟨k+1,by omega,by go_num,bV,iR⟩
       case measure=>simp[intOf];omega
      ·obtain⟨-,gj,-,fE,fD⟩:=fO.out w2 aS.out
       have x0:w2.cell? ⟨eb,0,none⟩=some (.string ⟨xl.toArray⟩):=(zC fE 0).trans rfl;have x1:w2.cell? ⟨eb,1,none⟩=some (.int .i64 xc):=(zC fE 1).trans rfl;have x2:w2.cell? ⟨eb,2,none⟩=some (.slice p1 xn p2):=(zC fE 2).trans rfl;have x3:w2.cell? ⟨eb,3,none⟩=some (.slice p3 xm p4):=(zC fE 3).trans rfl;have x4:w2.cell? ⟨eb,4,none⟩=some (.int .i64 xr):=(zC fE 4).trans rfl;have y0:w2.cell? ⟨ao,0,none⟩=some (.string ⟨yl.toArray⟩):=(zC fD 0).trans rfl;have y1:w2.cell? ⟨ao,1,none⟩=some (.int .i64 yc):=(zC fD 1).trans rfl;have y2:w2.cell? ⟨ao,2,none⟩=some (.slice q1 yn q2):=(zC fD 2).trans rfl;have y3:w2.cell? ⟨ao,3,none⟩=some (.slice q3 ym q4):=(zC fD 3).trans rfl;have y4:w2.cell? ⟨ao,4,none⟩=some (.int .i64 yr):=(zC fD 4).trans rfl;have oP:=zA (mA.out w2 gj);have bw:ao+1<=w2.heap.size:=(by have:=aS.out.size;omega);clear gj fE fD mA fL oQ oK;go_wp2_with fail
       refine oP.out.mono ?_;rintro e w3 ⟨SR,gi,gh,rfl,dV,gQ,gB,kC,nG⟩;have dM:=zA gQ;have ja:=zA dV;have ji:=zA gB;have ak:=zA kC;have fK:=zA nG;have j1:=kC.size;clear gQ dV gB kC nG oP x0 x1 x2 x3 x4 y0 y1 y2 y3 y4;have nt:Hid ((w3.alloc (.cells #[.string ⟨#[]⟩,.int .i64 0,.slice none 0 0,.slice none 0 0,.int .i64 0,.string ⟨#[]⟩,.int .i64 0,.slice none 0 0,.slice none 0 0,.int .i64 0,.slice none 0 0,.slice none 0 0,.slice none 0 0,.slice none 0 0,.slice none 0 0] 170)).heap[w3.heap.size]? = some (.cells Fs 170 (0,0))):=zF _ _;have jf:Hid (Below w3.heap.size w3 ((w3.alloc (.cells Fs 170)).setRow w3.heap.size SR)):=yK (fk (tg _) _) (tg _) _;have lK:Hid (((w3.alloc (.cells Fs 170)).setRow w3.heap.size SR).heap[w3.heap.size]? = some (.cells SR 170 (0,0))):=l9 _ _ Fs _ (zF w3 _);unfold Fs at jf lK
       go_wp2_with (refine wpList_store_row ?bB 170 (.tmp 7) (.tmp 41) ?ho w3.heap.size SR ?hx ?hy 170 Fs nt.out dM.out ?bt ji.out ?_
                    case ho=>rfl
                    case bB=>rfl
                    case hx=>rfl
                    case hy=>rfl
                    case bt=>rw[ja.out];rfl)
       generalize (w3.alloc (.cells #[.string ⟨#[]⟩,.int .i64 0,.slice none 0 0,.slice none 0 0,.int .i64 0,.string ⟨#[]⟩,.int .i64 0,.slice none 0 0,.slice none 0 0,.int .i64 0,.slice none 0 0,.slice none 0 0,.slice none 0 0,.slice none 0 0,.slice none 0 0] 170)).setRow w3.heap.size SR=wS at *;refine(fK.out w3.heap.size wS jf.out (tg _) lK.out).mono ?_;rintro e w4 ⟨r,rfl,eN,bW,eD⟩;have cW:Hid (Below (ao+1) wL w4):=(aS.out.trans ((ak.out.trans (jf.out.mono j1)).mono bw)).trans (eN.mono bw);clear dM ja ji fK nt jf lK eN;cases r
       ·have iR:=zA (l8.out (λh=>bW rfl (ir.out.1 h).2.2.2))
        have bV:=zA (fO.out w4 cW.out).1;clear bW eD;go_wp2_with fail
        go_roundw
        case rel=>exact⟨k+1,by omega,by go_num,bV,iR⟩
        case measure=>simp[intOf];omega
       ·obtain⟨f,gg,⟨jl,mi,mg⟩,nI,nJ,bz,gf,gb⟩:=eD rfl
        have kH:R i k:=ir.out.2 ⟨nS,b9,by first|trivial|rfl,_,bz.room,gf,gb⟩;obtain⟨-,cB,kG,kK,kJ⟩:=fO.out w4 cW.out;have eF:=cB.size;have jd:=zA (λw' la sv hb h1 h2=>n9.out kH w' la sv f gg hb h1 h2 bz gf gb)
        have jb:Hid (∀w',Below w4.heap.size w4 w'->Calls prog 68 #[.pointer (some ⟨b,o,none⟩),.agg #[.slice (some ⟨gi,0,none⟩) I.length I.length,.slice (some ⟨gh,0,none⟩) C.length C.length,.slice none 0 0]] w' λe w5=>∃sa sc,e=.returned (.slice sa (I.length+C.length) sc)/\dH w.heap.size w5 95 sa (tU I f I.length++mX C gg C.length)/\Below w'.heap.size w' w5):=λw' hb=>by
         refine(oF.out w' (cB.trans (hb.mono eF)) gi gh f gg (nI.below hb) (nJ.below hb)).mono ?_;rintro e w5 ⟨v,rfl,h1,h2⟩;obtain⟨sa,sc,rfl⟩:=zO h1;exact⟨sa,sc,rfl,ZK h1 (cB.trans (hb.mono eF)).size,h2⟩
        have jm:=yJ jl;have pM:ao<w3.heap.size:=(by omega);have pN:=zP kG;have pQ:=zP kK;have pO:=zP kJ
        have mT:Hid (∀w5,Below w4.heap.size w4 w5->(w5.cell? ⟨eb,0,none⟩=some (.string ⟨xl.toArray⟩)/\w5.cell? ⟨ao,0,none⟩=some (.string ⟨yl.toArray⟩)/\w5.cell? ⟨w3.heap.size,12,none⟩=some (.slice (some ⟨gi,0,none⟩) I.length I.length)/\w5.cell? ⟨w3.heap.size,13,none⟩=some (.slice (some ⟨gh,0,none⟩) C.length C.length)/\w5.cell? ⟨w3.heap.size,14,none⟩=some (.slice none 0 0))/\(w5.cell? ⟨w.heap.size,0,none⟩=some (.slice none 0 0)/\w5.cell? ⟨w.heap.size,1,none⟩=some (.slice none 0 0)/\w5.frozen? ⟨w.heap.size,0,none⟩=false/\w5.frozen? ⟨w.heap.size,1,none⟩=false)/\Below w.heap.size w w5/\w5.heap[w.heap.size]? = some (.cells #[.slice none 0 0,.slice none 0 0] 132 (0,0))/\w.heap.size<w5.heap.size):=λw5 hb=>by
         have bZ:=(hb.block _ pN).trans kG;have qk:=(hb.block _ pQ).trans kK;have qj:=(hb.block _ pO).trans kJ;exact⟨⟨(zC qk 0).trans rfl,(zC qj 0).trans rfl,(hb.cell (p:=⟨w3.heap.size,12,none⟩) jm).trans jl,(hb.cell (p:=⟨w3.heap.size,13,none⟩) jm).trans mi,(hb.cell (p:=⟨w3.heap.size,14,none⟩) jm).trans mg⟩,⟨(zC bZ 0).trans rfl,(zC bZ 1).trans rfl,by simp[World.frozen?,bZ],by simp[World.frozen?,bZ]⟩,cB.trans (hb.mono eF),bZ,zP bZ⟩
        obtain⟨⟨t0,t1,t2,t3,t4⟩,⟨t5,t6,t7,t8⟩,-,-,-⟩:=mT.out w4 (tl _ _);clear bz gf gb nI nJ jl mi mg kG kK kJ cB bW eD n9 ir oF;generalize tU I f I.length++mX C gg C.length=SV at *;generalize w3.heap.size=sb at *;have n1:w4.heap.size≠eb:=by omega
        have n2:w4.heap.size≠ao:=(by omega);have n3:w4.heap.size≠sb:=(by omega);have n4:w4.heap.size≠w.heap.size:=(by omega);have a1:w.heap.size≠eb:=(by omega);have a2:w.heap.size≠ao:=(by omega);have a3:w.heap.size≠sb:=(by omega);have a4:eb≠w.heap.size:=(by omega);have a5:ao≠w.heap.size:=(by omega);have a6:sb≠w.heap.size:=by omega
        go_upto_region 10 with fail
        go_region_held3 (λw'=>w'.cell? ⟨eb,0,none⟩=some (.string ⟨xl.toArray⟩)/\w'.cell? ⟨ao,0,none⟩=some (.string ⟨yl.toArray⟩)/\w'.cell? ⟨sb,12,none⟩=some (.slice (some ⟨gi,0,none⟩) I.length I.length)/\w'.cell? ⟨sb,13,none⟩=some (.slice (some ⟨gh,0,none⟩) C.length C.length)/\w'.cell? ⟨sb,14,none⟩=some (.slice none 0 0)) (go_keep) (
         (go_at_call 68;first
          | (refine(jb.out _ (md (tl _ _))).mono ?_;rintro e w5 ⟨sa,sc,rfl,hcv,eL⟩;obtain⟨⟨r0,r1,r2,r3,r4⟩,⟨z0,z1,z2,z3⟩,fG,bZ,qQ⟩:=mT.out w5 ((md (tl _ _)).trans eL);have qA:w4.heap.size<=w5.heap.size:=((md (tl w4.heap.size w4)).trans eL).size;have n5:w5.heap.size≠eb:=(by omega);have n6:w5.heap.size≠w.heap.size:=(by omega);have n7:w5.heap.size≠ao:=(by omega);have n8:w5.heap.size≠sb:=(by omega))
          | (refine(jb.out _ ((tl w4.heap.size w4).drew.alloc (tg _) _)).mono ?_;rintro e w5 ⟨sa,sc,rfl,hcv,eL⟩;obtain⟨⟨r0,r1,r2,r3,r4⟩,⟨z0,z1,z2,z3⟩,fG,bZ,qQ⟩:=mT.out w5 (((tl w4.heap.size w4).drew.alloc (tg _) _).trans (eL.mono (by simp))))))
        ·have dA:w5.heap[w4.heap.size]? = some (.cells #[.string ⟨xl.toArray⟩,.string ⟨yl.toArray⟩] 9 (0,0)):=(eL.block _ (zY _ _)).trans (zF _ _)
         have HQ:=zA (jd.out ((w5.setCell ⟨w.heap.size,0,none⟩ (.slice (some ⟨w4.heap.size,0,none⟩) 2 2)).setCell ⟨w.heap.size,1,none⟩ (.slice sa (I.length+C.length) sc)) (some ⟨w4.heap.size,0,none⟩) (.slice sa (I.length+C.length) sc) ((fG.setCell (by simp) _).setCell (by simp) _) (NR bZ (Gf dA) (by decide)).ay ⟨sa,sc,rfl,Bw bZ hcv⟩);have cU:=zA (KK (c:=.slice (some ⟨w4.heap.size,0,none⟩) 2 2) (d:=.slice sa (I.length+C.length) sc) bZ);go_wp2_with fail
         refine pe (v:=.agg #[.slice (some ⟨w4.heap.size,0,none⟩) 2 2,.slice sa (I.length+C.length) sc]) (results_cell_row results51 _ _ w.heap.size 132 #[.slice (some ⟨w4.heap.size,0,none⟩) 2 2,.slice sa (I.length+C.length) sc] (0,0) _ rfl cU.out underlying132 rfl (Vs _ _)) rfl HQ.out
        ·have dA:(((w5.setCell ⟨w.heap.size,0,none⟩ (.slice (some ⟨w5.heap.size,0,none⟩) 2 2)).setCell ⟨w.heap.size,1,none⟩ (.slice sa (I.length+C.length) sc)).alloc (.cells #[.string ⟨xl.toArray⟩,.string ⟨yl.toArray⟩] 9)).heap[w5.heap.size]? = some (.cells #[.string ⟨xl.toArray⟩,.string ⟨yl.toArray⟩] 9 (0,0)):=uA _ _ _ (by simp)
         have kB:Below w.heap.size w ((w5.setCell ⟨w.heap.size,0,none⟩ (.slice (some ⟨w5.heap.size,0,none⟩) 2 2)).setCell ⟨w.heap.size,1,none⟩ (.slice sa (I.length+C.length) sc)):=(fG.setCell (by simp) _).setCell (by simp) _;have HQ:=zA (jd.out (((w5.setCell ⟨w.heap.size,0,none⟩ (.slice (some ⟨w5.heap.size,0,none⟩) 2 2)).setCell ⟨w.heap.size,1,none⟩ (.slice sa (I.length+C.length) sc)).alloc (.cells #[.string ⟨xl.toArray⟩,.string ⟨yl.toArray⟩] 9)) (some ⟨w5.heap.size,0,none⟩) (.slice sa (I.length+C.length) sc) (kB.alloc kB.size _) (Gf dA).ay ⟨sa,sc,rfl,(Bw bZ hcv).below (fk (tg _) _)⟩);have cU:Hid ((((w5.setCell ⟨w.heap.size,0,none⟩ (.slice (some ⟨w5.heap.size,0,none⟩) 2 2)).setCell ⟨w.heap.size,1,none⟩ (.slice sa (I.length+C.length) sc)).alloc (.cells #[.string ⟨xl.toArray⟩,.string ⟨yl.toArray⟩] 9)).heap[w.heap.size]? = some (.cells #[.slice (some ⟨w5.heap.size,0,none⟩) 2 2,.slice sa (I.length+C.length) sc] 132 (0,0))):=yD (KK bZ);clear dA kB;go_wp2_with fail
         refine pe (v:=.agg #[.slice (some ⟨w5.heap.size,0,none⟩) 2 2,.slice sa (I.length+C.length) sc]) (results_cell_row results51 _ _ w.heap.size 132 #[.slice (some ⟨w5.heap.size,0,none⟩) 2 2,.slice sa (I.length+C.length) sc] (0,0) _ rfl cU.out underlying132 rfl (Vs _ _)) rfl HQ.out
     ·have gg:(k:Int)<=(i:Int):=by omega
      have iR:=zA (l8.out (λh=>nS (ir.out.1 h).1));go_wp2_with fail
      go_roundw
      case rel=>exact⟨k+1,by omega,by go_num,rp,iR⟩
      case measure=>simp[intOf];omega
    ·obtain rfl:k=rs.length:=by omega
     have kk:¬(rs.length:Int)<(rs.length:Int):=by omega
     have iQ:Hid (∀i' k',R i' k'->i+1<=i'):=λi' k' h=>by
      have h1:=mE.out i' k' h;have h2:=((dN.out i' k').1 h).2.1;omega
     have bV:=zA (ie.out _ fP.out).1;go_wp2_with fail
     go_roundw
     case rel=>exact⟨i+1,by omega,by go_num,bV,iQ⟩
     case measure=>simp[intOf];omega
  ·obtain rfl:i=rs.length:=by omega
   have ii:¬(rs.length:Int)<(rs.length:Int):=by omega
   have HQ:=zA (oq.out ((wr.setCell ⟨w.heap.size,0,none⟩ (.slice none 0 0)).setCell ⟨w.heap.size,1,none⟩ (.slice none 0 0)) (.returned (.agg #[.slice none 0 0,.slice none 0 0])) ((aU.setCell (by simp) _).setCell (by simp) _) (.inr ⟨λi' k' h=>by
    have h1:=HM.out i' k' h;have h2:=(dN.out i' k').1 h;omega,rfl⟩))
   have cU:=zA (KK (c:=.slice none 0 0) (d:=.slice none 0 0) hX);have z0:wr.cell? ⟨w.heap.size,0,none⟩=some (.slice none 0 0):=(zC hX 0).trans rfl;have z1:wr.cell? ⟨w.heap.size,1,none⟩=some (.slice none 0 0):=(zC hX 1).trans rfl;have y0:wr.frozen? ⟨w.heap.size,0,none⟩=false:=(by simp[World.frozen?,hX]);have y1:wr.frozen? ⟨w.heap.size,1,none⟩=false:=by simp[World.frozen?,hX]
   go_wp2_with fail
   refine pe (v:=.agg #[.slice none 0 0,.slice none 0 0]) (results_cell_row results51 _ _ w.heap.size 132 #[.slice none 0 0,.slice none 0 0] (0,0) _ rfl cU.out underlying132 rfl (Vs _ _)) rfl HQ.out
theorem Xp{cv rv:Value}(k:Int)(hj:j<3+G.length:=by omega):(tR iv cv rv G k)[j]? = (cZ iv cv rv G)[j]? := by
 unfold tR;rw[fg (by rw[lG];exact hj)]
theorem J8.made{b:Nat}{cv rv:Value}{I:List yA}{C:List (Bs × Nat)}(h:w.heap[b]? = some (ZV iv cv rv G 0))(hG:G.length=64)(hc:lY w iv cv rv I C rs)(hf:I.length<=100):J8 w b 0 I C rs G:=by
 unfold ZV at h;obtain⟨g0,g1,g2⟩:=FR iv cv rv G;obtain⟨a1,c1,e1,k1⟩:=hc.inp;obtain⟨a2,c2,e2,k2⟩:=hc.r9;obtain⟨a3,c3,e3,k3⟩:=hc.og;refine⟨⟨a1,c1,?_,k1⟩,⟨a2,c2,?_,k2⟩,⟨a3,c3,?_,k3⟩,hc.rows,λk hk=>?_,hf,hc.ef,hc.nh⟩
 ·rw[<-e1];exact((zC h 0).trans (Xp 0)).trans g0
 ·rw[<-e2];exact((zC h 1).trans (Xp 0)).trans g1
 ·rw[<-e3];exact((zC h 2).trans (Xp 0)).trans g2
 ·rw[cw];exact((zC h (3+k)).trans (Xp 0)).trans (U8 iv cv rv G k (by omega))
def Xv(F:List zE):List Bool:=zT (qN (vQ F) F gZ)
theorem Xu(F:List zE):(Xv F).length=64:=by unfold Xv zT;rw[gW,mY];exact yX
structure BN(F:List zE):Prop where
 aj:(yC F).length<=100
 inp:sZ (yC F)
 og:∀x∈uJ ((yC F).map yA.name) ((xR F).map Prod.fst) F,Jf (yC F) (xR F).length x
def QX(F:List zE)(w w':World)(e:Ending):Prop:=∃rs:List MX,rs.map Prod.fst=uJ ((yC F).map yA.name) ((xR F).map Prod.fst) F/\Below w.heap.size w w'/\((∃b:Nat,e=.returned (.tuple #[.pointer (some ⟨b,0,none⟩),.int .i64 0])/\K4 w' b F rs/\∀i j,¬K3 (yC F) (xR F).length rs (Xv F) i j)\/(e=.returned (.tuple #[.pointer none,.int .i64 8])/\∃i j,K3 (yC F) (xR F).length rs (Xv F) i j))
theorem BH(l:Bs)(w:World)(k:Int)(hk:k≠0)(hR:Calls prog 50 #[.string ⟨l.toArray⟩] w λe w'=>e=.returned (.agg (tR xD xD xD gZ k))/\Below w.heap.size w w') :
 Calls prog 27 #[.string ⟨l.toArray⟩,.bool true] w λe w'=>e=.returned (.tuple #[.pointer none,.int .i64 k])/\Below w.heap.size w w':=by
 have HR:=zA hR;have b0:(k != 0)=true:=by simpa using hk
 clear hR hk
 go_enter func27,ntmps27
 go_wp2_with fail
 refine HR.out.mono ?_;rintro e w1 ⟨rfl,hb⟩;have HB:=zA hb;have hs:=hb.size;clear hb HR;have aQ:Hid ((w1.alloc (.cells zeroCells129 129)).heap[w1.heap.size]? = some (.cells zeroCells129 129 (0,0))):=zF _ _;have hM:((w1.alloc (.cells zeroCells129 129)).setRow w1.heap.size (tR xD xD xD gZ k)).heap[w1.heap.size]? = some (ZV xD xD xD gZ k):=l9 _ _ _ _ aQ.out;have gp:((w1.alloc (.cells zeroCells129 129)).setRow w1.heap.size (tR xD xD xD gZ k)).cell? ⟨w1.heap.size,67,none⟩=some (.int .i64 k):=by unfold ZV at hM;exact(zC hM 67).trans (aM yX k)
 clear hM
 go_wp2_with (refine wpList_store_row ?bB 129 (.tmp 6) (.tmp 9) ?ho w1.heap.size (tR xD xD xD gZ k) ?hx ?hy 129 zeroCells129 aQ.out (cJ yX _ _ _ _) ?bt (cX rfl rfl rfl _ _) ?_
              case ho=>rfl
              case bB=>rfl
              case hx=>rfl
              case hy=>rfl
              case bt=>rw[fZ,uL,uL])
 go_quiet (fail)
 go_wp2_with fail
 go_ret2
 exact⟨rfl,xQ (yK (HB.out.alloc hs _) hs _) _⟩
theorem iB(l:Bs)(w:World)(F:List zE)(hO:BN F)(hR:Calls prog 50 #[.string ⟨l.toArray⟩] w λe w'=>lO F w w' e) :
 Calls prog 27 #[.string ⟨l.toArray⟩,.bool true] w λe w'=>QX F w w' e:=by
 have HR:=zA hR;clear hR;have cz:=zA (Xu F);have iH:Hid (∀w' e,lO F w w' e->∃iv cv rv rs,e=.returned (.agg (tR iv cv rv (Xv F) 0))/\rs.map Prod.fst=uJ ((yC F).map yA.name) ((xR F).map Prod.fst) F/\lY w' iv cv rv (yC F) (xR F) rs/\Below w.heap.size w w'):=λw' e h=>h;have jc:Hid (∀w' e (rs:List MX),rs.map Prod.fst=uJ ((yC F).map yA.name) ((xR F).map Prod.fst) F->Below w.heap.size w w'->((∃b:Nat,e=.returned (.tuple #[.pointer (some ⟨b,0,none⟩),.int .i64 0])/\K4 w' b F rs/\∀i j,¬K3 (yC F) (xR F).length rs (Xv F) i j)\/(e=.returned (.tuple #[.pointer none,.int .i64 8])/\∃i j,K3 (yC F) (xR F).length rs (Xv F) i j))->QX F w w' e):=λw' e rs h1 h2 h3=>⟨rs,h1,h2,h3⟩;have oz:Hid (∀w' b iv cv rv rs,w'.heap[b]? = some (.cells (AP iv cv rv (Xv F)) 136 (0,0))->rs.map Prod.fst=uJ ((yC F).map yA.name) ((xR F).map Prod.fst) F->lY w' iv cv rv (yC F) (xR F) rs->K4 w' b F rs):=λw' b iv cv rv rs h1 h2 h3=>⟨⟨iv,cv,rv,h1,h3⟩,h2⟩
 have ij:Hid (∀w' b rs iv cv rv,rs.map Prod.fst=uJ ((yC F).map yA.name) ((xR F).map Prod.fst) F->w'.heap[b]? = some (ZV iv cv rv (Xv F) 0)->lY w' iv cv rv (yC F) (xR F) rs->Calls prog 51 #[.pointer (some ⟨b,0,none⟩)] w' λe w2=>Below w'.heap.size w' w2/\((∃la sa sn sc,e=.returned (.agg #[.slice la 2 2,.slice sa sn sc])/\∃i j,K3 (yC F) (xR F).length rs (Xv F) i j)\/(e=.returned (.agg #[.slice none 0 0,.slice none 0 0])/\∀i j,¬K3 (yC F) (xR F).length rs (Xv F) i j))):=λw' b rs iv cv rv h1 h2 h3=>by
  refine(IX w' b 0 (yC F) (xR F) rs (Xv F) (J8.made h2 (Xu F) h3 hO.aj) hO.inp (λx hx=>hO.og x.1 ?_)).mono ?_
  ·rw[<-h1];exact List.mem_map_of_mem hx
  ·rintro e w2 ⟨hb,⟨i,j,f,g,la,sv,j7,rfl,-,⟨sa,sc,rfl,-⟩,-,-,-⟩|⟨hn,rfl⟩⟩
   ·exact⟨hb,.inl ⟨la,sa,_,sc,rfl,i,j,j7.1⟩⟩
   ·exact⟨hb,.inr ⟨rfl,hn⟩⟩
 clear hO;generalize Xv F=G at *;generalize QX F w=Q at *
 go_enter func27,ntmps27
 go_wp2_with fail
 refine HR.out.mono ?_;rintro e w1 fx;obtain⟨iv,cv,rv,rs,rfl,eI,eJ,hb⟩:=iH.out _ _ fx;obtain⟨o1,o2,o3⟩:=eJ.one;have HB:=zA hb;have iW:=zA eJ;have hs:=hb.size;have oG:=zA (λw' e=>jc.out w' e rs eI);have ei:=zA (λw' b=>ij.out w' b rs iv cv rv eI);have jh:=zA (λw' b h1 h2=>oz.out w' b iv cv rv rs h1 eI h2);clear hb HR fx eJ eI iH jc ij oz;have aQ:Hid ((w1.alloc (.cells zeroCells129 129)).heap[w1.heap.size]? = some (.cells zeroCells129 129 (0,0))):=zF _ _;have HM:Hid (((w1.alloc (.cells zeroCells129 129)).setRow w1.heap.size (tR iv cv rv G 0)).heap[w1.heap.size]? = some (ZV iv cv rv G 0)):=l9 _ _ _ _ aQ.out;have gp:((w1.alloc (.cells zeroCells129 129)).setRow w1.heap.size (tR iv cv rv G 0)).cell? ⟨w1.heap.size,67,none⟩=some (.int .i64 0):=by have h8:=HM.out;unfold ZV at h8;exact(zC h8 67).trans (aM cz.out 0)
 have ej:Hid (Below w1.heap.size w1 ((w1.alloc (.cells zeroCells129 129)).setRow w1.heap.size (tR iv cv rv G 0))):=yK (fk (tg _) _) (tg _) _
 go_wp2_with (refine wpList_store_row ?bB 129 (.tmp 6) (.tmp 9) ?ho w1.heap.size (tR iv cv rv G 0) ?hx ?hy 129 zeroCells129 aQ.out (cJ cz.out _ _ _ _) ?bt (cX o1 o2 o3 _ _) ?_
              case ho=>rfl
              case bB=>rfl
              case hx=>rfl
              case hy=>rfl
              case bt=>rw[fZ,uL,uL,yX,cz.out])
 have dk:=zA (iW.out.below ej.out);have ey:Hid (Below w.heap.size w ((w1.alloc (.cells zeroCells129 129)).setRow w1.heap.size (tR iv cv rv G 0))):=HB.out.trans (ej.out.mono hs);clear aQ gp ej iW;generalize (w1.alloc (.cells zeroCells129 129)).setRow w1.heap.size (tR iv cv rv G 0)=wM at *;have lm:=zP HM.out;refine(ei.out wM w1.heap.size HM.out dk.out).mono ?_;rintro e w2 ⟨aN,⟨la,sa,sn,sc,rfl,hex⟩|⟨rfl,bW⟩⟩
 ·have aS:Hid (Below w.heap.size w w2):=ey.out.trans (aN.mono ey.out.size)
  have rY:=zA hex;have bw:=aS.out.size;clear hex aN ei dk HM;have HQ:=zA (oG.out (w2.alloc (.cells #[.slice la 2 2,.slice sa sn sc] 132)) _ (aS.out.alloc bw _) (.inr ⟨rfl,rY.out⟩));go_wp2_with fail
  exact HQ.out
 ·have aS:Hid (Below w.heap.size w w2):=ey.out.trans (aN.mono ey.out.size)
  have iQ:=zA bW;have bw:=aS.out.size;have mF:Hid (w2.heap[w1.heap.size]? = some (ZV iv cv rv G 0)):=(aN.block _ lm).trans HM.out;have sB:=zP mF.out
  have rF:Hid ((w2.alloc (.cells #[.slice none 0 0,.slice none 0 0] 132)).rangeAt w1.heap.size 0 (cZ iv cv rv G).toList):=λj v hv=>by
   have h8:(w2.alloc (.cells #[.slice none 0 0,.slice none 0 0] 132)).heap[w1.heap.size]? = some (ZV iv cv rv G 0):=yD mF.out;unfold ZV tR at h8;have hj:j<(cZ iv cv rv G).size:=(by have:=(dl.1 hv).1;simpa using this);rw[cw];refine(zC h8 j).trans ?_;rw[fg hj];rw[<-hv,da]
  have rT:=zA (λ(o1 o2:Obj)=>((dk.out.below aN).below (fk (tg _) o1)).below (fk (tg _) o2));clear bW aN ei dk HM mF
  go_wp2_with (first
   | (refine wpList_load_mid ?bB 127 (.tmp 22) ?ho w1.heap.size 0 ?hx (cZ iv cv rv G).toList _ rF.out underlying127 rfl ?hi ?_
      case ho=>rfl
      case bB=>rfl
      case hx=>rfl
      case hi=>rw[Array.length_toList];exact aK cz.out _ _ _)
   | (refine wpList_buildTo rfl 136 #[(0,.const (.bool true)),(1,.tmp 23)] rfl (some 24) rfl (AP iv cv rv G) (by rw[Array.toList_map];exact Bx iv cv rv G cz.out) ?_))
  exact oG.out _ _ ((aS.out.alloc bw _).alloc (by simp;omega) _) (.inl ⟨w2.heap.size+1,rfl,jh.out _ _ (by rw[show w2.heap.size+1=(w2.alloc (.cells #[.slice none 0 0,.slice none 0 0] 132)).heap.size by simp];exact zF _ _) (rT.out _ _),iQ.out⟩)
theorem Zy{F:List zE}(h:jN F):(xR F).map Prod.fst=zX F:=by
 rw[R2 F h.aa h.iy];unfold Es;rw[List.map_map];refine List.ext_getElem (by simp) λi h1 h2=>?_;simp only[List.getElem_map,List.getElem_range,Function.comp];rw[mq,pm h2];rfl
theorem sI{F:List zE}(h:jN F):(xR F).length=(zX F).length:=by rw[<-Zy h,pt]
theorem UZ{i:Nat}(hi:i<8:=by omega)(hj:j<8:=by omega):Ym G (i:Int) (j:Int)=gA G i j:=by
 unfold Ym;rw[tz (show (0:Int)<=(i:Int) by omega),tz (show (i:Int)<8 by omega),tz (show (0:Int)<=(j:Int) by omega),tz (show (j:Int)<8 by omega)];simp
theorem U5(h:jN ls)(hr:rs.map Prod.fst=uJ ((yC ls).map yA.name) ((xR ls).map Prod.fst) ls):rs.length=(aE ls).length/\∀i,i<(aE ls).length->(qW rs i).1=qT (qE ls) (zX ls) ((aE ls).getD i Jn):=by
 rw[Zy h,JN]at hr;have hl:rs.length=(aE ls).length:=by have:=gk List.length hr;simpa using this
 refine⟨hl,λi hi=>?_⟩;have h1:i<rs.length:=by omega
 have e1:(rs.map Prod.fst).getD i (qT [] [] Jn)=(qW rs i).1:=by simp[qW,List.getD,h1]
 rw[<-e1,hr];exact Q8 _ _ _ _ _ hi
theorem Iu(h:jN ls)(hg:∀x∈ls,bG x):BN ls:=by
 refine⟨by have:=UR h;omega,N0 h hg,λr hr=>?_⟩;rw[Zy h,JN]at hr;obtain⟨x,hx,rfl⟩:=pd.1 hr;obtain⟨h1,h2⟩:=mu.1 hx;rw[sI h];exact Mn h h1 (cr h2) (hg x h1)
def Xz(F:List zE)(w w':World)(e:Ending):Prop:=∃rs:List MX,rs.map Prod.fst=uJ ((yC F).map yA.name) ((xR F).map Prod.fst) F/\Below w.heap.size w w'/\((e=.returned (.tuple #[.slice none 0 0,.slice none 0 0,.int .i64 9])/\∀i j,¬K3 (yC F) (xR F).length rs (Xv F) i j)\/(∃(i j:Nat) (f:Nat->Int) (g:Nat->Bool) (la sa:Option Addr) (sc:Nat),e=.returned (.tuple #[.slice la 2 2,.slice sa ((yC F).length+(xR F).length) sc,.int .i64 0])/\VH (K3 (yC F) (xR F).length rs (Xv F)) i j/\kQ w' la [.string ⟨(qW rs i).1.label.toArray⟩,.string ⟨(qW rs j).1.label.toArray⟩]/\dH w.heap.size w' 95 sa (tU (yC F) f (yC F).length++mX (xR F) g (xR F).length)/\BM (yC F) (xR F).length (qW rs i).1 (qW rs j).1 f g/\kY (qW rs i).1 (XI (yC F) (xR F).length f g)=true/\kY (qW rs j).1 (XI (yC F) (xR F).length f g)=true))
theorem BI(l:Bs)(w:World)(k:Int)(hk:k≠0)(hR:Calls prog 50 #[.string ⟨l.toArray⟩] w λe w'=>e=.returned (.agg (tR xD xD xD gZ k))/\Below w.heap.size w w') :
 Calls prog 29 #[.string ⟨l.toArray⟩] w λe w'=>e=.returned (.tuple #[.slice none 0 0,.slice none 0 0,.int .i64 k])/\Below w.heap.size w w':=by
 have HR:=zA hR;have b0:(k != 0)=true:=by simpa using hk
 clear hR hk
 go_enter func29,ntmps29
 go_wp2_with fail
 refine HR.out.mono ?_;rintro e w1 ⟨rfl,hb⟩;have HB:=zA hb;have hs:=hb.size;clear hb HR;have aQ:Hid ((w1.alloc (.cells zeroCells129 129)).heap[w1.heap.size]? = some (.cells zeroCells129 129 (0,0))):=zF _ _;have hM:((w1.alloc (.cells zeroCells129 129)).setRow w1.heap.size (tR xD xD xD gZ k)).heap[w1.heap.size]? = some (ZV xD xD xD gZ k):=l9 _ _ _ _ aQ.out;have gp:((w1.alloc (.cells zeroCells129 129)).setRow w1.heap.size (tR xD xD xD gZ k)).cell? ⟨w1.heap.size,67,none⟩=some (.int .i64 k):=by unfold ZV at hM;exact(zC hM 67).trans (aM yX k)
 clear hM
 go_wp2_with (refine wpList_store_row ?bB 129 (.tmp 5) (.tmp 8) ?ho w1.heap.size (tR xD xD xD gZ k) ?hx ?hy 129 zeroCells129 aQ.out (cJ yX _ _ _ _) ?bt (cX rfl rfl rfl _ _) ?_
              case ho=>rfl
              case bB=>rfl
              case hx=>rfl
              case hy=>rfl
              case bt=>rw[fZ,uL,uL])
 go_quiet (fail)
 go_wp2_with fail
 go_ret3
 exact⟨rfl,xQ (yK (HB.out.alloc hs _) hs _) _⟩
theorem dE(l:Bs)(w:World)(F:List zE)(hO:BN F)(hR:Calls prog 50 #[.string ⟨l.toArray⟩] w λe w'=>lO F w w' e) :
 Calls prog 29 #[.string ⟨l.toArray⟩] w λe w'=>Xz F w w' e:=by
 have HR:=zA hR;clear hR;have cz:=zA (Xu F);have iH:Hid (∀w' e,lO F w w' e->∃iv cv rv rs,e=.returned (.agg (tR iv cv rv (Xv F) 0))/\rs.map Prod.fst=uJ ((yC F).map yA.name) ((xR F).map Prod.fst) F/\lY w' iv cv rv (yC F) (xR F) rs/\Below w.heap.size w w'):=λw' e h=>h
 have ij:Hid (∀w' b rs iv cv rv,rs.map Prod.fst=uJ ((yC F).map yA.name) ((xR F).map Prod.fst) F->w'.heap[b]? = some (ZV iv cv rv (Xv F) 0)->lY w' iv cv rv (yC F) (xR F) rs->Below w.heap.size w w'->Calls prog 51 #[.pointer (some ⟨b,0,none⟩)] w' λe w2=>((∃la sa sn sc,e=.returned (.agg #[.slice la 2 2,.slice sa sn sc])/\∀w3,Below w2.heap.size w2 w3->Xz F w w3 (.returned (.tuple #[.slice la 2 2,.slice sa sn sc,.int .i64 0])))\/(e=.returned (.agg #[.slice none 0 0,.slice none 0 0])/\∀w3,Below w2.heap.size w2 w3->Xz F w w3 (.returned (.tuple #[.slice none 0 0,.slice none 0 0,.int .i64 9]))))):=λw' b rs iv cv rv h1 h2 h3 h4=>by
  refine(IX w' b 0 (yC F) (xR F) rs (Xv F) (J8.made h2 (Xu F) h3 hO.aj) hO.inp (λx hx=>hO.og x.1 ?_)).mono ?_
  ·rw[<-h1];exact List.mem_map_of_mem hx
  ·rintro e w2 ⟨hb,⟨i,j,f,g,la,sv,j7,rfl,hl,⟨sa,sc,rfl,hs⟩,qD,gf,gb⟩|⟨hn,rfl⟩⟩
   ·have aN:=h4.trans (hb.mono h4.size)
    exact .inl ⟨la,sa,_,sc,rfl,λw3 h3=>⟨rs,h1,aN.trans (h3.mono aN.size),.inr ⟨i,j,f,g,la,sa,sc,rfl,j7,hl.below h3,(hs.mono h4.size).below h3,qD,gf,gb⟩⟩⟩
   ·have aN:=h4.trans (hb.mono h4.size)
    exact .inr ⟨rfl,λw3 h3=>⟨rs,h1,aN.trans (h3.mono aN.size),.inl ⟨rfl,hn⟩⟩⟩
 clear hO;generalize Xv F=G at *;generalize Xz F w=Q at *
 go_enter func29,ntmps29
 go_wp2_with fail
 refine HR.out.mono ?_;rintro e w1 fx;obtain⟨iv,cv,rv,rs,rfl,eI,eJ,hb⟩:=iH.out _ _ fx;obtain⟨o1,o2,o3⟩:=eJ.one;have HB:=zA hb;have iW:=zA eJ;have hs:=hb.size;have ei:=zA (λw' b=>ij.out w' b rs iv cv rv eI);clear hb HR fx eJ eI iH ij;have aQ:Hid ((w1.alloc (.cells zeroCells129 129)).heap[w1.heap.size]? = some (.cells zeroCells129 129 (0,0))):=zF _ _;have HM:Hid (((w1.alloc (.cells zeroCells129 129)).setRow w1.heap.size (tR iv cv rv G 0)).heap[w1.heap.size]? = some (ZV iv cv rv G 0)):=l9 _ _ _ _ aQ.out;have gp:((w1.alloc (.cells zeroCells129 129)).setRow w1.heap.size (tR iv cv rv G 0)).cell? ⟨w1.heap.size,67,none⟩=some (.int .i64 0):=by have h8:=HM.out;unfold ZV at h8;exact(zC h8 67).trans (aM cz.out 0)
 have ej:Hid (Below w1.heap.size w1 ((w1.alloc (.cells zeroCells129 129)).setRow w1.heap.size (tR iv cv rv G 0))):=yK (fk (tg _) _) (tg _) _
 go_wp2_with (refine wpList_store_row ?bB 129 (.tmp 5) (.tmp 8) ?ho w1.heap.size (tR iv cv rv G 0) ?hx ?hy 129 zeroCells129 aQ.out (cJ cz.out _ _ _ _) ?bt (cX o1 o2 o3 _ _) ?_
              case ho=>rfl
              case bB=>rfl
              case hx=>rfl
              case hy=>rfl
              case bt=>rw[fZ,uL,uL,yX,cz.out])
 have dk:=zA (iW.out.below ej.out);have ey:Hid (Below w.heap.size w ((w1.alloc (.cells zeroCells129 129)).setRow w1.heap.size (tR iv cv rv G 0))):=HB.out.trans (ej.out.mono hs);clear aQ gp ej iW;generalize (w1.alloc (.cells zeroCells129 129)).setRow w1.heap.size (tR iv cv rv G 0)=wM at *;refine(ei.out wM w1.heap.size HM.out dk.out ey.out).mono ?_;rintro e w2 (⟨la,sa,sn,sc,rfl,hex⟩|⟨rfl,bW⟩)
 ·have HQ:=zA hex
  clear hex ei dk HM;go_wp2_with fail
  go_quiet (fail)
  go_wp2_with fail
  go_ret3
  exact HQ.out _ (xQ (fk (tg _) _) _)
 ·have HQ:=zA (bW _ ((tl w2.heap.size w2).alloc (tg _) (.cells #[.slice none 0 0,.slice none 0 0] 132)))
  clear bW ei dk HM;go_wp2_with fail
  first|exact HQ.out|(go_ret3;exact HQ.out)
end Go.Proofs.YtnbpdffdnphbeabGreatDoor
