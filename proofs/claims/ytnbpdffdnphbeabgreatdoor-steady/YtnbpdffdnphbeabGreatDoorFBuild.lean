import Derived.Test.YtnbpdffdnphbeabGreatDoorFGuard
import Derived.BigRegion
open Go.Proofs.Tryz
set_option maxHeartbeats 4000000
set_option maxRecDepth 100000
namespace Go.Proofs.YtnbpdffdnphbeabGreatDoor
open Go.RowKit
variable{cs:Array Value}{xs ys:List Value}{hc b g B3 k n j B0 i gt B:Nat}{hd hi lo:Nat->Int}{ov:Nat->Nat->Bool}{fo:Obj}{a ha:Option Addr}{t:TypeId}{rv u v d c:Value}{w w':World}{x:vR × Value × Value}
def rh(x:vR × Value × Value):List Value:=[.int .i64 (x.1.head:Int),.bool x.1.whole,x.2.1,x.2.2]
structure gK(w:World)(x:vR × Value × Value):Prop where
 parts:∃a c,x.2.1=.slice a x.1.parts.length c/\xX w 89 a (x.1.parts.flatMap rM)
 tests:∃a c,x.2.2=.slice a x.1.tests.length c/\xX w 87 a (x.1.tests.flatMap nV)
theorem gK.below(h:gK w x)(hb:Below w.heap.size w w'):gK w' x:=by
 obtain⟨a,c,e1,h1⟩:=h.parts;obtain⟨a',c',e2,h2⟩:=h.tests;exact⟨⟨a,c,e1,h1.below hb⟩,a',c',e2,h2.below hb⟩
theorem MQ:(prog.info? 85).map (λi=>(i.zero,i.size,i.bytes))=some (some (.agg #[.int .i64 0,.bool false,.slice none 0 0,.slice none 0 0]),4,64):=by kernel_rfl
theorem RY:(prog.info? 3).map (λi=>(i.zero,i.size,i.bytes))=some (some (.int .i64 0),1,8):=by kernel_rfl
theorem aV{o:Obj}(h:w.heap[b]? = some o)(aA:b≠g):(w.setCell ⟨g,k,none⟩ v).heap[b]? = some o:=by rw[l6 _ _ _ _ (show b≠(⟨g,k,none⟩:Addr).block from aA)];exact h
theorem kH.drew{hv:Value}(h:kH w g lo hi rv ov hv):kH w.drew g lo hi rv ov hv:=h.below (md (tl _ _))
theorem ZX{α:Type}(f:Nat->α)(i:Nat)(v:α):ZY f i v i=v:=by unfold ZY;rw[tr rfl]
theorem KA{α:Type}{f:Nat->α}{v:α}(h:j≠i):ZY f i v j=f j:=by unfold ZY;rw[tj h]
structure bF(w:World)(g:Nat)(M:yO):Prop where
 mem:∃(ra ha:Option Addr) (rc hc:Nat) (xs:List (vR × Value × Value)),xs.map Prod.fst=M.rules/\kH w g M.lo M.hi (.slice ra M.rules.length rc) M.over (.slice ha M.aa.length hc)/\xX w 85 ra (xs.flatMap rh)/\(∀x∈xs,gK w x)/\xX w 3 ha (fO M.aa)
def fQ(B:Nat)(w:World)(t:TypeId)(a:Option Addr)(xs:List Value):Prop:=xs=[]\/∃g cs,B<=g/\a=some ⟨g,0,none⟩/\w.heap[g]? = some (.cells cs t (0,0))/\∀j,j<xs.length->cs[j]? = xs[j]?
theorem fQ.keep(h:fQ B w t a xs)(hk:∀(g:Nat) (cs:Array Value) (fz:Nat × Nat),w.heap[g]? = some (Obj.cells cs t fz)->w'.heap[g]? = w.heap[g]?):fQ B w' t a xs:=by
 rcases h with h|⟨g,cs,h0,h1,h2,h3⟩
 ·exact .inl h
 ·exact .inr ⟨g,cs,h0,h1,by rw[hk g cs _ h2];exact h2,h3⟩
theorem fQ.below(h:fQ B w t a xs)(hb:Below w.heap.size w w'):fQ B w' t a xs :=
 h.keep λg _ _ hg=>hb.block g (zP hg)
theorem fQ.grown{e:TypeId}(h:fQ B0 w t a xs)(aG:w.ownsRow B e k v n ys)(aA:t≠e)(hg:w.grownBy w' v.ownBlock):fQ B0 w' t a xs :=
 h.keep λg cs fz cJ=>hg.block g (zP cJ) (λe1=>by
  rcases aG.2 with ⟨k1,_⟩|⟨g',cap,yB,k1,_,k3,_⟩
  ·rw[k1]at e1;simp[Value.ownBlock]at e1
  ·rw[k1]at e1;simp[Value.ownBlock]at e1
   subst e1;rw[cJ]at k3;simp only[bi,Obj.cells.injEq]at k3;exact aA k3.2.1)
theorem fQ.set(h:fQ B w t a xs){t':TypeId}{fz:Nat × Nat}(hb:w.heap[b]? = some (.cells cs t' fz))(aA:t≠t'):fQ B (w.setCell ⟨b,j,none⟩ u) t a xs :=
 h.keep λg cs' eN hg=>l6 _ _ _ _ (λe=>by
  subst e;rw[hb]at hg;simp only[bi,Obj.cells.injEq]at hg;exact aA hg.2.1.symm)
theorem fQ.mono{B':Nat}(h:fQ B w t a xs)(hB:B'<=B):fQ B' w t a xs:=by
 rcases h with h|⟨g,cs,h0,h1,h2,h3⟩
 ·exact .inl h
 ·exact .inr ⟨g,cs,by omega,h1,h2,h3⟩
theorem Bv{m c:Nat}(h:w.ownsRow B t k (.slice a m c) n xs)(hB:B0<=B):fQ B0 w t a xs:=by
 have hl:=h.1;rcases h.2 with ⟨h1,h2⟩|⟨g,cap,yB,h1,eM,h3,h4,h5,_,h7⟩
 ·exact .inl (l5 (by rw[hl,h2,fa]))
 ·simp only[ct]at h1
  exact .inr ⟨g,yB,by omega,h1.1,h3,λj hj=>by
   rw[<-h7,dw,tr (by rw[<-hl];exact hj),da]⟩
def Y5(B:Nat)(w:World)(x:vR × Value × Value):Prop:=∃a c,x.2.2=.slice a x.1.tests.length c/\fQ B w 87 a (x.1.tests.flatMap nV)
theorem Y5.below(h:Y5 B w x)(hb:Below w.heap.size w w'):Y5 B w' x:=let ⟨a,c,h1,h2⟩:=h;⟨a,c,h1,h2.below hb⟩
theorem Y5.set(h:Y5 B w x)(hb:w.heap[b]? = some (.cells cs 48 (0,0))):Y5 B (w.setCell ⟨b,j,none⟩ u) x:=let ⟨a,c,h1,h2⟩:=h;⟨a,c,h1,h2.set hb (by decide)⟩
theorem Y5.grown(h:Y5 B0 w x)(aG:w.ownsRow B 85 4 v n ys)(hg:w.grownBy w' v.ownBlock):Y5 B0 w' x:=let ⟨a,c,h1,h2⟩:=h;⟨a,c,h1,h2.grown aG (by decide) hg⟩
structure GD(B:Nat)(w:World)(g:Nat)(M:yO):Prop where
 mem:∃(ra ha:Option Addr) (rc hc:Nat) (xs:List (vR × Value × Value)),xs.map Prod.fst=M.rules/\kH w g M.lo M.hi (.slice ra M.rules.length rc) M.over (.slice ha M.aa.length hc)/\xX w 85 ra (xs.flatMap rh)/\(∀x∈xs,gK w x)/\xX w 3 ha (fO M.aa)/\∀x∈xs,Y5 B w x
theorem GD.made{M:yO}(h:GD B w g M):bF w g M:=let ⟨ra,ha,rc,hc,xs,h1,h2,h3,h4,h5,_⟩:=h.mem;⟨ra,ha,rc,hc,xs,h1,h2,h3,h4,h5⟩
theorem gK.set(h:gK w x)(hb:w.heap[b]? = some (.cells cs 48 (0,0))):gK (w.setCell ⟨b,j,none⟩ u) x:=by
 obtain⟨a,c,e1,h1⟩:=h.parts;obtain⟨a',c',e2,h2⟩:=h.tests;exact⟨⟨a,c,e1,h1.set hb (by decide)⟩,a',c',e2,h2.set hb (by decide)⟩
theorem gK.grown(h:gK w x)(aG:w.ownsRow B 85 4 v n ys)(hg:w.grownBy w' v.ownBlock):gK w' x:=by
 obtain⟨a,c,e1,h1⟩:=h.parts;obtain⟨a',c',e2,h2⟩:=h.tests;exact⟨⟨a,c,e1,h1.grown aG (by decide) hg⟩,a',c',e2,h2.grown aG (by decide) hg⟩
theorem E7{z0 z1 z2 z3 a b:Value}(hz:w.heap[g]? = some (.cells #[z0,z1,z2,z3] t (0,0))):((((w.setCell ⟨g,0,none⟩ a).setCell ⟨g,1,none⟩ b).setCell ⟨g,2,none⟩ c).setCell ⟨g,3,none⟩ d).heap[g]? = some (.cells #[a,b,c,d] t (0,0)):=by
 have q1:=p9 w _ 0 _ _ a hz;have q2:=p9 _ _ 1 _ _ b q1;have q3:=p9 _ _ 2 _ _ c q2;have q4:=p9 _ _ 3 _ _ d q3;rw[q4];simp
theorem Kr{T:TypeId}{a b:Value}{p:Option Addr}(h:xX w T p xs)(hz:w.heap[g]? = some (.cells cs t (0,0)))(aA:T≠t:=by decide):xX ((((w.setCell ⟨g,0,none⟩ a).setCell ⟨g,1,none⟩ b).setCell ⟨g,2,none⟩ c).setCell ⟨g,3,none⟩ d) T p xs:=by
 have q1:=p9 w _ 0 _ _ a hz;have q2:=p9 _ _ 1 _ _ b q1;have q3:=p9 _ _ 2 _ _ c q2;exact(((h.set hz aA).set q1 aA).set q2 aA).set q3 aA
theorem kf{T:TypeId}{a b:Value}{p:Option Addr}(h:fQ B w T p xs)(hz:w.heap[g]? = some (.cells cs t (0,0)))(aA:T≠t):fQ B ((((w.setCell ⟨g,0,none⟩ a).setCell ⟨g,1,none⟩ b).setCell ⟨g,2,none⟩ c).setCell ⟨g,3,none⟩ d) T p xs:=by
 have q1:=p9 w _ 0 _ _ a hz;have q2:=p9 _ _ 1 _ _ b q1;have q3:=p9 _ _ 2 _ _ c q2;exact(((h.set hz aA).set q1 aA).set q2 aA).set q3 aA
theorem Fd{w0:World}{a b:Value}(h:Below B w0 w)(hg:B<=g):Below B w0 ((((w.setCell ⟨g,0,none⟩ a).setCell ⟨g,1,none⟩ b).setCell ⟨g,2,none⟩ c).setCell ⟨g,3,none⟩ d):=(((h.setCell (p:=⟨g,0,none⟩) hg _).setCell (p:=⟨g,1,none⟩) hg _).setCell (p:=⟨g,2,none⟩) hg _).setCell (p:=⟨g,3,none⟩) hg _
structure BL(w wr:World)(gt B3:Nat)(fo:Obj)(lo hi hd:Nat->Int)(n i:Nat)(rv:Value)(ov:Nat->Nat->Bool)(ha:Option Addr)(hc:Nat)(xs:List (vR × Value × Value)):Prop where
 box:wr.heap[w.heap.size]? = some fo
 ep:kH wr (w.heap.size+1) lo hi rv ov (.slice ha (yU (pQ hd n)).length hc)
 th:YU wr gt (λd=>decide (d∈pQ hd n))
 own:wr.ownsRow B3 85 4 rv i (xs.flatMap rh)
 rows:∀x∈xs,gK wr x
 EY:xX wr 3 ha (fO (yU (pQ hd n)))
 af:Below w.heap.size w wr
 sz:B3<=wr.heap.size
 len:xs.map (λx=>x.1.head)=pQ hd i
 EU:∀x∈xs,oX (yU (pQ hd n)) x.1
 ER:∀a b,ov a b=true->a<b/\b<n/\(pQ hd n).getD a 0=(pQ hd n).getD b 0
 new:∀x∈xs,Y5 w.heap.size wr x
theorem BL.below{wr:World}{xs:List (vR × Value × Value)}(h:BL w wr gt B3 fo lo hi hd n i rv ov ha hc xs)(hb:Below wr.heap.size wr w'):BL w w' gt B3 fo lo hi hd n i rv ov ha hc xs :=
 ⟨(hb.block _ (zP h.box)).trans h.box,h.ep.below hb,h.th.below hb,kV h.own hb,λx hx=>(h.rows x hx).below hb,h.EY.below hb,h.af.trans (hb.mono h.af.size),tu h.sz hb.size,h.len,h.EU,h.ER,λx hx=>(h.new x hx).below hb⟩
theorem BL.AX{wr:World}{xs:List (vR × Value × Value)}(h:BL w wr gt B3 fo lo hi hd n i rv ov ha hc xs)(h1:w.heap.size+1<gt)(h2:gt<B3){a:Nat}(dP:a<8)(dO:b<8)(v:Bool)(hv:v=true->a<b/\b<n/\(pQ hd n).getD a 0=(pQ hd n).getD b 0):BL w (wr.setCell ⟨w.heap.size+1,7+a*8+b,none⟩ (.bool v)) gt B3 fo lo hi hd n i rv (EM ov a b v) ha hc xs:=by
 obtain⟨cs,m1,-⟩:=h.ep.blk;refine⟨aV h.box (by omega),h.ep.AX a b dP dO v,h.th.other (by omega),yV h.own (by omega),λx hx=>(h.rows x hx).set m1,h.EY.set m1 (by decide),h.af.setCell (my _) _,by simpa using h.sz,h.len,h.EU,λx y bI=>?_,λx hx=>(h.new x hx).set m1⟩;unfold EM at bI;split at bI
 ·rename_i e;obtain⟨rfl,rfl⟩:=e;exact hv bI
 ·exact h.ER x y bI
theorem BL.app{wc wz w9:World}{xs:List (vR × Value × Value)}(h:BL w wc gt B3 fo lo hi hd n i rv ov ha hc xs)(h1:w.heap.size+1<gt)(h2:gt<B3)(hx:gK wc x)(cv:oX (yU (pQ hd n)) x.1)(dF:Y5 w.heap.size wc x)(hs:pQ hd (i+1)=pQ hd i++[x.1.head])(hz:Below wc.heap.size wc wz)(hg:wz.grownBy w9 rv.ownBlock)(aG:w9.ownsRow B3 85 4 v (i+1) (xs.flatMap rh++rh x)):kH w9 (w.heap.size+1) lo hi rv ov (.slice ha (yU (pQ hd n)).length hc)/\BL w (w9.setCell ⟨w.heap.size+1,6,none⟩ v) gt B3 fo lo hi hd n (i+1) v ov ha hc (xs++[x]):=by
 have hZ:=h.below hz;have hb:Below B3 wz w9:=(tl B3 wz).grown hg hZ.sz (zS hZ.own);have hM:=hZ.ep.down hb (by omega);obtain⟨cs,m1,-⟩:=hM.blk;refine⟨hM,aV ((hb.block _ (by omega)).trans hZ.box) (by omega),hM.AW _,(hZ.th.down hb h2).other (by omega),?_,λy hy=>?_,(hZ.EY.grown hZ.own (by decide) hg).set m1 (by decide),(hZ.af.trans (hb.mono (by omega))).setCell (my _) _,?_,?_,λy hy=>?_,h.ER,λy hy=>?_⟩
 ·rw[lk];exact yV (by simpa using aG) (by omega)
 ·rcases pj.1 hy with h' | h'
  ·exact((hZ.rows y h').grown hZ.own hg).set m1
  ·rw[pr.1 h'];exact((hx.below hz).grown hZ.own hg).set m1
 ·have:=hZ.sz;have:=hb.size;simp;omega
 ·rw[bj,h.len,hs];rfl
 ·rcases pj.1 hy with h' | h'
  ·exact h.EU y h'
  ·rw[pr.1 h'];exact cv
 ·rcases pj.1 hy with h' | h'
  ·exact((hZ.new y h').grown hZ.own hg).set m1
  ·rw[pr.1 h'];exact((dF.below hz).grown hZ.own hg).set m1
theorem Qm(H:List Nat)(d:Nat):xP H (d+1)=if d∈H then xP H d++[d] else xP H d:=by
 unfold xP;rw[bf,fb];by_cases h:d∈H
 ·rw[tr h];simp[h]
 ·rw[tj h];simp[h]
theorem JV(H:List Nat)(d:Nat):(xP H d).length<=d:=by
 unfold xP;have:=f0 (λx=>decide (x∈H)) (List.range d);simpa using this
theorem qg(w:World)(la wa ra:Option Addr)(ln lc wn wk rn rc:Nat)(hd:Nat->Int)(hL:dG w la ln)(hW:dG w wa wn)(hR:J7 w ra rn hd) :
 Calls prog 10 #[.agg #[.slice la ln lc,.slice wa wn wk,.slice ra rn rc]] w λe w'=>∃g M,e=.returned (.pointer (some ⟨g,0,none⟩))/\yR M/\GD w.heap.size w' g M/\Below w.heap.size w w'/\w.heap.size<=g/\(0<rn->0<M.rules.length):=by
 obtain⟨i0,ai,hz0,hz1,dA⟩:=du MQ;obtain⟨j0,cH,b9,b8,b7⟩:=du RY;have a8:=hR.aj;unfold maxLen at a8;have HL:=zA (λw' (hb:Below w.heap.size w w')=>hL.below hb);have dW:=zA (λw' (hb:Below w.heap.size w w')=>hW.below hb);have HR:=zA (λw' (hb:Below w.heap.size w w')=>hR.below hb);have cV:=zA V0;clear hL hW hR
 go_enter func10,ntmps10
 go_upto_region 2 with fail
 have cX:=zA (Dx (w.alloc (.cells #[.slice la ln lc,.slice wa wn wk,.slice ra rn rc] 25)));rw[show (w.alloc (.cells #[.slice la ln lc,.slice wa wn wk,.slice ra rn rc] 25)).heap.size=w.heap.size+1 by simp]at cX;have dV:Hid (((w.alloc (.cells #[.slice la ln lc,.slice wa wn wk,.slice ra rn rc] 25)).alloc (.cells zeroCells48 48)).heap[w.heap.size]? = some (.cells #[.slice la ln lc,.slice wa wn wk,.slice ra rn rc] 25 (0,0))):=yD (zF _ _);have dn:Hid (Below w.heap.size w ((w.alloc (.cells #[.slice la ln lc,.slice wa wn wk,.slice ra rn rc] 25)).alloc (.cells zeroCells48 48))):=(fk (tg _) _).alloc (by simp) _;generalize (w.alloc (.cells #[.slice la ln lc,.slice wa wn wk,.slice ra rn rc] 25)).alloc (.cells zeroCells48 48)=w0 at *;go_wp2_with fail
 go_loopw [4] (λiv wr=>∃(i:Nat) (lo hi:Nat->Int),i<=3/\iv=.int .i64 i/\Hid (wr.heap[w.heap.size]? = some (.cells #[.slice la ln lc,.slice wa wn wk,.slice ra rn rc] 25 (0,0)))/\Hid (kH wr (w.heap.size+1) lo hi (.slice none 0 0) (λ_ _=>false) (.slice none 0 0))/\Hid (∀j,j<i->0<=lo j/\lo j<=hi j/\hi j<=9998)/\Hid (Below w.heap.size w wr)) (λiv _=>3-(intOf iv).toNat)
 case atStart=>exact⟨0,_,_,p8,rfl,dV,cX,zA (λj hj=>by omega),dn⟩
 case round =>
  obtain⟨i,lo,hi,dJ,rfl,HX,HM,HN,HB⟩:=hrel;by_cases aD:i<3
  ·have c1:(i:Int)<3:=by omega
   have x0:wr.cell? ⟨w.heap.size,0,none⟩=some (.slice la ln lc):=zC HX.out 0;have x1:wr.cell? ⟨w.heap.size,1,none⟩=some (.slice wa wn wk):=zC HX.out 1;obtain⟨h1,H1⟩:=HL.out wr HB.out;obtain⟨h2,H2⟩:=dW.out wr HB.out;have cn:=zA (II wr la ln lc h1 H1 i (by omega));have cm:=zA (II wr wa wn wk h2 H2 i (by omega));have aC:=zA (λw'=>cV.out w' (XT ln h1 i) 5000 (H1.in i) (by decide) (by decide));have dc:=zA (λw'=>cV.out w' (XT wn h2 i) 5000 (H2.in i) (by decide) (by decide));clear H1 H2;generalize XT ln h1 i=z1 at *;generalize XT wn h2 i=z2 at *;have dR:=HM.out.free i;have cN:=HM.out.free (3+i);have m1:=HM.out.cells.1 i aD;have m2:=HM.out.cells.2.1 i aD;go_wp2_with fail
   refine cn.out.mono ?_;rintro e w4 ⟨rfl,hw⟩;obtain rfl:=hw.symm;go_wp2_with fail
   refine cm.out.mono ?_;rintro e w4 ⟨rfl,hw⟩;obtain rfl:=hw.symm
   go_upto_region 7 with fail
   go_cut [5] from 21 to 53 (λv5 wx=>∃r:Nat,v5=.int .i64 z1/\Hid (r<5000)/\Hid (wx.heap[w.heap.size]? = some (.cells #[.slice la ln lc,.slice wa wn wk,.slice ra rn rc] 25 (0,0)))/\Hid (kH wx (w.heap.size+1) (ZY lo i (r:Int)) hi (.slice none 0 0) (λ_ _=>false) (.slice none 0 0))/\Hid (Below w.heap.size w wx))
   case first =>
    go_region_held3 (λw'=>w'.cell? ⟨w.heap.size,0,none⟩=some (.slice la ln lc)) (go_keep) (
     (go_at_call 41;refine(aC.out _).mono ?_;rintro e w4 ⟨r,rfl,hr,hw⟩;obtain rfl:=hw.symm))
    all_goals
     go_wp2_with fail
     go_meet
     exact⟨r,rfl,zA (by omega),zA (aQ (aV HX.out (by omega))),zA (HM.out.D' i aD _).drew,zA (md (HB.out.setCell (my _) _))⟩
   case rest =>
    clear x0 x1 dR cN m1 m2 cn cm aC;obtain⟨r,rfl,Hr,bL,aN,bO⟩:=hcut;have cN:=aN.out.free (3+i);have m1:=aN.out.cells.1 i aD;rw[ZX]at m1;have m2:=aN.out.cells.2.1 i aD;have eC:=Hr.out
    go_upto_region 8 with fail
    go_region_held3 (λw'=>w'.cell? ⟨w.heap.size+1,i,none⟩=some (.int .i64 (r:Int))) (first|exact((aN.out.AG i aD _).drew.cells.1 i aD).trans (gk (λz=>some (Value.int .i64 z)) (ZX _ _ _))|go_keep) (
     (go_at_call 41;refine(dc.out _).mono ?_;rintro e w4 ⟨q,rfl,hq,hw⟩;obtain rfl:=hw.symm))
    all_goals
     have di:Hid (∀j,j<i+1->0<=ZY lo i (r:Int) j/\ZY lo i (r:Int) j<=ZY hi i ((r:Int)+(q:Int)) j/\ZY hi i ((r:Int)+(q:Int)) j<=9998):=λj hj=>by
      by_cases e:j=i
      ·subst e;rw[ZX,ZX];omega
      ·rw[KA e,KA e];exact HN.out j (by omega)
     go_wp2_with fail
     go_roundw
     case rel=>exact⟨i+1,_,_,by omega,by go_num,zA (aQ (aV bL.out (by omega))),zA (aN.out.AG i aD _).drew,di,zA (md (bO.out.setCell (my _) _))⟩
     case measure=>simp[intOf];omega
  ·have df:Hid (∀j,j<3->0<=lo j/\lo j<=hi j/\hi j<=9998):=λj hj=>HN.out j (by omega)
   have c9:¬(i:Int)<3:=(by omega);clear HN aD dJ;have x2:wr.cell? ⟨w.heap.size,2,none⟩=some (.slice ra rn rc):=zC HX.out 2
   go_upto_if 58 with fail
   go_cut [7] from 21 to 58 (λv7 wx=>∃n:Nat,v7=.int .i64 (n:Int)/\Hid (n<=8/\n<=rn/\(0<rn->0<n))/\wx=wr)
   case first =>
    by_cases h8:8<rn
    ·have c1:(8:Int)<(rn:Int):=by omega
     go_wp2_with fail
     go_meet
     exact⟨8,rfl,zA ⟨by decide,by omega,λ_=>by decide⟩,rfl⟩
    ·have c1:¬(8:Int)<(rn:Int):=by omega
     go_wp2_with fail
     go_meet
     exact⟨rn,rfl,zA ⟨by omega,tg _,λh=>h⟩,rfl⟩
   case rest =>
    obtain⟨n,rfl,Hn,rfl⟩:=hcut;obtain⟨eE,eD,cC⟩:=Hn.out;have dT:=zA cC;clear cC Hn
    go_upto_region 13 with fail
    have aF:Hid (YU (wc.alloc (.cells #[.bool false,.bool false,.bool false,.bool false] 104)) wc.heap.size (λd=>decide (d∈pQ hd 0))):=⟨_,zF _ _,rfl,λi hi=>match i,hi with
     | 0,_=>rfl
     | 1,_=>rfl
     | 2,_=>rfl
     | 3,_=>rfl⟩
    have aO:=HM.out.lt;have bL:Hid ((wc.alloc (.cells #[.bool false,.bool false,.bool false,.bool false] 104)).heap[w.heap.size]? = some (.cells #[.slice la ln lc,.slice wa wn wk,.slice ra rn rc] 25 (0,0))):=yD HX.out;have aN:=zA (HM.out.below ((tl wc.heap.size wc).alloc (tg _) (.cells #[.bool false,.bool false,.bool false,.bool false] 104)));have bO:Hid (Below w.heap.size w (wc.alloc (.cells #[.bool false,.bool false,.bool false,.bool false] 104))):=HB.out.alloc HB.out.size _;have hs1:(wc.alloc (.cells #[.bool false,.bool false,.bool false,.bool false] 104)).heap.size=wc.heap.size+1:=(by simp);clear HX HM HB x2;generalize wc.alloc (.cells #[.bool false,.bool false,.bool false,.bool false] 104)=w1 at *;generalize wc.heap.size=gt at *;go_wp2_with fail
    go_loopw [9] (λiv wr=>∃(i:Nat) (hv:Value),i<=n/\iv=.int .i64 i/\gt+1<=wr.heap.size/\Hid (wr.heap[w.heap.size]? = some (.cells #[.slice la ln lc,.slice wa wn wk,.slice ra rn rc] 25 (0,0)))/\Hid (kH wr (w.heap.size+1) lo hi (.slice none 0 0) (λ_ _=>false) hv)/\Hid (YU wr gt (λd=>decide (d∈pQ hd i)))/\Hid (wr.ownsRow (gt+1) 3 1 hv (yU (pQ hd i)).length (fO (yU (pQ hd i))))/\Hid (Below w.heap.size w wr)) (λiv _=>n-(intOf iv).toNat)
    case atStart=>exact⟨0,_,p8,rfl,by omega,bL,aN,aF,zA (ly _ _ _ _),bO⟩
    case round =>
     clear bL aN aF bO;obtain⟨i,hv,bz,rfl,bG,HX,HM,aF,HO,HB⟩:=hrel;by_cases aD:i<n
     ·have c1:(i:Int)<(n:Int):=by omega
      have x2:wr.cell? ⟨w.heap.size,2,none⟩=some (.slice ra rn rc):=zC HX.out 2;obtain⟨g,o,rfl,aL⟩:=(HR.out wr HB.out).blk (by omega);obtain⟨sa,sn,sc,ta,tn,tc,b,ov,⟨r0,-⟩,f1,-⟩:=aL i (by omega);have c2:(i:Int)<(rn:Int):=(by omega);have aC:=zA (Vm wr (hd i) 4 f1 (by decide) (by decide));obtain⟨h,hh⟩:∃h:Nat,Jo (hd i) 4=(h:Int):=⟨(Jo (hd i) 4).toNat,by have:=jF (hd i) 4 (by decide);omega⟩;have az:h<4:=(by have:=jF (hd i) 4 (by decide);omega);have dK:(h:Int)<4:=(by omega);have bB:Hid (pQ hd (i+1)=pQ hd i++[h]):=(by unfold Hid;rw[UU,hh];rfl);have cd:Hid ((yU (pQ hd i)).length<=4):=sP (Ij hd i);rw[hh]at aC;clear aL hh;go_wp2_with fail
      refine aC.out.mono ?_;rintro e w4 ⟨rfl,hw⟩;obtain rfl:=hw.symm;clear aC r0 f1;have th:=aF.out.cell az
      go_upto_if 74 with fail
      go_cut [10] from 59 to 86 (λv10 wx=>∃hv',v10=.int .i64 (h:Int)/\Hid (gt+1<=wx.heap.size)/\Hid (wx.heap[w.heap.size]? = some (.cells #[.slice la ln lc,.slice wa wn wk,.slice (some ⟨g,o,none⟩) rn rc] 25 (0,0)))/\Hid (kH wx (w.heap.size+1) lo hi (.slice none 0 0) (λ_ _=>false) hv')/\Hid (YU wx gt (λd=>decide (d∈pQ hd i)))/\Hid (wx.ownsRow (gt+1) 3 1 hv' (yU (pQ hd (i+1))).length (fO (yU (pQ hd (i+1)))))/\Hid (Below w.heap.size w wx))
      case first =>
       by_cases hm:h∈pQ hd i
       ·have HE:Hid (yU (pQ hd (i+1))=yU (pQ hd i)):=by unfold Hid;rw[bB.out,ZF];unfold Xf;rw[tr (bW.2 hm)]
        rw[tz hm];clear hm;go_wp2_with fail
        go_meet
        exact⟨hv,rfl,zA bG,HX,HM,aF,by rw[HE.out];exact HO,HB⟩
       ·have HE:Hid (yU (pQ hd (i+1))=yU (pQ hd i)++[h]):=by unfold Hid;rw[bB.out,ZF];unfold Xf;rw[tj (λh1=>hm (bW.1 h1))]
        rw[ty hm];obtain⟨oa,oc,rfl⟩:=zO HO.out;obtain⟨-,-,-,-,cz⟩:=HM.out.cells;have eL:=cd.out;have eP:=zA HM.out.lt;have eJ:w.heap.size+1<gt:=aO;clear hm th x2
        go_wp2_with (at_builtin;refine wpList_append_own _ rfl _ _ 22 rfl (gt+1) 3 j0 _ 1 8 underlying22 cH b9 b8 b7 rfl (by decide) _ _ _ rfl (HO.out.alloc _) ⟨wr.heap.size,0,none⟩ 1 1 [.int .i64 (h:Int)] rfl rfl ?aZ ?aY ?aX ?aW ?aU ?_)
        try (case aZ=>exact zM _ _ _ _ rfl)
        try (case aY=>intro u hu;simp at hu;rcases hu with rfl;rfl)
        try (case aX=>unfold maxLen;omega)
        try (case aW=>omega)
        try (case aU=>simp;omega)
        intro v6 w6 ae au _;obtain⟨a6,c6,rfl⟩:=zO ae;have aH:Below (gt+1) wr w6:=((tl _ _).alloc bG _).grown au (by simp;omega) (zS HO.out);have bx:Hid (Below w.heap.size w w6):=HB.out.trans (aH.mono (by omega));have ao:Hid (w6.heap[w.heap.size]? = some (.cells #[.slice la ln lc,.slice wa wn wk,.slice (some ⟨g,o,none⟩) rn rc] 25 (0,0))):=(aH.block _ (by omega)).trans HX.out;have bp:=zA (HM.out.down aH (by omega));have bm:=zA (aF.out.down aH (mh _));have bo:Hid (w6.ownsRow (gt+1) 3 1 (.slice a6 ((yU (pQ hd i)).length+1) c6) (yU (pQ hd (i+1))).length (fO (yU (pQ hd (i+1))))):=by unfold Hid;rw[HE.out,JW,tm];exact ae
        have dD:gt+1<=w6.heap.size:=(by have:=aH.size;omega);have dm:=zA bp.out.free;have fz:=dm.out 71;obtain⟨-,-,-,-,cy⟩:=bp.out.cells;clear ae au cz;go_wp2_with fail
        go_meet
        exact⟨_,rfl,zA (by simp;omega),zA (aV ao.out (by omega)),zA (bp.out.gu _),zA (bm.out.other (by omega)),zA (ownsRow_setCell_below bo.out (a:=⟨w.heap.size+1,71,none⟩) (show w.heap.size+1<gt+1 by omega) _),zA (bx.out.setCell (my _) _)⟩
      case rest =>
       clear HX HM aF HO HB th x2;obtain⟨hv',rfl,bh,HX,HM,aF,HO,HB⟩:=hcut;have dE:=bh.out;have th:=aF.out.cell az;have fz:=aF.out.free h
       have dX:Hid (YU (wc.setCell ⟨gt,h,none⟩ (.bool true)) gt (λd=>decide (d∈pQ hd (i+1)))):=(aF.out.set h az true).of (λd cK=>by
        rw[bB.out];unfold ZY;by_cases e:d=h
        ·subst e;simp
        ·rw[tj e];simp[e])
       generalize decide (h∈pQ hd i)=dh at *;go_wp2_with fail
       go_roundw
       case rel=>exact⟨i+1,hv',by omega,by go_num,by simp;omega,zA (aV HX.out (by omega)),zA (HM.out.other (by omega)),dX,zA (ownsRow_setCell_below HO.out (a:=⟨gt,h,none⟩) (mh gt) _),zA (HB.out.setCell (by show w.heap.size<=gt;omega) _)⟩
       case measure=>simp[intOf];omega
     ·obtain rfl:n=i:=by omega
      have c1:¬(n:Int)<(n:Int):=(by omega);obtain⟨ha,hc,rfl⟩:=zO HO.out;obtain⟨ha',eI,e9,bA⟩:=uT HO.out;simp only[ct]at e9;obtain⟨rfl,-,rfl⟩:=e9;have cc:Hid (BL w wr gt wr.heap.size (.cells #[.slice la ln lc,.slice wa wn wk,.slice ra rn rc] 25 (0,0)) lo hi hd n 0 (.slice none 0 0) (λ_ _=>false) ha hc []):=⟨HX.out,HM.out,aF.out,ly _ _ _ _,(λx hx=>by cases hx),bA,HB.out,tg _,rfl,(λx hx=>by cases hx),(λa b h=>by cases h),(λx hx=>by cases hx)⟩;have a7:gt<wr.heap.size:=bG;clear HX HM aF HO HB bA bG hs1 bz aD;go_wp2_with fail
      generalize wr.heap.size=B3 at *
      go_loopw [11] (λiv wr=>∃(i:Nat) (rv:Value) (ov:Nat->Nat->Bool) (xs:List (vR × Value × Value)),i<=n/\iv=.int .i64 i/\Hid (BL w wr gt B3 (.cells #[.slice la ln lc,.slice wa wn wk,.slice ra rn rc] 25 (0,0)) lo hi hd n i rv ov ha hc xs)) (λiv _=>n-(intOf iv).toNat)
      case atStart=>exact⟨0,_,_,_,p8,rfl,cc⟩
      case round =>
       clear cc;obtain⟨i,rv,ov,xs,bz,rfl,HL⟩:=hrel;by_cases aD:i<n
       ·have c2:(i:Int)<(n:Int):=by omega
        have c3:(i:Int)<(rn:Int):=(by omega);have x2:wr.cell? ⟨w.heap.size,2,none⟩=some (.slice ra rn rc):=zC HL.out.box 2;obtain⟨g,o,rfl,aL⟩:=(HR.out wr HL.out.af).blk (by omega);obtain⟨sa,sn,sc,ta,tn,tc,b,oi,⟨r0,r1,r2,r3,r4⟩,f1,f2,f3,f4⟩:=aL i (by omega);have aC:=zA (λw'=>Vm w' (hd i) 4 f1 (by decide) (by decide));obtain⟨h,hh⟩:∃h:Nat,Jo (hd i) 4=(h:Int):=⟨(Jo (hd i) 4).toNat,by have:=jF (hd i) 4 (by decide);omega⟩;have az:h<4:=(by have:=jF (hd i) 4 (by decide);omega);have bB:Hid (pQ hd (i+1)=pQ hd i++[h]):=(by unfold Hid;rw[UU,hh];rfl);have dZ:Hid ((pQ hd n).getD i 0=h):=(by unfold Hid;simp[pQ,List.getD,aD,hh]);rw[hh]at aC;have cg:=zA f3;have cf:=zA f4;clear aL hh f1 f3 f4;have bN:=zA (HL.out.below (fk (tg _) (.cells #[.int .i64 (hd i),.slice sa sn sc,.slice ta tn tc,.bool b,.int .i64 oi] 81)));have cR:Hid ((wr.alloc (.cells #[.int .i64 (hd i),.slice sa sn sc,.slice ta tn tc,.bool b,.int .i64 oi] 81)).heap[wr.heap.size]? = some (.cells #[.int .i64 (hd i),.slice sa sn sc,.slice ta tn tc,.bool b,.int .i64 oi] 81 (0,0))):=zF _ _;have bD:=zA (cg.out.below (fk (tg _) (.cells #[.int .i64 (hd i),.slice sa sn sc,.slice ta tn tc,.bool b,.int .i64 oi] 81)));have bC:=zA (cf.out.below (fk (tg _) (.cells #[.int .i64 (hd i),.slice sa sn sc,.slice ta tn tc,.bool b,.int .i64 oi] 81)));have cA:(wr.alloc (.cells #[.int .i64 (hd i),.slice sa sn sc,.slice ta tn tc,.bool b,.int .i64 oi] 81)).heap.size=wr.heap.size+1:=(by simp);have eO:=zA cA;have dL:=HL.out.sz;clear cA
        go_upto_region 25 with fail
        refine(aC.out _).mono ?_;rintro e w4 ⟨rfl,hw⟩;obtain rfl:=hw.symm;clear r0 r1 r2 r3 r4 x2 HL cg cf aC;generalize wr.alloc (.cells #[.int .i64 (hd i),.slice sa sn sc,.slice ta tn tc,.bool b,.int .i64 oi] 81)=W1 at *;generalize wr.heap.size=gx at *;have cS:Hid (xX W1 81 (some ⟨gx,0,none⟩) [.int .i64 (hd i),.slice sa sn sc,.slice ta tn tc,.bool b,.int .i64 oi]):=.inr ⟨gx,_,_,rfl,cR.out,λj _=>by rw[<-cb]⟩;have cU:=zA (λw' (hb:Below W1.heap.size W1 w') (d:Nat) (cK:d<4)=>(bN.out.th.below hb).cell cK);have cd:Hid ((yU (pQ hd n)).length<=4):=sP (Ij hd n);have dM:=bN.out.th.lt;go_wp2_with fail
        go_loopw [14,15] (λlv dv w5=>∃(d:Nat),d<=h/\dv=.int .i64 (d:Int)/\Hid (Below W1.heap.size W1 w5)/\Hid (w5.ownsRow W1.heap.size 3 1 lv (xP (yU (pQ hd n)) d).length (fO (xP (yU (pQ hd n)) d)))) (λ_ dv _=>h-(intOf dv).toNat)
        case atStart=>exact⟨0,p8,rfl,zA (tl _ _),zA (ly _ _ _ _)⟩
        case round =>
         obtain⟨d,eH,rfl,aK,aq⟩:=hrel;obtain⟨oa,oc,rfl⟩:=zO aq.out;by_cases dH:d<h
         ·have c4:(d:Int)<(h:Int):=by omega
          have c5:(d:Int)<4:=(by omega);have th:=cU.out wr aK.out d (by omega);have dp:=JV (yU (pQ hd n)) d;by_cases hm:d∈pQ hd n
          ·have HE:Hid (xP (yU (pQ hd n)) (d+1)=xP (yU (pQ hd n)) d++[d]):=by unfold Hid;rw[Qm,tr (bW.2 hm)]
           rw[tz hm]at th;have bT:=aK.out.size;clear hm
           go_wp2_with (at_builtin;refine wpList_append_own _ rfl _ _ 22 rfl W1.heap.size 3 j0 _ 1 8 underlying22 cH b9 b8 b7 rfl (by decide) _ _ _ rfl (aq.out.alloc _) ⟨wr.heap.size,0,none⟩ 1 1 [.int .i64 (d:Int)] rfl rfl ?aZ ?aY ?aX ?aW ?aU ?_)
           try (case aZ=>exact zM _ _ _ _ rfl)
           try (case aY=>intro u hu;simp at hu;rcases hu with rfl;rfl)
           try (case aX=>unfold maxLen;omega)
           try (case aW=>omega)
           try (case aU=>simp;omega)
           intro v6 w6 ae au _;have bx:Hid (Below W1.heap.size W1 w6):=(aK.out.alloc bT _).grown au (by simp;omega) (zS aq.out);have bo:Hid (w6.ownsRow W1.heap.size 3 1 v6 (xP (yU (pQ hd n)) (d+1)).length (fO (xP (yU (pQ hd n)) (d+1)))):=by unfold Hid;rw[HE.out,JW,tm];exact ae
           clear ae au;go_wp2_with fail
           go_roundw
           case rel=>exact⟨d+1,by omega,by go_num,bx,bo⟩
           case measure=>simp[intOf];omega
          ·have HE:Hid (xP (yU (pQ hd n)) (d+1)=xP (yU (pQ hd n)) d):=by unfold Hid;rw[Qm,tj (λh1=>hm (bW.1 h1))]
           rw[ty hm]at th;clear hm;go_wp2_with fail
           go_roundw
           case rel=>exact⟨d+1,by omega,by go_num,aK,by rw[HE.out];exact aq⟩
           case measure=>simp[intOf];omega
         ·obtain rfl:h=d:=by omega
          have c4:¬(h:Int)<(h:Int):=(by omega);have bq:=zA (bN.out.below aK.out);have bk:=zA (cS.out.below aK.out);obtain⟨dy,dx,e9,bZ,-,-⟩:=oJ aq.out;simp only[ct]at e9;obtain⟨rfl,-,rfl⟩:=e9;have cE:(xP (yU (pQ hd n)) h).length<=4:=(by have:=JV (yU (pQ hd n)) h;omega);have bn:=zA (λw' (hb:Below wr.heap.size wr w')=>ME w' sa oa sn sc oc (xP (yU (pQ hd n)) h) ((bD.out.below aK.out).below hb) (bZ.below hb) cE);have bt:=zA (λw' (hb:Below wr.heap.size wr w')=>RA w' ta oa tn tc oc (xP (yU (pQ hd n)) h) ((bC.out.below aK.out).below hb) (bZ.below hb) cE)
          have ar:=zA (λw' (hb:Below wr.heap.size wr w')=>(show w'.cell? ⟨gx,1,none⟩=some (.slice sa sn sc)/\w'.cell? ⟨gx,2,none⟩=some (.slice ta tn tc)/\w'.cell? ⟨gx,3,none⟩=some (.bool b) by
           have hc:=(bk.out.below hb).ay;obtain⟨g1,e1,q1⟩:=hc.at (j:=1) rfl;obtain⟨g2,e2,q2⟩:=hc.at (j:=2) rfl;obtain⟨g3,e3,q3⟩:=hc.at (j:=3) rfl;obtain rfl:gx=g1:=by simpa using e1
           obtain rfl:gx=g2:=by simpa using e2
           obtain rfl:gx=g3:=by simpa using e3
           exact⟨q1,q2,q3⟩))
          obtain⟨q1,q2,q3⟩:=ar.out wr (tl _ _);have c8:=yJ q1;have cw:wr.heap.size≠gx:=by omega
          clear bZ cU bD bC cS cR bN;generalize cD:xP (yU (pQ hd n)) h=low at *;have cY:=zA cD;clear cD
          go_upto_region 31 with fail
          go_cut [16] from 112 to 123 (λbR wx=>∃(gr:Nat) (ps:List xJ) (ts:List yH) (pa qa:Option Addr) (pc qc:Nat),bR=.pointer (some ⟨gr,0,none⟩)/\Hid (wx.heap[gr]? = some (.cells #[.int .i64 (h:Int),.bool b,.slice pa ps.length pc,.slice qa ts.length qc] 85 (0,0)))/\Hid (xX wx 89 pa (ps.flatMap rM))/\Hid (xX wx 87 qa (ts.flatMap nV))/\Hid ((tP low ps/\lN ps)/\pG low ts)/\Hid (Below wr.heap.size wr wx/\fQ wr.heap.size wx 87 qa (ts.flatMap nV)))
          case first =>
           have b6:∀(w':World) (gr:Nat),w'.heap[gr]? = some (.cells #[.int .i64 0,.bool false,.slice none 0 0,.slice none 0 0] 85 (0,0))->(w'.cell? ⟨gr,0,none⟩=some (.int .i64 0)/\w'.cell? ⟨gr,1,none⟩=some (.bool false)/\w'.cell? ⟨gr,2,none⟩=some (.slice none 0 0)/\w'.cell? ⟨gr,3,none⟩=some (.slice none 0 0))/\∀k,w'.frozen? ⟨gr,k,none⟩=false:=λw' gr hz=>⟨⟨zC hz 0,zC hz 1,zC hz 2,zC hz 3⟩,λk=>by simp[World.frozen?,hz]⟩;have cO:=zA b6;clear b6
           go_region_held3 (λw'=>w'.cell? ⟨gx,1,none⟩=some (.slice sa sn sc)/\w'.cell? ⟨gx,2,none⟩=some (.slice ta tn tc)/\w'.cell? ⟨gx,3,none⟩=some (.bool b)) (go_keep) (first
            | (go_at_call 42;refine(bn.out _ (md (tl _ _))).mono ?_;rintro e w6 ⟨ps,v6,rfl,bV,bX,aH⟩;obtain⟨pa,pc,rfl,bc⟩:=uT bX;have aB:Below wr.heap.size wr w6:=(md (tl _ _)).trans aH;obtain⟨q1,q2,q3⟩:=ar.out w6 aB;have n6:w6.heap.size≠gx:=by have:=aB.size;omega)
            | (go_at_call 42;refine(bn.out _ (md (fk (tg _) (.cells #[.int .i64 0,.bool false,.slice none 0 0,.slice none 0 0] 85)))).mono ?_;rintro e w6 ⟨ps,v6,rfl,bV,bX,aH⟩;obtain⟨pa,pc,rfl,bc⟩:=uT bX;have aB:Below wr.heap.size wr w6:=(md (fk (tg _) _)).trans (aH.mono (p7 (zY _ _)));obtain⟨q1,q2,q3⟩:=ar.out w6 aB;have bg:w6.heap[wr.heap.size]? = some (.cells #[.int .i64 0,.bool false,.slice none 0 0,.slice none 0 0] 85 (0,0)):=(aH.block _ (zY _ _)).trans (aQ (zF _ _)))
            | (go_at_call 43;refine(bt.out _ aB).mono ?_;rintro e w7 ⟨ts,v7,rfl,bP,aw,aR⟩;obtain⟨qa,qc,rfl,bb⟩:=uT aw;have bU:fQ wr.heap.size w7 87 qa (ts.flatMap nV):=Bv aw aB.size;have aT:Below wr.heap.size wr w7:=aB.trans (aR.mono aB.size);obtain⟨q1,q2,q3⟩:=ar.out w7 aT;have aP:=bc.below aR;first|(have aS:=(aR.block _ (zP bg)).trans bg;obtain⟨⟨z0,z1,z2,z3⟩,zf⟩:=cO.out w7 _ aS;have cu:=zf 0;have cr:=zf 1;have cq:=zf 2;have cp:=zf 3;clear bg)|(have n7:w7.heap.size≠gx:=by have:=aT.size;omega))
            | (go_at_call 43;refine(bt.out _ (aB.alloc aB.size (.cells #[.int .i64 0,.bool false,.slice none 0 0,.slice none 0 0] 85))).mono ?_;rintro e w7 ⟨ts,v7,rfl,bP,aw,aR⟩;obtain⟨qa,qc,rfl,bb⟩:=uT aw;have bU:fQ wr.heap.size w7 87 qa (ts.flatMap nV):=Bv aw (tu aB.size (p7 (zY _ _)));have aT:Below wr.heap.size wr w7:=(aB.alloc aB.size _).trans (aR.mono (tu aB.size (p7 (zY _ _))));obtain⟨q1,q2,q3⟩:=ar.out w7 aT;have aP:=(bc.below (fk (tg _) (.cells #[.int .i64 0,.bool false,.slice none 0 0,.slice none 0 0] 85))).below aR;have aS:w7.heap[w6.heap.size]? = some (.cells #[.int .i64 0,.bool false,.slice none 0 0,.slice none 0 0] 85 (0,0)):=(aR.block _ (zY _ _)).trans (zF _ _);obtain⟨⟨z0,z1,z2,z3⟩,zf⟩:=cO.out w7 _ aS;have cu:=zf 0;have cr:=zf 1;have cq:=zf 2;have cp:=zf 3))
           all_goals
            go_wp2_with fail
            go_meet
            first
             | exact⟨_,ps,ts,pa,qa,pc,qc,rfl,zA (E7 aS),zA (Kr aP aS),zA (Kr bb aS),zA ⟨bV,bP⟩,zA ⟨Fd aT (by first|exact tg _|exact aB.size),kf bU aS (by decide)⟩⟩
             | exact⟨_,ps,ts,pa,qa,pc,qc,rfl,zA (zF _ _),zA (aP.below (fk (tg _) _)),zA (bb.below (fk (tg _) _)),zA ⟨bV,bP⟩,zA ⟨aT.alloc aT.size _,bU.below (fk (tg _) _)⟩⟩
          case rest =>
           clear q1 q2 q3 cw c8 bn bt ar aq aK;obtain⟨gr,ps,ts,pa,qa,pc,qc,rfl,ak,ck,cj,bM,bu⟩:=hcut;have bw:=zA bu.out.1;have cB:Y5 w.heap.size wc ((⟨h,b,ps,ts⟩:vR),.slice pa ps.length pc,.slice qa ts.length qc):=⟨qa,qc,rfl,bu.out.2.mono bq.out.af.size⟩;clear bu;have aI:=zA (bq.out.below bw.out);have cP:=zA (bk.out.below bw.out);obtain⟨ah,ag,rfl⟩:=zO aI.out.own;have hx1:gK wc (⟨h,b,ps,ts⟩,.slice pa ps.length pc,.slice qa ts.length qc):=⟨⟨pa,pc,rfl,ck.out⟩,qa,qc,rfl,cj.out⟩;have cF:oX (yU (pQ hd n)) ⟨h,b,ps,ts⟩:=⟨az,by show tP (xP (yU (pQ hd n)) h) ps;rw[cY.out];exact bM.out.1.1,by show pG (xP (yU (pQ hd n)) h) ts;rw[cY.out];exact bM.out.2,bM.out.1.2⟩;have cl:=zA (λ(wz w9:World) (v:Value) (hz:Below wc.heap.size wc wz) (hg:wz.grownBy w9 (Value.slice ah i ag).ownBlock) (aG:w9.ownsRow B3 85 4 v (i+1) (xs.flatMap rh++rh (⟨h,b,ps,ts⟩,.slice pa ps.length pc,.slice qa ts.length qc)))=>BL.app aI.out aO a7 hx1 cF cB bB.out hz hg aG);have cQ:=zA (λ(wz w9:World) (hz:Below wc.heap.size wc wz) (hg:wz.grownBy w9 (Value.slice ah i ag).ownBlock)=>(cP.out.below hz).grown (kV aI.out.own hz) (by decide) hg);have cW:=zA aI.out.own;have dC:=aI.out.sz;have m6:=aI.out.ep.cells.2.2.1;have bH:=aI.out.ep.free 6;have q0:wc.cell? ⟨gr,0,none⟩=some (.int .i64 (h:Int)):=zC ak.out 0;have q1:wc.cell? ⟨gr,1,none⟩=some (.bool b):=zC ak.out 1;have q2:wc.cell? ⟨gr,2,none⟩=some (.slice pa ps.length pc):=zC ak.out 2;have q3:wc.cell? ⟨gr,3,none⟩=some (.slice qa ts.length qc):=zC ak.out 3;have eA:=zP ak.out;have eB:=aI.out.ep.lt;have n8:wc.heap.size≠w.heap.size+1:=by omega
           have n9:wc.heap.size≠gr:=(by omega);clear hx1 cF cB
           go_upto_region 32 with fail
           go_cut [16] from 124 to 133 (λbR wx=>∃(gg cap:Nat),bR=.pointer (some ⟨gr,0,none⟩)/\Hid (BL w wx gt B3 (.cells #[.slice la ln lc,.slice wa wn wk,.slice (some ⟨g,o,none⟩) rn rc] 25 (0,0)) lo hi hd n (i+1) (.slice (some ⟨gg,0,none⟩) (i+1) cap) ov ha hc (xs++[((⟨h,b,ps,ts⟩:vR),.slice pa ps.length pc,.slice qa ts.length qc)]))/\Hid (xX wx 81 (some ⟨gx,0,none⟩) [.int .i64 (hd i),.slice sa sn sc,.slice ta tn tc,.bool b,.int .i64 oi]))
           case first =>
            go_region_law ((refine step_append_lies _ (by rfl) _ _ _ (by rfl) B3 85 i0 _ 4 64 underlying44 ai hz0 hz1 dA rfl (by decide) (.slice ah i ag) i (xs.flatMap rh) (by rfl) (cW.out.drew.alloc _) ⟨wc.heap.size,0,none⟩ 1 1 [.int .i64 (h:Int),.bool b,.slice pa ps.length pc,.slice qa ts.length qc] (by rfl) (by rfl) (zM _ _ _ _ rfl) (by simp[Value.oneCell']) (by decide) (by unfold maxLen;omega) (by omega) (by simp;omega) (wc.heap.size+1) (by simp) ?_;intro gg cap w9 b3 bQ eK dI;obtain⟨bJ,cM⟩:=cl.out _ w9 _ (((tl _ _).drew).alloc (tg _) _) bQ b3;have dz:=bJ.cells.2.2.1;have cx:=bJ.free 6;have cL:=cQ.out _ w9 (((tl _ _).drew).alloc (tg _) _) bQ;obtain⟨dS,av,-⟩:=bJ.blk))
            all_goals
             have dk:=zA cM;have dU:=zA (cL.set av (by decide) (j:=6) (u:=.slice (some ⟨gg,0,none⟩) (i+1) cap));clear cM cL av bJ b3 bQ;go_wp2_with fail
             go_meet
             exact⟨gg,cap,rfl,dk,dU⟩
           case rest =>
            clear q0 q1 q2 q3 m6 bH aI cP cl cQ cW ak ck cj bw bq bk bM;obtain⟨gg,cap,rfl,cZ,cT⟩:=hcut;generalize dB:xs++[((⟨h,b,ps,ts⟩:vR),Value.slice pa ps.length pc,Value.slice qa ts.length qc)]=b4 at *;generalize Value.slice (some ⟨gg,0,none⟩) (i+1) cap=b5 at *;clear dB;go_wp2_with fail
            go_loopw [17] (λjv w6=>∃(j:Nat) (bS:Nat->Nat->Bool),i+1<=j/\j<=n/\jv=.int .i64 (j:Int)/\Hid (BL w w6 gt B3 (.cells #[.slice la ln lc,.slice wa wn wk,.slice (some ⟨g,o,none⟩) rn rc] 25 (0,0)) lo hi hd n (i+1) b5 bS ha hc b4)/\Hid (xX w6 81 (some ⟨gx,0,none⟩) [.int .i64 (hd i),.slice sa sn sc,.slice ta tn tc,.bool b,.int .i64 oi])) (λjv _=>n-(intOf jv).toNat)
            case atStart=>exact⟨i+1,ov,tg _,by omega,by go_num,cZ,cT⟩
            case round =>
             clear cZ cT;obtain⟨j,bS,eG,eF,rfl,aJ,ao⟩:=hrel;by_cases ax:j<n
             ·have c6:(j:Int)<(n:Int):=by omega
              have c7:(j:Int)<(rn:Int):=(by omega);have x2:wr.cell? ⟨w.heap.size,2,none⟩=some (.slice (some ⟨g,o,none⟩) rn rc):=zC aJ.out.box 2;obtain⟨g',o',e9,aL⟩:=(HR.out wr aJ.out.af).blk (by omega);simp only[bi,Addr.mk.injEq,and_true]at e9;obtain⟨rfl,rfl⟩:=e9;obtain⟨_,_,_,_,_,_,_,_,⟨r0,-⟩,f1,-⟩:=aL j (by omega);have aC:=zA (Vm wr (hd j) 4 f1 (by decide) (by decide));obtain⟨k,hk⟩:∃k:Nat,Jo (hd j) 4=(k:Int):=⟨(Jo (hd j) 4).toNat,by have:=jF (hd j) 4 (by decide);omega⟩;have dY:Hid ((pQ hd n).getD j 0=k):=(by unfold Hid;simp[pQ,List.getD,ax,hk]);rw[hk]at aC;clear aL hk f1;go_wp2_with fail
              refine aC.out.mono ?_;rintro e w4 ⟨rfl,hw⟩;obtain rfl:=hw.symm;clear r0 x2 aC;obtain⟨dQ,ex,x4⟩:=ao.out.ay.at (j:=4) rfl;obtain rfl:gx=dQ:=by simpa using ex
              have cI:i<8:=(by omega);have cG:j<8:=(by omega);have i8:(i:Int)<8:=(by omega);have j8:(j:Int)<8:=(by omega);have mo:=aJ.out.ep.cells.2.2.2.1 i j cI cG;have bH:=aJ.out.ep.free (7+i*8+j);have bE:=zA (λ(v:Bool) (hv:v=true->k=h)=>aJ.out.AX aO a7 cI cG v (λe=>⟨by omega,ax,by rw[dZ.out,dY.out];exact(hv e).symm⟩));obtain⟨dS,av,-⟩:=aJ.out.ep.blk;have bK:=zA (λv=>ao.out.set av (by decide) (j:=7+i*8+j) (u:=Value.bool v));clear av ex;have nx:w.heap.size+1≠gx:=(by omega);by_cases ba:k=h
              ·have b0:((k:Int)==(h:Int))=true:=by rw[beq_iff_eq];omega
               have HK:=zA ba;clear ba
               go_upto_region 37 with fail
               go_region_held3 (λw'=>w'.cell? ⟨gx,4,none⟩=some (.int .i64 oi)) (go_keep) (fail)
               all_goals
                generalize (bits BinOp.and IntKind.i64 (oi/2 ^ j) 1==1)=bv at *;have br:=zA ((bE.out bv (λ_=>HK.out)).below (md (tl _ _)));have bl:=zA ((bK.out bv).below (md (tl _ _)));clear bE bK aJ ao mo bH x4;go_wp2_with fail
                go_roundw
                case rel=>exact⟨j+1,_,by omega,by omega,by go_num,br,bl⟩
                case measure=>simp[intOf];omega
              ·have b0:((k:Int)==(h:Int))=false:=by rw[lj];omega
               have b1:(k==h)=false:=(by rw[lj];exact ba);have b2:¬(k:Int)=(h:Int):=by omega
               go_upto_region 37 with fail
               go_region
               all_goals
                have br:=zA ((bE.out false (λe=>by cases e)).below (md (tl _ _)));have bl:=zA ((bK.out false).below (md (tl _ _)));clear bE bK aJ ao mo bH x4;go_wp2_with fail
                go_roundw
                case rel=>exact⟨j+1,_,by omega,by omega,by go_num,br,bl⟩
                case measure=>simp[intOf];omega
             ·have c6:¬(j:Int)<(n:Int):=by omega
              go_wp2_with fail
              go_roundw
              case rel=>exact⟨i+1,b5,bS,b4,by omega,by go_num,aJ⟩
              case measure=>simp[intOf];omega
       ·obtain rfl:n=i:=by omega
        have c2:¬(n:Int)<(n:Int):=(by omega);obtain⟨ah,ag,rfl⟩:=zO HL.out.own
        have HQ:Hid (∃g M,Ending.returned (.pointer (some ⟨w.heap.size+1,0,none⟩))=.returned (.pointer (some ⟨g,0,none⟩))/\yR M/\GD w.heap.size wr g M/\Below w.heap.size w wr/\(0<rn->0<M.rules.length)):=by
         have hl:(xs.map Prod.fst).map vR.head=pQ hd n:=(by rw[List.map_map];exact HL.out.len);have bY:(xs.map Prod.fst).length=n:=(by have:=gk List.length HL.out.len;simpa[pQ] using this);obtain⟨dt,dr,e8,dN⟩:=uT HL.out.own;simp only[ct]at e8;obtain⟨rfl,-,rfl⟩:=e8;refine⟨w.heap.size+1,⟨lo,hi,xs.map Prod.fst,ov,yU (pQ hd n)⟩,rfl,⟨df.out,by show (xs.map Prod.fst).length<=8;omega,by show yU (pQ hd n)=_;rw[hl],λr hr=>?_,λa b h=>?_⟩,⟨ah,ha,ag,hc,xs,rfl,?_,dN,HL.out.rows,HL.out.EY,HL.out.new⟩,HL.out.af,λh=>by show 0<(xs.map Prod.fst).length;rw[bY];exact dT.out h⟩
         ·obtain⟨x,hx,rfl⟩:=pd.1 hr
          exact HL.out.EU x hx
         ·show a<b/\b<(xs.map Prod.fst).length/\((xs.map Prod.fst).map vR.head).getD a 0=((xs.map Prod.fst).map vR.head).getD b 0
          rw[hl,bY];exact HL.out.ER a b h
         ·show kH wr (w.heap.size+1) lo hi (.slice ah (xs.map Prod.fst).length ag) ov (.slice ha (yU (pQ hd n)).length hc)
          rw[bY];exact HL.out.ep
        clear HL;obtain⟨g9,M,e9,h1,h2,h3⟩:=HQ.out;obtain rfl:w.heap.size+1=g9:=by simpa using e9
        have aM:=zA (And.intro h1 (And.intro h2 h3));clear e9 h1 h2 h3 HQ;go_wp2_with fail
        go_ret
        first|exact⟨_,M,rfl,aM.out.1,aM.out.2.1,aM.out.2.2.1,my _,aM.out.2.2.2⟩|exact⟨_,rfl,M,aM.out.1,aM.out.2.1,aM.out.2.2.1,my _,aM.out.2.2.2⟩
theorem qi(w:World)(la wa ra:Option Addr)(ln lc wn wk rn rc:Nat)(hd:Nat->Int)(hL:dG w la ln)(hW:dG w wa wn)(hR:J7 w ra rn hd) :
 Calls prog 10 #[.agg #[.slice la ln lc,.slice wa wn wk,.slice ra rn rc]] w λe w'=>∃g M,e=.returned (.pointer (some ⟨g,0,none⟩))/\yR M/\bF w' g M/\Below w.heap.size w w'/\w.heap.size<=g :=
 (qg w la wa ra ln lc wn wk rn rc hd hL hW hR).mono λ_ _ ⟨g,M,h1,h2,h3,h4,h5,_⟩=>⟨g,M,h1,h2,h3.made,h4,h5⟩
theorem P'(w:World)(la wa ra:Option Addr)(ln lc wn wk rn rc:Nat)(hd:Nat->Int)(hL:dG w la ln)(hW:dG w wa wn)(hR:J7 w ra rn hd) :
 Calls prog 10 #[.agg #[.slice la ln lc,.slice wa wn wk,.slice ra rn rc]] w λe w'=>∃g M,e=.returned (.pointer (some ⟨g,0,none⟩))/\yR M/\bF w' g M/\Below w.heap.size w w' :=
 (qi w la wa ra ln lc wn wk rn rc hd hL hW hR).mono λ_ _ ⟨g,M,h1,h2,h3,h4,_⟩=>⟨g,M,h1,h2,h3,h4⟩
end Go.Proofs.YtnbpdffdnphbeabGreatDoor
