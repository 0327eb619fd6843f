import Derived.Test.YtnbpdffdnphbeabGreatDoorFGuard
import Derived.BigRegion
set_option maxHeartbeats 4000000
set_option maxRecDepth 100000
namespace Go.Proofs.YtnbpdffdnphbeabGreatDoor
open Go.RowKit
variable{cs:Array Value}{xs ys:List Value}{j b gt i n B0 k B hc g B3:Nat}{hd lo hi:Nat->Int}{ov:Nat->Nat->Bool}{fo:Obj}{ha a:Option Addr}{t:TypeId}{d v c rv u:Value}{w' w:World}{x:xP × Value × Value}
def Cb(x:xP × Value × Value):List Value:=[.int .i64 (x.1.head:Int),.bool x.1.whole,x.2.1,x.2.2]
structure lY(w:World)(x:xP × Value × Value):Prop where
 parts:∃a c,x.2.1=.slice a x.1.parts.length c/\yZ w 89 a (x.1.parts.flatMap nY)
 tests:∃a c,x.2.2=.slice a x.1.tests.length c/\yZ w 87 a (x.1.tests.flatMap mT)
theorem lY.below(h:lY w x)(hb:Below w.heap.size w w'):lY w' x:=by
 obtain⟨a,c,e1,h1⟩:=h.parts;obtain⟨a',c',e2,h2⟩:=h.tests;exact⟨⟨a,c,e1,h1.below hb⟩,a',c',e2,h2.below hb⟩
theorem jr:(Tryz.prog.info? 85).map (fun i=>(i.zero,i.size,i.bytes))=some (some (.agg #[.int .i64 0,.bool false,.slice none 0 0,.slice none 0 0]),4,64):=by kernel_rfl
theorem jq:(Tryz.prog.info? 3).map (fun i=>(i.zero,i.size,i.bytes))=some (some (.int .i64 0),1,8):=by kernel_rfl
theorem lK{o:Obj}(h:w.heap[b]? = some o)(zL4:b≠g):(w.setCell ⟨g,k,none⟩ v).heap[b]? = some o:=by rw[lk _ _ _ _ (show b≠(⟨g,k,none⟩:Addr).block from zL4)];exact h
theorem uX.drew{hv:Value}(h:uX w g lo hi rv ov hv):uX w.drew g lo hi rv ov hv:=h.below (pj (tg _ _))
theorem Y6{α:Type}(f:Nat->α)(i:Nat)(v:α):sU f i v i=v:=by unfold sU;rw[tl rfl]
theorem UD{α:Type}{f:Nat->α}{v:α}(h:j≠i):sU f i v j=f j:=by unfold sU;rw[tb h]
structure gM(w:World)(g:Nat)(M:yC):Prop where
 mem:∃(ra ha:Option Addr) (rc hc:Nat) (xs:List (xP × Value × Value)),xs.map Prod.fst=M.rules/\uX w g M.lo M.hi (.slice ra M.rules.length rc) M.over (.slice ha M.heads.length hc)/\yZ w 85 ra (xs.flatMap Cb)/\(∀x∈xs,lY w x)/\yZ w 3 ha (fK M.heads)
def mO(B:Nat)(w:World)(t:TypeId)(a:Option Addr)(xs:List Value):Prop:=xs=[]\/∃g cs,B<=g/\a=some ⟨g,0,none⟩/\w.heap[g]? = some (.cells cs t (0,0))/\∀j,j<xs.length->cs[j]? = xs[j]?
theorem mO.keep(h:mO B w t a xs)(hk:∀(g:Nat) (cs:Array Value) (fz:Nat × Nat),w.heap[g]? = some (Obj.cells cs t fz)->w'.heap[g]? = w.heap[g]?):mO B w' t a xs:=by
 rcases h with h|⟨g,cs,h0,h1,h2,h3⟩
 ·exact .inl h
 ·exact .inr ⟨g,cs,h0,h1,by rw[hk g cs _ h2];exact h2,h3⟩
theorem mO.below(h:mO B w t a xs)(hb:Below w.heap.size w w'):mO B w' t a xs :=
 h.keep fun g _ _ hg=>hb.block g (zJ hg)
theorem mO.grown{e:TypeId}(h:mO B0 w t a xs)(zL1:w.ownsRow B e k v n ys)(zL4:t≠e)(hg:w.grownBy w' v.ownBlock):mO B0 w' t a xs :=
 h.keep fun g cs fz hgg=>hg.block g (zJ hgg) (fun e1=>by
  rcases zL1.2 with ⟨k1,_⟩|⟨g',cap,yK,k1,_,k3,_⟩
  ·rw[k1]at e1;simp[Value.ownBlock]at e1
  ·rw[k1]at e1;simp[Value.ownBlock]at e1
   subst e1;rw[hgg]at k3;simp only[ld,Obj.cells.injEq]at k3;exact zL4 k3.2.1)
theorem mO.set(h:mO B w t a xs){t':TypeId}{fz:Nat × Nat}(hb:w.heap[b]? = some (.cells cs t' fz))(zL4:t≠t'):mO B (w.setCell ⟨b,j,none⟩ u) t a xs :=
 h.keep fun g cs' fz' hg=>lk _ _ _ _ (fun e=>by
  subst e;rw[hb]at hg;simp only[ld,Obj.cells.injEq]at hg;exact zL4 hg.2.1.symm)
theorem mO.celT(h:mO B w t a xs):yZ w t a xs:=by
 rcases h with h|⟨g,cs,h0,h1,h2,h3⟩
 ·exact .inl h
 ·exact .inr ⟨g,cs,_,h1,h2,h3⟩
theorem mO.mono{B':Nat}(h:mO B w t a xs)(hB:B'<=B):mO B' w t a xs:=by
 rcases h with h|⟨g,cs,h0,h1,h2,h3⟩
 ·exact .inl h
 ·exact .inr ⟨g,cs,by omega,h1,h2,h3⟩
theorem Uc{m c:Nat}(h:w.ownsRow B t k (.slice a m c) n xs)(hB:B0<=B):mO B0 w t a xs:=by
 have hl:=h.1;rcases h.2 with ⟨h1,h2⟩|⟨g,cap,yK,h1,hB2,h3,h4,h5,_,h7⟩
 ·exact .inl (my (by rw[hl,h2,dz]))
 ·simp only[cr]at h1
  exact .inr ⟨g,yK,by omega,h1.1,h3,fun j hj=>by
   rw[<-h7,df,tl (by rw[<-hl];exact hj),du]⟩
def ZB(B:Nat)(w:World)(x:xP × Value × Value):Prop:=∃a c,x.2.2=.slice a x.1.tests.length c/\mO B w 87 a (x.1.tests.flatMap mT)
theorem ZB.below(h:ZB B w x)(hb:Below w.heap.size w w'):ZB B w' x:=let ⟨a,c,h1,h2⟩:=h;⟨a,c,h1,h2.below hb⟩
theorem ZB.set(h:ZB B w x)(hb:w.heap[b]? = some (.cells cs 48 (0,0))):ZB B (w.setCell ⟨b,j,none⟩ u) x:=let ⟨a,c,h1,h2⟩:=h;⟨a,c,h1,h2.set hb (by decide)⟩
theorem ZB.grown(h:ZB B0 w x)(zL1:w.ownsRow B 85 4 v n ys)(hg:w.grownBy w' v.ownBlock):ZB B0 w' x:=let ⟨a,c,h1,h2⟩:=h;⟨a,c,h1,h2.grown zL1 (by decide) hg⟩
structure zGY(B:Nat)(w:World)(g:Nat)(M:yC):Prop where
 mem:∃(ra ha:Option Addr) (rc hc:Nat) (xs:List (xP × Value × Value)),xs.map Prod.fst=M.rules/\uX w g M.lo M.hi (.slice ra M.rules.length rc) M.over (.slice ha M.heads.length hc)/\yZ w 85 ra (xs.flatMap Cb)/\(∀x∈xs,lY w x)/\yZ w 3 ha (fK M.heads)/\∀x∈xs,ZB B w x
theorem lY.set(h:lY w x)(hb:w.heap[b]? = some (.cells cs 48 (0,0))):lY (w.setCell ⟨b,j,none⟩ u) x:=by
 obtain⟨a,c,e1,h1⟩:=h.parts;obtain⟨a',c',e2,h2⟩:=h.tests;exact⟨⟨a,c,e1,h1.set hb (by decide)⟩,a',c',e2,h2.set hb (by decide)⟩
theorem lY.grown(h:lY w x)(zL1:w.ownsRow B 85 4 v n ys)(hg:w.grownBy w' v.ownBlock):lY w' x:=by
 obtain⟨a,c,e1,h1⟩:=h.parts;obtain⟨a',c',e2,h2⟩:=h.tests;exact⟨⟨a,c,e1,h1.grown zL1 (by decide) hg⟩,a',c',e2,h2.grown zL1 (by decide) hg⟩
theorem set4{z0 z1 z2 z3 a b:Value}(hz:w.heap[g]? = some (.cells #[z0,z1,z2,z3] t (0,0))):((((w.setCell ⟨g,0,none⟩ a).setCell ⟨g,1,none⟩ b).setCell ⟨g,2,none⟩ c).setCell ⟨g,3,none⟩ d).heap[g]? = some (.cells #[a,b,c,d] t (0,0)):=by
 have q1:=tr w _ 0 _ _ a hz;have q2:=tr _ _ 1 _ _ b q1;have q3:=tr _ _ 2 _ _ c q2;have q4:=tr _ _ 3 _ _ d q3;rw[q4];simp
theorem Jk{T:TypeId}{a b:Value}{p:Option Addr}(h:yZ w T p xs)(hz:w.heap[g]? = some (.cells cs t (0,0)))(zL4:T≠t):yZ ((((w.setCell ⟨g,0,none⟩ a).setCell ⟨g,1,none⟩ b).setCell ⟨g,2,none⟩ c).setCell ⟨g,3,none⟩ d) T p xs:=by
 have q1:=tr w _ 0 _ _ a hz;have q2:=tr _ _ 1 _ _ b q1;have q3:=tr _ _ 2 _ _ c q2;exact(((h.set hz zL4).set q1 zL4).set q2 zL4).set q3 zL4
theorem GL{T:TypeId}{a b:Value}{p:Option Addr}(h:mO B w T p xs)(hz:w.heap[g]? = some (.cells cs t (0,0)))(zL4:T≠t):mO B ((((w.setCell ⟨g,0,none⟩ a).setCell ⟨g,1,none⟩ b).setCell ⟨g,2,none⟩ c).setCell ⟨g,3,none⟩ d) T p xs:=by
 have q1:=tr w _ 0 _ _ a hz;have q2:=tr _ _ 1 _ _ b q1;have q3:=tr _ _ 2 _ _ c q2;exact(((h.set hz zL4).set q1 zL4).set q2 zL4).set q3 zL4
theorem Cz{w0:World}{a b:Value}(h:Below B w0 w)(hg:B<=g):Below B w0 ((((w.setCell ⟨g,0,none⟩ a).setCell ⟨g,1,none⟩ b).setCell ⟨g,2,none⟩ c).setCell ⟨g,3,none⟩ d):=(((h.setCell (p:=⟨g,0,none⟩) hg _).setCell (p:=⟨g,1,none⟩) hg _).setCell (p:=⟨g,2,none⟩) hg _).setCell (p:=⟨g,3,none⟩) hg _
structure BL(w wr:World)(gt B3:Nat)(fo:Obj)(lo hi hd:Nat->Int)(n i:Nat)(rv:Value)(ov:Nat->Nat->Bool)(ha:Option Addr)(hc:Nat)(xs:List (xP × Value × Value)):Prop where
 box:wr.heap[w.heap.size]? = some fo
 mad:uX wr (w.heap.size+1) lo hi rv ov (.slice ha (yM (tK hd n)).length hc)
 th:ZW wr gt (fun d=>decide (d∈tK hd n))
 own:wr.ownsRow B3 85 4 rv i (xs.flatMap Cb)
 rows:∀x∈xs,lY wr x
 hds:yZ wr 3 ha (fK (yM (tK hd n)))
 bel:Below w.heap.size w wr
 sz:B3<=wr.heap.size
 len:xs.map (fun x=>x.1.head)=tK hd i
 oks:∀x∈xs,dI (yM (tK hd n)) x.1
 ovr:∀a b,ov a b=true->a<b/\b<n/\(tK hd n).getD a 0=(tK hd n).getD b 0
 new:∀x∈xs,ZB w.heap.size wr x
theorem BL.below{wr:World}{xs:List (xP × Value × Value)}(h:BL w wr gt B3 fo lo hi hd n i rv ov ha hc xs)(hb:Below wr.heap.size wr w'):BL w w' gt B3 fo lo hi hd n i rv ov ha hc xs :=
 ⟨(hb.block _ (zJ h.box)).trans h.box,h.mad.below hb,h.th.below hb,uV h.own hb,fun x hx=>(h.rows x hx).below hb,h.hds.below hb,h.bel.trans (hb.mono h.bel.size),p8 h.sz hb.size,h.len,h.oks,h.ovr,fun x hx=>(h.new x hx).below hb⟩
theorem BL.setO{wr:World}{xs:List (xP × Value × Value)}(h:BL w wr gt B3 fo lo hi hd n i rv ov ha hc xs)(h1:w.heap.size+1<gt)(h2:gt<B3){a:Nat}(ha8:a<8)(hb8:b<8)(v:Bool)(hv:v=true->a<b/\b<n/\(tK hd n).getD a 0=(tK hd n).getD b 0):BL w (wr.setCell ⟨w.heap.size+1,7+a*8+b,none⟩ (.bool v)) gt B3 fo lo hi hd n i rv (zCJ ov a b v) ha hc xs:=by
 obtain⟨cs,m1,-⟩:=h.mad.blk;refine⟨lK h.box (by omega),h.mad.setO a b ha8 hb8 v,h.th.other (by omega),yW h.own (by omega),fun x hx=>(h.rows x hx).set m1,h.hds.set m1 (by decide),h.bel.setCell (mw _) _,by simpa using h.sz,h.len,h.oks,fun x y hxy=>?_,fun x hx=>(h.new x hx).set m1⟩;unfold zCJ at hxy;split at hxy
 ·rename_i e;obtain⟨rfl,rfl⟩:=e;exact hv hxy
 ·exact h.ovr x y hxy
theorem BL.app{wc wz w9:World}{xs:List (xP × Value × Value)}(h:BL w wc gt B3 fo lo hi hd n i rv ov ha hc xs)(h1:w.heap.size+1<gt)(h2:gt<B3)(hx:lY wc x)(zLC:dI (yM (tK hd n)) x.1)(hnw:ZB w.heap.size wc x)(hs:tK hd (i+1)=tK hd i++[x.1.head])(hz:Below wc.heap.size wc wz)(hg:wz.grownBy w9 rv.ownBlock)(zL1:w9.ownsRow B3 85 4 v (i+1) (xs.flatMap Cb++Cb x)):uX w9 (w.heap.size+1) lo hi rv ov (.slice ha (yM (tK hd n)).length hc)/\BL w (w9.setCell ⟨w.heap.size+1,6,none⟩ v) gt B3 fo lo hi hd n (i+1) v ov ha hc (xs++[x]):=by
 have hZ:=h.below hz;have hb:Below B3 wz w9:=(tg B3 wz).grown hg hZ.sz (zU hZ.own);have hM:=hZ.mad.down hb (by omega);obtain⟨cs,m1,-⟩:=hM.blk;refine⟨hM,lK ((hb.block _ (by omega)).trans hZ.box) (by omega),hM.setR _,(hZ.th.down hb h2).other (by omega),?_,fun y hy=>?_,(hZ.hds.grown hZ.own (by decide) hg).set m1 (by decide),(hZ.bel.trans (hb.mono (by omega))).setCell (mw _) _,?_,?_,fun y hy=>?_,h.ovr,fun y hy=>?_⟩
 ·rw[lu];exact yW (by simpa using zL1) (by omega)
 ·rcases pu.1 hy with h' | h'
  ·exact((hZ.rows y h').grown hZ.own hg).set m1
  ·rw[pr.1 h'];exact((hx.below hz).grown hZ.own hg).set m1
 ·have:=hZ.sz;have:=hb.size;simp;omega
 ·rw[bi,h.len,hs];rfl
 ·rcases pu.1 hy with h' | h'
  ·exact h.oks y h'
  ·rw[pr.1 h'];exact zLC
 ·rcases pu.1 hy with h' | h'
  ·exact((hZ.new y h').grown hZ.own hg).set m1
  ·rw[pr.1 h'];exact((hnw.below hz).grown hZ.own hg).set m1
theorem Xn(H:List Nat)(d:Nat):xC H (d+1)=if d∈H then xC H d++[d] else xC H d:=by
 unfold xC;rw[lq,dq];by_cases h:d∈H
 ·rw[tl h];simp[h]
 ·rw[tb h];simp[h]
theorem QM(H:List Nat)(d:Nat):(xC H d).length<=d:=by
 unfold xC;have:=dg (fun x=>decide (x∈H)) (List.range d);simpa using this
theorem GC(w:World)(la wa ra:Option Addr)(ln lc wn wk rn rc:Nat)(hd:Nat->Int)(hL:bK w la ln)(hW:bK w wa wn)(hR:XY w ra rn hd) :
 Calls Tryz.prog 10 #[.agg #[.slice la ln lc,.slice wa wn wk,.slice ra rn rc]] w fun e w'=>∃g M,e=.returned (.pointer (some ⟨g,0,none⟩))/\yI M/\zGY w.heap.size w' g M/\Below w.heap.size w w'/\w.heap.size<=g/\(0<rn->0<M.rules.length):=by
 obtain⟨i0,hi0,hz0,hz1,hz2⟩:=info_parts jr;obtain⟨j0,hj0,hy0,hy1,hy2⟩:=info_parts jq;have hfewR:=hR.few;unfold maxLen at hfewR;have HL:=zA (fun w' (hb:Below w.heap.size w w')=>hL.below hb);have HWd:=zA (fun w' (hb:Below w.heap.size w w')=>hW.below hb);have HR:=zA (fun w' (hb:Below w.heap.size w w')=>hR.below hb);have HPk:=zA Y0;clear hL hW hR
 go_enter Tryz.func10,Tryz.ntmps10
 go_upto_region 2 with fail
 have HM0:=zA (BG (w.alloc (.cells #[.slice la ln lc,.slice wa wn wk,.slice ra rn rc] 25)));rw[show (w.alloc (.cells #[.slice la ln lc,.slice wa wn wk,.slice ra rn rc] 25)).heap.size=w.heap.size+1 by simp]at HM0;have HX0:Hid (((w.alloc (.cells #[.slice la ln lc,.slice wa wn wk,.slice ra rn rc] 25)).alloc (.cells Tryz.zeroCells48 48)).heap[w.heap.size]? = some (.cells #[.slice la ln lc,.slice wa wn wk,.slice ra rn rc] 25 (0,0))):=zS (zG _ _);have HB0:Hid (Below w.heap.size w ((w.alloc (.cells #[.slice la ln lc,.slice wa wn wk,.slice ra rn rc] 25)).alloc (.cells Tryz.zeroCells48 48))):=(gb (j1 _) _).alloc (by simp) _;generalize (w.alloc (.cells #[.slice la ln lc,.slice wa wn wk,.slice ra rn rc] 25)).alloc (.cells Tryz.zeroCells48 48)=w0 at *;go_wp2_with fail
 go_loopw [4] (fun iv wr=>∃(i:Nat) (lo hi:Nat->Int),i<=3/\iv=.int .i64 i/\Hid (wr.heap[w.heap.size]? = some (.cells #[.slice la ln lc,.slice wa wn wk,.slice ra rn rc] 25 (0,0)))/\Hid (uX wr (w.heap.size+1) lo hi (.slice none 0 0) (fun _ _=>false) (.slice none 0 0))/\Hid (∀j,j<i->0<=lo j/\lo j<=hi j/\hi j<=9998)/\Hid (Below w.heap.size w wr)) (fun iv _=>3-(intOf iv).toNat)
 case atStart=>exact⟨0,_,_,p7 _,rfl,HX0,HM0,zA (fun j hj=>by omega),HB0⟩
 case round =>
  obtain⟨i,lo,hi,hi3,rfl,HX,HM,HN,HB⟩:=hrel;by_cases zKZ:i<3
  ·have c1:(i:Int)<3:=by omega
   have x0:wr.cell? ⟨w.heap.size,0,none⟩=some (.slice la ln lc):=zB HX.out 0;have x1:wr.cell? ⟨w.heap.size,1,none⟩=some (.slice wa wn wk):=zB HX.out 1;obtain⟨h1,H1⟩:=HL.out wr HB.out;obtain⟨h2,H2⟩:=HWd.out wr HB.out;have HA1:=zA (zGH wr la ln lc h1 H1 i (by omega));have HA2:=zA (zGH wr wa wn wk h2 H2 i (by omega));have HP1:=zA (fun w'=>HPk.out w' (YQ ln h1 i) 5000 (H1.in i) (by decide) (by decide));have HP2:=zA (fun w'=>HPk.out w' (YQ wn h2 i) 5000 (H2.in i) (by decide) (by decide));clear H1 H2;generalize YQ ln h1 i=z1 at *;generalize YQ wn h2 i=z2 at *;have fz1:=HM.out.free i;have fz2:=HM.out.free (3+i);have m1:=HM.out.cells.1 i zKZ;have m2:=HM.out.cells.2.1 i zKZ;go_wp2_with fail
   refine HA1.out.mono ?_;rintro e w4 ⟨rfl,hw⟩;obtain rfl:=hw.symm;go_wp2_with fail
   refine HA2.out.mono ?_;rintro e w4 ⟨rfl,hw⟩;obtain rfl:=hw.symm
   go_upto_region 7 with fail
   go_cut [5] from 21 to 53 (fun v5 wx=>∃r:Nat,v5=.int .i64 z1/\Hid (r<5000)/\Hid (wx.heap[w.heap.size]? = some (.cells #[.slice la ln lc,.slice wa wn wk,.slice ra rn rc] 25 (0,0)))/\Hid (uX wx (w.heap.size+1) (sU lo i (r:Int)) hi (.slice none 0 0) (fun _ _=>false) (.slice none 0 0))/\Hid (Below w.heap.size w wx))
   case first =>
    go_region_held3 (fun w'=>w'.cell? ⟨w.heap.size,0,none⟩=some (.slice la ln lc)) (go_keep) (
     (go_at_call 41;refine(HP1.out _).mono ?_;rintro e w4 ⟨r,rfl,hr,hw⟩;obtain rfl:=hw.symm))
    all_goals
     go_wp2_with fail
     go_meet
     exact⟨r,rfl,zA (by omega),zA (tU (lK HX.out (by omega))),zA (HM.out.setLo i zKZ _).drew,zA (pj (HB.out.setCell (mw _) _))⟩
   case rest =>
    clear x0 x1 fz1 fz2 m1 m2 HA1 HA2 HP1;obtain⟨r,rfl,Hr,HX1,HM1,HB1⟩:=hcut;have fz2:=HM1.out.free (3+i);have m1:=HM1.out.cells.1 i zKZ;rw[Y6]at m1;have m2:=HM1.out.cells.2.1 i zKZ;have hr5:=Hr.out
    go_upto_region 8 with fail
    go_region_held3 (fun w'=>w'.cell? ⟨w.heap.size+1,i,none⟩=some (.int .i64 (r:Int))) (first|exact((HM1.out.setHi i zKZ _).drew.cells.1 i zKZ).trans (congrArg (fun z=>some (Value.int .i64 z)) (Y6 _ _ _))|go_keep) (
     (go_at_call 41;refine(HP2.out _).mono ?_;rintro e w4 ⟨q,rfl,hq,hw⟩;obtain rfl:=hw.symm))
    all_goals
     have HN2:Hid (∀j,j<i+1->0<=sU lo i (r:Int) j/\sU lo i (r:Int) j<=sU hi i ((r:Int)+(q:Int)) j/\sU hi i ((r:Int)+(q:Int)) j<=9998):=fun j hj=>by
      by_cases e:j=i
      ·subst e;rw[Y6,Y6];omega
      ·rw[UD e,UD e];exact HN.out j (by omega)
     go_wp2_with fail
     go_roundw
     case rel=>exact⟨i+1,_,_,by omega,by go_num,zA (tU (lK HX1.out (by omega))),zA (HM1.out.setHi i zKZ _).drew,HN2,zA (pj (HB1.out.setCell (mw _) _))⟩
     case measure=>simp[intOf];omega
  ·have HN3:Hid (∀j,j<3->0<=lo j/\lo j<=hi j/\hi j<=9998):=fun j hj=>HN.out j (by omega)
   have c9:¬(i:Int)<3:=by omega
   clear HN zKZ hi3;have x2:wr.cell? ⟨w.heap.size,2,none⟩=some (.slice ra rn rc):=zB HX.out 2
   go_upto_if 58 with fail
   go_cut [7] from 21 to 58 (fun v7 wx=>∃n:Nat,v7=.int .i64 (n:Int)/\Hid (n<=8/\n<=rn/\(0<rn->0<n))/\wx=wr)
   case first =>
    by_cases h8:8<rn
    ·have c1:(8:Int)<(rn:Int):=by omega
     go_wp2_with fail
     go_meet
     exact⟨8,rfl,zA ⟨by decide,by omega,fun _=>by decide⟩,rfl⟩
    ·have c1:¬(8:Int)<(rn:Int):=by omega
     go_wp2_with fail
     go_meet
     exact⟨rn,rfl,zA ⟨by omega,j1 _,fun h=>h⟩,rfl⟩
   case rest =>
    obtain⟨n,rfl,Hn,rfl⟩:=hcut;obtain⟨hn8,hnr,hn0⟩:=Hn.out;have Hn0:=zA hn0;clear hn0 Hn
    go_upto_region 13 with fail
    have HTh:Hid (ZW (wc.alloc (.cells #[.bool false,.bool false,.bool false,.bool false] 104)) wc.heap.size (fun d=>decide (d∈tK hd 0))):=⟨_,zG _ _,rfl,fun i hi=>match i,hi with
     | 0,_=>rfl
     | 1,_=>rfl
     | 2,_=>rfl
     | 3,_=>rfl⟩
    have hlt1:=HM.out.lt;have HX1:Hid ((wc.alloc (.cells #[.bool false,.bool false,.bool false,.bool false] 104)).heap[w.heap.size]? = some (.cells #[.slice la ln lc,.slice wa wn wk,.slice ra rn rc] 25 (0,0))):=zS HX.out;have HM1:=zA (HM.out.below ((tg wc.heap.size wc).alloc (j1 _) (.cells #[.bool false,.bool false,.bool false,.bool false] 104)));have HB1:Hid (Below w.heap.size w (wc.alloc (.cells #[.bool false,.bool false,.bool false,.bool false] 104))):=HB.out.alloc HB.out.size _;have hs1:(wc.alloc (.cells #[.bool false,.bool false,.bool false,.bool false] 104)).heap.size=wc.heap.size+1:=by simp
    clear HX HM HB x2;generalize wc.alloc (.cells #[.bool false,.bool false,.bool false,.bool false] 104)=w1 at *;generalize wc.heap.size=gt at *;go_wp2_with fail
    go_loopw [9] (fun iv wr=>∃(i:Nat) (hv:Value),i<=n/\iv=.int .i64 i/\gt+1<=wr.heap.size/\Hid (wr.heap[w.heap.size]? = some (.cells #[.slice la ln lc,.slice wa wn wk,.slice ra rn rc] 25 (0,0)))/\Hid (uX wr (w.heap.size+1) lo hi (.slice none 0 0) (fun _ _=>false) hv)/\Hid (ZW wr gt (fun d=>decide (d∈tK hd i)))/\Hid (wr.ownsRow (gt+1) 3 1 hv (yM (tK hd i)).length (fK (yM (tK hd i))))/\Hid (Below w.heap.size w wr)) (fun iv _=>n-(intOf iv).toNat)
    case atStart=>exact⟨0,_,p7 _,rfl,by omega,HX1,HM1,HTh,zA (ly _ _ _ _),HB1⟩
    case round =>
     clear HX1 HM1 HTh HB1;obtain⟨i,hv,zL9,rfl,zL8,HX,HM,HTh,HO,HB⟩:=hrel;by_cases zKZ:i<n
     ·have c1:(i:Int)<(n:Int):=by omega
      have x2:wr.cell? ⟨w.heap.size,2,none⟩=some (.slice ra rn rc):=zB HX.out 2;obtain⟨g,o,rfl,zLN⟩:=(HR.out wr HB.out).blk (by omega);obtain⟨sa,sn,sc,ta,tn,tc,b,ov,⟨r0,-⟩,f1,-⟩:=zLN i (by omega);have c2:(i:Int)<(rn:Int):=by omega
      have HP1:=zA (Yt wr (hd i) 4 f1 (by decide) (by decide));obtain⟨h,hh⟩:∃h:Nat,wV (hd i) 4=(h:Int):=⟨(wV (hd i) 4).toNat,by have:=qQ (hd i) 4 (by decide);omega⟩;have hh4:h<4:=by have:=qQ (hd i) 4 (by decide);omega
      have hh4i:(h:Int)<4:=by omega
      have HS1:Hid (tK hd (i+1)=tK hd i++[h]):=by unfold Hid;rw[VA,hh];rfl
      have HH4:Hid ((yM (tK hd i)).length<=4):=ZR (ju hd i);rw[hh]at HP1;clear zLN hh;go_wp2_with fail
      refine HP1.out.mono ?_;rintro e w4 ⟨rfl,hw⟩;obtain rfl:=hw.symm;clear HP1 r0 f1;have th:=HTh.out.cell hh4
      go_upto_if 74 with fail
      go_cut [10] from 59 to 86 (fun v10 wx=>∃hv',v10=.int .i64 (h:Int)/\Hid (gt+1<=wx.heap.size)/\Hid (wx.heap[w.heap.size]? = some (.cells #[.slice la ln lc,.slice wa wn wk,.slice (some ⟨g,o,none⟩) rn rc] 25 (0,0)))/\Hid (uX wx (w.heap.size+1) lo hi (.slice none 0 0) (fun _ _=>false) hv')/\Hid (ZW wx gt (fun d=>decide (d∈tK hd i)))/\Hid (wx.ownsRow (gt+1) 3 1 hv' (yM (tK hd (i+1))).length (fK (yM (tK hd (i+1)))))/\Hid (Below w.heap.size w wx))
      case first =>
       by_cases hm:h∈tK hd i
       ·have HE:Hid (yM (tK hd (i+1))=yM (tK hd i)):=by unfold Hid;rw[HS1.out,iX];unfold Yg;rw[tl (lU.2 hm)]
        rw[tu hm];clear hm;go_wp2_with fail
        go_meet
        exact⟨hv,rfl,zA zL8,HX,HM,HTh,by rw[HE.out];exact HO,HB⟩
       ·have HE:Hid (yM (tK hd (i+1))=yM (tK hd i)++[h]):=by unfold Hid;rw[HS1.out,iX];unfold Yg;rw[tb (fun h1=>hm (lU.1 h1))]
        rw[ty hm];obtain⟨oa,oc,rfl⟩:=zP HO.out;obtain⟨-,-,-,-,m71⟩:=HM.out.cells;have hH4:=HH4.out;have HMg:=zA HM.out.lt;have hbf:w.heap.size+1<gt:=hlt1;clear hm th x2
        go_wp2_with (at_builtin;refine wpList_append_own _ rfl _ _ 22 rfl (gt+1) 3 j0 _ 1 8 Tryz.underlying22 hj0 hy0 hy1 hy2 rfl (by decide) _ _ _ rfl (HO.out.alloc _) ⟨wr.heap.size,0,none⟩ 1 1 [.int .i64 (h:Int)] rfl rfl ?c1k1 ?c1k2 ?c1k3 ?c1k4 ?c1k5 ?_)
        try (case c1k1=>exact zM _ _ _ _ rfl)
        try (case c1k2=>intro u hu;simp at hu;rcases hu with rfl;rfl)
        try (case c1k3=>unfold maxLen;omega)
        try (case c1k4=>omega)
        try (case c1k5=>simp;omega)
        intro v6 w6 zL0 zKY _;obtain⟨a6,c6,rfl⟩:=zP zL0;have hb6:Below (gt+1) wr w6:=((tg _ _).alloc zL8 _).grown zKY (by simp;omega) (zU HO.out);have HB6:Hid (Below w.heap.size w w6):=HB.out.trans (hb6.mono (by omega));have HX6:Hid (w6.heap[w.heap.size]? = some (.cells #[.slice la ln lc,.slice wa wn wk,.slice (some ⟨g,o,none⟩) rn rc] 25 (0,0))):=(hb6.block _ (by omega)).trans HX.out;have HM6:=zA (HM.out.down hb6 (by omega));have HTh6:=zA (HTh.out.down hb6 (l8 _));have HO6:Hid (w6.ownsRow (gt+1) 3 1 (.slice a6 ((yM (tK hd i)).length+1) c6) (yM (tK hd (i+1))).length (fK (yM (tK hd (i+1))))):=by unfold Hid;rw[HE.out,QN,tm];exact zL0
        have hsz6:gt+1<=w6.heap.size:=by have:=hb6.size;omega
        have HFz:=zA HM6.out.free;have fz:=HFz.out 71;obtain⟨-,-,-,-,m71'⟩:=HM6.out.cells;clear zL0 zKY m71;go_wp2_with fail
        go_meet
        exact⟨_,rfl,zA (by simp;omega),zA (lK HX6.out (by omega)),zA (HM6.out.setH _),zA (HTh6.out.other (by omega)),zA (ownsRow_setCell_below HO6.out (a:=⟨w.heap.size+1,71,none⟩) (show w.heap.size+1<gt+1 by omega) _),zA (HB6.out.setCell (mw _) _)⟩
      case rest =>
       clear HX HM HTh HO HB th x2;obtain⟨hv',rfl,Hsz',HX,HM,HTh,HO,HB⟩:=hcut;have hsz':=Hsz'.out;have th:=HTh.out.cell hh4;have fz:=HTh.out.free h
       have HT2:Hid (ZW (wc.setCell ⟨gt,h,none⟩ (.bool true)) gt (fun d=>decide (d∈tK hd (i+1)))):=(HTh.out.set h hh4 true).of (fun d hd4=>by
        rw[HS1.out];unfold sU;by_cases e:d=h
        ·subst e;simp
        ·rw[tb e];simp[e])
       generalize decide (h∈tK hd i)=dh at *;go_wp2_with fail
       go_roundw
       case rel=>exact⟨i+1,hv',by omega,by go_num,by simp;omega,zA (lK HX.out (by omega)),zA (HM.out.other (by omega)),HT2,zA (ownsRow_setCell_below HO.out (a:=⟨gt,h,none⟩) (l8 gt) _),zA (HB.out.setCell (by show w.heap.size<=gt;omega) _)⟩
       case measure=>simp[intOf];omega
     ·obtain rfl:n=i:=by omega
      have c1:¬(n:Int)<(n:Int):=by omega
      obtain⟨ha,hc,rfl⟩:=zP HO.out;obtain⟨ha',hc',e9,zLP⟩:=vR HO.out;simp only[cr]at e9;obtain⟨rfl,-,rfl⟩:=e9;have HL3:Hid (BL w wr gt wr.heap.size (.cells #[.slice la ln lc,.slice wa wn wk,.slice ra rn rc] 25 (0,0)) lo hi hd n 0 (.slice none 0 0) (fun _ _=>false) ha hc []):=⟨HX.out,HM.out,HTh.out,ly _ _ _ _,(fun x hx=>by cases hx),zLP,HB.out,j1 _,rfl,(fun x hx=>by cases hx),(fun a b h=>by cases h),(fun x hx=>by cases hx)⟩;have hgtB:gt<wr.heap.size:=zL8;clear HX HM HTh HO HB zLP zL8 hs1 zL9 zKZ;go_wp2_with fail
      generalize wr.heap.size=B3 at *
      go_loopw [11] (fun iv wr=>∃(i:Nat) (rv:Value) (ov:Nat->Nat->Bool) (xs:List (xP × Value × Value)),i<=n/\iv=.int .i64 i/\Hid (BL w wr gt B3 (.cells #[.slice la ln lc,.slice wa wn wk,.slice ra rn rc] 25 (0,0)) lo hi hd n i rv ov ha hc xs)) (fun iv _=>n-(intOf iv).toNat)
      case atStart=>exact⟨0,_,_,_,p7 _,rfl,HL3⟩
      case round =>
       clear HL3;obtain⟨i,rv,ov,xs,zL9,rfl,HL⟩:=hrel;by_cases zKZ:i<n
       ·have c2:(i:Int)<(n:Int):=by omega
        have c3:(i:Int)<(rn:Int):=by omega
        have x2:wr.cell? ⟨w.heap.size,2,none⟩=some (.slice ra rn rc):=zB HL.out.box 2;obtain⟨g,o,rfl,zLN⟩:=(HR.out wr HL.out.bel).blk (by omega);obtain⟨sa,sn,sc,ta,tn,tc,b,oi,⟨r0,r1,r2,r3,r4⟩,f1,f2,f3,f4⟩:=zLN i (by omega);have HP1:=zA (fun w'=>Yt w' (hd i) 4 f1 (by decide) (by decide));obtain⟨h,hh⟩:∃h:Nat,wV (hd i) 4=(h:Int):=⟨(wV (hd i) 4).toNat,by have:=qQ (hd i) 4 (by decide);omega⟩;have hh4:h<4:=by have:=qQ (hd i) 4 (by decide);omega
        have HS1:Hid (tK hd (i+1)=tK hd i++[h]):=by unfold Hid;rw[VA,hh];rfl
        have HSi:Hid ((tK hd n).getD i 0=h):=by unfold Hid;simp[tK,List.getD,zKZ,hh]
        rw[hh]at HP1;have HF3:=zA f3;have HF4:=zA f4;clear zLN hh f1 f3 f4;have HL1:=zA (HL.out.below (gb (j1 _) (.cells #[.int .i64 (hd i),.slice sa sn sc,.slice ta tn tc,.bool b,.int .i64 oi] 81)));have HXc:Hid ((wr.alloc (.cells #[.int .i64 (hd i),.slice sa sn sc,.slice ta tn tc,.bool b,.int .i64 oi] 81)).heap[wr.heap.size]? = some (.cells #[.int .i64 (hd i),.slice sa sn sc,.slice ta tn tc,.bool b,.int .i64 oi] 81 (0,0))):=zG _ _;have HF31:=zA (HF3.out.below (gb (j1 _) (.cells #[.int .i64 (hd i),.slice sa sn sc,.slice ta tn tc,.bool b,.int .i64 oi] 81)));have HF41:=zA (HF4.out.below (gb (j1 _) (.cells #[.int .i64 (hd i),.slice sa sn sc,.slice ta tn tc,.bool b,.int .i64 oi] 81)));have hsx:(wr.alloc (.cells #[.int .i64 (hd i),.slice sa sn sc,.slice ta tn tc,.bool b,.int .i64 oi] 81)).heap.size=wr.heap.size+1:=by simp
        have HSx:=zA hsx;have hgxB:=HL.out.sz;clear hsx
        go_upto_region 25 with fail
        refine(HP1.out _).mono ?_;rintro e w4 ⟨rfl,hw⟩;obtain rfl:=hw.symm;clear r0 r1 r2 r3 r4 x2 HL HF3 HF4 HP1;generalize wr.alloc (.cells #[.int .i64 (hd i),.slice sa sn sc,.slice ta tn tc,.bool b,.int .i64 oi] 81)=W1 at *;generalize wr.heap.size=gx at *;have HXT:Hid (yZ W1 81 (some ⟨gx,0,none⟩) [.int .i64 (hd i),.slice sa sn sc,.slice ta tn tc,.bool b,.int .i64 oi]):=.inr ⟨gx,_,_,rfl,HXc.out,fun j _=>by rw[<-bg]⟩;have HTw:=zA (fun w' (hb:Below W1.heap.size W1 w') (d:Nat) (hd4:d<4)=>(HL1.out.th.below hb).cell hd4);have HH4:Hid ((yM (tK hd n)).length<=4):=ZR (ju hd n);have hgtW:=HL1.out.th.lt;go_wp2_with fail
        go_loopw [14,15] (fun lv dv w5=>∃(d:Nat),d<=h/\dv=.int .i64 (d:Int)/\Hid (Below W1.heap.size W1 w5)/\Hid (w5.ownsRow W1.heap.size 3 1 lv (xC (yM (tK hd n)) d).length (fK (xC (yM (tK hd n)) d)))) (fun _ dv _=>h-(intOf dv).toNat)
        case atStart=>exact⟨0,p7 _,rfl,zA (tg _ _),zA (ly _ _ _ _)⟩
        case round =>
         obtain⟨d,hdh,rfl,HBd,HOd⟩:=hrel;obtain⟨oa,oc,rfl⟩:=zP HOd.out;by_cases hltd:d<h
         ·have c4:(d:Int)<(h:Int):=by omega
          have c5:(d:Int)<4:=by omega
          have th:=HTw.out wr HBd.out d (by omega);have zL6:=QM (yM (tK hd n)) d;by_cases hm:d∈tK hd n
          ·have HE:Hid (xC (yM (tK hd n)) (d+1)=xC (yM (tK hd n)) d++[d]):=by unfold Hid;rw[Xn,tl (lU.2 hm)]
           rw[tu hm]at th;have hszd:=HBd.out.size;clear hm
           go_wp2_with (at_builtin;refine wpList_append_own _ rfl _ _ 22 rfl W1.heap.size 3 j0 _ 1 8 Tryz.underlying22 hj0 hy0 hy1 hy2 rfl (by decide) _ _ _ rfl (HOd.out.alloc _) ⟨wr.heap.size,0,none⟩ 1 1 [.int .i64 (d:Int)] rfl rfl ?c1k1 ?c1k2 ?c1k3 ?c1k4 ?c1k5 ?_)
           try (case c1k1=>exact zM _ _ _ _ rfl)
           try (case c1k2=>intro u hu;simp at hu;rcases hu with rfl;rfl)
           try (case c1k3=>unfold maxLen;omega)
           try (case c1k4=>omega)
           try (case c1k5=>simp;omega)
           intro v6 w6 zL0 zKY _;have HB6:Hid (Below W1.heap.size W1 w6):=(HBd.out.alloc hszd _).grown zKY (by simp;omega) (zU HOd.out);have HO6:Hid (w6.ownsRow W1.heap.size 3 1 v6 (xC (yM (tK hd n)) (d+1)).length (fK (xC (yM (tK hd n)) (d+1)))):=by unfold Hid;rw[HE.out,QN,tm];exact zL0
           clear zL0 zKY;go_wp2_with fail
           go_roundw
           case rel=>exact⟨d+1,by omega,by go_num,HB6,HO6⟩
           case measure=>simp[intOf];omega
          ·have HE:Hid (xC (yM (tK hd n)) (d+1)=xC (yM (tK hd n)) d):=by unfold Hid;rw[Xn,tb (fun h1=>hm (lU.1 h1))]
           rw[ty hm]at th;clear hm;go_wp2_with fail
           go_roundw
           case rel=>exact⟨d+1,by omega,by go_num,HBd,by rw[HE.out];exact HOd⟩
           case measure=>simp[intOf];omega
         ·obtain rfl:h=d:=by omega
          have c4:¬(h:Int)<(h:Int):=by omega
          have HLd:=zA (HL1.out.below HBd.out);have HXd:=zA (HXT.out.below HBd.out);obtain⟨oa',oc',e9,hlc,-,-⟩:=gY HOd.out;simp only[cr]at e9;obtain⟨rfl,-,rfl⟩:=e9;have hl4:(xC (yM (tK hd n)) h).length<=4:=by have:=QM (yM (tK hd n)) h;omega
          have HSu:=zA (fun w' (hb:Below wr.heap.size wr w')=>zJ0 w' sa oa sn sc oc (xC (yM (tK hd n)) h) ((HF31.out.below HBd.out).below hb) (hlc.below hb) hl4);have HGu:=zA (fun w' (hb:Below wr.heap.size wr w')=>zAQ w' ta oa tn tc oc (xC (yM (tK hd n)) h) ((HF41.out.below HBd.out).below hb) (hlc.below hb) hl4)
          have HCx:=zA (fun w' (hb:Below wr.heap.size wr w')=>(show w'.cell? ⟨gx,1,none⟩=some (.slice sa sn sc)/\w'.cell? ⟨gx,2,none⟩=some (.slice ta tn tc)/\w'.cell? ⟨gx,3,none⟩=some (.bool b) by
           have hc:=(HXd.out.below hb).cel;obtain⟨g1,e1,q1⟩:=hc.at (j:=1) rfl;obtain⟨g2,e2,q2⟩:=hc.at (j:=2) rfl;obtain⟨g3,e3,q3⟩:=hc.at (j:=3) rfl;obtain rfl:gx=g1:=by simpa using e1
           obtain rfl:gx=g2:=by simpa using e2
           obtain rfl:gx=g3:=by simpa using e3
           exact⟨q1,q2,q3⟩))
          obtain⟨q1,q2,q3⟩:=HCx.out wr (tg _ _);have lgx:=yQ q1;have ngx:wr.heap.size≠gx:=by omega
          clear hlc HTw HF31 HF41 HXT HXc HL1;generalize hlw:xC (yM (tK hd n)) h=low at *;have HLw:=zA hlw;clear hlw
          go_upto_region 31 with fail
          go_cut [16] from 112 to 123 (fun v16 wx=>∃(gr:Nat) (ps:List yU) (ts:List zR) (pa qa:Option Addr) (pc qc:Nat),v16=.pointer (some ⟨gr,0,none⟩)/\Hid (wx.heap[gr]? = some (.cells #[.int .i64 (h:Int),.bool b,.slice pa ps.length pc,.slice qa ts.length qc] 85 (0,0)))/\Hid (yZ wx 89 pa (ps.flatMap nY))/\Hid (yZ wx 87 qa (ts.flatMap mT))/\Hid ((jG low ps/\mF ps)/\qX low ts)/\Hid (Below wr.heap.size wr wx/\mO wr.heap.size wx 87 qa (ts.flatMap mT)))
          case first =>
           have hzc:∀(w':World) (gr:Nat),w'.heap[gr]? = some (.cells #[.int .i64 0,.bool false,.slice none 0 0,.slice none 0 0] 85 (0,0))->(w'.cell? ⟨gr,0,none⟩=some (.int .i64 0)/\w'.cell? ⟨gr,1,none⟩=some (.bool false)/\w'.cell? ⟨gr,2,none⟩=some (.slice none 0 0)/\w'.cell? ⟨gr,3,none⟩=some (.slice none 0 0))/\∀k,w'.frozen? ⟨gr,k,none⟩=false:=fun w' gr hz=>⟨⟨zB hz 0,zB hz 1,zB hz 2,zB hz 3⟩,fun k=>by simp[World.frozen?,hz]⟩;have HZc:=zA hzc;clear hzc
           go_region_held3 (fun w'=>w'.cell? ⟨gx,1,none⟩=some (.slice sa sn sc)/\w'.cell? ⟨gx,2,none⟩=some (.slice ta tn tc)/\w'.cell? ⟨gx,3,none⟩=some (.bool b)) (go_keep) (first
            | (go_at_call 42;refine(HSu.out _ (pj (tg _ _))).mono ?_;rintro e w6 ⟨ps,v6,rfl,hps,ho6,hb6⟩;obtain⟨pa,pc,rfl,hcp⟩:=vR ho6;have hB6:Below wr.heap.size wr w6:=(pj (tg _ _)).trans hb6;obtain⟨q1,q2,q3⟩:=HCx.out w6 hB6;have n6:w6.heap.size≠gx:=by have:=hB6.size;omega)
            | (go_at_call 42;refine(HSu.out _ (pj (gb (j1 _) (.cells #[.int .i64 0,.bool false,.slice none 0 0,.slice none 0 0] 85)))).mono ?_;rintro e w6 ⟨ps,v6,rfl,hps,ho6,hb6⟩;obtain⟨pa,pc,rfl,hcp⟩:=vR ho6;have hB6:Below wr.heap.size wr w6:=(pj (gb (j1 _) _)).trans (hb6.mono (ph (zV _ _)));obtain⟨q1,q2,q3⟩:=HCx.out w6 hB6;have hZ6:w6.heap[wr.heap.size]? = some (.cells #[.int .i64 0,.bool false,.slice none 0 0,.slice none 0 0] 85 (0,0)):=(hb6.block _ (zV _ _)).trans (tU (zG _ _)))
            | (go_at_call 43;refine(HGu.out _ hB6).mono ?_;rintro e w7 ⟨ts,v7,rfl,hts,ho7,hb7⟩;obtain⟨qa,qc,rfl,hcq⟩:=vR ho7;have hqn:mO wr.heap.size w7 87 qa (ts.flatMap mT):=Uc ho7 hB6.size;have hB7:Below wr.heap.size wr w7:=hB6.trans (hb7.mono hB6.size);obtain⟨q1,q2,q3⟩:=HCx.out w7 hB7;have hcp7:=hcp.below hb7;first|(have hZ7:=(hb7.block _ (zJ hZ6)).trans hZ6;obtain⟨⟨z0,z1,z2,z3⟩,zf⟩:=HZc.out w7 _ hZ7;have zf0:=zf 0;have zf1:=zf 1;have zf2:=zf 2;have zf3:=zf 3;clear hZ6)|(have n7:w7.heap.size≠gx:=by have:=hB7.size;omega))
            | (go_at_call 43;refine(HGu.out _ (hB6.alloc hB6.size (.cells #[.int .i64 0,.bool false,.slice none 0 0,.slice none 0 0] 85))).mono ?_;rintro e w7 ⟨ts,v7,rfl,hts,ho7,hb7⟩;obtain⟨qa,qc,rfl,hcq⟩:=vR ho7;have hqn:mO wr.heap.size w7 87 qa (ts.flatMap mT):=Uc ho7 (p8 hB6.size (ph (zV _ _)));have hB7:Below wr.heap.size wr w7:=(hB6.alloc hB6.size _).trans (hb7.mono (p8 hB6.size (ph (zV _ _))));obtain⟨q1,q2,q3⟩:=HCx.out w7 hB7;have hcp7:=(hcp.below (gb (j1 _) (.cells #[.int .i64 0,.bool false,.slice none 0 0,.slice none 0 0] 85))).below hb7;have hZ7:w7.heap[w6.heap.size]? = some (.cells #[.int .i64 0,.bool false,.slice none 0 0,.slice none 0 0] 85 (0,0)):=(hb7.block _ (zV _ _)).trans (zG _ _);obtain⟨⟨z0,z1,z2,z3⟩,zf⟩:=HZc.out w7 _ hZ7;have zf0:=zf 0;have zf1:=zf 1;have zf2:=zf 2;have zf3:=zf 3))
           all_goals
            go_wp2_with fail
            go_meet
            first
             | exact⟨_,ps,ts,pa,qa,pc,qc,rfl,zA (set4 hZ7),zA (Jk hcp7 hZ7 (by decide)),zA (Jk hcq hZ7 (by decide)),zA ⟨hps,hts⟩,zA ⟨Cz hB7 (by first|exact j1 _|exact hB6.size),GL hqn hZ7 (by decide)⟩⟩
             | exact⟨_,ps,ts,pa,qa,pc,qc,rfl,zA (zG _ _),zA (hcp7.below (gb (j1 _) _)),zA (hcq.below (gb (j1 _) _)),zA ⟨hps,hts⟩,zA ⟨hB7.alloc hB7.size _,hqn.below (gb (j1 _) _)⟩⟩
          case rest =>
           clear q1 q2 q3 ngx lgx HSu HGu HCx HOd HBd;obtain⟨gr,ps,ts,pa,qa,pc,qc,rfl,HXr,HCp,HCq,HPt,HBq⟩:=hcut;have HBc:=zA HBq.out.1;have hn1:ZB w.heap.size wc ((⟨h,b,ps,ts⟩:xP),.slice pa ps.length pc,.slice qa ts.length qc):=⟨qa,qc,rfl,HBq.out.2.mono HLd.out.bel.size⟩;clear HBq;have HLc:=zA (HLd.out.below HBc.out);have HXx:=zA (HXd.out.below HBc.out);obtain⟨ra9,rc9,rfl⟩:=zP HLc.out.own;have hx1:lY wc (⟨h,b,ps,ts⟩,.slice pa ps.length pc,.slice qa ts.length qc):=⟨⟨pa,pc,rfl,HCp.out⟩,qa,qc,rfl,HCq.out⟩;have hk1:dI (yM (tK hd n)) ⟨h,b,ps,ts⟩:=⟨hh4,by show jG (xC (yM (tK hd n)) h) ps;rw[HLw.out];exact HPt.out.1.1,by show qX (xC (yM (tK hd n)) h) ts;rw[HLw.out];exact HPt.out.2,HPt.out.1.2⟩;have HAp:=zA (fun (wz w9:World) (v:Value) (hz:Below wc.heap.size wc wz) (hg:wz.grownBy w9 (Value.slice ra9 i rc9).ownBlock) (zL1:w9.ownsRow B3 85 4 v (i+1) (xs.flatMap Cb++Cb (⟨h,b,ps,ts⟩,.slice pa ps.length pc,.slice qa ts.length qc)))=>BL.app HLc.out hlt1 hgtB hx1 hk1 hn1 HS1.out hz hg zL1);have HXg:=zA (fun (wz w9:World) (hz:Below wc.heap.size wc wz) (hg:wz.grownBy w9 (Value.slice ra9 i rc9).ownBlock)=>(HXx.out.below hz).grown (uV HLc.out.own hz) (by decide) hg);have HO9:=zA HLc.out.own;have hszB:=HLc.out.sz;have m6:=HLc.out.mad.cells.2.2.1;have mfz:=HLc.out.mad.free 6;have q0:wc.cell? ⟨gr,0,none⟩=some (.int .i64 (h:Int)):=zB HXr.out 0;have q1:wc.cell? ⟨gr,1,none⟩=some (.bool b):=zB HXr.out 1;have q2:wc.cell? ⟨gr,2,none⟩=some (.slice pa ps.length pc):=zB HXr.out 2;have q3:wc.cell? ⟨gr,3,none⟩=some (.slice qa ts.length qc):=zB HXr.out 3;have lgr:=zJ HXr.out;have lgm:=HLc.out.mad.lt;have n8:wc.heap.size≠w.heap.size+1:=by omega
           have n9:wc.heap.size≠gr:=by omega
           clear hx1 hk1 hn1
           go_upto_region 32 with fail
           go_cut [16] from 124 to 133 (fun v16 wx=>∃(gg cap:Nat),v16=.pointer (some ⟨gr,0,none⟩)/\Hid (BL w wx gt B3 (.cells #[.slice la ln lc,.slice wa wn wk,.slice (some ⟨g,o,none⟩) rn rc] 25 (0,0)) lo hi hd n (i+1) (.slice (some ⟨gg,0,none⟩) (i+1) cap) ov ha hc (xs++[((⟨h,b,ps,ts⟩:xP),.slice pa ps.length pc,.slice qa ts.length qc)]))/\Hid (yZ wx 81 (some ⟨gx,0,none⟩) [.int .i64 (hd i),.slice sa sn sc,.slice ta tn tc,.bool b,.int .i64 oi]))
           case first =>
            go_region_law ((refine step_append_lies _ (by rfl) _ _ _ (by rfl) B3 85 i0 _ 4 64 Tryz.underlying44 hi0 hz0 hz1 hz2 rfl (by decide) (.slice ra9 i rc9) i (xs.flatMap Cb) (by rfl) (HO9.out.drew.alloc _) ⟨wc.heap.size,0,none⟩ 1 1 [.int .i64 (h:Int),.bool b,.slice pa ps.length pc,.slice qa ts.length qc] (by rfl) (by rfl) (zM _ _ _ _ rfl) (by simp[Value.oneCell']) (by decide) (by unfold maxLen;omega) (by omega) (by simp;omega) (wc.heap.size+1) (by simp) ?_;intro gg cap w9 zL5 zL2 hat hlt9;obtain⟨hM9,hL9⟩:=HAp.out _ w9 _ (((tg _ _).drew).alloc (j1 _) _) zL2 zL5;have m6':=hM9.cells.2.2.1;have mfz':=hM9.free 6;have hX9:=HXg.out _ w9 (((tg _ _).drew).alloc (j1 _) _) zL2;obtain⟨cs9,mb9,-⟩:=hM9.blk))
            all_goals
             have HL9:=zA hL9;have HX9:=zA (hX9.set mb9 (by decide) (j:=6) (u:=.slice (some ⟨gg,0,none⟩) (i+1) cap));clear hL9 hX9 mb9 hM9 zL5 zL2;go_wp2_with fail
             go_meet
             exact⟨gg,cap,rfl,HL9,HX9⟩
           case rest =>
            clear q0 q1 q2 q3 m6 mfz HLc HXx HAp HXg HO9 HXr HCp HCq HBc HLd HXd HPt;obtain⟨gg,cap,rfl,HL5,HX5⟩:=hcut;generalize hxs:xs++[((⟨h,b,ps,ts⟩:xP),Value.slice pa ps.length pc,Value.slice qa ts.length qc)]=xs2 at *;generalize Value.slice (some ⟨gg,0,none⟩) (i+1) cap=rv2 at *;clear hxs;go_wp2_with fail
            go_loopw [17] (fun jv w6=>∃(j:Nat) (ov2:Nat->Nat->Bool),i+1<=j/\j<=n/\jv=.int .i64 (j:Int)/\Hid (BL w w6 gt B3 (.cells #[.slice la ln lc,.slice wa wn wk,.slice (some ⟨g,o,none⟩) rn rc] 25 (0,0)) lo hi hd n (i+1) rv2 ov2 ha hc xs2)/\Hid (yZ w6 81 (some ⟨gx,0,none⟩) [.int .i64 (hd i),.slice sa sn sc,.slice ta tn tc,.bool b,.int .i64 oi])) (fun jv _=>n-(intOf jv).toNat)
            case atStart=>exact⟨i+1,ov,j1 _,by omega,by go_num,HL5,HX5⟩
            case round =>
             clear HL5 HX5;obtain⟨j,ov2,hj1,hj2,rfl,HL6,HX6⟩:=hrel;by_cases hltj:j<n
             ·have c6:(j:Int)<(n:Int):=by omega
              have c7:(j:Int)<(rn:Int):=by omega
              have x2:wr.cell? ⟨w.heap.size,2,none⟩=some (.slice (some ⟨g,o,none⟩) rn rc):=zB HL6.out.box 2;obtain⟨g',o',e9,zLN⟩:=(HR.out wr HL6.out.bel).blk (by omega);simp only[ld,Addr.mk.injEq,and_true]at e9;obtain⟨rfl,rfl⟩:=e9;obtain⟨_,_,_,_,_,_,_,_,⟨r0,-⟩,f1,-⟩:=zLN j (by omega);have HP1:=zA (Yt wr (hd j) 4 f1 (by decide) (by decide));obtain⟨k,hk⟩:∃k:Nat,wV (hd j) 4=(k:Int):=⟨(wV (hd j) 4).toNat,by have:=qQ (hd j) 4 (by decide);omega⟩;have HSj:Hid ((tK hd n).getD j 0=k):=by unfold Hid;simp[tK,List.getD,hltj,hk]
              rw[hk]at HP1;clear zLN hk f1;go_wp2_with fail
              refine HP1.out.mono ?_;rintro e w4 ⟨rfl,hw⟩;obtain rfl:=hw.symm;clear r0 x2 HP1;obtain⟨gx',ex,x4⟩:=HX6.out.cel.at (j:=4) rfl;obtain rfl:gx=gx':=by simpa using ex
              have hi8:i<8:=by omega
              have hj8:j<8:=by omega
              have i8:(i:Int)<8:=by omega
              have j8:(j:Int)<8:=by omega
              have mo:=HL6.out.mad.cells.2.2.2.1 i j hi8 hj8;have mfz:=HL6.out.mad.free (7+i*8+j);have zLL:=zA (fun (v:Bool) (hv:v=true->k=h)=>HL6.out.setO hlt1 hgtB hi8 hj8 v (fun e=>⟨by omega,hltj,by rw[HSi.out,HSj.out];exact(hv e).symm⟩));obtain⟨cs9,mb9,-⟩:=HL6.out.mad.blk;have HXs:=zA (fun v=>HX6.out.set mb9 (by decide) (j:=7+i*8+j) (u:=Value.bool v));clear mb9 ex;have nx:w.heap.size+1≠gx:=by omega
              by_cases hkh:k=h
              ·have b0:((k:Int)==(h:Int))=true:=by rw[beq_iff_eq];omega
               have HK:=zA hkh;clear hkh
               go_upto_region 37 with fail
               go_region_held3 (fun w'=>w'.cell? ⟨gx,4,none⟩=some (.int .i64 oi)) (go_keep) (fail)
               all_goals
                generalize (bits BinOp.and IntKind.i64 (oi/2 ^ j) 1==1)=bv at *;have HL7:=zA ((zLL.out bv (fun _=>HK.out)).below (pj (tg _ _)));have HX7:=zA ((HXs.out bv).below (pj (tg _ _)));clear zLL HXs HL6 HX6 mo mfz x4;go_wp2_with fail
                go_roundw
                case rel=>exact⟨j+1,_,by omega,by omega,by go_num,HL7,HX7⟩
                case measure=>simp[intOf];omega
              ·have b0:((k:Int)==(h:Int))=false:=by rw[mq];omega
               have b1:(k==h)=false:=by rw[mq];exact hkh
               have b2:¬(k:Int)=(h:Int):=by omega
               go_upto_region 37 with fail
               go_region
               all_goals
                have HL7:=zA ((zLL.out false (fun e=>by cases e)).below (pj (tg _ _)));have HX7:=zA ((HXs.out false).below (pj (tg _ _)));clear zLL HXs HL6 HX6 mo mfz x4;go_wp2_with fail
                go_roundw
                case rel=>exact⟨j+1,_,by omega,by omega,by go_num,HL7,HX7⟩
                case measure=>simp[intOf];omega
             ·have c6:¬(j:Int)<(n:Int):=by omega
              go_wp2_with fail
              go_roundw
              case rel=>exact⟨i+1,rv2,ov2,xs2,by omega,by go_num,HL6⟩
              case measure=>simp[intOf];omega
       ·obtain rfl:n=i:=by omega
        have c2:¬(n:Int)<(n:Int):=by omega
        obtain⟨ra9,rc9,rfl⟩:=zP HL.out.own
        have HQ:Hid (∃g M,Ending.returned (.pointer (some ⟨w.heap.size+1,0,none⟩))=.returned (.pointer (some ⟨g,0,none⟩))/\yI M/\zGY w.heap.size wr g M/\Below w.heap.size w wr/\(0<rn->0<M.rules.length)):=by
         have hl:(xs.map Prod.fst).map xP.head=tK hd n:=by rw[List.map_map];exact HL.out.len
         have hln:(xs.map Prod.fst).length=n:=by have:=congrArg List.length HL.out.len;simpa[tK] using this
         obtain⟨ra8,rc8,e8,hcr⟩:=vR HL.out.own;simp only[cr]at e8;obtain⟨rfl,-,rfl⟩:=e8;refine⟨w.heap.size+1,⟨lo,hi,xs.map Prod.fst,ov,yM (tK hd n)⟩,rfl,⟨HN3.out,by show (xs.map Prod.fst).length<=8;omega,by show yM (tK hd n)=_;rw[hl],fun r hr=>?_,fun a b h=>?_⟩,⟨ra9,ha,rc9,hc,xs,rfl,?_,hcr,HL.out.rows,HL.out.hds,HL.out.new⟩,HL.out.bel,fun h=>by show 0<(xs.map Prod.fst).length;rw[hln];exact Hn0.out h⟩
         ·obtain⟨x,hx,rfl⟩:=p9.1 hr
          exact HL.out.oks x hx
         ·show a<b/\b<(xs.map Prod.fst).length/\((xs.map Prod.fst).map xP.head).getD a 0=((xs.map Prod.fst).map xP.head).getD b 0
          rw[hl,hln];exact HL.out.ovr a b h
         ·show uX wr (w.heap.size+1) lo hi (.slice ra9 (xs.map Prod.fst).length rc9) ov (.slice ha (yM (tK hd n)).length hc)
          rw[hln];exact HL.out.mad
        clear HL;obtain⟨g9,M,e9,h1,h2,h3⟩:=HQ.out;obtain rfl:w.heap.size+1=g9:=by simpa using e9
        have HM9:=zA (And.intro h1 (And.intro h2 h3));clear e9 h1 h2 h3 HQ;go_wp2_with fail
        go_ret
        first|exact⟨_,M,rfl,HM9.out.1,HM9.out.2.1,HM9.out.2.2.1,mw _,HM9.out.2.2.2⟩|exact⟨_,rfl,M,HM9.out.1,HM9.out.2.1,HM9.out.2.2.1,mw _,HM9.out.2.2.2⟩
end Go.Proofs.YtnbpdffdnphbeabGreatDoor
