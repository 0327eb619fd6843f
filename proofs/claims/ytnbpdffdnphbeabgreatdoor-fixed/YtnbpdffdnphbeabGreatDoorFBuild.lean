import Derived.Test.YtnbpdffdnphbeabGreatDoorFGuard
import Derived.BigRegion
set_option maxHeartbeats 4000000
set_option maxRecDepth 100000
namespace Go.Proofs.YtnbpdffdnphbeabGreatDoor
open Go.RowKit
variable{xs:List (vF × Value × Value)}{hc gt g n b B3 i:Nat}{hd lo hi:Nat->Int}{ov:Nat->Nat->Bool}{fo:Obj}{ha:Option Addr}{d c rv v a:Value}{w' w:World}{x:vF × Value × Value}
def ux(x:vF × Value × Value):List Value:=[.int .i64 (x.1.head:Int),.bool x.1.whole,x.2.1,x.2.2]
structure cX(w:World)(x:vF × Value × Value):Prop where
 parts:∃a c,x.2.1=.slice a x.1.parts.length c/\xB w 89 a (x.1.parts.flatMap cT)
 tests:∃a c,x.2.2=.slice a x.1.tests.length c/\xB w 87 a (x.1.tests.flatMap fB)
theorem cX.below(h:cX w x)(hb:Below w.heap.size w w'):cX w' x:=by
 obtain⟨a,c,e1,h1⟩:=h.parts;obtain⟨a',c',e2,h2⟩:=h.tests;exact⟨⟨a,c,e1,h1.below hb⟩,a',c',e2,h2.below hb⟩
theorem zBG:(Tryz.prog.info? 85).map (fun i=>(i.zero,i.size,i.bytes))=some (some (.agg #[.int .i64 0,.bool false,.slice none 0 0,.slice none 0 0]),4,64):=by kernel_rfl
theorem Fs:(Tryz.prog.info? 3).map (fun i=>(i.zero,i.size,i.bytes))=some (some (.int .i64 0),1,8):=by kernel_rfl
theorem nN{k:Nat}{o:Obj}(h:w.heap[b]? = some o)(zEB:b≠g):(w.setCell ⟨g,k,none⟩ v).heap[b]? = some o:=by rw[ms _ _ _ _ (show b≠(⟨g,k,none⟩:Addr).block from zEB)];exact h
theorem uT.drew{hv:Value}(h:uT w g lo hi rv ov hv):uT w.drew g lo hi rv ov hv:=h.below (pq (t9 _ _))
theorem dD{α:Type}(f:Nat->α)(i:Nat)(v:α):pA f i v i=v:=by unfold pA;rw[tg rfl]
theorem dC{α:Type}{f:Nat->α}{j:Nat}{v:α}(h:j≠i):pA f i v j=f j:=by unfold pA;rw[t7 h]
structure pC(w:World)(g:Nat)(M:zT):Prop where
 mem:∃(ra ha:Option Addr) (rc hc:Nat) (xs:List (vF × Value × Value)),xs.map Prod.fst=M.rules/\uT w g M.lo M.hi (.slice ra M.rules.length rc) M.over (.slice ha M.heads.length hc)/\xB w 85 ra (xs.flatMap ux)/\(∀x∈xs,cX w x)/\xB w 3 ha (lV M.heads)
theorem cX.set(h:cX w x){j:Nat}{u:Value}{cs:Array Value}(hb:w.heap[b]? = some (.cells cs 48 (0,0))):cX (w.setCell ⟨b,j,none⟩ u) x:=by
 obtain⟨a,c,e1,h1⟩:=h.parts;obtain⟨a',c',e2,h2⟩:=h.tests;exact⟨⟨a,c,e1,h1.set hb (by decide)⟩,a',c',e2,h2.set hb (by decide)⟩
theorem cX.grown{B:Nat}{ys:List Value}(h:cX w x)(zEA:w.ownsRow B 85 4 v n ys)(hg:w.grownBy w' v.ownBlock):cX w' x:=by
 obtain⟨a,c,e1,h1⟩:=h.parts;obtain⟨a',c',e2,h2⟩:=h.tests;exact⟨⟨a,c,e1,h1.grown zEA (by decide) hg⟩,a',c',e2,h2.grown zEA (by decide) hg⟩
theorem set4{t:TypeId}{z0 z1 z2 z3 b:Value}(hz:w.heap[g]? = some (.cells #[z0,z1,z2,z3] t (0,0))):((((w.setCell ⟨g,0,none⟩ a).setCell ⟨g,1,none⟩ b).setCell ⟨g,2,none⟩ c).setCell ⟨g,3,none⟩ d).heap[g]? = some (.cells #[a,b,c,d] t (0,0)):=by
 have q1:=tj w _ 0 _ _ a hz;have q2:=tj _ _ 1 _ _ b q1;have q3:=tj _ _ 2 _ _ c q2;have q4:=tj _ _ 3 _ _ d q3;rw[q4];simp
theorem YT{t T:TypeId}{cs:Array Value}{b:Value}{p:Option Addr}{xs:List Value}(h:xB w T p xs)(hz:w.heap[g]? = some (.cells cs t (0,0)))(zEB:T≠t):xB ((((w.setCell ⟨g,0,none⟩ a).setCell ⟨g,1,none⟩ b).setCell ⟨g,2,none⟩ c).setCell ⟨g,3,none⟩ d) T p xs:=by
 have q1:=tj w _ 0 _ _ a hz;have q2:=tj _ _ 1 _ _ b q1;have q3:=tj _ _ 2 _ _ c q2;exact(((h.set hz zEB).set q1 zEB).set q2 zEB).set q3 zEB
theorem Vx{B:Nat}{w0:World}{b:Value}(h:Below B w0 w)(hg:B<=g):Below B w0 ((((w.setCell ⟨g,0,none⟩ a).setCell ⟨g,1,none⟩ b).setCell ⟨g,2,none⟩ c).setCell ⟨g,3,none⟩ d):=(((h.setCell (p:=⟨g,0,none⟩) hg _).setCell (p:=⟨g,1,none⟩) hg _).setCell (p:=⟨g,2,none⟩) hg _).setCell (p:=⟨g,3,none⟩) hg _
structure BL(w wr:World)(gt B3:Nat)(fo:Obj)(lo hi hd:Nat->Int)(n i:Nat)(rv:Value)(ov:Nat->Nat->Bool)(ha:Option Addr)(hc:Nat)(xs:List (vF × Value × Value)):Prop where
 box:wr.heap[w.heap.size]? = some fo
 mad:uT wr (w.heap.size+1) lo hi rv ov (.slice ha (yK (jK hd n)).length hc)
 th:eP wr gt (fun d=>decide (d∈jK hd n))
 own:wr.ownsRow B3 85 4 rv i (xs.flatMap ux)
 rows:∀x∈xs,cX wr x
 hds:xB wr 3 ha (lV (yK (jK hd n)))
 bel:Below w.heap.size w wr
 sz:B3<=wr.heap.size
 len:xs.map (fun x=>x.1.head)=jK hd i
 oks:∀x∈xs,bI (yK (jK hd n)) x.1
 ovr:∀a b,ov a b=true->a<b/\b<n/\(jK hd n).getD a 0=(jK hd n).getD b 0
theorem BL.below{wr:World}(h:BL w wr gt B3 fo lo hi hd n i rv ov ha hc xs)(hb:Below wr.heap.size wr w'):BL w w' gt B3 fo lo hi hd n i rv ov ha hc xs :=
 ⟨(hb.block _ (zL h.box)).trans h.box,h.mad.below hb,h.th.below hb,qJ h.own hb,fun x hx=>(h.rows x hx).below hb,h.hds.below hb,h.bel.trans (hb.mono h.bel.size),tr h.sz hb.size,h.len,h.oks,h.ovr⟩
theorem BL.setO{wr:World}(h:BL w wr gt B3 fo lo hi hd n i rv ov ha hc xs)(h1:w.heap.size+1<gt)(h2:gt<B3){a:Nat}(ha8:a<8)(hb8:b<8)(v:Bool)(hv:v=true->a<b/\b<n/\(jK hd n).getD a 0=(jK hd n).getD b 0):BL w (wr.setCell ⟨w.heap.size+1,7+a*8+b,none⟩ (.bool v)) gt B3 fo lo hi hd n i rv (zw ov a b v) ha hc xs:=by
 obtain⟨cs,m1,-⟩:=h.mad.blk;refine⟨nN h.box (by omega),h.mad.setO a b ha8 hb8 v,h.th.other (by omega),yS h.own (by omega),fun x hx=>(h.rows x hx).set m1,h.hds.set m1 (by decide),h.bel.setCell (my _) _,by simpa using h.sz,h.len,h.oks,fun x y hxy=>?_⟩;unfold zw at hxy;split at hxy
 ·rename_i e;obtain⟨rfl,rfl⟩:=e;exact hv hxy
 ·exact h.ovr x y hxy
theorem BL.app{wc wz w9:World}(h:BL w wc gt B3 fo lo hi hd n i rv ov ha hc xs)(h1:w.heap.size+1<gt)(h2:gt<B3)(hx:cX wc x)(zEI:bI (yK (jK hd n)) x.1)(hs:jK hd (i+1)=jK hd i++[x.1.head])(hz:Below wc.heap.size wc wz)(hg:wz.grownBy w9 rv.ownBlock)(zEA:w9.ownsRow B3 85 4 v (i+1) (xs.flatMap ux++ux x)):uT w9 (w.heap.size+1) lo hi rv ov (.slice ha (yK (jK hd n)).length hc)/\BL w (w9.setCell ⟨w.heap.size+1,6,none⟩ v) gt B3 fo lo hi hd n (i+1) v ov ha hc (xs++[x]):=by
 have hZ:=h.below hz;have hb:Below B3 wz w9:=(t9 B3 wz).grown hg hZ.sz (zU hZ.own);have hM:=hZ.mad.down hb (by omega);obtain⟨cs,m1,-⟩:=hM.blk;refine⟨hM,nN ((hb.block _ (by omega)).trans hZ.box) (by omega),hM.setR _,(hZ.th.down hb h2).other (by omega),?_,fun y hy=>?_,(hZ.hds.grown hZ.own (by decide) hg).set m1 (by decide),(hZ.bel.trans (hb.mono (by omega))).setCell (my _) _,?_,?_,fun y hy=>?_,h.ovr⟩
 ·rw[bh];exact yS (by simpa using zEA) (by omega)
 ·rcases pt.1 hy with h' | h'
  ·exact((hZ.rows y h').grown hZ.own hg).set m1
  ·rw[po.1 h'];exact((hx.below hz).grown hZ.own hg).set m1
 ·have:=hZ.sz;have:=hb.size;simp;omega
 ·rw[lj,h.len,hs];rfl
 ·rcases pt.1 hy with h' | h'
  ·exact h.oks y h'
  ·rw[po.1 h'];exact zEI
theorem Zo(H:List Nat)(d:Nat):yW H (d+1)=if d∈H then yW H d++[d] else yW H d:=by
 unfold yW;rw[l8,List.filter_append];by_cases h:d∈H
 ·rw[tg h];simp[h]
 ·rw[t7 h];simp[h]
theorem Y9(H:List Nat)(d:Nat):(yW H d).length<=d:=by
 unfold yW;have:=List.length_filter_le (fun x=>decide (x∈H)) (List.range d);simpa using this
theorem BZ(w:World)(la wa ra:Option Addr)(ln lc wn wk rn rc:Nat)(hd:Nat->Int)(hL:mJ w la ln)(hW:mJ w wa wn)(hR:XP w ra rn hd) :
 Calls Tryz.prog 10 #[.agg #[.slice la ln lc,.slice wa wn wk,.slice ra rn rc]] w fun e w'=>∃g M,e=.returned (.pointer (some ⟨g,0,none⟩))/\yF M/\pC w' g M/\Below w.heap.size w w'/\w.heap.size<=g:=by
 obtain⟨i0,hi0,hz0,hz1,hz2⟩:=info_parts zBG;obtain⟨j0,hj0,hy0,hy1,hy2⟩:=info_parts Fs;have hfewR:=hR.few;unfold maxLen at hfewR;have HL:=zA (fun w' (hb:Below w.heap.size w w')=>hL.below hb);have HWd:=zA (fun w' (hb:Below w.heap.size w w')=>hW.below hb);have HR:=zA (fun w' (hb:Below w.heap.size w w')=>hR.below hb);have HPk:=zA iV;clear hL hW hR
 go_enter Tryz.func10,Tryz.ntmps10
 go_upto_region 2 with fail
 have HM0:=zA (KD (w.alloc (.cells #[.slice la ln lc,.slice wa wn wk,.slice ra rn rc] 25)));rw[show (w.alloc (.cells #[.slice la ln lc,.slice wa wn wk,.slice ra rn rc] 25)).heap.size=w.heap.size+1 by simp]at HM0;have HX0:Hid (((w.alloc (.cells #[.slice la ln lc,.slice wa wn wk,.slice ra rn rc] 25)).alloc (.cells Tryz.zeroCells48 48)).heap[w.heap.size]? = some (.cells #[.slice la ln lc,.slice wa wn wk,.slice ra rn rc] 25 (0,0))):=zZ (zH _ _);have HB0:Hid (Below w.heap.size w ((w.alloc (.cells #[.slice la ln lc,.slice wa wn wk,.slice ra rn rc] 25)).alloc (.cells Tryz.zeroCells48 48))):=(da (j1 _) _).alloc (by simp) _;generalize (w.alloc (.cells #[.slice la ln lc,.slice wa wn wk,.slice ra rn rc] 25)).alloc (.cells Tryz.zeroCells48 48)=w0 at *;go_wp2_with fail
 go_loopw [4] (fun iv wr=>∃(i:Nat) (lo hi:Nat->Int),i<=3/\iv=.int .i64 i/\Hid (wr.heap[w.heap.size]? = some (.cells #[.slice la ln lc,.slice wa wn wk,.slice ra rn rc] 25 (0,0)))/\Hid (uT wr (w.heap.size+1) lo hi (.slice none 0 0) (fun _ _=>false) (.slice none 0 0))/\Hid (∀j,j<i->0<=lo j/\lo j<=hi j/\hi j<=9998)/\Hid (Below w.heap.size w wr)) (fun iv _=>3-(intOf iv).toNat)
 case atStart=>exact⟨0,_,_,tq _,rfl,HX0,HM0,zA (fun j hj=>by omega),HB0⟩
 case round =>
  obtain⟨i,lo,hi,hi3,rfl,HX,HM,HN,HB⟩:=hrel;by_cases zE9:i<3
  ·have c1:(i:Int)<3:=by omega
   have x0:wr.cell? ⟨w.heap.size,0,none⟩=some (.slice la ln lc):=zC HX.out 0;have x1:wr.cell? ⟨w.heap.size,1,none⟩=some (.slice wa wn wk):=zC HX.out 1;obtain⟨h1,H1⟩:=HL.out wr HB.out;obtain⟨h2,H2⟩:=HWd.out wr HB.out;have HA1:=zA (jo wr la ln lc h1 H1 i (by omega));have HA2:=zA (jo wr wa wn wk h2 H2 i (by omega));have HP1:=zA (fun w'=>HPk.out w' (wV ln h1 i) 5000 (H1.in i) (by decide) (by decide));have HP2:=zA (fun w'=>HPk.out w' (wV wn h2 i) 5000 (H2.in i) (by decide) (by decide));clear H1 H2;generalize wV ln h1 i=z1 at *;generalize wV wn h2 i=z2 at *;have fz1:=HM.out.free i;have fz2:=HM.out.free (3+i);have m1:=HM.out.cells.1 i zE9;have m2:=HM.out.cells.2.1 i zE9;go_wp2_with fail
   refine HA1.out.mono ?_;rintro e w4 ⟨rfl,hw⟩;obtain rfl:=hw.symm;go_wp2_with fail
   refine HA2.out.mono ?_;rintro e w4 ⟨rfl,hw⟩;obtain rfl:=hw.symm
   go_upto_region 7 with fail
   go_cut [5] from 21 to 53 (fun v5 wx=>∃r:Nat,v5=.int .i64 z1/\Hid (r<5000)/\Hid (wx.heap[w.heap.size]? = some (.cells #[.slice la ln lc,.slice wa wn wk,.slice ra rn rc] 25 (0,0)))/\Hid (uT wx (w.heap.size+1) (pA lo i (r:Int)) hi (.slice none 0 0) (fun _ _=>false) (.slice none 0 0))/\Hid (Below w.heap.size w wx))
   case first =>
    go_region_held3 (fun w'=>w'.cell? ⟨w.heap.size,0,none⟩=some (.slice la ln lc)) (go_keep) (
     (go_at_call 41;refine(HP1.out _).mono ?_;rintro e w4 ⟨r,rfl,hr,hw⟩;obtain rfl:=hw.symm))
    all_goals
     go_wp2_with fail
     go_meet
     exact⟨r,rfl,zA (by omega),zA (nK (nN HX.out (by omega))),zA (HM.out.setLo i zE9 _).drew,zA (pq (HB.out.setCell (my _) _))⟩
   case rest =>
    clear x0 x1 fz1 fz2 m1 m2 HA1 HA2 HP1;obtain⟨r,rfl,Hr,HX1,HM1,HB1⟩:=hcut;have fz2:=HM1.out.free (3+i);have m1:=HM1.out.cells.1 i zE9;rw[dD]at m1;have m2:=HM1.out.cells.2.1 i zE9;have hr5:=Hr.out
    go_upto_region 8 with fail
    go_region_held3 (fun w'=>w'.cell? ⟨w.heap.size+1,i,none⟩=some (.int .i64 (r:Int))) (first|exact((HM1.out.setHi i zE9 _).drew.cells.1 i zE9).trans (congrArg (fun z=>some (Value.int .i64 z)) (dD _ _ _))|go_keep) (
     (go_at_call 41;refine(HP2.out _).mono ?_;rintro e w4 ⟨q,rfl,hq,hw⟩;obtain rfl:=hw.symm))
    all_goals
     have HN2:Hid (∀j,j<i+1->0<=pA lo i (r:Int) j/\pA lo i (r:Int) j<=pA hi i ((r:Int)+(q:Int)) j/\pA hi i ((r:Int)+(q:Int)) j<=9998):=fun j hj=>by
      by_cases e:j=i
      ·subst e;rw[dD,dD];omega
      ·rw[dC e,dC e];exact HN.out j (by omega)
     go_wp2_with fail
     go_roundw
     case rel=>exact⟨i+1,_,_,by omega,by go_num,zA (nK (nN HX1.out (by omega))),zA (HM1.out.setHi i zE9 _).drew,HN2,zA (pq (HB1.out.setCell (my _) _))⟩
     case measure=>simp[intOf];omega
  ·have HN3:Hid (∀j,j<3->0<=lo j/\lo j<=hi j/\hi j<=9998):=fun j hj=>HN.out j (by omega)
   have c9:¬(i:Int)<3:=by omega
   clear HN zE9 hi3;have x2:wr.cell? ⟨w.heap.size,2,none⟩=some (.slice ra rn rc):=zC HX.out 2
   go_upto_if 58 with fail
   go_cut [7] from 21 to 58 (fun v7 wx=>∃n:Nat,v7=.int .i64 (n:Int)/\Hid (n<=8/\n<=rn)/\wx=wr)
   case first =>
    by_cases h8:8<rn
    ·have c1:(8:Int)<(rn:Int):=by omega
     go_wp2_with fail
     go_meet
     exact⟨8,rfl,zA ⟨by decide,by omega⟩,rfl⟩
    ·have c1:¬(8:Int)<(rn:Int):=by omega
     go_wp2_with fail
     go_meet
     exact⟨rn,rfl,zA ⟨by omega,j1 _⟩,rfl⟩
   case rest =>
    obtain⟨n,rfl,Hn,rfl⟩:=hcut;obtain⟨hn8,hnr⟩:=Hn.out
    go_upto_region 13 with fail
    have HTh:Hid (eP (wc.alloc (.cells #[.bool false,.bool false,.bool false,.bool false] 104)) wc.heap.size (fun d=>decide (d∈jK hd 0))):=⟨_,zH _ _,rfl,fun i hi=>match i,hi with
     | 0,_=>rfl
     | 1,_=>rfl
     | 2,_=>rfl
     | 3,_=>rfl⟩
    have hlt1:=HM.out.lt;have HX1:Hid ((wc.alloc (.cells #[.bool false,.bool false,.bool false,.bool false] 104)).heap[w.heap.size]? = some (.cells #[.slice la ln lc,.slice wa wn wk,.slice ra rn rc] 25 (0,0))):=zZ HX.out;have HM1:=zA (HM.out.below ((t9 wc.heap.size wc).alloc (j1 _) (.cells #[.bool false,.bool false,.bool false,.bool false] 104)));have HB1:Hid (Below w.heap.size w (wc.alloc (.cells #[.bool false,.bool false,.bool false,.bool false] 104))):=HB.out.alloc HB.out.size _;have hs1:(wc.alloc (.cells #[.bool false,.bool false,.bool false,.bool false] 104)).heap.size=wc.heap.size+1:=by simp
    clear HX HM HB x2;generalize wc.alloc (.cells #[.bool false,.bool false,.bool false,.bool false] 104)=w1 at *;generalize wc.heap.size=gt at *;go_wp2_with fail
    go_loopw [9] (fun iv wr=>∃(i:Nat) (hv:Value),i<=n/\iv=.int .i64 i/\gt+1<=wr.heap.size/\Hid (wr.heap[w.heap.size]? = some (.cells #[.slice la ln lc,.slice wa wn wk,.slice ra rn rc] 25 (0,0)))/\Hid (uT wr (w.heap.size+1) lo hi (.slice none 0 0) (fun _ _=>false) hv)/\Hid (eP wr gt (fun d=>decide (d∈jK hd i)))/\Hid (wr.ownsRow (gt+1) 3 1 hv (yK (jK hd i)).length (lV (yK (jK hd i))))/\Hid (Below w.heap.size w wr)) (fun iv _=>n-(intOf iv).toNat)
    case atStart=>exact⟨0,_,tq _,rfl,by omega,HX1,HM1,HTh,zA (mt _ _ _ _),HB1⟩
    case round =>
     clear HX1 HM1 HTh HB1;obtain⟨i,hv,zEL,rfl,zEF,HX,HM,HTh,HO,HB⟩:=hrel;by_cases zE9:i<n
     ·have c1:(i:Int)<(n:Int):=by omega
      have x2:wr.cell? ⟨w.heap.size,2,none⟩=some (.slice ra rn rc):=zC HX.out 2;obtain⟨g,o,rfl,zEP⟩:=(HR.out wr HB.out).blk (by omega);obtain⟨sa,sn,sc,ta,tn,tc,b,ov,⟨r0,-⟩,f1,-⟩:=zEP i (by omega);have c2:(i:Int)<(rn:Int):=by omega
      have HP1:=zA (iP wr (hd i) 4 f1 (by decide) (by decide));obtain⟨h,hh⟩:∃h:Nat,sQ (hd i) 4=(h:Int):=⟨(sQ (hd i) 4).toNat,by have:=uY (hd i) 4 (by decide);omega⟩;have hh4:h<4:=by have:=uY (hd i) 4 (by decide);omega
      have hh4i:(h:Int)<4:=by omega
      have HS1:Hid (jK hd (i+1)=jK hd i++[h]):=by unfold Hid;rw[QV,hh];rfl
      have HH4:Hid ((yK (jK hd i)).length<=4):=bV (Fw hd i);rw[hh]at HP1;clear zEP hh;go_wp2_with fail
      refine HP1.out.mono ?_;rintro e w4 ⟨rfl,hw⟩;obtain rfl:=hw.symm;clear HP1 r0 f1;have th:=HTh.out.cell hh4
      go_upto_if 74 with fail
      go_cut [10] from 59 to 86 (fun v10 wx=>∃hv',v10=.int .i64 (h:Int)/\Hid (gt+1<=wx.heap.size)/\Hid (wx.heap[w.heap.size]? = some (.cells #[.slice la ln lc,.slice wa wn wk,.slice (some ⟨g,o,none⟩) rn rc] 25 (0,0)))/\Hid (uT wx (w.heap.size+1) lo hi (.slice none 0 0) (fun _ _=>false) hv')/\Hid (eP wx gt (fun d=>decide (d∈jK hd i)))/\Hid (wx.ownsRow (gt+1) 3 1 hv' (yK (jK hd (i+1))).length (lV (yK (jK hd (i+1)))))/\Hid (Below w.heap.size w wx))
      case first =>
       by_cases hm:h∈jK hd i
       ·have HE:Hid (yK (jK hd (i+1))=yK (jK hd i)):=by unfold Hid;rw[HS1.out,sC];unfold iE;rw[tg (mH.2 hm)]
        rw[tl hm];clear hm;go_wp2_with fail
        go_meet
        exact⟨hv,rfl,zA zEF,HX,HM,HTh,by rw[HE.out];exact HO,HB⟩
       ·have HE:Hid (yK (jK hd (i+1))=yK (jK hd i)++[h]):=by unfold Hid;rw[HS1.out,sC];unfold iE;rw[t7 (fun h1=>hm (mH.1 h1))]
        rw[tm hm];obtain⟨oa,oc,rfl⟩:=yD HO.out;obtain⟨-,-,-,-,m71⟩:=HM.out.cells;have hH4:=HH4.out;have HMg:=zA HM.out.lt;have hbf:w.heap.size+1<gt:=hlt1;clear hm th x2
        go_wp2_with (at_builtin;refine wpList_append_own _ rfl _ _ 22 rfl (gt+1) 3 j0 _ 1 8 Tryz.underlying22 hj0 hy0 hy1 hy2 rfl (by decide) _ _ _ rfl (HO.out.alloc _) ⟨wr.heap.size,0,none⟩ 1 1 [.int .i64 (h:Int)] rfl rfl ?c1k1 ?c1k2 ?c1k3 ?c1k4 ?c1k5 ?_)
        try (case c1k1=>exact zS _ _ _ _ rfl)
        try (case c1k2=>intro u hu;simp at hu;rcases hu with rfl;rfl)
        try (case c1k3=>unfold maxLen;omega)
        try (case c1k4=>omega)
        try (case c1k5=>simp;omega)
        intro v6 w6 zE8 zE7 _;obtain⟨a6,c6,rfl⟩:=yD zE8;have hb6:Below (gt+1) wr w6:=((t9 _ _).alloc zEF _).grown zE7 (by simp;omega) (zU HO.out);have HB6:Hid (Below w.heap.size w w6):=HB.out.trans (hb6.mono (by omega));have HX6:Hid (w6.heap[w.heap.size]? = some (.cells #[.slice la ln lc,.slice wa wn wk,.slice (some ⟨g,o,none⟩) rn rc] 25 (0,0))):=(hb6.block _ (by omega)).trans HX.out;have HM6:=zA (HM.out.down hb6 (by omega));have HTh6:=zA (HTh.out.down hb6 (mq _));have HO6:Hid (w6.ownsRow (gt+1) 3 1 (.slice a6 ((yK (jK hd i)).length+1) c6) (yK (jK hd (i+1))).length (lV (yK (jK hd (i+1))))):=by unfold Hid;rw[HE.out,YA,tb];exact zE8
        have hsz6:gt+1<=w6.heap.size:=by have:=hb6.size;omega
        have HFz:=zA HM6.out.free;have fz:=HFz.out 71;obtain⟨-,-,-,-,m71'⟩:=HM6.out.cells;clear zE8 zE7 m71;go_wp2_with fail
        go_meet
        exact⟨_,rfl,zA (by simp;omega),zA (nN HX6.out (by omega)),zA (HM6.out.setH _),zA (HTh6.out.other (by omega)),zA (ownsRow_setCell_below HO6.out (a:=⟨w.heap.size+1,71,none⟩) (show w.heap.size+1<gt+1 by omega) _),zA (HB6.out.setCell (my _) _)⟩
      case rest =>
       clear HX HM HTh HO HB th x2;obtain⟨hv',rfl,Hsz',HX,HM,HTh,HO,HB⟩:=hcut;have hsz':=Hsz'.out;have th:=HTh.out.cell hh4;have fz:=HTh.out.free h
       have HT2:Hid (eP (wc.setCell ⟨gt,h,none⟩ (.bool true)) gt (fun d=>decide (d∈jK hd (i+1)))):=(HTh.out.set h hh4 true).of (fun d hd4=>by
        rw[HS1.out];unfold pA;by_cases e:d=h
        ·subst e;simp
        ·rw[t7 e];simp[e])
       generalize decide (h∈jK hd i)=dh at *;go_wp2_with fail
       go_roundw
       case rel=>exact⟨i+1,hv',by omega,by go_num,by simp;omega,zA (nN HX.out (by omega)),zA (HM.out.other (by omega)),HT2,zA (ownsRow_setCell_below HO.out (a:=⟨gt,h,none⟩) (mq gt) _),zA (HB.out.setCell (by show w.heap.size<=gt;omega) _)⟩
       case measure=>simp[intOf];omega
     ·obtain rfl:n=i:=by omega
      have c1:¬(n:Int)<(n:Int):=by omega
      obtain⟨ha,hc,rfl⟩:=yD HO.out;obtain⟨ha',hc',e9,hcel⟩:=vR HO.out;simp only[Value.slice.injEq]at e9;obtain⟨rfl,-,rfl⟩:=e9;have HL3:Hid (BL w wr gt wr.heap.size (.cells #[.slice la ln lc,.slice wa wn wk,.slice ra rn rc] 25 (0,0)) lo hi hd n 0 (.slice none 0 0) (fun _ _=>false) ha hc []):=⟨HX.out,HM.out,HTh.out,mt _ _ _ _,(fun x hx=>by cases hx),hcel,HB.out,j1 _,rfl,(fun x hx=>by cases hx),(fun a b h=>by cases h)⟩;have hgtB:gt<wr.heap.size:=zEF;clear HX HM HTh HO HB hcel zEF hs1 zEL zE9;go_wp2_with fail
      generalize wr.heap.size=B3 at *
      go_loopw [11] (fun iv wr=>∃(i:Nat) (rv:Value) (ov:Nat->Nat->Bool) (xs:List (vF × Value × Value)),i<=n/\iv=.int .i64 i/\Hid (BL w wr gt B3 (.cells #[.slice la ln lc,.slice wa wn wk,.slice ra rn rc] 25 (0,0)) lo hi hd n i rv ov ha hc xs)) (fun iv _=>n-(intOf iv).toNat)
      case atStart=>exact⟨0,_,_,_,tq _,rfl,HL3⟩
      case round =>
       clear HL3;obtain⟨i,rv,ov,xs,zEL,rfl,HL⟩:=hrel;by_cases zE9:i<n
       ·have c2:(i:Int)<(n:Int):=by omega
        have c3:(i:Int)<(rn:Int):=by omega
        have x2:wr.cell? ⟨w.heap.size,2,none⟩=some (.slice ra rn rc):=zC HL.out.box 2;obtain⟨g,o,rfl,zEP⟩:=(HR.out wr HL.out.bel).blk (by omega);obtain⟨sa,sn,sc,ta,tn,tc,b,oi,⟨r0,r1,r2,r3,r4⟩,f1,f2,f3,f4⟩:=zEP i (by omega);have HP1:=zA (fun w'=>iP w' (hd i) 4 f1 (by decide) (by decide));obtain⟨h,hh⟩:∃h:Nat,sQ (hd i) 4=(h:Int):=⟨(sQ (hd i) 4).toNat,by have:=uY (hd i) 4 (by decide);omega⟩;have hh4:h<4:=by have:=uY (hd i) 4 (by decide);omega
        have HS1:Hid (jK hd (i+1)=jK hd i++[h]):=by unfold Hid;rw[QV,hh];rfl
        have HSi:Hid ((jK hd n).getD i 0=h):=by unfold Hid;simp[jK,List.getD,zE9,hh]
        rw[hh]at HP1;have HF3:=zA f3;have HF4:=zA f4;clear zEP hh f1 f3 f4;have HL1:=zA (HL.out.below (da (j1 _) (.cells #[.int .i64 (hd i),.slice sa sn sc,.slice ta tn tc,.bool b,.int .i64 oi] 81)));have HXc:Hid ((wr.alloc (.cells #[.int .i64 (hd i),.slice sa sn sc,.slice ta tn tc,.bool b,.int .i64 oi] 81)).heap[wr.heap.size]? = some (.cells #[.int .i64 (hd i),.slice sa sn sc,.slice ta tn tc,.bool b,.int .i64 oi] 81 (0,0))):=zH _ _;have HF31:=zA (HF3.out.below (da (j1 _) (.cells #[.int .i64 (hd i),.slice sa sn sc,.slice ta tn tc,.bool b,.int .i64 oi] 81)));have HF41:=zA (HF4.out.below (da (j1 _) (.cells #[.int .i64 (hd i),.slice sa sn sc,.slice ta tn tc,.bool b,.int .i64 oi] 81)));have hsx:(wr.alloc (.cells #[.int .i64 (hd i),.slice sa sn sc,.slice ta tn tc,.bool b,.int .i64 oi] 81)).heap.size=wr.heap.size+1:=by simp
        have HSx:=zA hsx;have hgxB:=HL.out.sz;clear hsx
        go_upto_region 25 with fail
        refine(HP1.out _).mono ?_;rintro e w4 ⟨rfl,hw⟩;obtain rfl:=hw.symm;clear r0 r1 r2 r3 r4 x2 HL HF3 HF4 HP1;generalize wr.alloc (.cells #[.int .i64 (hd i),.slice sa sn sc,.slice ta tn tc,.bool b,.int .i64 oi] 81)=W1 at *;generalize wr.heap.size=gx at *;have HXT:Hid (xB W1 81 (some ⟨gx,0,none⟩) [.int .i64 (hd i),.slice sa sn sc,.slice ta tn tc,.bool b,.int .i64 oi]):=.inr ⟨gx,_,_,rfl,HXc.out,fun j _=>by rw[<-mz]⟩;have HTw:=zA (fun w' (hb:Below W1.heap.size W1 w') (d:Nat) (hd4:d<4)=>(HL1.out.th.below hb).cell hd4);have HH4:Hid ((yK (jK hd n)).length<=4):=bV (Fw hd n);have hgtW:=HL1.out.th.lt;go_wp2_with fail
        go_loopw [14,15] (fun lv dv w5=>∃(d:Nat),d<=h/\dv=.int .i64 (d:Int)/\Hid (Below W1.heap.size W1 w5)/\Hid (w5.ownsRow W1.heap.size 3 1 lv (yW (yK (jK hd n)) d).length (lV (yW (yK (jK hd n)) d)))) (fun _ dv _=>h-(intOf dv).toNat)
        case atStart=>exact⟨0,tq _,rfl,zA (t9 _ _),zA (mt _ _ _ _)⟩
        case round =>
         obtain⟨d,hdh,rfl,HBd,HOd⟩:=hrel;obtain⟨oa,oc,rfl⟩:=yD HOd.out;by_cases hltd:d<h
         ·have c4:(d:Int)<(h:Int):=by omega
          have c5:(d:Int)<4:=by omega
          have th:=HTw.out wr HBd.out d (by omega);have zEE:=Y9 (yK (jK hd n)) d;by_cases hm:d∈jK hd n
          ·have HE:Hid (yW (yK (jK hd n)) (d+1)=yW (yK (jK hd n)) d++[d]):=by unfold Hid;rw[Zo,tg (mH.2 hm)]
           rw[tl hm]at th;have hszd:=HBd.out.size;clear hm
           go_wp2_with (at_builtin;refine wpList_append_own _ rfl _ _ 22 rfl W1.heap.size 3 j0 _ 1 8 Tryz.underlying22 hj0 hy0 hy1 hy2 rfl (by decide) _ _ _ rfl (HOd.out.alloc _) ⟨wr.heap.size,0,none⟩ 1 1 [.int .i64 (d:Int)] rfl rfl ?c1k1 ?c1k2 ?c1k3 ?c1k4 ?c1k5 ?_)
           try (case c1k1=>exact zS _ _ _ _ rfl)
           try (case c1k2=>intro u hu;simp at hu;rcases hu with rfl;rfl)
           try (case c1k3=>unfold maxLen;omega)
           try (case c1k4=>omega)
           try (case c1k5=>simp;omega)
           intro v6 w6 zE8 zE7 _;have HB6:Hid (Below W1.heap.size W1 w6):=(HBd.out.alloc hszd _).grown zE7 (by simp;omega) (zU HOd.out);have HO6:Hid (w6.ownsRow W1.heap.size 3 1 v6 (yW (yK (jK hd n)) (d+1)).length (lV (yW (yK (jK hd n)) (d+1)))):=by unfold Hid;rw[HE.out,YA,tb];exact zE8
           clear zE8 zE7;go_wp2_with fail
           go_roundw
           case rel=>exact⟨d+1,by omega,by go_num,HB6,HO6⟩
           case measure=>simp[intOf];omega
          ·have HE:Hid (yW (yK (jK hd n)) (d+1)=yW (yK (jK hd n)) d):=by unfold Hid;rw[Zo,t7 (fun h1=>hm (mH.1 h1))]
           rw[tm hm]at th;clear hm;go_wp2_with fail
           go_roundw
           case rel=>exact⟨d+1,by omega,by go_num,HBd,by rw[HE.out];exact HOd⟩
           case measure=>simp[intOf];omega
         ·obtain rfl:h=d:=by omega
          have c4:¬(h:Int)<(h:Int):=by omega
          have HLd:=zA (HL1.out.below HBd.out);have HXd:=zA (HXT.out.below HBd.out);obtain⟨oa',oc',e9,hlc,-,-⟩:=VZ HOd.out;simp only[Value.slice.injEq]at e9;obtain⟨rfl,-,rfl⟩:=e9;have hl4:(yW (yK (jK hd n)) h).length<=4:=by have:=Y9 (yK (jK hd n)) h;omega
          have HSu:=zA (fun w' (hb:Below wr.heap.size wr w')=>zBZ w' sa oa sn sc oc (yW (yK (jK hd n)) h) ((HF31.out.below HBd.out).below hb) (hlc.below hb) hl4);have HGu:=zA (fun w' (hb:Below wr.heap.size wr w')=>FW w' ta oa tn tc oc (yW (yK (jK hd n)) h) ((HF41.out.below HBd.out).below hb) (hlc.below hb) hl4)
          have HCx:=zA (fun w' (hb:Below wr.heap.size wr w')=>(show w'.cell? ⟨gx,1,none⟩=some (.slice sa sn sc)/\w'.cell? ⟨gx,2,none⟩=some (.slice ta tn tc)/\w'.cell? ⟨gx,3,none⟩=some (.bool b) by
           have hc:=(HXd.out.below hb).cel;obtain⟨g1,e1,q1⟩:=hc.at (j:=1) rfl;obtain⟨g2,e2,q2⟩:=hc.at (j:=2) rfl;obtain⟨g3,e3,q3⟩:=hc.at (j:=3) rfl;obtain rfl:gx=g1:=by simpa using e1
           obtain rfl:gx=g2:=by simpa using e2
           obtain rfl:gx=g3:=by simpa using e3
           exact⟨q1,q2,q3⟩))
          obtain⟨q1,q2,q3⟩:=HCx.out wr (t9 _ _);have lgx:=yO q1;have ngx:wr.heap.size≠gx:=by omega
          clear hlc HTw HF31 HF41 HXT HXc HL1;generalize hlw:yW (yK (jK hd n)) h=low at *;have HLw:=zA hlw;clear hlw
          go_upto_region 31 with fail
          go_cut [16] from 112 to 123 (fun v16 wx=>∃(gr:Nat) (ps:List yR) (ts:List zX) (pa qa:Option Addr) (pc qc:Nat),v16=.pointer (some ⟨gr,0,none⟩)/\Hid (wx.heap[gr]? = some (.cells #[.int .i64 (h:Int),.bool b,.slice pa ps.length pc,.slice qa ts.length qc] 85 (0,0)))/\Hid (xB wx 89 pa (ps.flatMap cT))/\Hid (xB wx 87 qa (ts.flatMap fB))/\Hid ((jD low ps/\tW ps)/\jS low ts)/\Hid (Below wr.heap.size wr wx))
          case first =>
           have hzc:∀(w':World) (gr:Nat),w'.heap[gr]? = some (.cells #[.int .i64 0,.bool false,.slice none 0 0,.slice none 0 0] 85 (0,0))->(w'.cell? ⟨gr,0,none⟩=some (.int .i64 0)/\w'.cell? ⟨gr,1,none⟩=some (.bool false)/\w'.cell? ⟨gr,2,none⟩=some (.slice none 0 0)/\w'.cell? ⟨gr,3,none⟩=some (.slice none 0 0))/\∀k,w'.frozen? ⟨gr,k,none⟩=false:=fun w' gr hz=>⟨⟨zC hz 0,zC hz 1,zC hz 2,zC hz 3⟩,fun k=>by simp[World.frozen?,hz]⟩;have HZc:=zA hzc;clear hzc
           go_region_held3 (fun w'=>w'.cell? ⟨gx,1,none⟩=some (.slice sa sn sc)/\w'.cell? ⟨gx,2,none⟩=some (.slice ta tn tc)/\w'.cell? ⟨gx,3,none⟩=some (.bool b)) (go_keep) (first
            | (go_at_call 42;refine(HSu.out _ (pq (t9 _ _))).mono ?_;rintro e w6 ⟨ps,v6,rfl,hps,ho6,hb6⟩;obtain⟨pa,pc,rfl,hcp⟩:=vR ho6;have hB6:Below wr.heap.size wr w6:=(pq (t9 _ _)).trans hb6;obtain⟨q1,q2,q3⟩:=HCx.out w6 hB6;have n6:w6.heap.size≠gx:=by have:=hB6.size;omega)
            | (go_at_call 42;refine(HSu.out _ (pq (da (j1 _) (.cells #[.int .i64 0,.bool false,.slice none 0 0,.slice none 0 0] 85)))).mono ?_;rintro e w6 ⟨ps,v6,rfl,hps,ho6,hb6⟩;obtain⟨pa,pc,rfl,hcp⟩:=vR ho6;have hB6:Below wr.heap.size wr w6:=(pq (da (j1 _) _)).trans (hb6.mono (p6 (zQ _ _)));obtain⟨q1,q2,q3⟩:=HCx.out w6 hB6;have hZ6:w6.heap[wr.heap.size]? = some (.cells #[.int .i64 0,.bool false,.slice none 0 0,.slice none 0 0] 85 (0,0)):=(hb6.block _ (zQ _ _)).trans (nK (zH _ _)))
            | (go_at_call 43;refine(HGu.out _ hB6).mono ?_;rintro e w7 ⟨ts,v7,rfl,hts,ho7,hb7⟩;obtain⟨qa,qc,rfl,hcq⟩:=vR ho7;have hB7:Below wr.heap.size wr w7:=hB6.trans (hb7.mono hB6.size);obtain⟨q1,q2,q3⟩:=HCx.out w7 hB7;have hcp7:=hcp.below hb7;first|(have hZ7:=(hb7.block _ (zL hZ6)).trans hZ6;obtain⟨⟨z0,z1,z2,z3⟩,zf⟩:=HZc.out w7 _ hZ7;have zf0:=zf 0;have zf1:=zf 1;have zf2:=zf 2;have zf3:=zf 3;clear hZ6)|(have n7:w7.heap.size≠gx:=by have:=hB7.size;omega))
            | (go_at_call 43;refine(HGu.out _ (hB6.alloc hB6.size (.cells #[.int .i64 0,.bool false,.slice none 0 0,.slice none 0 0] 85))).mono ?_;rintro e w7 ⟨ts,v7,rfl,hts,ho7,hb7⟩;obtain⟨qa,qc,rfl,hcq⟩:=vR ho7;have hB7:Below wr.heap.size wr w7:=(hB6.alloc hB6.size _).trans (hb7.mono (tr hB6.size (p6 (zQ _ _))));obtain⟨q1,q2,q3⟩:=HCx.out w7 hB7;have hcp7:=(hcp.below (da (j1 _) (.cells #[.int .i64 0,.bool false,.slice none 0 0,.slice none 0 0] 85))).below hb7;have hZ7:w7.heap[w6.heap.size]? = some (.cells #[.int .i64 0,.bool false,.slice none 0 0,.slice none 0 0] 85 (0,0)):=(hb7.block _ (zQ _ _)).trans (zH _ _);obtain⟨⟨z0,z1,z2,z3⟩,zf⟩:=HZc.out w7 _ hZ7;have zf0:=zf 0;have zf1:=zf 1;have zf2:=zf 2;have zf3:=zf 3))
           all_goals
            go_wp2_with fail
            go_meet
            first
             | exact⟨_,ps,ts,pa,qa,pc,qc,rfl,zA (set4 hZ7),zA (YT hcp7 hZ7 (by decide)),zA (YT hcq hZ7 (by decide)),zA ⟨hps,hts⟩,zA (Vx hB7 (by first|exact j1 _|exact hB6.size))⟩
             | exact⟨_,ps,ts,pa,qa,pc,qc,rfl,zA (zH _ _),zA (hcp7.below (da (j1 _) _)),zA (hcq.below (da (j1 _) _)),zA ⟨hps,hts⟩,zA (hB7.alloc hB7.size _)⟩
          case rest =>
           clear q1 q2 q3 ngx lgx HSu HGu HCx HOd HBd;obtain⟨gr,ps,ts,pa,qa,pc,qc,rfl,HXr,HCp,HCq,HPt,zEU⟩:=hcut;have HLc:=zA (HLd.out.below zEU.out);have HXx:=zA (HXd.out.below zEU.out);obtain⟨ra9,rc9,rfl⟩:=yD HLc.out.own;have hx1:cX wc (⟨h,b,ps,ts⟩,.slice pa ps.length pc,.slice qa ts.length qc):=⟨⟨pa,pc,rfl,HCp.out⟩,qa,qc,rfl,HCq.out⟩;have hk1:bI (yK (jK hd n)) ⟨h,b,ps,ts⟩:=⟨hh4,by show jD (yW (yK (jK hd n)) h) ps;rw[HLw.out];exact HPt.out.1.1,by show jS (yW (yK (jK hd n)) h) ts;rw[HLw.out];exact HPt.out.2,HPt.out.1.2⟩;have HAp:=zA (fun (wz w9:World) (v:Value) (hz:Below wc.heap.size wc wz) (hg:wz.grownBy w9 (Value.slice ra9 i rc9).ownBlock) (zEA:w9.ownsRow B3 85 4 v (i+1) (xs.flatMap ux++ux (⟨h,b,ps,ts⟩,.slice pa ps.length pc,.slice qa ts.length qc)))=>BL.app HLc.out hlt1 hgtB hx1 hk1 HS1.out hz hg zEA);have HXg:=zA (fun (wz w9:World) (hz:Below wc.heap.size wc wz) (hg:wz.grownBy w9 (Value.slice ra9 i rc9).ownBlock)=>(HXx.out.below hz).grown (qJ HLc.out.own hz) (by decide) hg);have HO9:=zA HLc.out.own;have hszB:=HLc.out.sz;have m6:=HLc.out.mad.cells.2.2.1;have mfz:=HLc.out.mad.free 6;have q0:wc.cell? ⟨gr,0,none⟩=some (.int .i64 (h:Int)):=zC HXr.out 0;have q1:wc.cell? ⟨gr,1,none⟩=some (.bool b):=zC HXr.out 1;have q2:wc.cell? ⟨gr,2,none⟩=some (.slice pa ps.length pc):=zC HXr.out 2;have q3:wc.cell? ⟨gr,3,none⟩=some (.slice qa ts.length qc):=zC HXr.out 3;have lgr:=zL HXr.out;have lgm:=HLc.out.mad.lt;have n8:wc.heap.size≠w.heap.size+1:=by omega
           have n9:wc.heap.size≠gr:=by omega
           clear hx1 hk1
           go_upto_region 32 with fail
           go_cut [16] from 124 to 133 (fun v16 wx=>∃(gg cap:Nat),v16=.pointer (some ⟨gr,0,none⟩)/\Hid (BL w wx gt B3 (.cells #[.slice la ln lc,.slice wa wn wk,.slice (some ⟨g,o,none⟩) rn rc] 25 (0,0)) lo hi hd n (i+1) (.slice (some ⟨gg,0,none⟩) (i+1) cap) ov ha hc (xs++[((⟨h,b,ps,ts⟩:vF),.slice pa ps.length pc,.slice qa ts.length qc)]))/\Hid (xB wx 81 (some ⟨gx,0,none⟩) [.int .i64 (hd i),.slice sa sn sc,.slice ta tn tc,.bool b,.int .i64 oi]))
           case first =>
            go_region_law ((refine step_append_lies _ (by rfl) _ _ _ (by rfl) B3 85 i0 _ 4 64 Tryz.underlying44 hi0 hz0 hz1 hz2 rfl (by decide) (.slice ra9 i rc9) i (xs.flatMap ux) (by rfl) (HO9.out.drew.alloc _) ⟨wc.heap.size,0,none⟩ 1 1 [.int .i64 (h:Int),.bool b,.slice pa ps.length pc,.slice qa ts.length qc] (by rfl) (by rfl) (zS _ _ _ _ rfl) (by simp[Value.oneCell']) (by decide) (by unfold maxLen;omega) (by omega) (by simp;omega) (wc.heap.size+1) (by simp) ?_;intro gg cap w9 zEK zEC hat hlt9;obtain⟨hM9,hL9⟩:=HAp.out _ w9 _ (((t9 _ _).drew).alloc (j1 _) _) zEC zEK;have m6':=hM9.cells.2.2.1;have mfz':=hM9.free 6;have hX9:=HXg.out _ w9 (((t9 _ _).drew).alloc (j1 _) _) zEC;obtain⟨cs9,mb9,-⟩:=hM9.blk))
            all_goals
             have HL9:=zA hL9;have HX9:=zA (hX9.set mb9 (by decide) (j:=6) (u:=.slice (some ⟨gg,0,none⟩) (i+1) cap));clear hL9 hX9 mb9 hM9 zEK zEC;go_wp2_with fail
             go_meet
             exact⟨gg,cap,rfl,HL9,HX9⟩
           case rest =>
            clear q0 q1 q2 q3 m6 mfz HLc HXx HAp HXg HO9 HXr HCp HCq zEU HLd HXd HPt;obtain⟨gg,cap,rfl,HL5,HX5⟩:=hcut;generalize hxs:xs++[((⟨h,b,ps,ts⟩:vF),Value.slice pa ps.length pc,Value.slice qa ts.length qc)]=xs2 at *;generalize Value.slice (some ⟨gg,0,none⟩) (i+1) cap=rv2 at *;clear hxs;go_wp2_with fail
            go_loopw [17] (fun jv w6=>∃(j:Nat) (ov2:Nat->Nat->Bool),i+1<=j/\j<=n/\jv=.int .i64 (j:Int)/\Hid (BL w w6 gt B3 (.cells #[.slice la ln lc,.slice wa wn wk,.slice (some ⟨g,o,none⟩) rn rc] 25 (0,0)) lo hi hd n (i+1) rv2 ov2 ha hc xs2)/\Hid (xB w6 81 (some ⟨gx,0,none⟩) [.int .i64 (hd i),.slice sa sn sc,.slice ta tn tc,.bool b,.int .i64 oi])) (fun jv _=>n-(intOf jv).toNat)
            case atStart=>exact⟨i+1,ov,j1 _,by omega,by go_num,HL5,HX5⟩
            case round =>
             clear HL5 HX5;obtain⟨j,ov2,hj1,hj2,rfl,HL6,HX6⟩:=hrel;by_cases hltj:j<n
             ·have c6:(j:Int)<(n:Int):=by omega
              have c7:(j:Int)<(rn:Int):=by omega
              have x2:wr.cell? ⟨w.heap.size,2,none⟩=some (.slice (some ⟨g,o,none⟩) rn rc):=zC HL6.out.box 2;obtain⟨g',o',e9,zEP⟩:=(HR.out wr HL6.out.bel).blk (by omega);simp only[mw,Addr.mk.injEq,and_true]at e9;obtain⟨rfl,rfl⟩:=e9;obtain⟨_,_,_,_,_,_,_,_,⟨r0,-⟩,f1,-⟩:=zEP j (by omega);have HP1:=zA (iP wr (hd j) 4 f1 (by decide) (by decide));obtain⟨k,hk⟩:∃k:Nat,sQ (hd j) 4=(k:Int):=⟨(sQ (hd j) 4).toNat,by have:=uY (hd j) 4 (by decide);omega⟩;have HSj:Hid ((jK hd n).getD j 0=k):=by unfold Hid;simp[jK,List.getD,hltj,hk]
              rw[hk]at HP1;clear zEP hk f1;go_wp2_with fail
              refine HP1.out.mono ?_;rintro e w4 ⟨rfl,hw⟩;obtain rfl:=hw.symm;clear r0 x2 HP1;obtain⟨gx',ex,x4⟩:=HX6.out.cel.at (j:=4) rfl;obtain rfl:gx=gx':=by simpa using ex
              have hi8:i<8:=by omega
              have hj8:j<8:=by omega
              have i8:(i:Int)<8:=by omega
              have j8:(j:Int)<8:=by omega
              have mo:=HL6.out.mad.cells.2.2.2.1 i j hi8 hj8;have mfz:=HL6.out.mad.free (7+i*8+j);have HSt:=zA (fun (v:Bool) (hv:v=true->k=h)=>HL6.out.setO hlt1 hgtB hi8 hj8 v (fun e=>⟨by omega,hltj,by rw[HSi.out,HSj.out];exact(hv e).symm⟩));obtain⟨cs9,mb9,-⟩:=HL6.out.mad.blk;have HXs:=zA (fun v=>HX6.out.set mb9 (by decide) (j:=7+i*8+j) (u:=Value.bool v));clear mb9 ex;have nx:w.heap.size+1≠gx:=by omega
              by_cases hkh:k=h
              ·have b0:((k:Int)==(h:Int))=true:=by rw[beq_iff_eq];omega
               have HK:=zA hkh;clear hkh
               go_upto_region 37 with fail
               go_region_held3 (fun w'=>w'.cell? ⟨gx,4,none⟩=some (.int .i64 oi)) (go_keep) (fail)
               all_goals
                generalize (bits BinOp.and IntKind.i64 (oi/2 ^ j) 1==1)=bv at *;have HL7:=zA ((HSt.out bv (fun _=>HK.out)).below (pq (t9 _ _)));have HX7:=zA ((HXs.out bv).below (pq (t9 _ _)));clear HSt HXs HL6 HX6 mo mfz x4;go_wp2_with fail
                go_roundw
                case rel=>exact⟨j+1,_,by omega,by omega,by go_num,HL7,HX7⟩
                case measure=>simp[intOf];omega
              ·have b0:((k:Int)==(h:Int))=false:=by rw[py];omega
               have b1:(k==h)=false:=by rw[py];exact hkh
               have b2:¬(k:Int)=(h:Int):=by omega
               go_upto_region 37 with fail
               go_region
               all_goals
                have HL7:=zA ((HSt.out false (fun e=>by cases e)).below (pq (t9 _ _)));have HX7:=zA ((HXs.out false).below (pq (t9 _ _)));clear HSt HXs HL6 HX6 mo mfz x4;go_wp2_with fail
                go_roundw
                case rel=>exact⟨j+1,_,by omega,by omega,by go_num,HL7,HX7⟩
                case measure=>simp[intOf];omega
             ·have c6:¬(j:Int)<(n:Int):=by omega
              go_wp2_with fail
              go_roundw
              case rel=>exact⟨i+1,rv2,ov2,xs2,by omega,by go_num,HL6⟩
              case measure=>simp[intOf];omega
       ·obtain rfl:n=i:=by omega
        have c2:¬(n:Int)<(n:Int):=by omega
        obtain⟨ra9,rc9,rfl⟩:=yD HL.out.own
        have HQ:Hid (∃g M,Ending.returned (.pointer (some ⟨w.heap.size+1,0,none⟩))=.returned (.pointer (some ⟨g,0,none⟩))/\yF M/\pC wr g M/\Below w.heap.size w wr):=by
         have hl:(xs.map Prod.fst).map vF.head=jK hd n:=by rw[List.map_map];exact HL.out.len
         have hln:(xs.map Prod.fst).length=n:=by have:=congrArg List.length HL.out.len;simpa[jK] using this
         obtain⟨ra8,rc8,e8,hcr⟩:=vR HL.out.own;simp only[Value.slice.injEq]at e8;obtain⟨rfl,-,rfl⟩:=e8;refine⟨w.heap.size+1,⟨lo,hi,xs.map Prod.fst,ov,yK (jK hd n)⟩,rfl,⟨HN3.out,by show (xs.map Prod.fst).length<=8;omega,by show yK (jK hd n)=_;rw[hl],fun r hr=>?_,fun a b h=>?_⟩,⟨ra9,ha,rc9,hc,xs,rfl,?_,hcr,HL.out.rows,HL.out.hds⟩,HL.out.bel⟩
         ·obtain⟨x,hx,rfl⟩:=p7.1 hr
          exact HL.out.oks x hx
         ·show a<b/\b<(xs.map Prod.fst).length/\((xs.map Prod.fst).map vF.head).getD a 0=((xs.map Prod.fst).map vF.head).getD b 0
          rw[hl,hln];exact HL.out.ovr a b h
         ·show uT wr (w.heap.size+1) lo hi (.slice ra9 (xs.map Prod.fst).length rc9) ov (.slice ha (yK (jK hd n)).length hc)
          rw[hln];exact HL.out.mad
        clear HL;obtain⟨g9,M,e9,h1,h2,h3⟩:=HQ.out;obtain rfl:w.heap.size+1=g9:=by simpa using e9
        have HM9:=zA (And.intro h1 (And.intro h2 h3));clear e9 h1 h2 h3 HQ;go_wp2_with fail
        go_ret
        first|exact⟨_,M,rfl,HM9.out.1,HM9.out.2.1,HM9.out.2.2,my _⟩|exact⟨_,rfl,M,HM9.out.1,HM9.out.2.1,HM9.out.2.2,my _⟩
theorem FY(w:World)(la wa ra:Option Addr)(ln lc wn wk rn rc:Nat)(hd:Nat->Int)(hL:mJ w la ln)(hW:mJ w wa wn)(hR:XP w ra rn hd) :
 Calls Tryz.prog 10 #[.agg #[.slice la ln lc,.slice wa wn wk,.slice ra rn rc]] w fun e w'=>∃g M,e=.returned (.pointer (some ⟨g,0,none⟩))/\yF M/\pC w' g M/\Below w.heap.size w w' :=
 (BZ w la wa ra ln lc wn wk rn rc hd hL hW hR).mono fun _ _ ⟨g,M,h1,h2,h3,h4,_⟩=>⟨g,M,h1,h2,h3,h4⟩
end Go.Proofs.YtnbpdffdnphbeabGreatDoor
