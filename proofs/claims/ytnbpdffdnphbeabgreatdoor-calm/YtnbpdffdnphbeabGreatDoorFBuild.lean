import Derived.Test.YtnbpdffdnphbeabGreatDoorFGuard
import Derived.BigRegion
set_option maxHeartbeats 4000000
set_option maxRecDepth 100000
namespace Go.Proofs.YtnbpdffdnphbeabGreatDoor
open Go.RowKit
variable{xs:List (vP × Value × Value)}{B3 gt b n g i hc:Nat}{hi lo hd:Nat->Int}{ov:Nat->Nat->Bool}{fo:Obj}{ha:Option Addr}{a c d v rv:Value}{w w':World}{x:vP × Value × Value}
def zE5(x:vP × Value × Value):List Value:=[.int .i64 (x.1.head:Int),.bool x.1.whole,x.2.1,x.2.2]
structure fY(w:World)(x:vP × Value × Value):Prop where
 parts:∃a c,x.2.1=.slice a x.1.parts.length c/\xG w 89 a (x.1.parts.flatMap nT)
 tests:∃a c,x.2.2=.slice a x.1.tests.length c/\xG w 87 a (x.1.tests.flatMap nS)
theorem fY.below(h:fY w x)(hb:Below w.heap.size w w'):fY w' x:=by
 obtain⟨a,c,e1,h1⟩:=h.parts;obtain⟨a',c',e2,h2⟩:=h.tests;exact⟨⟨a,c,e1,h1.below hb⟩,a',c',e2,h2.below hb⟩
theorem zHL:(Tryz.prog.info? 85).map (fun i=>(i.zero,i.size,i.bytes))=some (some (.agg #[.int .i64 0,.bool false,.slice none 0 0,.slice none 0 0]),4,64):=by kernel_rfl
theorem qz:(Tryz.prog.info? 3).map (fun i=>(i.zero,i.size,i.bytes))=some (some (.int .i64 0),1,8):=by kernel_rfl
theorem sG{k:Nat}{o:Obj}(h:w.heap[b]? = some o)(zK8:b≠g):(w.setCell ⟨g,k,none⟩ v).heap[b]? = some o:=by rw[lk _ _ _ _ (show b≠(⟨g,k,none⟩:Addr).block from zK8)];exact h
theorem qH.drew{hv:Value}(h:qH w g lo hi rv ov hv):qH w.drew g lo hi rv ov hv:=h.below (po (tg _ _))
theorem aA{α:Type}(f:Nat->α)(i:Nat)(v:α):nP f i v i=v:=by unfold nP;rw[tm rfl]
theorem Yx{α:Type}{f:Nat->α}{j:Nat}{v:α}(h:j≠i):nP f i v j=f j:=by unfold nP;rw[tb h]
structure pK(w:World)(g:Nat)(M:yC):Prop where
 mem:∃(ra ha:Option Addr) (rc hc:Nat) (xs:List (vP × Value × Value)),xs.map Prod.fst=M.rules/\qH w g M.lo M.hi (.slice ra M.rules.length rc) M.over (.slice ha M.heads.length hc)/\xG w 85 ra (xs.flatMap zE5)/\(∀x∈xs,fY w x)/\xG w 3 ha (dV M.heads)
theorem fY.set(h:fY w x){j:Nat}{u:Value}{cs:Array Value}(hb:w.heap[b]? = some (.cells cs 48 (0,0))):fY (w.setCell ⟨b,j,none⟩ u) x:=by
 obtain⟨a,c,e1,h1⟩:=h.parts;obtain⟨a',c',e2,h2⟩:=h.tests;exact⟨⟨a,c,e1,h1.set hb (by decide)⟩,a',c',e2,h2.set hb (by decide)⟩
theorem fY.grown{B:Nat}{ys:List Value}(h:fY w x)(zK6:w.ownsRow B 85 4 v n ys)(hg:w.grownBy w' v.ownBlock):fY w' x:=by
 obtain⟨a,c,e1,h1⟩:=h.parts;obtain⟨a',c',e2,h2⟩:=h.tests;exact⟨⟨a,c,e1,h1.grown zK6 (by decide) hg⟩,a',c',e2,h2.grown zK6 (by decide) hg⟩
theorem set4{t:TypeId}{z0 z1 z2 z3 b:Value}(hz:w.heap[g]? = some (.cells #[z0,z1,z2,z3] t (0,0))):((((w.setCell ⟨g,0,none⟩ a).setCell ⟨g,1,none⟩ b).setCell ⟨g,2,none⟩ c).setCell ⟨g,3,none⟩ d).heap[g]? = some (.cells #[a,b,c,d] t (0,0)):=by
 have q1:=tr w _ 0 _ _ a hz;have q2:=tr _ _ 1 _ _ b q1;have q3:=tr _ _ 2 _ _ c q2;have q4:=tr _ _ 3 _ _ d q3;rw[q4];simp
theorem Jb{t T:TypeId}{cs:Array Value}{b:Value}{p:Option Addr}{xs:List Value}(h:xG w T p xs)(hz:w.heap[g]? = some (.cells cs t (0,0)))(zK8:T≠t):xG ((((w.setCell ⟨g,0,none⟩ a).setCell ⟨g,1,none⟩ b).setCell ⟨g,2,none⟩ c).setCell ⟨g,3,none⟩ d) T p xs:=by
 have q1:=tr w _ 0 _ _ a hz;have q2:=tr _ _ 1 _ _ b q1;have q3:=tr _ _ 2 _ _ c q2;exact(((h.set hz zK8).set q1 zK8).set q2 zK8).set q3 zK8
theorem Cj{B:Nat}{w0:World}{b:Value}(h:Below B w0 w)(hg:B<=g):Below B w0 ((((w.setCell ⟨g,0,none⟩ a).setCell ⟨g,1,none⟩ b).setCell ⟨g,2,none⟩ c).setCell ⟨g,3,none⟩ d):=(((h.setCell (p:=⟨g,0,none⟩) hg _).setCell (p:=⟨g,1,none⟩) hg _).setCell (p:=⟨g,2,none⟩) hg _).setCell (p:=⟨g,3,none⟩) hg _
structure BL(w wr:World)(gt B3:Nat)(fo:Obj)(lo hi hd:Nat->Int)(n i:Nat)(rv:Value)(ov:Nat->Nat->Bool)(ha:Option Addr)(hc:Nat)(xs:List (vP × Value × Value)):Prop where
 box:wr.heap[w.heap.size]? = some fo
 mad:qH wr (w.heap.size+1) lo hi rv ov (.slice ha (yN (tM hd n)).length hc)
 th:ZJ wr gt (fun d=>decide (d∈tM hd n))
 own:wr.ownsRow B3 85 4 rv i (xs.flatMap zE5)
 rows:∀x∈xs,fY wr x
 hds:xG wr 3 ha (dV (yN (tM hd n)))
 bel:Below w.heap.size w wr
 sz:B3<=wr.heap.size
 len:xs.map (fun x=>x.1.head)=tM hd i
 oks:∀x∈xs,nJ (yN (tM hd n)) x.1
 ovr:∀a b,ov a b=true->a<b/\b<n/\(tM hd n).getD a 0=(tM hd n).getD b 0
theorem BL.below{wr:World}(h:BL w wr gt B3 fo lo hi hd n i rv ov ha hc xs)(hb:Below wr.heap.size wr w'):BL w w' gt B3 fo lo hi hd n i rv ov ha hc xs :=
 ⟨(hb.block _ (zL h.box)).trans h.box,h.mad.below hb,h.th.below hb,kE h.own hb,fun x hx=>(h.rows x hx).below hb,h.hds.below hb,h.bel.trans (hb.mono h.bel.size),p7 h.sz hb.size,h.len,h.oks,h.ovr⟩
theorem BL.setO{wr:World}(h:BL w wr gt B3 fo lo hi hd n i rv ov ha hc xs)(h1:w.heap.size+1<gt)(h2:gt<B3){a:Nat}(ha8:a<8)(hb8:b<8)(v:Bool)(hv:v=true->a<b/\b<n/\(tM hd n).getD a 0=(tM hd n).getD b 0):BL w (wr.setCell ⟨w.heap.size+1,7+a*8+b,none⟩ (.bool v)) gt B3 fo lo hi hd n i rv (zBO ov a b v) ha hc xs:=by
 obtain⟨cs,m1,-⟩:=h.mad.blk;refine⟨sG h.box (by omega),h.mad.setO a b ha8 hb8 v,h.th.other (by omega),yX h.own (by omega),fun x hx=>(h.rows x hx).set m1,h.hds.set m1 (by decide),h.bel.setCell (mw _) _,by simpa using h.sz,h.len,h.oks,fun x y hxy=>?_⟩;unfold zBO at hxy;split at hxy
 ·rename_i e;obtain⟨rfl,rfl⟩:=e;exact hv hxy
 ·exact h.ovr x y hxy
theorem BL.app{wc wz w9:World}(h:BL w wc gt B3 fo lo hi hd n i rv ov ha hc xs)(h1:w.heap.size+1<gt)(h2:gt<B3)(hx:fY wc x)(zKG:nJ (yN (tM hd n)) x.1)(hs:tM hd (i+1)=tM hd i++[x.1.head])(hz:Below wc.heap.size wc wz)(hg:wz.grownBy w9 rv.ownBlock)(zK6:w9.ownsRow B3 85 4 v (i+1) (xs.flatMap zE5++zE5 x)):qH w9 (w.heap.size+1) lo hi rv ov (.slice ha (yN (tM hd n)).length hc)/\BL w (w9.setCell ⟨w.heap.size+1,6,none⟩ v) gt B3 fo lo hi hd n (i+1) v ov ha hc (xs++[x]):=by
 have hZ:=h.below hz;have hb:Below B3 wz w9:=(tg B3 wz).grown hg hZ.sz (zV hZ.own);have hM:=hZ.mad.down hb (by omega);obtain⟨cs,m1,-⟩:=hM.blk;refine⟨hM,sG ((hb.block _ (by omega)).trans hZ.box) (by omega),hM.setR _,(hZ.th.down hb h2).other (by omega),?_,fun y hy=>?_,(hZ.hds.grown hZ.own (by decide) hg).set m1 (by decide),(hZ.bel.trans (hb.mono (by omega))).setCell (mw _) _,?_,?_,fun y hy=>?_,h.ovr⟩
 ·rw[li];exact yX (by simpa using zK6) (by omega)
 ·rcases pu.1 hy with h' | h'
  ·exact((hZ.rows y h').grown hZ.own hg).set m1
  ·rw[pw.1 h'];exact((hx.below hz).grown hZ.own hg).set m1
 ·have:=hZ.sz;have:=hb.size;simp;omega
 ·rw[bg,h.len,hs];rfl
 ·rcases pu.1 hy with h' | h'
  ·exact h.oks y h'
  ·rw[pw.1 h'];exact zKG
theorem Xd(H:List Nat)(d:Nat):xH H (d+1)=if d∈H then xH H d++[d] else xH H d:=by
 unfold xH;rw[lh,dk];by_cases h:d∈H
 ·rw[tm h];simp[h]
 ·rw[tb h];simp[h]
theorem QC(H:List Nat)(d:Nat):(xH H d).length<=d:=by
 unfold xH;have:=da (fun x=>decide (x∈H)) (List.range d);simpa using this
theorem Gq(w:World)(la wa ra:Option Addr)(ln lc wn wk rn rc:Nat)(hd:Nat->Int)(hL:lF w la ln)(hW:lF w wa wn)(hR:Kh w ra rn hd) :
 Calls Tryz.prog 10 #[.agg #[.slice la ln lc,.slice wa wn wk,.slice ra rn rc]] w fun e w'=>∃g M,e=.returned (.pointer (some ⟨g,0,none⟩))/\yD M/\pK w' g M/\Below w.heap.size w w'/\w.heap.size<=g:=by
 obtain⟨i0,hi0,hz0,hz1,hz2⟩:=info_parts zHL;obtain⟨j0,hj0,hy0,hy1,hy2⟩:=info_parts qz;have hfewR:=hR.few;unfold maxLen at hfewR;have HL:=zA (fun w' (hb:Below w.heap.size w w')=>hL.below hb);have HWd:=zA (fun w' (hb:Below w.heap.size w w')=>hW.below hb);have HR:=zA (fun w' (hb:Below w.heap.size w w')=>hR.below hb);have HPk:=zA Yp;clear hL hW hR
 go_enter Tryz.func10,Tryz.ntmps10
 go_upto_region 2 with fail
 have HM0:=zA (By (w.alloc (.cells #[.slice la ln lc,.slice wa wn wk,.slice ra rn rc] 25)));rw[show (w.alloc (.cells #[.slice la ln lc,.slice wa wn wk,.slice ra rn rc] 25)).heap.size=w.heap.size+1 by simp]at HM0;have HX0:Hid (((w.alloc (.cells #[.slice la ln lc,.slice wa wn wk,.slice ra rn rc] 25)).alloc (.cells Tryz.zeroCells48 48)).heap[w.heap.size]? = some (.cells #[.slice la ln lc,.slice wa wn wk,.slice ra rn rc] 25 (0,0))):=zU (zG _ _);have HB0:Hid (Below w.heap.size w ((w.alloc (.cells #[.slice la ln lc,.slice wa wn wk,.slice ra rn rc] 25)).alloc (.cells Tryz.zeroCells48 48))):=(fj (j1 _) _).alloc (by simp) _;generalize (w.alloc (.cells #[.slice la ln lc,.slice wa wn wk,.slice ra rn rc] 25)).alloc (.cells Tryz.zeroCells48 48)=w0 at *;go_wp2_with fail
 go_loopw [4] (fun iv wr=>∃(i:Nat) (lo hi:Nat->Int),i<=3/\iv=.int .i64 i/\Hid (wr.heap[w.heap.size]? = some (.cells #[.slice la ln lc,.slice wa wn wk,.slice ra rn rc] 25 (0,0)))/\Hid (qH wr (w.heap.size+1) lo hi (.slice none 0 0) (fun _ _=>false) (.slice none 0 0))/\Hid (∀j,j<i->0<=lo j/\lo j<=hi j/\hi j<=9998)/\Hid (Below w.heap.size w wr)) (fun iv _=>3-(intOf iv).toNat)
 case atStart=>exact⟨0,_,_,ty _,rfl,HX0,HM0,zA (fun j hj=>by omega),HB0⟩
 case round =>
  obtain⟨i,lo,hi,hi3,rfl,HX,HM,HN,HB⟩:=hrel;by_cases zK4:i<3
  ·have c1:(i:Int)<3:=by omega
   have x0:wr.cell? ⟨w.heap.size,0,none⟩=some (.slice la ln lc):=zB HX.out 0;have x1:wr.cell? ⟨w.heap.size,1,none⟩=some (.slice wa wn wk):=zB HX.out 1;obtain⟨h1,H1⟩:=HL.out wr HB.out;obtain⟨h2,H2⟩:=HWd.out wr HB.out;have HA1:=zA (zFN wr la ln lc h1 H1 i (by omega));have HA2:=zA (zFN wr wa wn wk h2 H2 i (by omega));have HP1:=zA (fun w'=>HPk.out w' (YH ln h1 i) 5000 (H1.in i) (by decide) (by decide));have HP2:=zA (fun w'=>HPk.out w' (YH wn h2 i) 5000 (H2.in i) (by decide) (by decide));clear H1 H2;generalize YH ln h1 i=z1 at *;generalize YH wn h2 i=z2 at *;have fz1:=HM.out.free i;have fz2:=HM.out.free (3+i);have m1:=HM.out.cells.1 i zK4;have m2:=HM.out.cells.2.1 i zK4;go_wp2_with fail
   refine HA1.out.mono ?_;rintro e w4 ⟨rfl,hw⟩;obtain rfl:=hw.symm;go_wp2_with fail
   refine HA2.out.mono ?_;rintro e w4 ⟨rfl,hw⟩;obtain rfl:=hw.symm
   go_upto_region 7 with fail
   go_cut [5] from 21 to 53 (fun v5 wx=>∃r:Nat,v5=.int .i64 z1/\Hid (r<5000)/\Hid (wx.heap[w.heap.size]? = some (.cells #[.slice la ln lc,.slice wa wn wk,.slice ra rn rc] 25 (0,0)))/\Hid (qH wx (w.heap.size+1) (nP lo i (r:Int)) hi (.slice none 0 0) (fun _ _=>false) (.slice none 0 0))/\Hid (Below w.heap.size w wx))
   case first =>
    go_region_held3 (fun w'=>w'.cell? ⟨w.heap.size,0,none⟩=some (.slice la ln lc)) (go_keep) (
     (go_at_call 41;refine(HP1.out _).mono ?_;rintro e w4 ⟨r,rfl,hr,hw⟩;obtain rfl:=hw.symm))
    all_goals
     go_wp2_with fail
     go_meet
     exact⟨r,rfl,zA (by omega),zA (sF (sG HX.out (by omega))),zA (HM.out.setLo i zK4 _).drew,zA (po (HB.out.setCell (mw _) _))⟩
   case rest =>
    clear x0 x1 fz1 fz2 m1 m2 HA1 HA2 HP1;obtain⟨r,rfl,Hr,HX1,HM1,HB1⟩:=hcut;have fz2:=HM1.out.free (3+i);have m1:=HM1.out.cells.1 i zK4;rw[aA]at m1;have m2:=HM1.out.cells.2.1 i zK4;have hr5:=Hr.out
    go_upto_region 8 with fail
    go_region_held3 (fun w'=>w'.cell? ⟨w.heap.size+1,i,none⟩=some (.int .i64 (r:Int))) (first|exact((HM1.out.setHi i zK4 _).drew.cells.1 i zK4).trans (congrArg (fun z=>some (Value.int .i64 z)) (aA _ _ _))|go_keep) (
     (go_at_call 41;refine(HP2.out _).mono ?_;rintro e w4 ⟨q,rfl,hq,hw⟩;obtain rfl:=hw.symm))
    all_goals
     have HN2:Hid (∀j,j<i+1->0<=nP lo i (r:Int) j/\nP lo i (r:Int) j<=nP hi i ((r:Int)+(q:Int)) j/\nP hi i ((r:Int)+(q:Int)) j<=9998):=fun j hj=>by
      by_cases e:j=i
      ·subst e;rw[aA,aA];omega
      ·rw[Yx e,Yx e];exact HN.out j (by omega)
     go_wp2_with fail
     go_roundw
     case rel=>exact⟨i+1,_,_,by omega,by go_num,zA (sF (sG HX1.out (by omega))),zA (HM1.out.setHi i zK4 _).drew,HN2,zA (po (HB1.out.setCell (mw _) _))⟩
     case measure=>simp[intOf];omega
  ·have HN3:Hid (∀j,j<3->0<=lo j/\lo j<=hi j/\hi j<=9998):=fun j hj=>HN.out j (by omega)
   have c9:¬(i:Int)<3:=by omega
   clear HN zK4 hi3;have x2:wr.cell? ⟨w.heap.size,2,none⟩=some (.slice ra rn rc):=zB HX.out 2
   go_upto_if 58 with fail
   go_cut [7] from 21 to 58 (fun v7 wx=>∃n:Nat,v7=.int .i64 (n:Int)/\Hid (n<=8/\n<=rn)/\wx=wr)
   case first =>
    by_cases h8:8<rn
    ·have c1:(8:Int)<(rn:Int):=by omega
     go_wp2_with fail
     go_meet
     exact⟨8,rfl,zA ⟨by decide,by omega⟩,rfl⟩
    ·have c1:¬(8:Int)<(rn:Int):=by omega
     go_wp2_with fail
     go_meet
     exact⟨rn,rfl,zA ⟨by omega,j1 _⟩,rfl⟩
   case rest =>
    obtain⟨n,rfl,Hn,rfl⟩:=hcut;obtain⟨hn8,hnr⟩:=Hn.out
    go_upto_region 13 with fail
    have HTh:Hid (ZJ (wc.alloc (.cells #[.bool false,.bool false,.bool false,.bool false] 104)) wc.heap.size (fun d=>decide (d∈tM hd 0))):=⟨_,zG _ _,rfl,fun i hi=>match i,hi with
     | 0,_=>rfl
     | 1,_=>rfl
     | 2,_=>rfl
     | 3,_=>rfl⟩
    have hlt1:=HM.out.lt;have HX1:Hid ((wc.alloc (.cells #[.bool false,.bool false,.bool false,.bool false] 104)).heap[w.heap.size]? = some (.cells #[.slice la ln lc,.slice wa wn wk,.slice ra rn rc] 25 (0,0))):=zU HX.out;have HM1:=zA (HM.out.below ((tg wc.heap.size wc).alloc (j1 _) (.cells #[.bool false,.bool false,.bool false,.bool false] 104)));have HB1:Hid (Below w.heap.size w (wc.alloc (.cells #[.bool false,.bool false,.bool false,.bool false] 104))):=HB.out.alloc HB.out.size _;have hs1:(wc.alloc (.cells #[.bool false,.bool false,.bool false,.bool false] 104)).heap.size=wc.heap.size+1:=by simp
    clear HX HM HB x2;generalize wc.alloc (.cells #[.bool false,.bool false,.bool false,.bool false] 104)=w1 at *;generalize wc.heap.size=gt at *;go_wp2_with fail
    go_loopw [9] (fun iv wr=>∃(i:Nat) (hv:Value),i<=n/\iv=.int .i64 i/\gt+1<=wr.heap.size/\Hid (wr.heap[w.heap.size]? = some (.cells #[.slice la ln lc,.slice wa wn wk,.slice ra rn rc] 25 (0,0)))/\Hid (qH wr (w.heap.size+1) lo hi (.slice none 0 0) (fun _ _=>false) hv)/\Hid (ZJ wr gt (fun d=>decide (d∈tM hd i)))/\Hid (wr.ownsRow (gt+1) 3 1 hv (yN (tM hd i)).length (dV (yN (tM hd i))))/\Hid (Below w.heap.size w wr)) (fun iv _=>n-(intOf iv).toNat)
    case atStart=>exact⟨0,_,ty _,rfl,by omega,HX1,HM1,HTh,zA (ba _ _ _ _),HB1⟩
    case round =>
     clear HX1 HM1 HTh HB1;obtain⟨i,hv,zKF,rfl,zKD,HX,HM,HTh,HO,HB⟩:=hrel;by_cases zK4:i<n
     ·have c1:(i:Int)<(n:Int):=by omega
      have x2:wr.cell? ⟨w.heap.size,2,none⟩=some (.slice ra rn rc):=zB HX.out 2;obtain⟨g,o,rfl,zKU⟩:=(HR.out wr HB.out).blk (by omega);obtain⟨sa,sn,sc,ta,tn,tc,b,ov,⟨r0,-⟩,f1,-⟩:=zKU i (by omega);have c2:(i:Int)<(rn:Int):=by omega
      have HP1:=zA (Yj wr (hd i) 4 f1 (by decide) (by decide));obtain⟨h,hh⟩:∃h:Nat,wK (hd i) 4=(h:Int):=⟨(wK (hd i) 4).toNat,by have:=qN (hd i) 4 (by decide);omega⟩;have hh4:h<4:=by have:=qN (hd i) 4 (by decide);omega
      have hh4i:(h:Int)<4:=by omega
      have HS1:Hid (tM hd (i+1)=tM hd i++[h]):=by unfold Hid;rw[V3,hh];rfl
      have HH4:Hid ((yN (tM hd i)).length<=4):=oW (ki hd i);rw[hh]at HP1;clear zKU hh;go_wp2_with fail
      refine HP1.out.mono ?_;rintro e w4 ⟨rfl,hw⟩;obtain rfl:=hw.symm;clear HP1 r0 f1;have th:=HTh.out.cell hh4
      go_upto_if 74 with fail
      go_cut [10] from 59 to 86 (fun v10 wx=>∃hv',v10=.int .i64 (h:Int)/\Hid (gt+1<=wx.heap.size)/\Hid (wx.heap[w.heap.size]? = some (.cells #[.slice la ln lc,.slice wa wn wk,.slice (some ⟨g,o,none⟩) rn rc] 25 (0,0)))/\Hid (qH wx (w.heap.size+1) lo hi (.slice none 0 0) (fun _ _=>false) hv')/\Hid (ZJ wx gt (fun d=>decide (d∈tM hd i)))/\Hid (wx.ownsRow (gt+1) 3 1 hv' (yN (tM hd (i+1))).length (dV (yN (tM hd (i+1)))))/\Hid (Below w.heap.size w wx))
      case first =>
       by_cases hm:h∈tM hd i
       ·have HE:Hid (yN (tM hd (i+1))=yN (tM hd i)):=by unfold Hid;rw[HS1.out,iK];unfold ZV;rw[tm (lS.2 hm)]
        rw[tu hm];clear hm;go_wp2_with fail
        go_meet
        exact⟨hv,rfl,zA zKD,HX,HM,HTh,by rw[HE.out];exact HO,HB⟩
       ·have HE:Hid (yN (tM hd (i+1))=yN (tM hd i)++[h]):=by unfold Hid;rw[HS1.out,iK];unfold ZV;rw[tb (fun h1=>hm (lS.1 h1))]
        rw[tq hm];obtain⟨oa,oc,rfl⟩:=zQ HO.out;obtain⟨-,-,-,-,m71⟩:=HM.out.cells;have hH4:=HH4.out;have HMg:=zA HM.out.lt;have hbf:w.heap.size+1<gt:=hlt1;clear hm th x2
        go_wp2_with (at_builtin;refine wpList_append_own _ rfl _ _ 22 rfl (gt+1) 3 j0 _ 1 8 Tryz.underlying22 hj0 hy0 hy1 hy2 rfl (by decide) _ _ _ rfl (HO.out.alloc _) ⟨wr.heap.size,0,none⟩ 1 1 [.int .i64 (h:Int)] rfl rfl ?c1k1 ?c1k2 ?c1k3 ?c1k4 ?c1k5 ?_)
        try (case c1k1=>exact zM _ _ _ _ rfl)
        try (case c1k2=>intro u hu;simp at hu;rcases hu with rfl;rfl)
        try (case c1k3=>unfold maxLen;omega)
        try (case c1k4=>omega)
        try (case c1k5=>simp;omega)
        intro v6 w6 zK5 zK3 _;obtain⟨a6,c6,rfl⟩:=zQ zK5;have hb6:Below (gt+1) wr w6:=((tg _ _).alloc zKD _).grown zK3 (by simp;omega) (zV HO.out);have HB6:Hid (Below w.heap.size w w6):=HB.out.trans (hb6.mono (by omega));have HX6:Hid (w6.heap[w.heap.size]? = some (.cells #[.slice la ln lc,.slice wa wn wk,.slice (some ⟨g,o,none⟩) rn rc] 25 (0,0))):=(hb6.block _ (by omega)).trans HX.out;have HM6:=zA (HM.out.down hb6 (by omega));have HTh6:=zA (HTh.out.down hb6 (my _));have HO6:Hid (w6.ownsRow (gt+1) 3 1 (.slice a6 ((yN (tM hd i)).length+1) c6) (yN (tM hd (i+1))).length (dV (yN (tM hd (i+1))))):=by unfold Hid;rw[HE.out,QD,tl];exact zK5
        have hsz6:gt+1<=w6.heap.size:=by have:=hb6.size;omega
        have HFz:=zA HM6.out.free;have fz:=HFz.out 71;obtain⟨-,-,-,-,m71'⟩:=HM6.out.cells;clear zK5 zK3 m71;go_wp2_with fail
        go_meet
        exact⟨_,rfl,zA (by simp;omega),zA (sG HX6.out (by omega)),zA (HM6.out.setH _),zA (HTh6.out.other (by omega)),zA (ownsRow_setCell_below HO6.out (a:=⟨w.heap.size+1,71,none⟩) (show w.heap.size+1<gt+1 by omega) _),zA (HB6.out.setCell (mw _) _)⟩
      case rest =>
       clear HX HM HTh HO HB th x2;obtain⟨hv',rfl,Hsz',HX,HM,HTh,HO,HB⟩:=hcut;have hsz':=Hsz'.out;have th:=HTh.out.cell hh4;have fz:=HTh.out.free h
       have HT2:Hid (ZJ (wc.setCell ⟨gt,h,none⟩ (.bool true)) gt (fun d=>decide (d∈tM hd (i+1)))):=(HTh.out.set h hh4 true).of (fun d hd4=>by
        rw[HS1.out];unfold nP;by_cases e:d=h
        ·subst e;simp
        ·rw[tb e];simp[e])
       generalize decide (h∈tM hd i)=dh at *;go_wp2_with fail
       go_roundw
       case rel=>exact⟨i+1,hv',by omega,by go_num,by simp;omega,zA (sG HX.out (by omega)),zA (HM.out.other (by omega)),HT2,zA (ownsRow_setCell_below HO.out (a:=⟨gt,h,none⟩) (my gt) _),zA (HB.out.setCell (by show w.heap.size<=gt;omega) _)⟩
       case measure=>simp[intOf];omega
     ·obtain rfl:n=i:=by omega
      have c1:¬(n:Int)<(n:Int):=by omega
      obtain⟨ha,hc,rfl⟩:=zQ HO.out;obtain⟨ha',hc',e9,zKQ⟩:=vO HO.out;simp only[dm]at e9;obtain⟨rfl,-,rfl⟩:=e9;have HL3:Hid (BL w wr gt wr.heap.size (.cells #[.slice la ln lc,.slice wa wn wk,.slice ra rn rc] 25 (0,0)) lo hi hd n 0 (.slice none 0 0) (fun _ _=>false) ha hc []):=⟨HX.out,HM.out,HTh.out,ba _ _ _ _,(fun x hx=>by cases hx),zKQ,HB.out,j1 _,rfl,(fun x hx=>by cases hx),(fun a b h=>by cases h)⟩;have hgtB:gt<wr.heap.size:=zKD;clear HX HM HTh HO HB zKQ zKD hs1 zKF zK4;go_wp2_with fail
      generalize wr.heap.size=B3 at *
      go_loopw [11] (fun iv wr=>∃(i:Nat) (rv:Value) (ov:Nat->Nat->Bool) (xs:List (vP × Value × Value)),i<=n/\iv=.int .i64 i/\Hid (BL w wr gt B3 (.cells #[.slice la ln lc,.slice wa wn wk,.slice ra rn rc] 25 (0,0)) lo hi hd n i rv ov ha hc xs)) (fun iv _=>n-(intOf iv).toNat)
      case atStart=>exact⟨0,_,_,_,ty _,rfl,HL3⟩
      case round =>
       clear HL3;obtain⟨i,rv,ov,xs,zKF,rfl,HL⟩:=hrel;by_cases zK4:i<n
       ·have c2:(i:Int)<(n:Int):=by omega
        have c3:(i:Int)<(rn:Int):=by omega
        have x2:wr.cell? ⟨w.heap.size,2,none⟩=some (.slice ra rn rc):=zB HL.out.box 2;obtain⟨g,o,rfl,zKU⟩:=(HR.out wr HL.out.bel).blk (by omega);obtain⟨sa,sn,sc,ta,tn,tc,b,oi,⟨r0,r1,r2,r3,r4⟩,f1,f2,f3,f4⟩:=zKU i (by omega);have HP1:=zA (fun w'=>Yj w' (hd i) 4 f1 (by decide) (by decide));obtain⟨h,hh⟩:∃h:Nat,wK (hd i) 4=(h:Int):=⟨(wK (hd i) 4).toNat,by have:=qN (hd i) 4 (by decide);omega⟩;have hh4:h<4:=by have:=qN (hd i) 4 (by decide);omega
        have HS1:Hid (tM hd (i+1)=tM hd i++[h]):=by unfold Hid;rw[V3,hh];rfl
        have HSi:Hid ((tM hd n).getD i 0=h):=by unfold Hid;simp[tM,List.getD,zK4,hh]
        rw[hh]at HP1;have HF3:=zA f3;have HF4:=zA f4;clear zKU hh f1 f3 f4;have HL1:=zA (HL.out.below (fj (j1 _) (.cells #[.int .i64 (hd i),.slice sa sn sc,.slice ta tn tc,.bool b,.int .i64 oi] 81)));have HXc:Hid ((wr.alloc (.cells #[.int .i64 (hd i),.slice sa sn sc,.slice ta tn tc,.bool b,.int .i64 oi] 81)).heap[wr.heap.size]? = some (.cells #[.int .i64 (hd i),.slice sa sn sc,.slice ta tn tc,.bool b,.int .i64 oi] 81 (0,0))):=zG _ _;have HF31:=zA (HF3.out.below (fj (j1 _) (.cells #[.int .i64 (hd i),.slice sa sn sc,.slice ta tn tc,.bool b,.int .i64 oi] 81)));have HF41:=zA (HF4.out.below (fj (j1 _) (.cells #[.int .i64 (hd i),.slice sa sn sc,.slice ta tn tc,.bool b,.int .i64 oi] 81)));have hsx:(wr.alloc (.cells #[.int .i64 (hd i),.slice sa sn sc,.slice ta tn tc,.bool b,.int .i64 oi] 81)).heap.size=wr.heap.size+1:=by simp
        have HSx:=zA hsx;have hgxB:=HL.out.sz;clear hsx
        go_upto_region 25 with fail
        refine(HP1.out _).mono ?_;rintro e w4 ⟨rfl,hw⟩;obtain rfl:=hw.symm;clear r0 r1 r2 r3 r4 x2 HL HF3 HF4 HP1;generalize wr.alloc (.cells #[.int .i64 (hd i),.slice sa sn sc,.slice ta tn tc,.bool b,.int .i64 oi] 81)=W1 at *;generalize wr.heap.size=gx at *;have HXT:Hid (xG W1 81 (some ⟨gx,0,none⟩) [.int .i64 (hd i),.slice sa sn sc,.slice ta tn tc,.bool b,.int .i64 oi]):=.inr ⟨gx,_,_,rfl,HXc.out,fun j _=>by rw[<-bm]⟩;have HTw:=zA (fun w' (hb:Below W1.heap.size W1 w') (d:Nat) (hd4:d<4)=>(HL1.out.th.below hb).cell hd4);have HH4:Hid ((yN (tM hd n)).length<=4):=oW (ki hd n);have hgtW:=HL1.out.th.lt;go_wp2_with fail
        go_loopw [14,15] (fun lv dv w5=>∃(d:Nat),d<=h/\dv=.int .i64 (d:Int)/\Hid (Below W1.heap.size W1 w5)/\Hid (w5.ownsRow W1.heap.size 3 1 lv (xH (yN (tM hd n)) d).length (dV (xH (yN (tM hd n)) d)))) (fun _ dv _=>h-(intOf dv).toNat)
        case atStart=>exact⟨0,ty _,rfl,zA (tg _ _),zA (ba _ _ _ _)⟩
        case round =>
         obtain⟨d,hdh,rfl,HBd,HOd⟩:=hrel;obtain⟨oa,oc,rfl⟩:=zQ HOd.out;by_cases hltd:d<h
         ·have c4:(d:Int)<(h:Int):=by omega
          have c5:(d:Int)<4:=by omega
          have th:=HTw.out wr HBd.out d (by omega);have zKA:=QC (yN (tM hd n)) d;by_cases hm:d∈tM hd n
          ·have HE:Hid (xH (yN (tM hd n)) (d+1)=xH (yN (tM hd n)) d++[d]):=by unfold Hid;rw[Xd,tm (lS.2 hm)]
           rw[tu hm]at th;have hszd:=HBd.out.size;clear hm
           go_wp2_with (at_builtin;refine wpList_append_own _ rfl _ _ 22 rfl W1.heap.size 3 j0 _ 1 8 Tryz.underlying22 hj0 hy0 hy1 hy2 rfl (by decide) _ _ _ rfl (HOd.out.alloc _) ⟨wr.heap.size,0,none⟩ 1 1 [.int .i64 (d:Int)] rfl rfl ?c1k1 ?c1k2 ?c1k3 ?c1k4 ?c1k5 ?_)
           try (case c1k1=>exact zM _ _ _ _ rfl)
           try (case c1k2=>intro u hu;simp at hu;rcases hu with rfl;rfl)
           try (case c1k3=>unfold maxLen;omega)
           try (case c1k4=>omega)
           try (case c1k5=>simp;omega)
           intro v6 w6 zK5 zK3 _;have HB6:Hid (Below W1.heap.size W1 w6):=(HBd.out.alloc hszd _).grown zK3 (by simp;omega) (zV HOd.out);have HO6:Hid (w6.ownsRow W1.heap.size 3 1 v6 (xH (yN (tM hd n)) (d+1)).length (dV (xH (yN (tM hd n)) (d+1)))):=by unfold Hid;rw[HE.out,QD,tl];exact zK5
           clear zK5 zK3;go_wp2_with fail
           go_roundw
           case rel=>exact⟨d+1,by omega,by go_num,HB6,HO6⟩
           case measure=>simp[intOf];omega
          ·have HE:Hid (xH (yN (tM hd n)) (d+1)=xH (yN (tM hd n)) d):=by unfold Hid;rw[Xd,tb (fun h1=>hm (lS.1 h1))]
           rw[tq hm]at th;clear hm;go_wp2_with fail
           go_roundw
           case rel=>exact⟨d+1,by omega,by go_num,HBd,by rw[HE.out];exact HOd⟩
           case measure=>simp[intOf];omega
         ·obtain rfl:h=d:=by omega
          have c4:¬(h:Int)<(h:Int):=by omega
          have HLd:=zA (HL1.out.below HBd.out);have HXd:=zA (HXT.out.below HBd.out);obtain⟨oa',oc',e9,hlc,-,-⟩:=gL HOd.out;simp only[dm]at e9;obtain⟨rfl,-,rfl⟩:=e9;have hl4:(xH (yN (tM hd n)) h).length<=4:=by have:=QC (yN (tM hd n)) h;omega
          have HSu:=zA (fun w' (hb:Below wr.heap.size wr w')=>zI5 w' sa oa sn sc oc (xH (yN (tM hd n)) h) ((HF31.out.below HBd.out).below hb) (hlc.below hb) hl4);have HGu:=zA (fun w' (hb:Below wr.heap.size wr w')=>js w' ta oa tn tc oc (xH (yN (tM hd n)) h) ((HF41.out.below HBd.out).below hb) (hlc.below hb) hl4)
          have HCx:=zA (fun w' (hb:Below wr.heap.size wr w')=>(show w'.cell? ⟨gx,1,none⟩=some (.slice sa sn sc)/\w'.cell? ⟨gx,2,none⟩=some (.slice ta tn tc)/\w'.cell? ⟨gx,3,none⟩=some (.bool b) by
           have hc:=(HXd.out.below hb).cel;obtain⟨g1,e1,q1⟩:=hc.at (j:=1) rfl;obtain⟨g2,e2,q2⟩:=hc.at (j:=2) rfl;obtain⟨g3,e3,q3⟩:=hc.at (j:=3) rfl;obtain rfl:gx=g1:=by simpa using e1
           obtain rfl:gx=g2:=by simpa using e2
           obtain rfl:gx=g3:=by simpa using e3
           exact⟨q1,q2,q3⟩))
          obtain⟨q1,q2,q3⟩:=HCx.out wr (tg _ _);have lgx:=yF q1;have ngx:wr.heap.size≠gx:=by omega
          clear hlc HTw HF31 HF41 HXT HXc HL1;generalize hlw:xH (yN (tM hd n)) h=low at *;have HLw:=zA hlw;clear hlw
          go_upto_region 31 with fail
          go_cut [16] from 112 to 123 (fun v16 wx=>∃(gr:Nat) (ps:List xJ) (ts:List yB) (pa qa:Option Addr) (pc qc:Nat),v16=.pointer (some ⟨gr,0,none⟩)/\Hid (wx.heap[gr]? = some (.cells #[.int .i64 (h:Int),.bool b,.slice pa ps.length pc,.slice qa ts.length qc] 85 (0,0)))/\Hid (xG wx 89 pa (ps.flatMap nT))/\Hid (xG wx 87 qa (ts.flatMap nS))/\Hid (jG low ps/\tF low ts)/\Hid (Below wr.heap.size wr wx))
          case first =>
           have hzc:∀(w':World) (gr:Nat),w'.heap[gr]? = some (.cells #[.int .i64 0,.bool false,.slice none 0 0,.slice none 0 0] 85 (0,0))->(w'.cell? ⟨gr,0,none⟩=some (.int .i64 0)/\w'.cell? ⟨gr,1,none⟩=some (.bool false)/\w'.cell? ⟨gr,2,none⟩=some (.slice none 0 0)/\w'.cell? ⟨gr,3,none⟩=some (.slice none 0 0))/\∀k,w'.frozen? ⟨gr,k,none⟩=false:=fun w' gr hz=>⟨⟨zB hz 0,zB hz 1,zB hz 2,zB hz 3⟩,fun k=>by simp[World.frozen?,hz]⟩;have HZc:=zA hzc;clear hzc
           go_region_held3 (fun w'=>w'.cell? ⟨gx,1,none⟩=some (.slice sa sn sc)/\w'.cell? ⟨gx,2,none⟩=some (.slice ta tn tc)/\w'.cell? ⟨gx,3,none⟩=some (.bool b)) (go_keep) (first
            | (go_at_call 42;refine(HSu.out _ (po (tg _ _))).mono ?_;rintro e w6 ⟨ps,v6,rfl,hps,ho6,hb6⟩;obtain⟨pa,pc,rfl,hcp⟩:=vO ho6;have hB6:Below wr.heap.size wr w6:=(po (tg _ _)).trans hb6;obtain⟨q1,q2,q3⟩:=HCx.out w6 hB6;have n6:w6.heap.size≠gx:=by have:=hB6.size;omega)
            | (go_at_call 42;refine(HSu.out _ (po (fj (j1 _) (.cells #[.int .i64 0,.bool false,.slice none 0 0,.slice none 0 0] 85)))).mono ?_;rintro e w6 ⟨ps,v6,rfl,hps,ho6,hb6⟩;obtain⟨pa,pc,rfl,hcp⟩:=vO ho6;have hB6:Below wr.heap.size wr w6:=(po (fj (j1 _) _)).trans (hb6.mono (ph (zY _ _)));obtain⟨q1,q2,q3⟩:=HCx.out w6 hB6;have hZ6:w6.heap[wr.heap.size]? = some (.cells #[.int .i64 0,.bool false,.slice none 0 0,.slice none 0 0] 85 (0,0)):=(hb6.block _ (zY _ _)).trans (sF (zG _ _)))
            | (go_at_call 43;refine(HGu.out _ hB6).mono ?_;rintro e w7 ⟨ts,v7,rfl,hts,ho7,hb7⟩;obtain⟨qa,qc,rfl,hcq⟩:=vO ho7;have hB7:Below wr.heap.size wr w7:=hB6.trans (hb7.mono hB6.size);obtain⟨q1,q2,q3⟩:=HCx.out w7 hB7;have hcp7:=hcp.below hb7;first|(have hZ7:=(hb7.block _ (zL hZ6)).trans hZ6;obtain⟨⟨z0,z1,z2,z3⟩,zf⟩:=HZc.out w7 _ hZ7;have zf0:=zf 0;have zf1:=zf 1;have zf2:=zf 2;have zf3:=zf 3;clear hZ6)|(have n7:w7.heap.size≠gx:=by have:=hB7.size;omega))
            | (go_at_call 43;refine(HGu.out _ (hB6.alloc hB6.size (.cells #[.int .i64 0,.bool false,.slice none 0 0,.slice none 0 0] 85))).mono ?_;rintro e w7 ⟨ts,v7,rfl,hts,ho7,hb7⟩;obtain⟨qa,qc,rfl,hcq⟩:=vO ho7;have hB7:Below wr.heap.size wr w7:=(hB6.alloc hB6.size _).trans (hb7.mono (p7 hB6.size (ph (zY _ _))));obtain⟨q1,q2,q3⟩:=HCx.out w7 hB7;have hcp7:=(hcp.below (fj (j1 _) (.cells #[.int .i64 0,.bool false,.slice none 0 0,.slice none 0 0] 85))).below hb7;have hZ7:w7.heap[w6.heap.size]? = some (.cells #[.int .i64 0,.bool false,.slice none 0 0,.slice none 0 0] 85 (0,0)):=(hb7.block _ (zY _ _)).trans (zG _ _);obtain⟨⟨z0,z1,z2,z3⟩,zf⟩:=HZc.out w7 _ hZ7;have zf0:=zf 0;have zf1:=zf 1;have zf2:=zf 2;have zf3:=zf 3))
           all_goals
            go_wp2_with fail
            go_meet
            first
             | exact⟨_,ps,ts,pa,qa,pc,qc,rfl,zA (set4 hZ7),zA (Jb hcp7 hZ7 (by decide)),zA (Jb hcq hZ7 (by decide)),zA ⟨hps,hts⟩,zA (Cj hB7 (by first|exact j1 _|exact hB6.size))⟩
             | exact⟨_,ps,ts,pa,qa,pc,qc,rfl,zA (zG _ _),zA (hcp7.below (fj (j1 _) _)),zA (hcq.below (fj (j1 _) _)),zA ⟨hps,hts⟩,zA (hB7.alloc hB7.size _)⟩
          case rest =>
           clear q1 q2 q3 ngx lgx HSu HGu HCx HOd HBd;obtain⟨gr,ps,ts,pa,qa,pc,qc,rfl,HXr,HCp,HCq,HPt,HBc⟩:=hcut;have HLc:=zA (HLd.out.below HBc.out);have HXx:=zA (HXd.out.below HBc.out);obtain⟨ra9,rc9,rfl⟩:=zQ HLc.out.own;have hx1:fY wc (⟨h,b,ps,ts⟩,.slice pa ps.length pc,.slice qa ts.length qc):=⟨⟨pa,pc,rfl,HCp.out⟩,qa,qc,rfl,HCq.out⟩;have hk1:nJ (yN (tM hd n)) ⟨h,b,ps,ts⟩:=⟨hh4,by show jG (xH (yN (tM hd n)) h) ps;rw[HLw.out];exact HPt.out.1,by show tF (xH (yN (tM hd n)) h) ts;rw[HLw.out];exact HPt.out.2⟩;have HAp:=zA (fun (wz w9:World) (v:Value) (hz:Below wc.heap.size wc wz) (hg:wz.grownBy w9 (Value.slice ra9 i rc9).ownBlock) (zK6:w9.ownsRow B3 85 4 v (i+1) (xs.flatMap zE5++zE5 (⟨h,b,ps,ts⟩,.slice pa ps.length pc,.slice qa ts.length qc)))=>BL.app HLc.out hlt1 hgtB hx1 hk1 HS1.out hz hg zK6);have HXg:=zA (fun (wz w9:World) (hz:Below wc.heap.size wc wz) (hg:wz.grownBy w9 (Value.slice ra9 i rc9).ownBlock)=>(HXx.out.below hz).grown (kE HLc.out.own hz) (by decide) hg);have HO9:=zA HLc.out.own;have hszB:=HLc.out.sz;have m6:=HLc.out.mad.cells.2.2.1;have mfz:=HLc.out.mad.free 6;have q0:wc.cell? ⟨gr,0,none⟩=some (.int .i64 (h:Int)):=zB HXr.out 0;have q1:wc.cell? ⟨gr,1,none⟩=some (.bool b):=zB HXr.out 1;have q2:wc.cell? ⟨gr,2,none⟩=some (.slice pa ps.length pc):=zB HXr.out 2;have q3:wc.cell? ⟨gr,3,none⟩=some (.slice qa ts.length qc):=zB HXr.out 3;have lgr:=zL HXr.out;have lgm:=HLc.out.mad.lt;have n8:wc.heap.size≠w.heap.size+1:=by omega
           have n9:wc.heap.size≠gr:=by omega
           clear hx1 hk1
           go_upto_region 32 with fail
           go_cut [16] from 124 to 133 (fun v16 wx=>∃(gg cap:Nat),v16=.pointer (some ⟨gr,0,none⟩)/\Hid (BL w wx gt B3 (.cells #[.slice la ln lc,.slice wa wn wk,.slice (some ⟨g,o,none⟩) rn rc] 25 (0,0)) lo hi hd n (i+1) (.slice (some ⟨gg,0,none⟩) (i+1) cap) ov ha hc (xs++[((⟨h,b,ps,ts⟩:vP),.slice pa ps.length pc,.slice qa ts.length qc)]))/\Hid (xG wx 81 (some ⟨gx,0,none⟩) [.int .i64 (hd i),.slice sa sn sc,.slice ta tn tc,.bool b,.int .i64 oi]))
           case first =>
            go_region_law ((refine step_append_lies _ (by rfl) _ _ _ (by rfl) B3 85 i0 _ 4 64 Tryz.underlying44 hi0 hz0 hz1 hz2 rfl (by decide) (.slice ra9 i rc9) i (xs.flatMap zE5) (by rfl) (HO9.out.drew.alloc _) ⟨wc.heap.size,0,none⟩ 1 1 [.int .i64 (h:Int),.bool b,.slice pa ps.length pc,.slice qa ts.length qc] (by rfl) (by rfl) (zM _ _ _ _ rfl) (by simp[Value.oneCell']) (by decide) (by unfold maxLen;omega) (by omega) (by simp;omega) (wc.heap.size+1) (by simp) ?_;intro gg cap w9 zKE zK7 hat hlt9;obtain⟨hM9,hL9⟩:=HAp.out _ w9 _ (((tg _ _).drew).alloc (j1 _) _) zK7 zKE;have m6':=hM9.cells.2.2.1;have mfz':=hM9.free 6;have hX9:=HXg.out _ w9 (((tg _ _).drew).alloc (j1 _) _) zK7;obtain⟨cs9,mb9,-⟩:=hM9.blk))
            all_goals
             have HL9:=zA hL9;have HX9:=zA (hX9.set mb9 (by decide) (j:=6) (u:=.slice (some ⟨gg,0,none⟩) (i+1) cap));clear hL9 hX9 mb9 hM9 zKE zK7;go_wp2_with fail
             go_meet
             exact⟨gg,cap,rfl,HL9,HX9⟩
           case rest =>
            clear q0 q1 q2 q3 m6 mfz HLc HXx HAp HXg HO9 HXr HCp HCq HBc HLd HXd HPt;obtain⟨gg,cap,rfl,HL5,HX5⟩:=hcut;generalize hxs:xs++[((⟨h,b,ps,ts⟩:vP),Value.slice pa ps.length pc,Value.slice qa ts.length qc)]=xs2 at *;generalize Value.slice (some ⟨gg,0,none⟩) (i+1) cap=rv2 at *;clear hxs;go_wp2_with fail
            go_loopw [17] (fun jv w6=>∃(j:Nat) (ov2:Nat->Nat->Bool),i+1<=j/\j<=n/\jv=.int .i64 (j:Int)/\Hid (BL w w6 gt B3 (.cells #[.slice la ln lc,.slice wa wn wk,.slice (some ⟨g,o,none⟩) rn rc] 25 (0,0)) lo hi hd n (i+1) rv2 ov2 ha hc xs2)/\Hid (xG w6 81 (some ⟨gx,0,none⟩) [.int .i64 (hd i),.slice sa sn sc,.slice ta tn tc,.bool b,.int .i64 oi])) (fun jv _=>n-(intOf jv).toNat)
            case atStart=>exact⟨i+1,ov,j1 _,by omega,by go_num,HL5,HX5⟩
            case round =>
             clear HL5 HX5;obtain⟨j,ov2,hj1,hj2,rfl,HL6,HX6⟩:=hrel;by_cases hltj:j<n
             ·have c6:(j:Int)<(n:Int):=by omega
              have c7:(j:Int)<(rn:Int):=by omega
              have x2:wr.cell? ⟨w.heap.size,2,none⟩=some (.slice (some ⟨g,o,none⟩) rn rc):=zB HL6.out.box 2;obtain⟨g',o',e9,zKU⟩:=(HR.out wr HL6.out.bel).blk (by omega);simp only[ly,Addr.mk.injEq,and_true]at e9;obtain⟨rfl,rfl⟩:=e9;obtain⟨_,_,_,_,_,_,_,_,⟨r0,-⟩,f1,-⟩:=zKU j (by omega);have HP1:=zA (Yj wr (hd j) 4 f1 (by decide) (by decide));obtain⟨k,hk⟩:∃k:Nat,wK (hd j) 4=(k:Int):=⟨(wK (hd j) 4).toNat,by have:=qN (hd j) 4 (by decide);omega⟩;have HSj:Hid ((tM hd n).getD j 0=k):=by unfold Hid;simp[tM,List.getD,hltj,hk]
              rw[hk]at HP1;clear zKU hk f1;go_wp2_with fail
              refine HP1.out.mono ?_;rintro e w4 ⟨rfl,hw⟩;obtain rfl:=hw.symm;clear r0 x2 HP1;obtain⟨gx',ex,x4⟩:=HX6.out.cel.at (j:=4) rfl;obtain rfl:gx=gx':=by simpa using ex
              have hi8:i<8:=by omega
              have hj8:j<8:=by omega
              have i8:(i:Int)<8:=by omega
              have j8:(j:Int)<8:=by omega
              have mo:=HL6.out.mad.cells.2.2.2.1 i j hi8 hj8;have mfz:=HL6.out.mad.free (7+i*8+j);have zKN:=zA (fun (v:Bool) (hv:v=true->k=h)=>HL6.out.setO hlt1 hgtB hi8 hj8 v (fun e=>⟨by omega,hltj,by rw[HSi.out,HSj.out];exact(hv e).symm⟩));obtain⟨cs9,mb9,-⟩:=HL6.out.mad.blk;have HXs:=zA (fun v=>HX6.out.set mb9 (by decide) (j:=7+i*8+j) (u:=Value.bool v));clear mb9 ex;have nx:w.heap.size+1≠gx:=by omega
              by_cases hkh:k=h
              ·have b0:((k:Int)==(h:Int))=true:=by rw[beq_iff_eq];omega
               have HK:=zA hkh;clear hkh
               go_upto_region 37 with fail
               go_region_held3 (fun w'=>w'.cell? ⟨gx,4,none⟩=some (.int .i64 oi)) (go_keep) (fail)
               all_goals
                generalize (bits BinOp.and IntKind.i64 (oi/2 ^ j) 1==1)=bv at *;have HL7:=zA ((zKN.out bv (fun _=>HK.out)).below (po (tg _ _)));have HX7:=zA ((HXs.out bv).below (po (tg _ _)));clear zKN HXs HL6 HX6 mo mfz x4;go_wp2_with fail
                go_roundw
                case rel=>exact⟨j+1,_,by omega,by omega,by go_num,HL7,HX7⟩
                case measure=>simp[intOf];omega
              ·have b0:((k:Int)==(h:Int))=false:=by rw[mh];omega
               have b1:(k==h)=false:=by rw[mh];exact hkh
               have b2:¬(k:Int)=(h:Int):=by omega
               go_upto_region 37 with fail
               go_region
               all_goals
                have HL7:=zA ((zKN.out false (fun e=>by cases e)).below (po (tg _ _)));have HX7:=zA ((HXs.out false).below (po (tg _ _)));clear zKN HXs HL6 HX6 mo mfz x4;go_wp2_with fail
                go_roundw
                case rel=>exact⟨j+1,_,by omega,by omega,by go_num,HL7,HX7⟩
                case measure=>simp[intOf];omega
             ·have c6:¬(j:Int)<(n:Int):=by omega
              go_wp2_with fail
              go_roundw
              case rel=>exact⟨i+1,rv2,ov2,xs2,by omega,by go_num,HL6⟩
              case measure=>simp[intOf];omega
       ·obtain rfl:n=i:=by omega
        have c2:¬(n:Int)<(n:Int):=by omega
        obtain⟨ra9,rc9,rfl⟩:=zQ HL.out.own
        have HQ:Hid (∃g M,Ending.returned (.pointer (some ⟨w.heap.size+1,0,none⟩))=.returned (.pointer (some ⟨g,0,none⟩))/\yD M/\pK wr g M/\Below w.heap.size w wr):=by
         have hl:(xs.map Prod.fst).map vP.head=tM hd n:=by rw[List.map_map];exact HL.out.len
         have hln:(xs.map Prod.fst).length=n:=by have:=congrArg List.length HL.out.len;simpa[tM] using this
         obtain⟨ra8,rc8,e8,hcr⟩:=vO HL.out.own;simp only[dm]at e8;obtain⟨rfl,-,rfl⟩:=e8;refine⟨w.heap.size+1,⟨lo,hi,xs.map Prod.fst,ov,yN (tM hd n)⟩,rfl,⟨HN3.out,by show (xs.map Prod.fst).length<=8;omega,by show yN (tM hd n)=_;rw[hl],fun r hr=>?_,fun a b h=>?_⟩,⟨ra9,ha,rc9,hc,xs,rfl,?_,hcr,HL.out.rows,HL.out.hds⟩,HL.out.bel⟩
         ·obtain⟨x,hx,rfl⟩:=p8.1 hr
          exact HL.out.oks x hx
         ·show a<b/\b<(xs.map Prod.fst).length/\((xs.map Prod.fst).map vP.head).getD a 0=((xs.map Prod.fst).map vP.head).getD b 0
          rw[hl,hln];exact HL.out.ovr a b h
         ·show qH wr (w.heap.size+1) lo hi (.slice ra9 (xs.map Prod.fst).length rc9) ov (.slice ha (yN (tM hd n)).length hc)
          rw[hln];exact HL.out.mad
        clear HL;obtain⟨g9,M,e9,h1,h2,h3⟩:=HQ.out;obtain rfl:w.heap.size+1=g9:=by simpa using e9
        have HM9:=zA (And.intro h1 (And.intro h2 h3));clear e9 h1 h2 h3 HQ;go_wp2_with fail
        go_ret
        first|exact⟨_,M,rfl,HM9.out.1,HM9.out.2.1,HM9.out.2.2,mw _⟩|exact⟨_,rfl,M,HM9.out.1,HM9.out.2.1,HM9.out.2.2,mw _⟩
theorem ju(w:World)(la wa ra:Option Addr)(ln lc wn wk rn rc:Nat)(hd:Nat->Int)(hL:lF w la ln)(hW:lF w wa wn)(hR:Kh w ra rn hd) :
 Calls Tryz.prog 10 #[.agg #[.slice la ln lc,.slice wa wn wk,.slice ra rn rc]] w fun e w'=>∃g M,e=.returned (.pointer (some ⟨g,0,none⟩))/\yD M/\pK w' g M/\Below w.heap.size w w' :=
 (Gq w la wa ra ln lc wn wk rn rc hd hL hW hR).mono fun _ _ ⟨g,M,h1,h2,h3,h4,_⟩=>⟨g,M,h1,h2,h3,h4⟩
end Go.Proofs.YtnbpdffdnphbeabGreatDoor
