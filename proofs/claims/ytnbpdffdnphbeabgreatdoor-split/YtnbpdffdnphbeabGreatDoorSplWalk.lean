import Derived.Test.YtnbpdffdnphbeabGreatDoorPSpl0
import Derived.Test.YtnbpdffdnphbeabGreatDoorKpLaw3
import Derived.Test.YtnbpdffdnphbeabGreatDoorFFacts
set_option maxHeartbeats 4000000
set_option maxRecDepth 100000
namespace Go.Proofs.YtnbpdffdnphbeabGreatDoor
open Go.RowKit
variable{wh:Bool}{hv:Int}{ts:List zR}{b p1 p2 gm qc gh B g:Nat}{lo hi:Nat->Int}{qa:Option Addr}{pv:Value}{wx w:World}
structure SpF(w wx:World)(la wa:Option Addr)(ln lc wn wk:Nat)(ra:Option Addr)(rn rc:Nat)(hd:Nat->Int):Prop where
 box:wx.heap[w.heap.size]? = some (.cells #[.slice la ln lc,.slice wa wn wk,.slice ra rn rc] 25 (0,0))
 raw:XY wx ra rn hd
 pos:0<rn
 bel:Below w.heap.size w wx
theorem zHL(h:wx.heap[g]? = some (.cells #[.int .i64 0,.slice none 0 0,.slice none 0 0,.bool true,.int .i64 0] 81 (0,0))):XY wx (some ⟨g,0,none⟩) 1 (fun _=>0):=by
 refine⟨fun _=>⟨g,0,rfl,fun i hi=>?_⟩,by unfold maxLen;decide⟩;obtain rfl:i=0:=by omega
 refine⟨none,0,0,none,0,0,true,0,⟨zB h 0,zB h 1,zB h 2,zB h 3,zB h 4⟩,⟨by decide,by decide⟩,⟨by decide,by decide⟩,?_,?_⟩
 ·exact⟨fun _=>0,⟨fun h=>absurd h (by decide),p7 _,fun i h=>absurd h (by omega)⟩⟩
 ·exact⟨fun h=>absurd h (by decide),p7 _⟩
structure zGV(w wr:World)(b g i:Nat)(lo hi:Nat->Int)(hv:Int)(wh:Bool)(pv:Value)(qa:Option Addr)(qc:Nat)(ts:List zR):Prop where
 box:wr.heap[b]? = some (.cells #[.int .i64 hv,.bool wh,pv,.slice qa ts.length qc] 85 (0,0))
 mad:∃rv ov hv,uX wr g lo hi rv ov hv
 tst:mO w.heap.size wr 87 qa ((dP i ts).flatMap mT)
 bel:Below w.heap.size w wr
theorem zGV.same{wr:World}{i:Nat}(h:zGV w wr b g i lo hi hv wh pv qa qc ts)(hi2:i<ts.length)(hk:(ts.getD i D9).kind≠2):zGV w wr b g (i+1) lo hi hv wh pv qa qc ts:=⟨h.box,h.mad,by rw[qw hi2 hk];exact h.tst,h.bel⟩
theorem zGV.set{wr:World}{i gq:Nat}(h:zGV w wr b g i lo hi hv wh pv (some ⟨gq,0,none⟩) qc ts)(hB:w.heap.size<=gq)(hi2:i<ts.length)(hk:(ts.getD i D9).kind=2):zGV w (wr.setCell ⟨gq,i*8+3,none⟩ (.int .i64 0)) b g (i+1) lo hi hv wh pv (some ⟨gq,0,none⟩) qc ts:=by
 have hq:∃cs,wr.heap[gq]? = some (.cells cs 87 (0,0)):=by
  rcases h.tst with q|⟨g',cs,-,h1,h2,-⟩
  ·have:=congrArg List.length q
   rw[dC mT 8 sK,tO]at this;simp at this;omega
  ·obtain rfl:gq=g':=by simpa using h1
   exact⟨cs,h2⟩
 obtain⟨cs,hq⟩:=hq;have n1:b≠gq:=fun e=>by subst e;have:=h.box;rw[hq]at this;simp at this
 obtain⟨rv,ov,hv2,hm⟩:=h.mad
 have n2:g≠gq:=fun e=>by
  subst e;obtain⟨cs2,hm,-⟩:=hm.blk;rw[hq]at hm;simp at hm
 exact⟨lK h.box n1,⟨rv,ov,hv2,hm.other n2⟩,zE5 h.tst hi2 hk,h.bel.setCell hB _⟩
structure zg(w wx:World)(b p1 p2 gm gh B:Nat)(lo hi:Nat->Int)(hv:Int)(wh:Bool)(pv:Value)(qa:Option Addr)(qc:Nat)(ts:List zR)(n:Nat)(rv:Value)(xs:List (xP × Value × Value)):Prop where
 box:wx.heap[b]? = some (.cells #[.int .i64 hv,.bool wh,pv,.slice qa ts.length qc] 85 (0,0))
 pt1:wx.heap[p1]? = some (.cells #[.bool false,.bool false,.int .i64 1,.int .i64 (-1),.int .i64 (-1)] 89 (0,0))
 pt2:wx.heap[p2]? = some (.cells #[.bool false,.bool false,.int .i64 2,.int .i64 (-1),.int .i64 (-1)] 89 (0,0))
 mad:uX wx gm lo hi rv (fun _ _=>false) (.slice (some ⟨gh,0,none⟩) 1 1)
 hds:yZ wx 3 (some ⟨gh,0,none⟩) (fK [0])
 own:wx.ownsRow B 85 4 rv n (xs.flatMap Cb)
 rows:∀x∈xs,lY wx x
 tst:yZ wx 87 qa (ts.flatMap mT)
 bel:Below w.heap.size w wx
 lt:(b<B/\p1<B/\p2<B/\gm<B)/\B<=wx.heap.size
 gml:w.heap.size<=gm
 ne:b≠gm/\p1≠gm/\p2≠gm
theorem zg.below{wy:World}{n:Nat}{rv:Value}{xs:List (xP × Value × Value)}(h:zg w wx b p1 p2 gm gh B lo hi hv wh pv qa qc ts n rv xs)(hb:Below wx.heap.size wx wy):zg w wy b p1 p2 gm gh B lo hi hv wh pv qa qc ts n rv xs :=
 ⟨(hb.block _ (zJ h.box)).trans h.box,(hb.block _ (zJ h.pt1)).trans h.pt1,(hb.block _ (zJ h.pt2)).trans h.pt2,h.mad.below hb,h.hds.below hb,uV h.own hb,fun x hx=>(h.rows x hx).below hb,h.tst.below hb,h.bel.trans (hb.mono h.bel.size),⟨h.lt.1,p8 h.lt.2 hb.size⟩,h.gml,h.ne⟩
theorem zg.app{wc wz w9:World}{n:Nat}{rv:Value}{xs:List (xP × Value × Value)}{x:xP × Value × Value}{v:Value}(h:zg w wc b p1 p2 gm gh B lo hi hv wh pv qa qc ts n rv xs)(hz:Below wc.heap.size wc wz)(hx:lY wz x)(hg:wz.grownBy w9 rv.ownBlock)(zL1:w9.ownsRow B 85 4 v (n+1) (xs.flatMap Cb++Cb x)) :
 uX w9 gm lo hi rv (fun _ _=>false) (.slice (some ⟨gh,0,none⟩) 1 1)/\(w9.heap[b]? = some (.cells #[.int .i64 hv,.bool wh,pv,.slice qa ts.length qc] 85 (0,0))/\w9.heap[p1]? = some (.cells #[.bool false,.bool false,.int .i64 1,.int .i64 (-1),.int .i64 (-1)] 89 (0,0))/\w9.heap[p2]? = some (.cells #[.bool false,.bool false,.int .i64 2,.int .i64 (-1),.int .i64 (-1)] 89 (0,0)))/\zg w (w9.setCell ⟨gm,6,none⟩ v) b p1 p2 gm gh B lo hi hv wh pv qa qc ts (n+1) v (xs++[x]):=by
 have hZ:=h.below hz;obtain⟨⟨l1,l2,l3,l4⟩,l5⟩:=hZ.lt;obtain⟨n1,n2,n3⟩:=hZ.ne;have hb:Below B wz w9:=(tg B wz).grown hg l5 (zU hZ.own);have hM:=hZ.mad.down hb l4;obtain⟨cs,m1,-⟩:=hM.blk;have hB:w.heap.size<=B:=p8 hZ.gml (ph l4);refine⟨hM,⟨(hb.block _ l1).trans hZ.box,(hb.block _ l2).trans hZ.pt1,(hb.block _ l3).trans hZ.pt2⟩,lK ((hb.block _ l1).trans hZ.box) n1,lK ((hb.block _ l2).trans hZ.pt1) n2,lK ((hb.block _ l3).trans hZ.pt2) n3,hM.setR _,(hZ.hds.grown hZ.own (by decide) hg).set m1 (by decide),?_,fun y hy=>?_,(hZ.tst.grown hZ.own (by decide) hg).set m1 (by decide),(hZ.bel.trans (hb.mono hB)).setCell hZ.gml _,⟨⟨l1,l2,l3,l4⟩,?_⟩,hZ.gml,n1,n2,n3⟩
 ·rw[lu];exact yW (by simpa using zL1) (by omega)
 ·rcases pu.1 hy with h' | h'
  ·exact((hZ.rows y h').grown hZ.own hg).set m1
  ·rw[pr.1 h'];exact(hx.grown hZ.own hg).set m1
 ·have:=hb.size;simp;omega
theorem CV{wz:World}{c1:Nat}{n:Int}(h:wz.heap[g]? = some (.cells #[.bool false,.bool false,.int .i64 n,.int .i64 (-1),.int .i64 (-1)] 89 (0,0)))(hT:yZ wz 87 qa (ts.flatMap mT)):lY wz (cL wh n ts,.slice (some ⟨g,0,none⟩) 1 c1,.slice qa ts.length qc) :=
 ⟨⟨_,_,rfl,.inr ⟨g,_,_,rfl,h,fun j hj=>match j,hj with
  | 0,_=>rfl
  | 1,_=>rfl
  | 2,_=>rfl
  | 3,_=>rfl
  | 4,_=>rfl
  | j+5,hj=>absurd hj (by show ¬j+5<5;omega)⟩⟩,_,_,rfl,hT⟩
theorem zg.made{ra:Option Addr}{rc:Nat}{u1 u2 u3 u4:Value}(h:zg w wx b p1 p2 gm gh B lo hi hv wh pv qa qc ts 2 (.slice ra 2 rc) [(cL wh 1 ts,u1,u2),(cL (!wh) 2 ts,u3,u4)]):gM wx gm (bR lo hi wh ts):=by
 obtain⟨a,c,e,hc⟩:=vR h.own;simp only[cr]at e;obtain⟨rfl,-,rfl⟩:=e;exact⟨ra,some ⟨gh,0,none⟩,rc,1,_,rfl,h.mad,hc,h.rows,h.hds⟩
theorem zBP(w:World)(la wa ra ga:Option Addr)(ln lc wn wk rn rc gn gc:Nat)(hd:Nat->Int)(hL:bK w la ln)(hW:bK w wa wn)(hR:XY w ra rn hd)(hG:bK w ga gn)(hT:rL w)(hK:∀M,yI M->¬zJS M->∃HB,zGZ M HB) :
 Calls Tryz.prog 8 #[.agg #[.slice la ln lc,.slice wa wn wk,.slice ra rn rc],.slice ga gn gc] w fun e w'=>e=.returned (.bool true)/\Below w.heap.size w w':=by
 obtain⟨i0,hi0,hz0,hz1,hz2⟩:=info_parts jr;have hfewR:=hR.few;unfold maxLen at hfewR;have HBd:=zA (fun w' (hb:Below w.heap.size w w') ra rn rc hd (hR:XY w' ra rn hd)=>GC w' la wa ra ln lc wn wk rn rc hd (hL.below hb) (hW.below hb) hR);have HTb:=zA (fun w' (hb:Below w.heap.size w w')=>hT.below hb);have HGb:=zA (fun w' (hb:Below w.heap.size w w')=>hG.below hb);have HRb:=zA (fun w' (hb:Below w.heap.size w w')=>hR.below hb);have HK:=zA hK;clear hL hW hR hG hT hK
 go_enter Tryz.func8,Tryz.ntmps8
 go_upto_region 1 with fail
 have HB0:Hid (Below w.heap.size w (w.alloc (.cells #[.slice la ln lc,.slice wa wn wk,.slice ra rn rc] 25))):=gb (j1 _) _;have HX0:Hid ((w.alloc (.cells #[.slice la ln lc,.slice wa wn wk,.slice ra rn rc] 25)).heap[w.heap.size]? = some (.cells #[.slice la ln lc,.slice wa wn wk,.slice ra rn rc] 25 (0,0))):=zG _ _;have hs0:w.heap.size<(w.alloc (.cells #[.slice la ln lc,.slice wa wn wk,.slice ra rn rc] 25)).heap.size:=zV _ _;generalize w.alloc (.cells #[.slice la ln lc,.slice wa wn wk,.slice ra rn rc] 25)=w0 at *;have x2:w0.cell? ⟨w.heap.size,2,none⟩=some (.slice ra rn rc):=zB HX0.out 2;have y2:w0.frozen? ⟨w.heap.size,2,none⟩=false:=by have:=HX0.out;simp[World.frozen?,this]
 have sX:w0.heap.size≠w.heap.size:=by omega
 have ne1:w.heap.size≠w0.heap.size:=by omega
 go_upto_if 25 with fail
 go_cut [2] from 22 to 28 (fun v2 wx=>v2=.pointer (some ⟨w.heap.size,0,none⟩)/\∃(ra:Option Addr) (rn rc:Nat) (hd:Nat->Int),Hid (SpF w wx la wa ln lc wn wk ra rn rc hd))
 case first =>
  by_cases h0:rn=0
  ·subst h0
   have HQ:Hid (SpF w ((w0.setCell ⟨w.heap.size,2,none⟩ (.slice (some ⟨w0.heap.size,0,none⟩) 1 1)).alloc (.cells #[.int .i64 0,.slice none 0 0,.slice none 0 0,.bool true,.int .i64 0] 81)) la wa ln lc wn wk (some ⟨w0.heap.size,0,none⟩) 1 1 (fun _=>0)):=by
    refine⟨zS ?_,zHL (yS _ _ _ (by simp[World.setCell])),by decide,(HB0.out.setCell (j1 _) _).alloc (by simpa[World.setCell] using ph hs0) _⟩;rw[tr _ _ 2 _ _ _ HX0.out];rfl
   go_wp2_with fail
   go_meet
   exact⟨rfl,_,_,_,_,HQ⟩
  ·have c1:((rn:Int)==0)=false:=by rw[mq];omega
   have c2:¬(rn:Int)=0:=by omega
   go_wp2_with fail
   go_meet
   exact⟨rfl,ra,rn,rc,hd,zA ⟨HX0.out,HRb.out _ HB0.out,by omega,HB0.out⟩⟩
 case rest =>
  obtain⟨rfl,ra',rn',rc',hd',HF⟩:=hcut;clear x2 y2 HX0 HB0 hs0 sX ne1 HRb hfewR;have f0:wc.cell? ⟨w.heap.size,0,none⟩=some (.slice la ln lc):=zB HF.out.box 0;have f1:wc.cell? ⟨w.heap.size,1,none⟩=some (.slice wa wn wk):=zB HF.out.box 1;have f2:wc.cell? ⟨w.heap.size,2,none⟩=some (.slice ra' rn' rc'):=zB HF.out.box 2;have HBe:=zA (HBd.out wc HF.out.bel ra' rn' rc' hd' HF.out.raw);clear HBd;go_wp2_with fail
  refine HBe.out.mono ?_;rintro e w2 ⟨g,M,rfl,hO,hMB,hb2,hg,hpos⟩;have HB2:Hid (Below w.heap.size w w2):=HF.out.bel.trans (hb2.mono HF.out.bel.size);have hp0:=hpos HF.out.pos;have HO:=zA hO;obtain⟨ra2,ha,rc2,hc,xs,hxs,hmad,hcr,hrul,hlow,hnew⟩:=hMB.mem
  obtain⟨⟨r0,pv,qv⟩,xr,rfl⟩:∃x0 xr,xs=x0::xr:=by
   cases xs with
   | nil=>rw[<-hxs]at hp0;simp at hp0
   | cons x r=>exact⟨x,r,rfl⟩
  have hr0:r0∈M.rules:=by rw[<-hxs];simp
  obtain⟨qa,qc,eq,hcelO⟩:=hnew _ (List.mem_cons_self ..);simp only at eq hcelO;subst eq;obtain⟨⟨pa,pc,ep,-⟩,-⟩:=hrul _ (List.mem_cons_self ..);simp only at ep;subst ep;obtain⟨h0,wh,ps,ts⟩:=r0;simp only at hcelO;have zLM:=zA (zDL ((hO.rules _ hr0).tests));have HOk:=zA (zD4 (wh:=wh) hO zLM.out);have hts6:ts.length<=6:=(hO.rules _ hr0).tests.2.1;obtain⟨gr,e0,k0⟩:=hcr.cel.at (j:=0) (v:=.int .i64 (h0:Int)) rfl;subst e0;obtain⟨gr',e1,k1⟩:=hcr.cel.at (j:=1) (v:=.bool wh) rfl;obtain rfl:gr=gr':=by simpa using e1
  obtain⟨gr',e2,k2⟩:=hcr.cel.at (j:=2) (v:=.slice pa ps.length pc) rfl;obtain rfl:gr=gr':=by simpa using e2
  obtain⟨gr',e3,k3⟩:=hcr.cel.at (j:=3) (v:=.slice qa ts.length qc) rfl;obtain rfl:gr=gr':=by simpa using e3
  have m6:=hmad.cells.2.2.1;have hn1:(0:Int)<(M.rules.length:Int):=by omega
  have lg:=hmad.lt;have lgr:=yQ k0
  have HSp:Hid (zGV w (w2.alloc (.cells #[.int .i64 (h0:Int),.bool wh,.slice pa ps.length pc,.slice qa ts.length qc] 85)) w2.heap.size g 0 M.lo M.hi (h0:Int) wh (.slice pa ps.length pc) qa qc ts):=by
   have hbA:Below w2.heap.size w2 (w2.alloc (.cells #[.int .i64 (h0:Int),.bool wh,.slice pa ps.length pc,.slice qa ts.length qc] 85)):=gb (j1 _) _;refine⟨zG _ _,⟨_,_,_,hmad.below hbA⟩,?_,HB2.out.trans (hbA.mono HB2.out.size)⟩;rw[FW];exact(hcelO.mono HF.out.bel.size).below hbA
  clear e1 e2 e3 hxs hcr hrul hlow hnew hMB hb2 hg hpos hmad hcelO hO f0 f1 f2 HBe HF hr0
  go_upto_region 5 with fail
  have HNu:=zA HO.out.nums;generalize w2.alloc (.cells #[.int .i64 (h0:Int),.bool wh,.slice pa ps.length pc,.slice qa ts.length qc] 85)=w3 at *;clear k0 k1 k2 k3 m6 hn1 lgr hp0;generalize M.lo=lo at *;generalize M.hi=hi at *;generalize w2.heap.size=b at *;go_wp2_with fail
  go_loopw [7] (fun iv wr=>∃(i:Nat),i<=ts.length/\iv=.int .i64 (i:Int)/\Hid (zGV w wr b g i lo hi (h0:Int) wh (.slice pa ps.length pc) qa qc ts)) (fun iv _=>ts.length-(intOf iv).toNat)
  case atStart=>exact⟨0,p7 _,rfl,HSp⟩
  case round =>
   obtain⟨i,hi6,rfl,HS⟩:=hrel;have b3:wr.cell? ⟨b,3,none⟩=some (.slice qa ts.length qc):=zB HS.out.box 3;by_cases zKZ:i<ts.length
   ·have c1:(i:Int)<(ts.length:Int):=by omega
    obtain⟨gq,hB,e,ck,fz⟩:=qx HS.out.tst zKZ;subst e;have HSn:=zA (fun hk=>HS.out.same zKZ hk);have HSs:=zA (fun hk=>HS.out.set hB zKZ hk);generalize (ts.getD i D9).kind=kd at *;by_cases hk:kd=2
    ·subst hk
     have HQ:=zA (HSs.out rfl);clear HSn HSs;go_wp2_with fail
     go_roundw
     case rel=>exact⟨i+1,by omega,by go_num,HQ⟩
     case measure=>simp[intOf];omega
    ·have HQ:=zA (HSn.out hk)
     have q1:(kd==2)=false:=by rw[mq];exact hk
     clear HSn HSs;go_wp2_with fail
     go_roundw
     case rel=>exact⟨i+1,by omega,by go_num,HQ⟩
     case measure=>simp[intOf];omega
   ·have c1:¬(i:Int)<(ts.length:Int):=by omega
    obtain rfl:i=ts.length:=by omega
    clear HSp;have b1:wr.cell? ⟨b,1,none⟩=some (.bool wh):=zB HS.out.box 1;obtain⟨rv,ov,hv,hmd⟩:=HS.out.mad;obtain⟨n0,n1,-⟩:=hmd.cells;have l0:=n0 0 (by decide);have l1:=n0 1 (by decide);have l2:=n0 2 (by decide);have u0:=n1 0 (by decide);have u1:=n1 1 (by decide);have u2:=n1 2 (by decide);have lgm:=hmd.lt;have lb:=zJ HS.out.box;clear n0 n1 hmd
    go_upto_region 10 with fail
    have Hmd:Hid (∀wx:World,wx.heap[wr.heap.size+1]? = some (.cells (zJZ (lo 0) (lo 1) (lo 2) (hi 0) (hi 1) (hi 2) (.slice (some ⟨wr.heap.size,0,none⟩) 1 1)) 48 (0,0))->uX wx (wr.heap.size+1) lo hi (.slice none 0 0) (fun _ _=>false) (.slice (some ⟨wr.heap.size,0,none⟩) 1 1)):=fun wx h=>zHM wx lo hi _ h
    go_cut [8] from 56 to 66 (fun v8 wx=>∃(gm gh:Nat),v8=.pointer (some ⟨gm,0,none⟩)/\Hid (uX wx gm lo hi (.slice none 0 0) (fun _ _=>false) (.slice (some ⟨gh,0,none⟩) 1 1)/\yZ wx 3 (some ⟨gh,0,none⟩) (fK [0])/\wr.heap.size<=gm/\Below wr.heap.size wr wx))
    case first =>
     generalize lo 0=lo0 at *;generalize lo 1=lo1 at *;generalize lo 2=lo2 at *;generalize hi 0=hi0 at *;generalize hi 1=hi1 at *;generalize hi 2=hi2 at *
     go_region_held3 (fun w'=>(w'.cell? ⟨g,0,none⟩=some (.int .i64 lo0)/\w'.cell? ⟨g,1,none⟩=some (.int .i64 lo1)/\w'.cell? ⟨g,2,none⟩=some (.int .i64 lo2))/\w'.cell? ⟨g,3+0,none⟩=some (.int .i64 hi0)/\w'.cell? ⟨g,3+1,none⟩=some (.int .i64 hi1)/\w'.cell? ⟨g,3+2,none⟩=some (.int .i64 hi2)) (go_keep) (fail)
     all_goals
      go_wp2_with fail
      go_meet
      refine⟨_,_,rfl,zA ⟨Hmd.out _ ?_,?_,mw _,?_⟩⟩
      ·refine tU ?_
       rw[zD5];exact yS _ _ _ (by simp)
      ·exact .inr ⟨_,_,_,rfl,tU (zS (zG _ _)),fun j hj=>match j,hj with
        | 0,_=>rfl
        | j+1,hj=>absurd hj (by show ¬j+1<1;omega)⟩
      ·exact pj ((gb (j1 _) _).alloc (ph (zV _ _)) _)
    case rest =>
     obtain⟨gm,gh,rfl,HMd⟩:=hcut;clear l0 l1 l2 u0 u1 u2 Hmd
     have HPm:Hid (zg w ((wc.alloc (.cells #[.bool false,.bool false,.int .i64 1,.int .i64 (-1),.int .i64 (-1)] 89)).alloc (.cells #[.bool false,.bool false,.int .i64 2,.int .i64 (-1),.int .i64 (-1)] 89)) b wc.heap.size (wc.heap.size+1) gm gh (wc.heap.size+2) lo hi (h0:Int) wh (.slice pa ps.length pc) qa qc (ts.map ut) 0 (.slice none 0 0) []):=by
      obtain⟨k1,k2,k3,k4⟩:=HMd.out;have hbl:Below wc.heap.size wc ((wc.alloc (.cells #[.bool false,.bool false,.int .i64 1,.int .i64 (-1),.int .i64 (-1)] 89)).alloc (.cells #[.bool false,.bool false,.int .i64 2,.int .i64 (-1),.int .i64 (-1)] 89)):=(gb (j1 _) _).alloc (ph (zV _ _)) _;have hbw:=k4.trans (hbl.mono k4.size);have hgm:=k1.lt;have hs:=k4.size;have hw:=HS.out.bel.size;refine⟨?_,zS (zG _ _),yS _ _ _ (by simp),k1.below hbl,k2.below hbl,ly _ _ _ _,(fun x hx=>by cases hx),?_,HS.out.bel.trans (hbw.mono hw),⟨⟨by omega,by omega,by omega,by omega⟩,by simp⟩,by omega,⟨by omega,by omega,by omega⟩⟩
      ·rw[pi];exact(hbw.block _ lb).trans HS.out.box
      ·have:=HS.out.tst
       rw[qy]at this;exact(this.below hbw).celT
     have HWm:Hid (wr.heap.size<=wc.heap.size/\wc.heap.size+2<=((wc.alloc (.cells #[.bool false,.bool false,.int .i64 1,.int .i64 (-1),.int .i64 (-1)] 89)).alloc (.cells #[.bool false,.bool false,.int .i64 2,.int .i64 (-1),.int .i64 (-1)] 89)).heap.size):=⟨HMd.out.2.2.2.size,by simp⟩
     go_upto_region 13 with fail
     generalize (wc.alloc (.cells #[.bool false,.bool false,.int .i64 1,.int .i64 (-1),.int .i64 (-1)] 89)).alloc (.cells #[.bool false,.bool false,.int .i64 2,.int .i64 (-1),.int .i64 (-1)] 89)=wp at *;generalize ts.map ut=tq at *;clear HS HMd b1 b3 lgm lb c1 hi6 zKZ;generalize wc.heap.size=p1 at *
     go_cut [8] from 69 to 84 (fun v8 wx=>∃(gg cap pg:Nat),v8=.pointer (some ⟨gm,0,none⟩)/\Hid (zg w wx b p1 (p1+1) gm gh (p1+2) lo hi (h0:Int) wh (.slice pa ps.length pc) qa qc tq 1 (.slice (some ⟨gg,0,none⟩) 1 cap) [(cL wh 1 tq,.slice (some ⟨pg,0,none⟩) 1 1,.slice qa tq.length qc)]))
     case first =>
      have q6:=HPm.out.mad.cells.2.2.1;have f6:=HPm.out.mad.free 6;have lb:=zJ HPm.out.box;have lp:=zJ HPm.out.pt1;have lg:=HPm.out.mad.lt;have zL8:=HPm.out.lt.2;have m1:wp.heap.size≠b:=by omega
      have m2:wp.heap.size≠p1:=by omega
      have m3:wp.heap.size≠gm:=by omega
      have m4:wp.heap.size+1≠b:=by omega
      have m5:wp.heap.size+1≠p1:=by omega
      have m6:wp.heap.size+1≠gm:=by omega
      have HAp:=zA (fun (wz w9:World) (v:Value) (hz:Below wp.heap.size wp wz) (hp:wz.heap[wp.heap.size]? = some (.cells #[.bool false,.bool false,.int .i64 1,.int .i64 (-1),.int .i64 (-1)] 89 (0,0))) (hg:wz.grownBy w9 (Value.slice none 0 0).ownBlock) (zL1:w9.ownsRow (p1+2) 85 4 v (0+1) ([]++[.int .i64 0,.bool wh,.slice (some ⟨wp.heap.size,0,none⟩) 1 1,.slice qa tq.length qc]))=>let ⟨a1,a2,a3⟩:=zg.app (x:=(cL wh 1 tq,.slice (some ⟨wp.heap.size,0,none⟩) 1 1,.slice qa tq.length qc)) HPm.out hz (CV hp (HPm.out.tst.below hz)) hg zL1;(⟨a1,⟨a2.1,a2.2.1⟩,a3⟩:_/\(_/\_)/\_));have HKp:Hid (∀w',Below wp.heap.size wp w'->w'.heap[b]? = some (.cells #[.int .i64 (h0:Int),.bool wh,.slice pa ps.length pc,.slice qa tq.length qc] 85 (0,0))/\w'.heap[p1]? = some (.cells #[.bool false,.bool false,.int .i64 1,.int .i64 (-1),.int .i64 (-1)] 89 (0,0))):=fun w' hb=>⟨(hb.block _ (zJ HPm.out.box)).trans HPm.out.box,(hb.block _ (zJ HPm.out.pt1)).trans HPm.out.pt1⟩;clear HPm HK HTb HGb HO HNu zLM HWm HB2 hts6 HOk;refine wp_region_held_drew (S:=fun w'=>w'.heap[b]? = some (.cells #[.int .i64 (h0:Int),.bool wh,.slice pa ps.length pc,.slice qa tq.length qc] 85 (0,0))/\w'.heap[p1]? = some (.cells #[.bool false,.bool false,.int .i64 1,.int .i64 (-1),.int .i64 (-1)] 89 (0,0))) (by kernel_rfl) (HKp.out _ (pj (tg _ _))) (fun zL3=>?_);refine wpAnyH_take (i:=0) (v:=.pointer (some ⟨gm,0,none⟩)) rfl (by kernel_rfl) (by kernel_rfl) (by kernel_rfl) (fun _ _ _ h=>h) (Or.inl ⟨by rfl,fun wS zLR=>?_⟩) zL3 ?_
      ·go_simp
      refine wpAnyH_take (i:=1) (v:=.pointer (some ⟨gm,0,none⟩)) rfl (by kernel_rfl) (by kernel_rfl) (by kernel_rfl) (fun _ _ _ h=>h) (Or.inl ⟨by rfl,fun wS zLR=>?_⟩) zL3 ?_
      ·go_simp
      refine wpAnyH_take (i:=2) (v:=.pointer (some ⟨gm,0,none⟩)) rfl (by kernel_rfl) (by kernel_rfl) (by kernel_rfl) (fun _ _ _ h=>h) (Or.inl ⟨by rfl,fun wS zLR=>?_⟩) zL3 ?_
      ·go_simp
      simp only[Act.put,List.getElem_toArray,List.getElem_cons_succ,List.getElem_cons_zero,List.setIfInBounds_toArray,List.set_cons_succ,List.set_cons_zero];refine wpAnyH_take (i:=3) (v:=.pointer (some ⟨gm,6,none⟩)) rfl (by kernel_rfl) (by kernel_rfl) (by kernel_rfl) (fun _ _ _ h=>h) (Or.inl ⟨by rfl,fun wS zLR=>?_⟩) zL3 ?_
      ·go_simp
      refine wpAnyH_take (i:=5) (v:=.pointer (some ⟨b,1,none⟩)) rfl (by kernel_rfl) (by kernel_rfl) (by kernel_rfl) (fun _ _ _ h=>h) (Or.inl ⟨by rfl,fun wS zLR=>?_⟩) zL3 ?_
      ·go_simp
      refine wpAnyH_take (i:=6) (v:=.bool wh) rfl (by kernel_rfl) (by kernel_rfl) (by kernel_rfl) (fun _ _ _ h=>h) (Or.inl ⟨by rfl,fun wS zLR=>?_⟩) zL3 ?_
      ·have y1:wS.cell? ⟨b,1,none⟩=some (.bool wh):=zB zLR.1 1
       go_simp
      simp only[Act.put,List.getElem_toArray,List.getElem_cons_succ,List.getElem_cons_zero,List.setIfInBounds_toArray,List.set_cons_succ,List.set_cons_zero];refine wpAnyH_take (i:=7) (v:=.pointer (some ⟨b,3,none⟩)) rfl (by kernel_rfl) (by kernel_rfl) (by kernel_rfl) (fun _ _ _ h=>h) (Or.inl ⟨by rfl,fun wS zLR=>?_⟩) zL3 ?_
      ·go_simp
      refine wpAnyH_take (i:=8) (v:=.slice qa tq.length qc) rfl (by kernel_rfl) (by kernel_rfl) (by kernel_rfl) (fun _ _ _ h=>h) (Or.inl ⟨by rfl,fun wS zLR=>?_⟩) zL3 ?_
      ·have y3:wS.cell? ⟨b,3,none⟩=some (.slice qa tq.length qc):=zB zLR.1 3
       go_simp
      refine wpAnyH_take (i:=9) (v:=.agg #[.bool false,.bool false,.int .i64 1,.int .i64 (-1),.int .i64 (-1)]) rfl (by kernel_rfl) (by kernel_rfl) (by kernel_rfl) (fun _ _ _ h=>h) (Or.inl ⟨by rfl,fun wS zLR=>?_⟩) zL3 ?_
      ·have z0:wS.cell? ⟨p1,0,none⟩=some (.bool false):=zB zLR.2 0
       have z1:wS.cell? ⟨p1,1,none⟩=some (.bool false):=zB zLR.2 1;have z2:wS.cell? ⟨p1,2,none⟩=some (.int .i64 1):=zB zLR.2 2;have z3:wS.cell? ⟨p1,3,none⟩=some (.int .i64 (-1)):=zB zLR.2 3;have z4:wS.cell? ⟨p1,4,none⟩=some (.int .i64 (-1)):=zB zLR.2 4
       go_simp
      simp only[Act.put,List.getElem_toArray,List.getElem_cons_succ,List.getElem_cons_zero,List.setIfInBounds_toArray,List.set_cons_succ,List.set_cons_zero];refine wpAnyH_ready (rs:=[4,10]) (by kernel_rfl) (by simp) ?_;refine AllReadyH.cons rfl (fun K hK=>?ga13) (AllReadyH.cons rfl (fun K hK=>?gb13) AllReadyH.nil)
      case' ga13 =>
       go_simp
       refine hK.out _ _ zL3 (fun zL3=>?_);clear hK K;refine wpAnyH_ready (rs:=[10]) (by kernel_rfl) (by simp) ?_;refine AllReadyH.cons rfl (fun K hK=>?_) AllReadyH.nil
       go_simp
       refine hK.out _ _ (HKp.out _ (pj (gb (j1 _) _))) (fun zL3=>?_);clear hK K;refine wpAnyH_take (i:=11) (v:=.agg #[.int .i64 0,.bool wh,.slice (some ⟨wp.heap.size,0,none⟩) 1 1,.slice qa tq.length qc]) rfl (by kernel_rfl) (by kernel_rfl) (by kernel_rfl) (fun _ _ _ h=>h) (Or.inl ⟨by rfl,fun wS zLR=>?_⟩) zL3 ?_
       ·go_simp
       simp only[Act.put,List.getElem_toArray,List.getElem_cons_succ,List.getElem_cons_zero,List.setIfInBounds_toArray,List.set_cons_succ,List.set_cons_zero];refine wpAnyH_ready (rs:=[12]) (by kernel_rfl) (by simp) ?_;refine AllReadyH.cons rfl (fun K hK=>?_) AllReadyH.nil
       go_simp
       refine hK.out _ _ (HKp.out _ (pj ((gb (j1 _) _).alloc (by simp) _))) (fun zL3=>?_);clear hK K
      case' gb13 =>
       go_simp
       refine hK.out _ _ (HKp.out _ (pj (gb (j1 _) _))) (fun zL3=>?_);clear hK K;refine wpAnyH_take (i:=11) (v:=.agg #[.int .i64 0,.bool wh,.slice (some ⟨wp.heap.size,0,none⟩) 1 1,.slice qa tq.length qc]) rfl (by kernel_rfl) (by kernel_rfl) (by kernel_rfl) (fun _ _ _ h=>h) (Or.inl ⟨by rfl,fun wS zLR=>?_⟩) zL3 ?_
       ·go_simp
       simp only[Act.put,List.getElem_toArray,List.getElem_cons_succ,List.getElem_cons_zero,List.setIfInBounds_toArray,List.set_cons_succ,List.set_cons_zero];refine wpAnyH_ready (rs:=[4,12]) (by kernel_rfl) (by simp) ?_;refine AllReadyH.cons rfl (fun K hK=>?gc13) (AllReadyH.cons rfl (fun K hK=>?gd13) AllReadyH.nil)
       case' gc13 =>
        go_simp
        refine hK.out _ _ zL3 (fun zL3=>?_);clear hK K;refine wpAnyH_ready (rs:=[12]) (by kernel_rfl) (by simp) ?_;refine AllReadyH.cons rfl (fun K hK=>?_) AllReadyH.nil
        go_simp
        refine hK.out _ _ (HKp.out _ (pj ((gb (j1 _) _).alloc (by simp) _))) (fun zL3=>?_);clear hK K
       case' gd13 =>
        go_simp
        refine hK.out _ _ (HKp.out _ (pj ((gb (j1 _) _).alloc (by simp) _))) (fun zL3=>?_);clear hK K;refine wpAnyH_ready (rs:=[4]) (by kernel_rfl) (by simp) ?_;refine AllReadyH.cons rfl (fun K hK=>?_) AllReadyH.nil
        go_simp
        refine hK.out _ _ zL3 (fun zL3=>?_);clear hK K
      all_goals
       refine wpAnyH_ready (rs:=[13]) (by kernel_rfl) (by simp) ?_;refine AllReadyH.cons rfl (fun K hK=>?_) AllReadyH.nil;refine step_append_lies _ (by rfl) _ _ _ (by rfl) (p1+2) 85 i0 _ 4 64 Tryz.underlying44 hi0 hz0 hz1 hz2 rfl (by decide) (.slice none 0 0) 0 [] (by rfl) (ly _ _ _ _) ⟨wp.heap.size+1,0,none⟩ 1 1 [.int .i64 0,.bool wh,.slice (some ⟨wp.heap.size,0,none⟩) 1 1,.slice qa tq.length qc] (by rfl) (by rfl) (World.news_of_block (tU (yS _ _ _ (by simp)))) (by simp[Value.oneCell']) (by decide) (by unfold maxLen;omega) (by omega) (by simp;omega) (wp.heap.size+2) (by simp) ?_;intro gg cap w9 zL5 zL2 hat hlt9;obtain⟨hM9,hS9,hL9⟩:=HAp.out _ w9 _ (pj ((gb (j1 _) _).alloc (by simp) _)) (tU (zS (zG _ _))) zL2 zL5;have m9:=hM9.cells.2.2.1;have f9:=hM9.free 6;have HL9:=zA hL9;clear hL9 hM9 zL5 zL2;refine hK.out _ _ hS9 (fun zL3=>?_);clear hK K;simp only[Act.put,List.getElem_toArray,List.getElem_cons_succ,List.getElem_cons_zero,List.setIfInBounds_toArray,List.set_cons_succ,List.set_cons_zero];refine wpAnyH_take (i:=14) (v:=.pointer (some ⟨gm,0,none⟩)) rfl (by kernel_rfl) (by kernel_rfl) (by kernel_rfl) (fun _ _ _ h=>h) (Or.inl ⟨by rfl,fun wS zLR=>?_⟩) zL3 ?_
       ·go_simp
       refine wpAnyH_take (i:=15) (v:=.pointer (some ⟨gm,6,none⟩)) rfl (by kernel_rfl) (by kernel_rfl) (by kernel_rfl) (fun _ _ _ h=>h) (Or.inl ⟨by rfl,fun wS zLR=>?_⟩) zL3 ?_
       ·go_simp
       simp only[Act.put,List.getElem_toArray,List.getElem_cons_succ,List.getElem_cons_zero,List.setIfInBounds_toArray,List.set_cons_succ,List.set_cons_zero];refine wpAnyH_ready (rs:=[16]) (by kernel_rfl) (by simp) ?_;refine AllReadyH.cons rfl (fun K hK=>?_) AllReadyH.nil
       go_simp
       refine hK.out _ _ ⟨HL9.out.box,HL9.out.pt1⟩ (fun zL3=>?_);clear hK K;refine wpAnyH_done (by kernel_rfl) ?_ _;go_wp2_with fail
       go_meet
       exact⟨gg,cap,wp.heap.size,rfl,HL9⟩
     case rest =>
      obtain⟨g1,c1,pg1,rfl,HP1⟩:=hcut;clear HPm HWm;obtain⟨wq,rfl⟩:∃wq,wq=wc:=⟨_,rfl⟩
      go_upto_region 14 with fail
      go_cut [8] from 85 to 101 (fun v8 wx=>∃(gg cap pg:Nat),v8=.pointer (some ⟨gm,0,none⟩)/\Hid (zg w wx b p1 (p1+1) gm gh (p1+2) lo hi (h0:Int) wh (.slice pa ps.length pc) qa qc tq 2 (.slice (some ⟨gg,0,none⟩) 2 cap) [(cL wh 1 tq,.slice (some ⟨pg1,0,none⟩) 1 1,.slice qa tq.length qc),(cL (!wh) 2 tq,.slice (some ⟨pg,0,none⟩) 1 1,.slice qa tq.length qc)]))
      case first =>
       have q6:=HP1.out.mad.cells.2.2.1;have f6:=HP1.out.mad.free 6;have lb:=zJ HP1.out.box;have lp:=zJ HP1.out.pt2;have lg:=HP1.out.mad.lt;have zL8:=HP1.out.lt.2;have m1:wq.heap.size≠b:=by omega
       have m2:wq.heap.size≠p1+1:=by omega
       have m3:wq.heap.size≠gm:=by omega
       have m4:wq.heap.size+1≠b:=by omega
       have m5:wq.heap.size+1≠p1+1:=by omega
       have m6:wq.heap.size+1≠gm:=by omega
       have HAp:=zA (fun (wz w9:World) (v:Value) (hz:Below wq.heap.size wq wz) (hp:wz.heap[wq.heap.size]? = some (.cells #[.bool false,.bool false,.int .i64 2,.int .i64 (-1),.int .i64 (-1)] 89 (0,0))) (hg:wz.grownBy w9 (Value.slice (some ⟨g1,0,none⟩) 1 c1).ownBlock) (zL1:w9.ownsRow (p1+2) 85 4 v (1+1) ([((cL wh 1 tq,.slice (some ⟨pg1,0,none⟩) 1 1,.slice qa tq.length qc):xP × Value × Value)].flatMap Cb++[.int .i64 0,.bool (!wh),.slice (some ⟨wq.heap.size,0,none⟩) 1 1,.slice qa tq.length qc]))=>let ⟨a1,a2,a3⟩:=zg.app (x:=(cL (!wh) 2 tq,.slice (some ⟨wq.heap.size,0,none⟩) 1 1,.slice qa tq.length qc)) HP1.out hz (CV hp (HP1.out.tst.below hz)) hg zL1;(⟨a1,⟨a2.1,a2.2.2⟩,a3⟩:_/\(_/\_)/\_));have HKp:Hid (∀w',Below wq.heap.size wq w'->w'.heap[b]? = some (.cells #[.int .i64 (h0:Int),.bool wh,.slice pa ps.length pc,.slice qa tq.length qc] 85 (0,0))/\w'.heap[p1+1]? = some (.cells #[.bool false,.bool false,.int .i64 2,.int .i64 (-1),.int .i64 (-1)] 89 (0,0))):=fun w' hb=>⟨(hb.block _ (zJ HP1.out.box)).trans HP1.out.box,(hb.block _ (zJ HP1.out.pt2)).trans HP1.out.pt2⟩;have HO1:=zA (fun w' (hb:Below wq.heap.size wq w')=>uV HP1.out.own hb);generalize [((cL wh 1 tq,.slice (some ⟨pg1,0,none⟩) 1 1,.slice qa tq.length qc):xP × Value × Value)].flatMap Cb=rw1 at HAp HO1;clear HP1 HK HTb HGb HO HNu zLM HB2 hts6 HOk;refine wp_region_held_drew (S:=fun w'=>w'.heap[b]? = some (.cells #[.int .i64 (h0:Int),.bool wh,.slice pa ps.length pc,.slice qa tq.length qc] 85 (0,0))/\w'.heap[p1+1]? = some (.cells #[.bool false,.bool false,.int .i64 2,.int .i64 (-1),.int .i64 (-1)] 89 (0,0))) (by kernel_rfl) (HKp.out _ (pj (tg _ _))) (fun zL3=>?_);refine wpAnyH_take (i:=0) (v:=.pointer (some ⟨gm,0,none⟩)) rfl (by kernel_rfl) (by kernel_rfl) (by kernel_rfl) (fun _ _ _ h=>h) (Or.inl ⟨by rfl,fun wS zLR=>?_⟩) zL3 ?_
       ·go_simp
       refine wpAnyH_take (i:=1) (v:=.pointer (some ⟨gm,0,none⟩)) rfl (by kernel_rfl) (by kernel_rfl) (by kernel_rfl) (fun _ _ _ h=>h) (Or.inl ⟨by rfl,fun wS zLR=>?_⟩) zL3 ?_
       ·go_simp
       refine wpAnyH_take (i:=2) (v:=.pointer (some ⟨gm,0,none⟩)) rfl (by kernel_rfl) (by kernel_rfl) (by kernel_rfl) (fun _ _ _ h=>h) (Or.inl ⟨by rfl,fun wS zLR=>?_⟩) zL3 ?_
       ·go_simp
       simp only[Act.put,List.getElem_toArray,List.getElem_cons_succ,List.getElem_cons_zero,List.setIfInBounds_toArray,List.set_cons_succ,List.set_cons_zero];refine wpAnyH_take (i:=3) (v:=.pointer (some ⟨gm,6,none⟩)) rfl (by kernel_rfl) (by kernel_rfl) (by kernel_rfl) (fun _ _ _ h=>h) (Or.inl ⟨by rfl,fun wS zLR=>?_⟩) zL3 ?_
       ·go_simp
       refine wpAnyH_take (i:=5) (v:=.pointer (some ⟨b,1,none⟩)) rfl (by kernel_rfl) (by kernel_rfl) (by kernel_rfl) (fun _ _ _ h=>h) (Or.inl ⟨by rfl,fun wS zLR=>?_⟩) zL3 ?_
       ·go_simp
       refine wpAnyH_take (i:=6) (v:=.bool wh) rfl (by kernel_rfl) (by kernel_rfl) (by kernel_rfl) (fun _ _ _ h=>h) (Or.inl ⟨by rfl,fun wS zLR=>?_⟩) zL3 ?_
       ·have y1:wS.cell? ⟨b,1,none⟩=some (.bool wh):=zB zLR.1 1
        go_simp
       simp only[Act.put,List.getElem_toArray,List.getElem_cons_succ,List.getElem_cons_zero,List.setIfInBounds_toArray,List.set_cons_succ,List.set_cons_zero];refine wpAnyH_take (i:=7) (v:=.bool (!wh)) rfl (by kernel_rfl) (by kernel_rfl) (by kernel_rfl) (fun _ _ _ h=>h) (Or.inl ⟨by rfl,fun wS zLR=>?_⟩) zL3 ?_
       ·go_simp
       refine wpAnyH_take (i:=8) (v:=.pointer (some ⟨b,3,none⟩)) rfl (by kernel_rfl) (by kernel_rfl) (by kernel_rfl) (fun _ _ _ h=>h) (Or.inl ⟨by rfl,fun wS zLR=>?_⟩) zL3 ?_
       ·go_simp
       refine wpAnyH_take (i:=9) (v:=.slice qa tq.length qc) rfl (by kernel_rfl) (by kernel_rfl) (by kernel_rfl) (fun _ _ _ h=>h) (Or.inl ⟨by rfl,fun wS zLR=>?_⟩) zL3 ?_
       ·have y3:wS.cell? ⟨b,3,none⟩=some (.slice qa tq.length qc):=zB zLR.1 3
        go_simp
       simp only[Act.put,List.getElem_toArray,List.getElem_cons_succ,List.getElem_cons_zero,List.setIfInBounds_toArray,List.set_cons_succ,List.set_cons_zero];refine wpAnyH_take (i:=10) (v:=.agg #[.bool false,.bool false,.int .i64 2,.int .i64 (-1),.int .i64 (-1)]) rfl (by kernel_rfl) (by kernel_rfl) (by kernel_rfl) (fun _ _ _ h=>h) (Or.inl ⟨by rfl,fun wS zLR=>?_⟩) zL3 ?_
       ·have z0:wS.cell? ⟨p1+1,0,none⟩=some (.bool false):=zB zLR.2 0
        have z1:wS.cell? ⟨p1+1,1,none⟩=some (.bool false):=zB zLR.2 1;have z2:wS.cell? ⟨p1+1,2,none⟩=some (.int .i64 2):=zB zLR.2 2;have z3:wS.cell? ⟨p1+1,3,none⟩=some (.int .i64 (-1)):=zB zLR.2 3;have z4:wS.cell? ⟨p1+1,4,none⟩=some (.int .i64 (-1)):=zB zLR.2 4
        go_simp
       simp only[Act.put,List.getElem_toArray,List.getElem_cons_succ,List.getElem_cons_zero,List.setIfInBounds_toArray,List.set_cons_succ,List.set_cons_zero];refine wpAnyH_ready (rs:=[4,11]) (by kernel_rfl) (by simp) ?_;refine AllReadyH.cons rfl (fun K hK=>?ga14) (AllReadyH.cons rfl (fun K hK=>?gb14) AllReadyH.nil)
       case' ga14 =>
        go_simp
        refine hK.out _ _ zL3 (fun zL3=>?_);clear hK K;refine wpAnyH_ready (rs:=[11]) (by kernel_rfl) (by simp) ?_;refine AllReadyH.cons rfl (fun K hK=>?_) AllReadyH.nil
        go_simp
        refine hK.out _ _ (HKp.out _ (pj (gb (j1 _) _))) (fun zL3=>?_);clear hK K;refine wpAnyH_take (i:=12) (v:=.agg #[.int .i64 0,.bool (!wh),.slice (some ⟨wq.heap.size,0,none⟩) 1 1,.slice qa tq.length qc]) rfl (by kernel_rfl) (by kernel_rfl) (by kernel_rfl) (fun _ _ _ h=>h) (Or.inl ⟨by rfl,fun wS zLR=>?_⟩) zL3 ?_
        ·go_simp
        simp only[Act.put,List.getElem_toArray,List.getElem_cons_succ,List.getElem_cons_zero,List.setIfInBounds_toArray,List.set_cons_succ,List.set_cons_zero];refine wpAnyH_ready (rs:=[13]) (by kernel_rfl) (by simp) ?_;refine AllReadyH.cons rfl (fun K hK=>?_) AllReadyH.nil
        go_simp
        refine hK.out _ _ (HKp.out _ (pj ((gb (j1 _) _).alloc (by simp) _))) (fun zL3=>?_);clear hK K
       case' gb14 =>
        go_simp
        refine hK.out _ _ (HKp.out _ (pj (gb (j1 _) _))) (fun zL3=>?_);clear hK K;refine wpAnyH_take (i:=12) (v:=.agg #[.int .i64 0,.bool (!wh),.slice (some ⟨wq.heap.size,0,none⟩) 1 1,.slice qa tq.length qc]) rfl (by kernel_rfl) (by kernel_rfl) (by kernel_rfl) (fun _ _ _ h=>h) (Or.inl ⟨by rfl,fun wS zLR=>?_⟩) zL3 ?_
        ·go_simp
        simp only[Act.put,List.getElem_toArray,List.getElem_cons_succ,List.getElem_cons_zero,List.setIfInBounds_toArray,List.set_cons_succ,List.set_cons_zero];refine wpAnyH_ready (rs:=[4,13]) (by kernel_rfl) (by simp) ?_;refine AllReadyH.cons rfl (fun K hK=>?gc14) (AllReadyH.cons rfl (fun K hK=>?gd14) AllReadyH.nil)
        case' gc14 =>
         go_simp
         refine hK.out _ _ zL3 (fun zL3=>?_);clear hK K;refine wpAnyH_ready (rs:=[13]) (by kernel_rfl) (by simp) ?_;refine AllReadyH.cons rfl (fun K hK=>?_) AllReadyH.nil
         go_simp
         refine hK.out _ _ (HKp.out _ (pj ((gb (j1 _) _).alloc (by simp) _))) (fun zL3=>?_);clear hK K
        case' gd14 =>
         go_simp
         refine hK.out _ _ (HKp.out _ (pj ((gb (j1 _) _).alloc (by simp) _))) (fun zL3=>?_);clear hK K;refine wpAnyH_ready (rs:=[4]) (by kernel_rfl) (by simp) ?_;refine AllReadyH.cons rfl (fun K hK=>?_) AllReadyH.nil
         go_simp
         refine hK.out _ _ zL3 (fun zL3=>?_);clear hK K
       all_goals
        refine wpAnyH_ready (rs:=[14]) (by kernel_rfl) (by simp) ?_;refine AllReadyH.cons rfl (fun K hK=>?_) AllReadyH.nil;refine step_append_lies _ (by rfl) _ _ _ (by rfl) (p1+2) 85 i0 _ 4 64 Tryz.underlying44 hi0 hz0 hz1 hz2 rfl (by decide) (.slice (some ⟨g1,0,none⟩) 1 c1) 1 rw1 (by rfl) (HO1.out _ (pj ((gb (j1 _) _).alloc (by simp) _))) ⟨wq.heap.size+1,0,none⟩ 1 1 [.int .i64 0,.bool (!wh),.slice (some ⟨wq.heap.size,0,none⟩) 1 1,.slice qa tq.length qc] (by rfl) (by rfl) (World.news_of_block (tU (yS _ _ _ (by simp)))) (by simp[Value.oneCell']) (by decide) (by unfold maxLen;omega) (by omega) (by simp;omega) (wq.heap.size+2) (by simp) ?_;intro gg cap w9 zL5 zL2 hat hlt9;obtain⟨hM9,hS9,hL9⟩:=HAp.out _ w9 _ (pj ((gb (j1 _) _).alloc (by simp) _)) (tU (zS (zG _ _))) zL2 zL5;have m9:=hM9.cells.2.2.1;have f9:=hM9.free 6;have HL9:=zA hL9;clear hL9 hM9 zL5 zL2;refine hK.out _ _ hS9 (fun zL3=>?_);clear hK K;simp only[Act.put,List.getElem_toArray,List.getElem_cons_succ,List.getElem_cons_zero,List.setIfInBounds_toArray,List.set_cons_succ,List.set_cons_zero];refine wpAnyH_take (i:=15) (v:=.pointer (some ⟨gm,0,none⟩)) rfl (by kernel_rfl) (by kernel_rfl) (by kernel_rfl) (fun _ _ _ h=>h) (Or.inl ⟨by rfl,fun wS zLR=>?_⟩) zL3 ?_
        ·go_simp
        refine wpAnyH_take (i:=16) (v:=.pointer (some ⟨gm,6,none⟩)) rfl (by kernel_rfl) (by kernel_rfl) (by kernel_rfl) (fun _ _ _ h=>h) (Or.inl ⟨by rfl,fun wS zLR=>?_⟩) zL3 ?_
        ·go_simp
        simp only[Act.put,List.getElem_toArray,List.getElem_cons_succ,List.getElem_cons_zero,List.setIfInBounds_toArray,List.set_cons_succ,List.set_cons_zero];refine wpAnyH_ready (rs:=[17]) (by kernel_rfl) (by simp) ?_;refine AllReadyH.cons rfl (fun K hK=>?_) AllReadyH.nil
        go_simp
        refine hK.out _ _ ⟨HL9.out.box,HL9.out.pt2⟩ (fun zL3=>?_);clear hK K;refine wpAnyH_done (by kernel_rfl) ?_ _;go_wp2_with fail
        go_meet
        exact⟨gg,cap,wq.heap.size,rfl,HL9⟩
      case rest =>
       obtain⟨g2,c2,pg2,rfl,HP2⟩:=hcut;clear HP1;have HB3:=zA HP2.out.bel;have HMb:=zA (fun w' (hb:Below wc.heap.size wc w')=>HP2.out.made.below hb);obtain⟨HBs,hkL⟩:=HK.out _ HOk.out (vq lo hi);have HTx:=zA (zF8 wc gm _ HP2.out.made HOk.out (HTb.out wc HP2.out.bel));have zLL:=zA hkL.str;have HCl:=zA hkL.cls;have HBl:=zA hkL.below;have HTd:=zA hkL.told;clear hkL HP2 HK HB2 HNu HO hts6;generalize wU (vI (bR lo hi wh tq) false)=td at *;go_wp2_with fail
       refine HTx.out.mono ?_;rintro e w4 ⟨rfl,hb4⟩;have HB4:Hid (Below w.heap.size w w4):=HB3.out.trans (hb4.mono HB3.out.size);have H34:=zA hb4;clear hb4 HTx;go_wp2_with fail
       refine(zLL.out w4).mono ?_;rintro e w5 ⟨bb,rfl,hB,hb5⟩;have HB5:Hid (Below w.heap.size w w5):=HB4.out.trans (hb5.mono HB4.out.size);have H35:Hid (Below wc.heap.size wc w5):=H34.out.trans (hb5.mono H34.out.size);have HHb:=zA (fun w' (hb:Below w5.heap.size w5 w')=>HBl.out w5 w' bb hB hb);clear hb5 hB zLL HBl H34 HB4;go_wp2_with fail
       refine(HCl.out w5).mono ?_;rintro e w6 ⟨rfl,hb6⟩;have HB6:Hid (Below w.heap.size w w6):=HB5.out.trans (hb6.mono HB5.out.size);have H36:Hid (Below wc.heap.size wc w6):=H35.out.trans (hb6.mono H35.out.size);have H56:=zA hb6;have HVw:=zA (zF7 w6 gm _ ga gn gc (HMb.out w6 H36.out) HOk.out (HGb.out w6 HB6.out));clear hb6 HCl H35 HB5;go_wp2_with fail
       refine HVw.out.mono ?_;rintro e w7 ⟨gv,v,rfl,hv,hroom,hb7⟩;have HB7:Hid (Below w.heap.size w w7):=HB6.out.trans (hb7.mono HB6.out.size);have H37:Hid (Below wc.heap.size wc w7):=H36.out.trans (hb7.mono H36.out.size);have H57:Hid (Below w5.heap.size w5 w7):=H56.out.trans (hb7.mono H56.out.size);obtain⟨u,st,av,vd,htd⟩:=HTd.out v hroom;obtain⟨es,ea⟩:=vo htd.hear htd.inn zLM.out.2.2
       have HEv:Hid (∀w' b,HBs w' b->Calls Tryz.prog 15 #[.pointer (some ⟨b,0,none⟩),.string ⟨(eO v 0).toArray⟩] w' fun e w''=>∃gn nc,e=.returned (.tuple #[.slice (some ⟨gn,0,none⟩) 1 nc,.int .i64 0])/\w''.cell? ⟨gn,1,none⟩=some (.int .i64 1)/\w''.cell? ⟨gn,2,none⟩=some (.int .i64 (if gI v wh tq=true then 1 else 2))/\Below w'.heap.size w' w''):=fun w' b' h=>(htd.eval w' b' h).mono fun e w'' hh=>by
        obtain⟨na,nc,rfl,hC,hb⟩:=hh;obtain⟨gn,e0,-,a1,a2⟩:=zKL hC.cel (i:=0) (by show 0<1;decide);subst e0;rw[es]at a1;rw[ea]at a2;exact⟨gn,nc,rfl,a1,a2,hb⟩
       have HFc:Hid (Calls Tryz.prog 14 #[.pointer (some ⟨gv,0,none⟩),.int .i64 0] w7 fun e w'=>e=.returned (.string ⟨(eO v 0).toArray⟩)/\Below w7.heap.size w7 w'):=zAR w7 gv v 0 hv (fun j hj=>rZ HOk.out hroom hj) ⟨by decide,by decide⟩ (HTb.out w7 HB7.out)
       have HRu:Hid (∀w',Below w7.heap.size w7 w'->∃gr rc hd wh' pa qa pn pc qn qc,w'.cell? ⟨gm,6,none⟩=some (.slice (some ⟨gr,0,none⟩) 2 rc)/\zKW w' gv gr 0 (gI v wh tq) hd wh' pa qa pn pc qn qc):=fun w' hb=>by
        have:=zKK (HMb.out w' (H37.out.trans (hb.mono H37.out.size))) HOk.out (hv.below hb) (i:=0) (by show 0<2;decide);rw[show bJ v ((bR lo hi wh tq).rules.getD 0 oW)=gI v wh tq from eU v wh 1 tq]at this;exact this
       clear hb7 hv hroom htd es ea HVw HTd zLM H36 H37 H56 HB6 HMb HGb HTb HOk;generalize eO v 0=fs at *;generalize gI v wh tq=gd at *;go_wp2_with fail
       refine HFc.out.mono ?_;rintro e w8 ⟨rfl,hb8⟩;have HB8:Hid (Below w.heap.size w w8):=HB7.out.trans (hb8.mono HB7.out.size);have H78:=zA hb8;have HE8:=zA (HEv.out w8 bb (HHb.out w8 (H57.out.trans (hb8.mono H57.out.size))));clear hb8 HFc HEv HHb H57 HB7;go_wp2_with fail
       refine HE8.out.mono ?_;rintro e w9 ⟨gn2,nc2,rfl,a1,a2,hb9⟩;have HB9:Hid (Below w.heap.size w w9):=HB8.out.trans (hb9.mono HB8.out.size);obtain⟨gr2,rc3,hd2,wh2,pa2,qa2,pn2,pc2,qn2,qc2,c6,hap⟩:=HRu.out w9 (H78.out.trans (hb9.mono H78.out.size));have d0:w9.cell? ⟨gr2,0,none⟩=some (.int .i64 hd2):=hap.c0;have d1:w9.cell? ⟨gr2,1,none⟩=some (.bool wh2):=hap.c1;have d2:w9.cell? ⟨gr2,2,none⟩=some (.slice pa2 pn2 pc2):=hap.c2;have d3:w9.cell? ⟨gr2,3,none⟩=some (.slice qa2 qn2 qc2):=hap.c3;have HAq:=zA hap.app;have HCk:Hid (∀w',Below w9.heap.size w9 w'->w'.cell? ⟨gn2,1,none⟩=some (.int .i64 1)/\w'.cell? ⟨gn2,2,none⟩=some (.int .i64 (if gd=true then 1 else 2))):=fun w' hb=>⟨(hb.cell (p:=⟨gn2,1,none⟩) (yQ a1)).trans a1,(hb.cell (p:=⟨gn2,2,none⟩) (yQ a2)).trans a2⟩;clear hap hb9 HRu H78 HE8 HB8 a1 a2;go_wp2_with fail
       refine HAq.out.mono ?_;rintro e wA ⟨rfl,hbA⟩;have HBA:Hid (Below w.heap.size w wA):=HB9.out.trans (hbA.mono HB9.out.size);obtain⟨a1,a2⟩:=HCk.out wA hbA;clear hbA HAq HCk HB9 c6 d0 d1 d2 d3;cases gd
       ·rw[tb (by decide)]at a2
        go_wp2_with fail
        go_ret
        exact⟨rfl,HBA.out⟩
       ·rw[tl rfl]at a2
        go_wp2_with fail
        go_ret
        exact⟨rfl,HBA.out⟩
theorem ze(w:World)(la wa ra ga:Option Addr)(ln lc wn wk rn rc gn gc:Nat)(hd:Nat->Int)(hL:bK w la ln)(hW:bK w wa wn)(hR:XY w ra rn hd)(hG:bK w ga gn)(hT:rL w) :
 Calls Tryz.prog 8 #[.agg #[.slice la ln lc,.slice wa wn wk,.slice ra rn rc],.slice ga gn gc] w fun e w'=>e=.returned (.bool true)/\Below w.heap.size w w' :=
 zBP w la wa ra ga ln lc wn wk rn rc gn gc hd hL hW hR hG hT fun _ h hn=>zID h hn
end Go.Proofs.YtnbpdffdnphbeabGreatDoor
