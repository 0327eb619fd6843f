import Derived.Test.YtnbpdffdnphbeabGreatDoorFTestW
set_option maxHeartbeats 3000000
set_option maxRecDepth 100000
namespace Go.Proofs.YtnbpdffdnphbeabGreatDoor
open Go.RowKit
variable{ns ws:List Bs}{L Lp Lt:List Value}{gp:Nat}{bo:Obj}{pa la qa:Option Addr}{v v9:Value}{wx wz w9 w' w:World}{p:yU}(ts:List zR)(ps:List yU)(lo:Bool)(i:Nat)
def aD:yU:=⟨false,false,0,-1,-1⟩
def dV(i:Nat)(p:yU):List Bs:=if i=0 then [] else if p.minus=true then [[45]] else [[43]]
def uZ(p:yU):List Bs:=if p.times=true\/(p.num<0/\p.head<0) then [Lib.itoa p.n] else []
def tN(p:yU):List Bs:=if p.times=true then [[42]] else []
def qE(p:yU):List Bs:=if 0<=p.num then [yD p.num.toNat] else if 0<=p.head then [xG 99 p.head.toNat] else []
def mQ(i:Nat)(p:yU):List Bs:=dV i p++uZ p++tN p++qE p
def pD(ps:List yU)(i:Nat):List Bs:=(List.range i).flatMap fun j=>mQ j (ps.getD j aD)
def bQ(ps:List yU):List Bs:=pD ps ps.length
theorem aK:pD ps (i+1)=pD ps i++mQ i (ps.getD i aD):=by unfold pD;rw[lq,lu];simp
structure Kh(w wx:World)(gp:Nat)(p:yU)(la:Option Addr)(L:List Value)(v:Value)(ws:List Bs):Prop where
 prt:yZ wx 89 (some ⟨gp,0,none⟩) (nY p)
 lst:yZ wx 89 la L
 own:wx.ownsRow w.heap.size 9 1 v ws.length (vE ws)
 bel:Below w.heap.size w wx
theorem Kh.below(h:Kh w wx gp p la L v ws)(hb:Below wx.heap.size wx w'):Kh w w' gp p la L v ws:=⟨h.prt.below hb,h.lst.below hb,uV h.own hb,h.bel.trans (hb.mono h.bel.size)⟩
theorem Kh.app(h:Kh w wx gp p la L v ws)(hz:Below wx.heap.size wx wz)(hg:wz.grownBy w9 v.ownBlock)(zL1:w9.ownsRow w.heap.size 9 1 v9 (ws.length+ns.length) (vE ws++vE ns)):Kh w w9 gp p la L v9 (ws++ns):=by
 have hZ:=h.below hz;refine⟨hZ.prt.grown hZ.own (by decide) hg,hZ.lst.grown hZ.own (by decide) hg,?_,hZ.bel.grown hg hZ.bel.size (zU hZ.own)⟩;rw[tm];have e:vE (ws++ns)=vE ws++vE ns:=by unfold vE;rw[bi]
 rw[e];exact zL1
theorem Kh.cells(h:Kh w wx gp p la L v ws):wx.cell? ⟨gp,0,none⟩=some (.bool p.minus)/\wx.cell? ⟨gp,1,none⟩=some (.bool p.times)/\wx.cell? ⟨gp,2,none⟩=some (.int .i64 p.n)/\wx.cell? ⟨gp,3,none⟩=some (.int .i64 p.num)/\wx.cell? ⟨gp,4,none⟩=some (.int .i64 p.head):=by
 have t:∀(j:Nat) (u:Value),(nY p)[j]? = some u->wx.cell? ⟨gp,j,none⟩=some u:=fun j u hj=>by
  obtain⟨g,e,c⟩:=h.prt.cel.at hj;obtain rfl:gp=g:=by simpa using e
  exact c
 exact⟨t 0 _ rfl,t 1 _ rfl,t 2 _ rfl,t 3 _ rfl,t 4 _ rfl⟩
theorem zF9(w:World)(la:Option Addr)(lc:Nat)(ps:List yU)(low:List Nat)(hp:jG low ps)(hl4:∀d∈low,d<4)(hL:yZ w 89 la (ps.flatMap nY))(hT:rL w) :
 Calls Tryz.prog 62 #[.slice la ps.length lc] w fun e w'=>∃v,e=.returned v/\w'.ownsRow w.heap.size 9 1 v (bQ ps).length (vE (bQ ps))/\Below w.heap.size w w':=by
 obtain⟨i0,hi0,hz0,hz1,hz2⟩:=info_parts sI;have hp4:=hp.2.1;have HPo:=zA hp.2.2;have HTb:=zA (fun w' (hb:Below w.heap.size w w')=>hT.below hb);have HL4:=zA hl4;have HLc:=zA hL;have HSW:Hid (bQ ps=pD ps ps.length):=rfl;have HSs:=zA (aK ps);generalize bQ ps=TW at *;clear hp hl4 hL hT
 go_enter Tryz.func62,Tryz.ntmps62
 go_wp2_with fail
 go_loopw [3,4] (fun ov iv wr=>∃(i:Nat),i<=ps.length/\iv=.int .i64 (i:Int)/\Hid (Below w.heap.size w wr)/\Hid (yZ wr 89 la (ps.flatMap nY))/\Hid ((pD ps i).length<=4*i)/\Hid (wr.ownsRow w.heap.size 9 1 ov (pD ps i).length (vE (pD ps i)))) (fun _ iv _=>ps.length-(intOf iv).toNat)
 case atStart=>exact⟨0,p7 _,rfl,zA (tg _ _),HLc,zA (p7 _),zA (ly _ _ _ _)⟩
 case round =>
  obtain⟨i,hi,rfl,HB,HLi,HLen,HO⟩:=hrel;obtain⟨oa,oc,rfl⟩:=zP HO.out;by_cases zKZ:i<ps.length
  ·have ii:(i:Int)<(ps.length:Int):=by omega
   have hmem:ps.getD i aD∈ps:=by simp[List.getD,zKZ]
   have zLC:=HPo.out _ hmem;have hss:=HSs.out i;obtain⟨g,e0,q0⟩:=HLi.out.cel.at ((zN nY 5 (fun _=>rfl) aD ps i 0 zKZ (by decide)).trans rfl);subst e0
   have qq:∀(r:Nat) (u:Value),r<5->(nY (ps.getD i aD))[r]? = some u->wr.cell? ⟨g,i*5+r,none⟩=some u:=fun r u hr hu=>by
    obtain⟨g',e',c'⟩:=HLi.out.cel.at ((zN nY 5 (fun _=>rfl) aD ps i r zKZ hr).trans hu);obtain rfl:g=g':=by simpa using e'
    exact c'
   have q1:=qq 1 _ (by decide) rfl;have q2:=qq 2 _ (by decide) rfl;have q3:=qq 3 _ (by decide) rfl;have q4:=qq 4 _ (by decide) rfl;rw[l9]at q0;clear qq hmem;generalize ps.getD i aD=p at *;obtain⟨mi,ti,nn,nu,hd⟩:=p;simp only at q0 q1 q2 q3 q4;have HOk:=zA zLC;have HSi:=zA hss;clear zLC hss;generalize pD ps i=ws0 at *;have hl0:=HLen.out;have HS0:Hid (Kh w (wr.alloc (.cells #[.bool mi,.bool ti,.int .i64 nn,.int .i64 nu,.int .i64 hd] 89)) wr.heap.size ⟨mi,ti,nn,nu,hd⟩ (some ⟨g,0,none⟩) (ps.flatMap nY) (.slice oa ws0.length oc) ws0):=⟨.inr ⟨wr.heap.size,_,_,rfl,zG _ _,fun j _=>by rw[<-bg];rfl⟩,HLi.out.below (gb (j1 _) _),HO.out.alloc _,HB.out.alloc HB.out.size _⟩
   go_upto_region 6 with fail
   clear q0 q1 q2 q3 q4 HB HLi HO HLen;generalize wr.alloc (.cells #[.bool mi,.bool ti,.int .i64 nn,.int .i64 nu,.int .i64 hd] 89)=w0 at *;generalize wr.heap.size=gp at *;obtain⟨c0,c1,c2,c3,c4⟩:=HS0.out.cells;simp only at c0 c1 c2 c3 c4;have zL8:=HS0.out.bel.size;have HSg:Hid (dV i ⟨mi,ti,nn,nu,hd⟩=if i=0 then [] else if mi=true then [[45]] else [[43]]):=rfl
   go_cut [3,21] from 6 to 70 (fun v3 v21 wx=>v3=.slice oa ws0.length oc/\v21=.bool (decide (0<i)&&mi)/\wx=w0)
   case first =>
    by_cases k0:i=0
    ·subst k0
     go_wp2_with fail
     go_meet
     exact⟨rfl,rfl,rfl⟩
    ·have k1:0<i:=by omega
     have k2:(0:Int)<(i:Int):=by omega
     have HD:Hid (decide (0<i)=true):=tu k1;clear k0;go_wp2_with fail
     go_meet
     exact⟨rfl,by rw[HD.out];rfl,rfl⟩
   case rest =>
    obtain⟨rfl,rfl,rfl⟩:=hcut
    go_upto_if 21 with fail
    go_cut [3] from 6 to 70 (fun v3 wx=>∃ws1,Hid (ws1=ws0++dV i ⟨mi,ti,nn,nu,hd⟩)/\Hid (ws1.length<=ws0.length+1)/\Hid (Kh w wx gp ⟨mi,ti,nn,nu,hd⟩ (some ⟨g,0,none⟩) (ps.flatMap nY) v3 ws1))
    case first =>
     by_cases k0:i=0
     ·have HE:Hid (dV i ⟨mi,ti,nn,nu,hd⟩=[]):=HSg.out.trans (tl k0)
      subst k0;rw[show (decide (0<0)&&mi)=false from rfl];go_wp2_with fail
      go_meet
      exact⟨ws0,zA (by rw[HE.out,mt]),zA (mw _),HS0⟩
     ·have k1:0<i:=by omega
      have k2:(0:Int)<(i:Int):=by omega
      rw[tu k1,mz];cases mi
      ·have HE:Hid (dV i ⟨false,ti,nn,nu,hd⟩=[[43]]):=HSg.out.trans ((tb k0).trans (tb (by simp)))
       clear k0
       go_wp2_with (at_builtin;refine wpList_append_own _ rfl _ _ 70 rfl w.heap.size 9 i0 _ 1 16 Tryz.underlying70 hi0 hz0 hz1 hz2 rfl (by decide) _ _ _ rfl (HS0.out.own.alloc _) ⟨wc.heap.size,0,none⟩ 1 1 [.string ⟨#[43]⟩] rfl rfl ?c1k1 ?c1k2 ?c1k3 ?c1k4 ?c1k5 ?_)
       try (case c1k1=>exact zM _ _ _ _ rfl)
       try (case c1k2=>first|rfl|exact⟨rfl,rfl⟩|(intro u hu;simp at hu;rcases hu with rfl <;> rfl))
       try (case c1k3=>unfold maxLen;omega)
       try (case c1k4=>omega)
       try (case c1k5=>first|omega|(simp;omega))
       intro v6 w6 zL0 zKY _;have HS6:Hid (Kh w w6 gp ⟨false,ti,nn,nu,hd⟩ (some ⟨g,0,none⟩) (ps.flatMap nY) v6 (ws0++[[43]])):=HS0.out.app (gb (j1 _) _) zKY zL0;clear zL0 zKY;go_wp2_with fail
       go_meet
       exact⟨_,zA (by rw[HE.out]),zA (by simp),HS6⟩
      ·have HE:Hid (dV i ⟨true,ti,nn,nu,hd⟩=[[45]]):=HSg.out.trans ((tb k0).trans (tl rfl))
       clear k0
       go_wp2_with (at_builtin;refine wpList_append_own _ rfl _ _ 70 rfl w.heap.size 9 i0 _ 1 16 Tryz.underlying70 hi0 hz0 hz1 hz2 rfl (by decide) _ _ _ rfl (HS0.out.own.alloc _) ⟨wc.heap.size,0,none⟩ 1 1 [.string ⟨#[45]⟩] rfl rfl ?c2k1 ?c2k2 ?c2k3 ?c2k4 ?c2k5 ?_)
       try (case c2k1=>exact zM _ _ _ _ rfl)
       try (case c2k2=>first|rfl|exact⟨rfl,rfl⟩|(intro u hu;simp at hu;rcases hu with rfl <;> rfl))
       try (case c2k3=>unfold maxLen;omega)
       try (case c2k4=>omega)
       try (case c2k5=>first|omega|(simp;omega))
       intro v6 w6 zL0 zKY _;have HS6:Hid (Kh w w6 gp ⟨true,ti,nn,nu,hd⟩ (some ⟨g,0,none⟩) (ps.flatMap nY) v6 (ws0++[[45]])):=HS0.out.app (gb (j1 _) _) zKY zL0;clear zL0 zKY;go_wp2_with fail
       go_meet
       exact⟨_,zA (by rw[HE.out]),zA (by simp),HS6⟩
    case rest =>
     clear c0 c1 c2 c3 c4 HS0 zL8 HSg;obtain⟨ws1,HE1,HL1,HS1⟩:=hcut;obtain⟨oa1,oc1,rfl⟩:=zP HS1.out.own;obtain⟨c0,c1,c2,c3,c4⟩:=HS1.out.cells;simp only at c0 c1 c2 c3 c4;have zL8:=HS1.out.bel.size;have hl1:=HL1.out;have HTm:Hid (uZ ⟨mi,ti,nn,nu,hd⟩=if ti=true\/(nu<0/\hd<0) then [Lib.itoa nn] else []):=rfl
     have HNn:Hid ((ti=true\/(nu<0/\hd<0))->0<=nn/\nn<=9999):=fun h=>by
      rcases HOk.out with ⟨-,h1,-,-⟩|⟨h0,h1,-⟩|⟨-,h1,-⟩|⟨h1,-,-⟩
      ·exact h1
      ·rcases h with h|h
       ·exact absurd (h.symm.trans h0) (by simp)
       ·have:=h1.1;simp only at this;omega
      ·have:=h1;simp only at this;omega
      ·have:=h1;simp only at this;omega
     go_upto_region 10 with fail
     go_cut [3,41] from 6 to 70 (fun v3 v41 wx=>v3=.slice oa1 ws1.length oc1/\v41=.bool (decide (ti=true\/(nu<0/\hd<0)))/\wx=wc)
     case first =>
      cases ti
      ·by_cases k1:nu<0
       ·by_cases k2:hd<0
        ·have HD:Hid (decide (false=true\/(nu<0/\hd<0))=true):=tu (.inr ⟨k1,k2⟩)
         go_wp2_with fail
         go_meet
         exact⟨rfl,by rw[HD.out],rfl⟩
        ·have HD:Hid (decide (false=true\/(nu<0/\hd<0))=false):=ty (fun h=>by rcases h with h|h;cases h;exact k2 h.2)
         go_wp2_with fail
         go_meet
         exact⟨rfl,by rw[HD.out],rfl⟩
       ·have HD:Hid (decide (false=true\/(nu<0/\hd<0))=false):=ty (fun h=>by rcases h with h|h;cases h;exact k1 h.1)
        go_wp2_with fail
        go_meet
        exact⟨rfl,by rw[HD.out],rfl⟩
      ·have HD:Hid (decide (true=true\/(nu<0/\hd<0))=true):=tu (.inl rfl)
       go_wp2_with fail
       go_meet
       exact⟨rfl,by rw[HD.out],rfl⟩
     case rest =>
      obtain⟨rfl,rfl,rfl⟩:=hcut
      go_upto_if 41 with fail
      go_cut [3] from 6 to 70 (fun v3 wx=>∃ws2,Hid (ws2=ws1++uZ ⟨mi,ti,nn,nu,hd⟩)/\Hid (ws2.length<=ws1.length+1)/\Hid (Kh w wx gp ⟨mi,ti,nn,nu,hd⟩ (some ⟨g,0,none⟩) (ps.flatMap nY) v3 ws2))
      case first =>
       by_cases hc:ti=true\/(nu<0/\hd<0)
       ·have HE:Hid (uZ ⟨mi,ti,nn,nu,hd⟩=[Lib.itoa nn]):=HTm.out.trans (tl hc)
        obtain⟨n1,n2⟩:=HNn.out hc;rw[tu hc];have HI:=zA (wC wc nn n1 n2 (HTb.out wc HS1.out.bel));generalize Lib.itoa nn=iw at *;clear hc;go_wp2_with fail
        refine HI.out.mono ?_;rintro e w5 ⟨rfl,hb5⟩;have HS5:=zA (HS1.out.below hb5);have hsz5:=HS5.out.bel.size;clear hb5 HI
        go_wp2_with (at_builtin;refine wpList_append_own _ rfl _ _ 70 rfl w.heap.size 9 i0 _ 1 16 Tryz.underlying70 hi0 hz0 hz1 hz2 rfl (by decide) _ _ _ rfl (HS5.out.own.alloc _) ⟨w5.heap.size,0,none⟩ 1 1 [.string ⟨iw.toArray⟩] rfl rfl ?c3k1 ?c3k2 ?c3k3 ?c3k4 ?c3k5 ?_)
        try (case c3k1=>exact zM _ _ _ _ rfl)
        try (case c3k2=>first|rfl|exact⟨rfl,rfl⟩|(intro u hu;simp at hu;rcases hu with rfl <;> rfl))
        try (case c3k3=>unfold maxLen;omega)
        try (case c3k4=>omega)
        try (case c3k5=>first|omega|(simp;omega))
        intro v6 w6 zL0 zKY _;have HS6:Hid (Kh w w6 gp ⟨mi,ti,nn,nu,hd⟩ (some ⟨g,0,none⟩) (ps.flatMap nY) v6 (ws1++[iw])):=HS5.out.app (gb (j1 _) _) zKY zL0;clear zL0 zKY;go_wp2_with fail
        go_meet
        exact⟨_,zA (by rw[HE.out]),zA (by simp),HS6⟩
       ·have HE:Hid (uZ ⟨mi,ti,nn,nu,hd⟩=[]):=HTm.out.trans (tb hc)
        rw[ty hc];clear hc;go_wp2_with fail
        go_meet
        exact⟨ws1,zA (by rw[HE.out,mt]),zA (mw _),HS1⟩
      case rest =>
       clear c0 c1 c2 c3 c4 HS1 zL8 HTm HNn;obtain⟨ws2,HE2,HL2,HS2⟩:=hcut;obtain⟨oa2,oc2,rfl⟩:=zP HS2.out.own;obtain⟨c0,c1,c2,c3,c4⟩:=HS2.out.cells;simp only at c0 c1 c2 c3 c4;have zL8:=HS2.out.bel.size;have hl2:=HL2.out;have HSr:Hid (tN ⟨mi,ti,nn,nu,hd⟩=if ti=true then [[42]] else []):=rfl
       go_upto_if 49 with fail
       go_cut [3] from 6 to 70 (fun v3 wx=>∃ws3,Hid (ws3=ws2++tN ⟨mi,ti,nn,nu,hd⟩)/\Hid (ws3.length<=ws2.length+1)/\Hid (Kh w wx gp ⟨mi,ti,nn,nu,hd⟩ (some ⟨g,0,none⟩) (ps.flatMap nY) v3 ws3))
       case first =>
        cases ti
        ·have HE:Hid (tN ⟨mi,false,nn,nu,hd⟩=[]):=HSr.out.trans (tb (by simp))
         go_wp2_with fail
         go_meet
         exact⟨ws2,zA (by rw[HE.out,mt]),zA (mw _),HS2⟩
        ·have HE:Hid (tN ⟨mi,true,nn,nu,hd⟩=[[42]]):=HSr.out.trans (tl rfl)
         go_wp2_with (at_builtin;refine wpList_append_own _ rfl _ _ 70 rfl w.heap.size 9 i0 _ 1 16 Tryz.underlying70 hi0 hz0 hz1 hz2 rfl (by decide) _ _ _ rfl (HS2.out.own.alloc _) ⟨wc.heap.size,0,none⟩ 1 1 [.string ⟨#[42]⟩] rfl rfl ?c4k1 ?c4k2 ?c4k3 ?c4k4 ?c4k5 ?_)
         try (case c4k1=>exact zM _ _ _ _ rfl)
         try (case c4k2=>first|rfl|exact⟨rfl,rfl⟩|(intro u hu;simp at hu;rcases hu with rfl <;> rfl))
         try (case c4k3=>unfold maxLen;omega)
         try (case c4k4=>omega)
         try (case c4k5=>first|omega|(simp;omega))
         intro v6 w6 zL0 zKY _;have HS6:Hid (Kh w w6 gp ⟨mi,true,nn,nu,hd⟩ (some ⟨g,0,none⟩) (ps.flatMap nY) v6 (ws2++[[42]])):=HS2.out.app (gb (j1 _) _) zKY zL0;clear zL0 zKY;go_wp2_with fail
         go_meet
         exact⟨_,zA (by rw[HE.out]),zA (by simp),HS6⟩
       case rest =>
        clear c0 c1 c2 c3 c4 HS2 zL8 HSr;obtain⟨ws3,HE3,HL3,HS3⟩:=hcut;obtain⟨oa3,oc3,rfl⟩:=zP HS3.out.own;obtain⟨c0,c1,c2,c3,c4⟩:=HS3.out.cells;simp only at c0 c1 c2 c3 c4;have zL8:=HS3.out.bel.size;have hl3:=HL3.out;have HNm:Hid (qE ⟨mi,ti,nn,nu,hd⟩=if 0<=nu then [yD nu.toNat] else if 0<=hd then [xG 99 hd.toNat] else []):=rfl
        have HEn:Hid (pD ps (i+1)=ws3++qE ⟨mi,ti,nn,nu,hd⟩):=by
         unfold Hid;rw[HSi.out,HE3.out,HE2.out,HE1.out];simp only[mQ,pt]
        have HNb:Hid ((0<=nu->nu<3)/\(0<=hd->hd<4)):=by
         rcases HOk.out with ⟨-,-,h1,h2⟩|⟨-,h1,h2⟩|⟨-,-,h1,h2⟩|⟨-,h1,d,hd1,h2⟩
         ·simp only at h1 h2;exact⟨fun h=>by omega,fun h=>by omega⟩
         ·simp only at h1 h2;exact⟨fun h=>by omega,fun h=>by omega⟩
         ·simp only at h1 h2;exact⟨fun h=>by omega,fun h=>by omega⟩
         ·have:=HL4.out d hd1;simp only at h1 h2;exact⟨fun h=>by omega,fun h=>by omega⟩
        have zLL:Hid (∀(w6:World) (v6:Value) (nm:List Bs),nm.length<=1->qE ⟨mi,ti,nn,nu,hd⟩=nm->Kh w w6 gp ⟨mi,ti,nn,nu,hd⟩ (some ⟨g,0,none⟩) (ps.flatMap nY) v6 (ws3++nm)->Below w.heap.size w w6/\yZ w6 89 (some ⟨g,0,none⟩) (ps.flatMap nY)/\(pD ps (i+1)).length<=4*(i+1)/\w6.ownsRow w.heap.size 9 1 v6 (pD ps (i+1)).length (vE (pD ps (i+1)))):=fun w6 v6 nm hn e hS=>by
         rw[HEn.out,e];exact⟨hS.bel,hS.lst,by rw[tm];omega,hS.own⟩
        clear HE3 HE2 HE1 HSi HEn;by_cases k1:0<=nu
        ·have HE:Hid (qE ⟨mi,ti,nn,nu,hd⟩=[yD nu.toNat]):=HNm.out.trans (tl k1)
         have k3:=HNb.out.1 k1;obtain⟨un,rfl⟩:=cb k1;rw[Int.toNat_natCast]at HE;have HI:=zA (dD wc un (by omega));generalize yD un=iw at *;go_wp2_with fail
         refine HI.out.mono ?_;rintro e w5 ⟨rfl,hb5⟩;have HS5:=zA (HS3.out.below hb5);have hsz5:=HS5.out.bel.size;clear hb5 HI
         go_wp2_with (at_builtin;refine wpList_append_own _ rfl _ _ 70 rfl w.heap.size 9 i0 _ 1 16 Tryz.underlying70 hi0 hz0 hz1 hz2 rfl (by decide) _ _ _ rfl (HS5.out.own.alloc _) ⟨w5.heap.size,0,none⟩ 1 1 [.string ⟨iw.toArray⟩] rfl rfl ?c5k1 ?c5k2 ?c5k3 ?c5k4 ?c5k5 ?_)
         try (case c5k1=>exact zM _ _ _ _ rfl)
         try (case c5k2=>first|rfl|exact⟨rfl,rfl⟩|(intro u hu;simp at hu;rcases hu with rfl <;> rfl))
         try (case c5k3=>unfold maxLen;omega)
         try (case c5k4=>omega)
         try (case c5k5=>first|omega|(simp;omega))
         intro v6 w6 zL0 zKY _;have HS6:Hid (Kh w w6 gp ⟨mi,ti,nn,(un:Int),hd⟩ (some ⟨g,0,none⟩) (ps.flatMap nY) v6 (ws3++[iw])):=HS5.out.app (gb (j1 _) _) zKY zL0;clear zL0 zKY;obtain⟨z1,z2,z3,z4⟩:=zLL.out w6 v6 [iw] (by simp) HE.out HS6.out;have Z1:=zA z1;have Z2:=zA z2;have Z3:=zA z3;have Z4:=zA z4;clear z1 z2 z3 z4;go_wp2_with fail
         go_roundw
         case rel=>exact⟨i+1,by omega,by go_num,Z1,Z2,Z3,Z4⟩
         case measure=>simp[intOf];omega
        ·have HE0:Hid (qE ⟨mi,ti,nn,nu,hd⟩=if 0<=hd then [xG 99 hd.toNat] else []):=HNm.out.trans (tb k1)
         by_cases k2:0<=hd
         ·have HE:Hid (qE ⟨mi,ti,nn,nu,hd⟩=[xG 99 hd.toNat]):=HE0.out.trans (tl k2)
          have k3:=HNb.out.2 k2;obtain⟨un,rfl⟩:=cb k2;rw[Int.toNat_natCast]at HE;have HI:=zA (dZ wc 99 un (by omega));rw[show ((99:UInt8).toNat:Int)=99 from rfl]at HI;generalize xG 99 un=iw at *;go_wp2_with fail
          refine HI.out.mono ?_;rintro e w5 ⟨rfl,hb5⟩;have HS5:=zA (HS3.out.below hb5);have hsz5:=HS5.out.bel.size;clear hb5 HI
          go_wp2_with (at_builtin;refine wpList_append_own _ rfl _ _ 70 rfl w.heap.size 9 i0 _ 1 16 Tryz.underlying70 hi0 hz0 hz1 hz2 rfl (by decide) _ _ _ rfl (HS5.out.own.alloc _) ⟨w5.heap.size,0,none⟩ 1 1 [.string ⟨iw.toArray⟩] rfl rfl ?c6k1 ?c6k2 ?c6k3 ?c6k4 ?c6k5 ?_)
          try (case c6k1=>exact zM _ _ _ _ rfl)
          try (case c6k2=>first|rfl|exact⟨rfl,rfl⟩|(intro u hu;simp at hu;rcases hu with rfl <;> rfl))
          try (case c6k3=>unfold maxLen;omega)
          try (case c6k4=>omega)
          try (case c6k5=>first|omega|(simp;omega))
          intro v6 w6 zL0 zKY _;have HS6:Hid (Kh w w6 gp ⟨mi,ti,nn,nu,(un:Int)⟩ (some ⟨g,0,none⟩) (ps.flatMap nY) v6 (ws3++[iw])):=HS5.out.app (gb (j1 _) _) zKY zL0;clear zL0 zKY;obtain⟨z1,z2,z3,z4⟩:=zLL.out w6 v6 [iw] (by simp) HE.out HS6.out;have Z1:=zA z1;have Z2:=zA z2;have Z3:=zA z3;have Z4:=zA z4;clear z1 z2 z3 z4;go_wp2_with fail
          go_roundw
          case rel=>exact⟨i+1,by omega,by go_num,Z1,Z2,Z3,Z4⟩
          case measure=>simp[intOf];omega
         ·have HE:Hid (qE ⟨mi,ti,nn,nu,hd⟩=[]):=HE0.out.trans (tb k2)
          obtain⟨z1,z2,z3,z4⟩:=zLL.out wc _ [] (by simp) HE.out (by rw[mt];exact HS3.out);have Z1:=zA z1;have Z2:=zA z2;have Z3:=zA z3;have Z4:=zA z4;clear z1 z2 z3 z4;go_wp2_with fail
          go_roundw
          case rel=>exact⟨i+1,by omega,by go_num,Z1,Z2,Z3,Z4⟩
          case measure=>simp[intOf];omega
  ·obtain rfl:i=ps.length:=by omega
   have ii:¬(ps.length:Int)<(ps.length:Int):=by omega
   have HQ:Hid (wr.ownsRow w.heap.size 9 1 (.slice oa (pD ps ps.length).length oc) TW.length (vE TW)):=by unfold Hid;rw[HSW.out];exact HO.out
   clear HO HLen HSs;go_wp2_with fail
   go_ret
   exact⟨_,rfl,HQ.out,HB.out⟩
def bV:zR:=⟨false,false,false,0,0,0,0,0⟩
def kQ(j:Nat)(t:zR):List Bs:=if j=0 then [] else if t.or=true then [[111,114]] else [[97,110,100]]
def jE(ts:List zR)(lo:Bool)(i:Nat):List Bs:=(List.range i).flatMap fun j=>kQ j (ts.getD j bV)++xB (ts.getD j bV) lo
theorem aI:jE ts lo (i+1)=jE ts lo i++(kQ i (ts.getD i bV)++xB (ts.getD i bV) lo):=by unfold jE;rw[lq,lu];simp
def Yf(wh lo:Bool)(n:Nat):Bool:=wh&&(lo || decide (1<n))
def bG(wh:Bool)(ts:List zR)(lo:Bool):List Bs:=(if wh=true then [[110,111,116]] else [])++(if Yf wh lo ts.length=true then [[40]] else [])++jE ts lo ts.length++(if Yf wh lo ts.length=true then [[41]] else [])
theorem XJ(t:zR):0<(uN t).length/\(uN t).length<=3:=by
 unfold uN;by_cases h0:t.kind=0
 ·rw[tl h0];simp
 ·rw[tb h0]
  by_cases h1:t.kind=1
  ·rw[tl h1];simp
  ·rw[tb h1]
   by_cases h2:t.kind=2
   ·rw[tl h2];simp
   ·rw[tb h2]
    by_cases h3:t.kind=3
    ·rw[tl h3];simp
    ·rw[tb h3];simp
theorem Y9(t:zR)(lo:Bool):0<(xB t lo).length/\(xB t lo).length<=6:=by
 unfold xB;simp only[tm];have h1:((if t.not=true then [[110,111,116]] else []):List Bs).length<=1:=by split <;> simp
 have h2:∀x:Bs,((if (lo&&t.pair)=true then [x] else []):List Bs).length<=1:=fun x=>by split <;> simp
 have h3:=h2 [40];have h4:=h2 [41];have h5:=XJ t;omega
structure K3(w wx:World)(bo:Obj)(qa:Option Addr)(L:List Value)(v:Value)(ws:List Bs):Prop where
 box:wx.heap[w.heap.size]? = some bo
 lst:yZ wx 87 qa L
 own:wx.ownsRow (w.heap.size+1) 9 1 v ws.length (vE ws)
 bel:Below w.heap.size w wx
theorem K3.below(h:K3 w wx bo qa L v ws)(hb:Below wx.heap.size wx w'):K3 w w' bo qa L v ws:=⟨(hb.block _ (zJ h.box)).trans h.box,h.lst.below hb,uV h.own hb,h.bel.trans (hb.mono h.bel.size)⟩
theorem K3.app(h:K3 w wx bo qa L v ws)(hz:Below wx.heap.size wx wz)(hg:wz.grownBy w9 v.ownBlock)(zL1:w9.ownsRow (w.heap.size+1) 9 1 v9 (ws.length+ns.length) (vE ws++vE ns)):K3 w w9 bo qa L v9 (ws++ns):=by
 have hZ:=h.below hz;have hb:Below (w.heap.size+1) wz w9:=(tg _ wz).grown hg (zJ hZ.box) (zU hZ.own);refine⟨(hb.block _ (l8 _)).trans hZ.box,hZ.lst.grown hZ.own (by decide) hg,?_,hZ.bel.trans (hb.mono (mw _))⟩;rw[tm];have e:vE (ws++ns)=vE ws++vE ns:=by unfold vE;rw[bi]
 rw[e];exact zL1
theorem Ba{B:Nat}(h:w.ownsRow B 9 1 v ws.length (vE ws))(h0:0<ws.length):∃g c,v=.slice (some ⟨g,0,none⟩) ws.length c/\∀(j:Nat) (u:Value),(vE ws)[j]? = some u->w.cell? ((⟨g,0,none⟩:Addr).add j)=some u:=by
 obtain⟨a,c,e,hc,-,-⟩:=gY h;obtain⟨g,rfl,-⟩:=hc.at (j:=0) (show (vE ws)[0]? = some (.string ⟨(ws.getD 0 []).toArray⟩) by simp[vE,List.getD,h0]);refine⟨g,c,e,fun j u hj=>?_⟩;obtain⟨g',e',c'⟩:=hc.at hj;obtain rfl:g=g':=by simpa using e'
 have:(⟨g,0,none⟩:Addr).add j=⟨g,j,none⟩:=by simp[Addr.add];omega
 rw[this];exact c'
theorem GB(w:World)(hd:Int)(wh lo:Bool)(pa qa:Option Addr)(pn pc qc:Nat)(ts:List zR)(low:List Nat)(hp:qX low ts)(hl4:∀d∈low,d<4)(hL:yZ w 87 qa (ts.flatMap mT))(hT:rL w) :
 Calls Tryz.prog 63 #[.agg #[.int .i64 hd,.bool wh,.slice pa pn pc,.slice qa ts.length qc],.bool lo] w fun e w'=>∃v,e=.returned v/\w'.ownsRow w.heap.size 9 1 v (bG wh ts lo).length (vE (bG wh ts lo))/\Below w.heap.size w w':=by
 obtain⟨i0,hi0,hz0,hz1,hz2⟩:=info_parts sI;have hp6:=hp.2.1;have HPo:=zA hp.2.2;have HTb:=zA (fun w' (hb:Below w.heap.size w w')=>hT.below hb);have HL4:=zA hl4;have HGW:Hid (bG wh ts lo=(if wh=true then [[110,111,116]] else [])++(if Yf wh lo ts.length=true then [[40]] else [])++jE ts lo ts.length++(if Yf wh lo ts.length=true then [[41]] else [])):=rfl;have zLS:Hid (Yf wh lo ts.length=(wh&&(lo || decide (1<ts.length)))):=rfl;have HSs:=zA (aI ts lo);generalize bG wh ts lo=TW at *;generalize Yf wh lo ts.length=inn at *;have HS0:Hid (K3 w (w.alloc (.cells #[.int .i64 hd,.bool wh,.slice pa pn pc,.slice qa ts.length qc] 85)) (.cells #[.int .i64 hd,.bool wh,.slice pa pn pc,.slice qa ts.length qc] 85 (0,0)) qa (ts.flatMap mT) (.slice none 0 0) []):=⟨zG _ _,hL.below (gb (j1 _) _),ly _ _ _ _,gb (j1 _) _⟩;clear hp hl4 hL hT
 go_enter Tryz.func63,Tryz.ntmps63
 go_upto_region 2 with fail
 generalize w.alloc (.cells #[.int .i64 hd,.bool wh,.slice pa pn pc,.slice qa ts.length qc] 85)=w0 at *;have b1:w0.cell? ⟨w.heap.size,1,none⟩=some (.bool wh):=zB HS0.out.box 1;have b3:w0.cell? ⟨w.heap.size,3,none⟩=some (.slice qa ts.length qc):=zB HS0.out.box 3
 go_cut [6] from 9 to 19 (fun v6 wx=>v6=.bool inn/\wx=w0)
 case first =>
  cases wh
  ·have HI:Hid (inn=false):=zLS.out
   go_wp2_with fail
   go_meet
   exact⟨by rw[HI.out],rfl⟩
  ·cases lo
   ·by_cases k1:1<ts.length
    ·have HI:Hid (inn=true):=zLS.out.trans (by simp[k1])
     have k2:(1:Int)<(ts.length:Int):=by omega
     go_wp2_with fail
     go_meet
     exact⟨by rw[HI.out],rfl⟩
    ·have HI:Hid (inn=false):=zLS.out.trans (by simp[k1])
     have k2:¬(1:Int)<(ts.length:Int):=by omega
     go_wp2_with fail
     go_meet
     exact⟨by rw[HI.out],rfl⟩
   ·have HI:Hid (inn=true):=zLS.out
    go_wp2_with fail
    go_meet
    exact⟨by rw[HI.out],rfl⟩
 case rest =>
  obtain⟨rfl,rfl⟩:=hcut;have zL8:=zJ HS0.out.box
  go_upto_if 21 with fail
  go_cut [5] from 9 to 28 (fun v5 wx=>∃ws,Hid (ws=if wh=true then [[110,111,116]] else [])/\Hid (ws.length<=1)/\Hid (K3 w wx (.cells #[.int .i64 hd,.bool wh,.slice pa pn pc,.slice qa ts.length qc] 85 (0,0)) qa (ts.flatMap mT) v5 ws))
  case first =>
   cases wh
   ·go_wp2_with fail
    go_meet
    exact⟨[],zA rfl,zA (by decide),HS0⟩
   ·go_wp2_with (at_builtin;refine wpList_append_own _ rfl _ _ 70 rfl (w.heap.size+1) 9 i0 _ 1 16 Tryz.underlying70 hi0 hz0 hz1 hz2 rfl (by decide) _ _ _ rfl (HS0.out.own.alloc _) ⟨wc.heap.size,0,none⟩ 1 1 [.string ⟨#[110,111,116]⟩] rfl rfl ?c1k1 ?c1k2 ?c1k3 ?c1k4 ?c1k5 ?_)
    try (case c1k1=>exact zM _ _ _ _ rfl)
    try (case c1k2=>first|rfl|(intro u hu;simp at hu;rcases hu with rfl;rfl))
    try (case c1k3=>unfold maxLen;omega)
    try (case c1k4=>omega)
    try (case c1k5=>first|omega|(simp;omega))
    intro v6 w6 zL0 zKY _;have HS6:Hid (K3 w w6 (.cells #[.int .i64 hd,.bool true,.slice pa pn pc,.slice qa ts.length qc] 85 (0,0)) qa (ts.flatMap mT) v6 ([]++[[110,111,116]])):=HS0.out.app (gb (j1 _) _) zKY zL0;clear zL0 zKY;go_wp2_with fail
    go_meet
    exact⟨_,zA rfl,zA (by decide),HS6⟩
  case rest =>
   clear b1 b3 HS0 zL8;obtain⟨ws1,HE1,HL1,HS1⟩:=hcut;obtain⟨oa1,oc1,rfl⟩:=zP HS1.out.own;have zL8:=zJ HS1.out.box;have hl1:=HL1.out
   go_upto_if 25 with fail
   go_cut [5] from 9 to 28 (fun v5 wx=>∃ws,Hid (ws=ws1++if inn=true then [[40]] else [])/\Hid (ws.length<=2)/\Hid (K3 w wx (.cells #[.int .i64 hd,.bool wh,.slice pa pn pc,.slice qa ts.length qc] 85 (0,0)) qa (ts.flatMap mT) v5 ws))
   case first =>
    cases inn
    ·go_wp2_with fail
     go_meet
     exact⟨ws1,zA (mt _).symm,zA (by omega),HS1⟩
    ·go_wp2_with (at_builtin;refine wpList_append_own _ rfl _ _ 70 rfl (w.heap.size+1) 9 i0 _ 1 16 Tryz.underlying70 hi0 hz0 hz1 hz2 rfl (by decide) _ _ _ rfl (HS1.out.own.alloc _) ⟨wc.heap.size,0,none⟩ 1 1 [.string ⟨#[40]⟩] rfl rfl ?c2k1 ?c2k2 ?c2k3 ?c2k4 ?c2k5 ?_)
     try (case c2k1=>exact zM _ _ _ _ rfl)
     try (case c2k2=>first|rfl|(intro u hu;simp at hu;rcases hu with rfl;rfl))
     try (case c2k3=>unfold maxLen;omega)
     try (case c2k4=>omega)
     try (case c2k5=>first|omega|(simp;omega))
     intro v6 w6 zL0 zKY _;have HS6:Hid (K3 w w6 (.cells #[.int .i64 hd,.bool wh,.slice pa pn pc,.slice qa ts.length qc] 85 (0,0)) qa (ts.flatMap mT) v6 (ws1++[[40]])):=HS1.out.app (gb (j1 _) _) zKY zL0;clear zL0 zKY;go_wp2_with fail
     go_meet
     exact⟨_,zA rfl,zA (by simp;omega),HS6⟩
   case rest =>
    clear HS1 zL8;obtain⟨ws2,HE2,HL2,HS2⟩:=hcut;obtain⟨oa2,oc2,rfl⟩:=zP HS2.out.own;have hl2:=HL2.out;go_wp2_with fail
    go_loopw [5,7] (fun ov iv wr=>∃(i:Nat),i<=ts.length/\iv=.int .i64 (i:Int)/\Hid ((jE ts lo i).length<=7*i)/\Hid (K3 w wr (.cells #[.int .i64 hd,.bool wh,.slice pa pn pc,.slice qa ts.length qc] 85 (0,0)) qa (ts.flatMap mT) ov (ws2++jE ts lo i))) (fun _ iv _=>ts.length-(intOf iv).toNat)
    case atStart=>exact⟨0,p7 _,rfl,zA (p7 _),by rw[show ws2++jE ts lo 0=ws2 from mt _];exact HS2⟩
    case round =>
     clear HS2;obtain⟨i,hi,rfl,HLen,HS⟩:=hrel;obtain⟨oa,oc,rfl⟩:=zP HS.out.own;have zL8:=zJ HS.out.box;have b3:wr.cell? ⟨w.heap.size,3,none⟩=some (.slice qa ts.length qc):=zB HS.out.box 3;by_cases zKZ:i<ts.length
     ·have ii:(i:Int)<(ts.length:Int):=by omega
      have hmem:ts.getD i bV∈ts:=by simp[List.getD,zKZ]
      have zLC:=HPo.out _ hmem;have hss:=HSs.out i;obtain⟨g,e0,-⟩:=HS.out.lst.cel.at ((zN mT 8 (fun _=>rfl) bV ts i 0 zKZ (by decide)).trans rfl);subst e0
      have HQq:Hid (∀wx,yZ wx 87 (some ⟨g,0,none⟩) (ts.flatMap mT)->∀(r:Nat) (u:Value),r<8->(mT (ts.getD i bV))[r]? = some u->wx.cell? ⟨g,i*8+r,none⟩=some u):=fun wx h r u hr hu=>by
       obtain⟨g',e',c'⟩:=h.cel.at ((zN mT 8 (fun _=>rfl) bV ts i r zKZ hr).trans hu);obtain rfl:g=g':=by simpa using e'
       exact c'
      clear hmem;generalize ts.getD i bV=t at *;have HOk:=zA zLC;have HSi:=zA hss;clear zLC hss;generalize jE ts lo i=ws0 at *;have hl0:=HLen.out;have hlw:(ws2++ws0).length<=100:=by rw[tm];omega
      generalize hWA:ws2++ws0=wsA at *;have HWA:Hid (wsA=ws2++ws0):=hWA.symm;clear hWA;have q0:=HQq.out wr HS.out.lst 0 _ (by decide) rfl;rw[l9]at q0;have HJn:Hid (kQ i t=if i=0 then [] else if t.or=true then [[111,114]] else [[97,110,100]]):=rfl
      go_upto_region 10 with fail
      go_cut [5,45] from 29 to 63 (fun v5 v45 wx=>v5=.slice oa wsA.length oc/\v45=.bool (decide (0<i)&&t.or)/\wx=wr)
      case first =>
       by_cases k0:i=0
       ·subst k0
        go_wp2_with fail
        go_meet
        exact⟨rfl,rfl,rfl⟩
       ·have k1:0<i:=by omega
        have k2:(0:Int)<(i:Int):=by omega
        have HD:Hid (decide (0<i)=true):=tu k1;clear k0;go_wp2_with fail
        go_meet
        exact⟨rfl,by rw[HD.out];rfl,rfl⟩
      case rest =>
       obtain⟨rfl,rfl,rfl⟩:=hcut
       go_upto_if 45 with fail
       go_cut [5] from 29 to 63 (fun v5 wx=>∃wsB,Hid (wsB=wsA++kQ i t)/\Hid (wsB.length<=wsA.length+1)/\Hid (K3 w wx (.cells #[.int .i64 hd,.bool wh,.slice pa pn pc,.slice (some ⟨g,0,none⟩) ts.length qc] 85 (0,0)) (some ⟨g,0,none⟩) (ts.flatMap mT) v5 wsB))
       case first =>
        by_cases k0:i=0
        ·have HE:Hid (kQ i t=[]):=HJn.out.trans (tl k0)
         subst k0;rw[show (decide (0<0)&&t.or)=false from rfl];go_wp2_with fail
         go_meet
         exact⟨wsA,zA (by rw[HE.out,mt]),zA (mw _),HS⟩
        ·have k1:0<i:=by omega
         have k2:(0:Int)<(i:Int):=by omega
         rw[tu k1,mz];cases hto:t.or
         ·have HE:Hid (kQ i t=[[97,110,100]]):=HJn.out.trans ((tb k0).trans (tb (by rw[hto];simp)))
          clear k0 hto
          go_wp2_with (at_builtin;refine wpList_append_own _ rfl _ _ 70 rfl (w.heap.size+1) 9 i0 _ 1 16 Tryz.underlying70 hi0 hz0 hz1 hz2 rfl (by decide) _ _ _ rfl (HS.out.own.alloc _) ⟨wc.heap.size,0,none⟩ 1 1 [.string ⟨#[97,110,100]⟩] rfl rfl ?c3k1 ?c3k2 ?c3k3 ?c3k4 ?c3k5 ?_)
          try (case c3k1=>exact zM _ _ _ _ rfl)
          try (case c3k2=>first|rfl|(intro u hu;simp at hu;rcases hu with rfl;rfl))
          try (case c3k3=>unfold maxLen;omega)
          try (case c3k4=>omega)
          try (case c3k5=>first|omega|(simp;omega))
          intro v6 w6 zL0 zKY _;have HS6:Hid (K3 w w6 (.cells #[.int .i64 hd,.bool wh,.slice pa pn pc,.slice (some ⟨g,0,none⟩) ts.length qc] 85 (0,0)) (some ⟨g,0,none⟩) (ts.flatMap mT) v6 (wsA++[[97,110,100]])):=HS.out.app (gb (j1 _) _) zKY zL0;clear zL0 zKY;go_wp2_with fail
          go_meet
          exact⟨_,zA (by rw[HE.out]),zA (by simp),HS6⟩
         ·have HE:Hid (kQ i t=[[111,114]]):=HJn.out.trans ((tb k0).trans (tl hto))
          clear k0 hto
          go_wp2_with (at_builtin;refine wpList_append_own _ rfl _ _ 70 rfl (w.heap.size+1) 9 i0 _ 1 16 Tryz.underlying70 hi0 hz0 hz1 hz2 rfl (by decide) _ _ _ rfl (HS.out.own.alloc _) ⟨wc.heap.size,0,none⟩ 1 1 [.string ⟨#[111,114]⟩] rfl rfl ?c4k1 ?c4k2 ?c4k3 ?c4k4 ?c4k5 ?_)
          try (case c4k1=>exact zM _ _ _ _ rfl)
          try (case c4k2=>first|rfl|(intro u hu;simp at hu;rcases hu with rfl;rfl))
          try (case c4k3=>unfold maxLen;omega)
          try (case c4k4=>omega)
          try (case c4k5=>first|omega|(simp;omega))
          intro v6 w6 zL0 zKY _;have HS6:Hid (K3 w w6 (.cells #[.int .i64 hd,.bool wh,.slice pa pn pc,.slice (some ⟨g,0,none⟩) ts.length qc] 85 (0,0)) (some ⟨g,0,none⟩) (ts.flatMap mT) v6 (wsA++[[111,114]])):=HS.out.app (gb (j1 _) _) zKY zL0;clear zL0 zKY;go_wp2_with fail
          go_meet
          exact⟨_,zA (by rw[HE.out]),zA (by simp),HS6⟩
       case rest =>
        clear HS zL8 b3 q0 HJn;obtain⟨wsB,HE1b,HL1b,HSb⟩:=hcut;obtain⟨oab,ocb,rfl⟩:=zP HSb.out.own;have hlb:=HL1b.out;have b3:wc.cell? ⟨w.heap.size,3,none⟩=some (.slice (some ⟨g,0,none⟩) ts.length qc):=zB HSb.out.box 3;have q0:=HQq.out wc HSb.out.lst 0 _ (by decide) rfl;rw[l9]at q0;have q1:=HQq.out wc HSb.out.lst 1 _ (by decide) rfl;have q2:=HQq.out wc HSb.out.lst 2 _ (by decide) rfl;have q3:=HQq.out wc HSb.out.lst 3 _ (by decide) rfl;have q4:=HQq.out wc HSb.out.lst 4 _ (by decide) rfl;have q5:=HQq.out wc HSb.out.lst 5 _ (by decide) rfl;have q6:=HQq.out wc HSb.out.lst 6 _ (by decide) rfl;have q7:=HQq.out wc HSb.out.lst 7 _ (by decide) rfl;have HTw:=zA (zAL wc t low lo HOk.out HL4.out (HTb.out wc HSb.out.bel));obtain⟨t1,t2⟩:=Y9 t lo;generalize hTT:xB t lo=tw at *;clear hTT;go_wp2_with fail
        refine HTw.out.mono ?_;rintro e w7 ⟨v7,rfl,ho7,hb7⟩;obtain⟨g7,c7,rfl,hc7⟩:=Ba ho7 t1;have HS7:=zA (HSb.out.below hb7);have HC7:=zA hc7;have hsz7:=zJ HS7.out.box;have HSlen:Hid ((vE tw).length=tw.length*1):=by unfold Hid vE;simp
        have HSone:Hid (∀u∈vE tw,u.oneCell'=true):=fun u hu=>by
         obtain⟨x,-,rfl⟩:=p9.1 hu;rfl
        clear hb7 ho7 hc7 q0 q1 q2 q3 q4 q5 q6 q7 b3 HTw
        go_wp2_with (at_builtin;refine wpList_append_own _ rfl _ _ 70 rfl (w.heap.size+1) 9 i0 _ 1 16 Tryz.underlying70 hi0 hz0 hz1 hz2 rfl (by decide) _ _ _ rfl HS7.out.own ⟨g7,0,none⟩ tw.length c7 (vE tw) rfl HSlen.out HC7.out HSone.out ?c5k3 ?c5k4 ?c5k5 ?_)
        try (case c5k3=>unfold maxLen;omega)
        try (case c5k4=>omega)
        try (case c5k5=>first|omega|(simp;omega))
        intro v6 w6 zL0 zKY _;have HS6:Hid (K3 w w6 (.cells #[.int .i64 hd,.bool wh,.slice pa pn pc,.slice (some ⟨g,0,none⟩) ts.length qc] 85 (0,0)) (some ⟨g,0,none⟩) (ts.flatMap mT) v6 (wsB++tw)):=HS7.out.app (tg _ _) zKY zL0
        have HX:Hid ((jE ts lo (i+1)).length<=7*(i+1)/\ws2++jE ts lo (i+1)=wsB++tw):=by
         unfold Hid;have hj:(kQ i t).length<=1:=by unfold kQ;split;simp;split <;> simp
         rw[HSi.out,HE1b.out,HWA.out];exact⟨by simp only[tm];omega,by simp only[pt]⟩
        have Z1:=zA HX.out.1;have Z2:Hid (K3 w w6 (.cells #[.int .i64 hd,.bool wh,.slice pa pn pc,.slice (some ⟨g,0,none⟩) ts.length qc] 85 (0,0)) (some ⟨g,0,none⟩) (ts.flatMap mT) v6 (ws2++jE ts lo (i+1))):=by unfold Hid;rw[HX.out.2];exact HS6.out
        clear zL0 zKY HX HS6;go_wp2_with fail
        go_roundw
        case rel=>exact⟨i+1,by omega,by go_num,Z1,Z2⟩
        case measure=>simp[intOf];omega
     ·obtain rfl:i=ts.length:=by omega
      have ii:¬(ts.length:Int)<(ts.length:Int):=by omega
      have hl0:=HLen.out
      have HTW:Hid (TW=ws2++jE ts lo ts.length++if inn=true then [[41]] else []):=by
       unfold Hid;rw[HGW.out,HE2.out,HE1.out]
      have hlw:(ws2++jE ts lo ts.length).length<=100:=by rw[tm];omega
      clear HGW HE2 HE1;generalize ws2++jE ts lo ts.length=wsA at *;cases inn
      ·have HQ:Hid (wr.ownsRow w.heap.size 9 1 (.slice oa wsA.length oc) TW.length (vE TW)):=by
        have e:TW=wsA:=HTW.out.trans (by simp);unfold Hid;rw[e];exact yT HS.out.own (mw _)
       go_wp2_with fail
       go_ret
       exact⟨_,rfl,HQ.out,HS.out.bel⟩
      ·go_wp2_with (at_builtin;refine wpList_append_own _ rfl _ _ 70 rfl (w.heap.size+1) 9 i0 _ 1 16 Tryz.underlying70 hi0 hz0 hz1 hz2 rfl (by decide) _ _ _ rfl (HS.out.own.alloc _) ⟨wr.heap.size,0,none⟩ 1 1 [.string ⟨#[41]⟩] rfl rfl ?c6k1 ?c6k2 ?c6k3 ?c6k4 ?c6k5 ?_)
       try (case c6k1=>exact zM _ _ _ _ rfl)
       try (case c6k2=>first|rfl|(intro u hu;simp at hu;rcases hu with rfl;rfl))
       try (case c6k3=>unfold maxLen;omega)
       try (case c6k4=>omega)
       try (case c6k5=>first|omega|(simp;omega))
       intro v6 w6 zL0 zKY _;have HS6:Hid (K3 w w6 (.cells #[.int .i64 hd,.bool wh,.slice pa pn pc,.slice qa ts.length qc] 85 (0,0)) qa (ts.flatMap mT) v6 (wsA++[[41]])):=HS.out.app (gb (j1 _) _) zKY zL0;clear zL0 zKY
       have HQ:Hid (w6.ownsRow w.heap.size 9 1 v6 TW.length (vE TW)):=by
        have e:TW=wsA++[[41]]:=HTW.out.trans (by simp);unfold Hid;rw[e];exact yT HS6.out.own (mw _)
       have HB6:=zA HS6.out.bel;clear HS6;go_wp2_with fail
       go_ret
       exact⟨_,rfl,HQ.out,HB6.out⟩
def cM(r:xP)(i:Nat)(lo:Bool):List Bs:=[[114,117,108,101],xG 114 i,[58],xG 99 r.head,[61]]++bQ r.parts++[[119,104,101,110]]++bG r.whole r.tests lo++[[59]]
structure C7(w wx:World)(bo:Obj)(pa qa:Option Addr)(Lp Lt:List Value)(v:Value)(ws:List Bs):Prop where
 box:wx.heap[w.heap.size]? = some bo
 lp:yZ wx 89 pa Lp
 lt:yZ wx 87 qa Lt
 own:wx.ownsRow (w.heap.size+1) 9 1 v ws.length (vE ws)
 bel:Below w.heap.size w wx
theorem C7.below(h:C7 w wx bo pa qa Lp Lt v ws)(hb:Below wx.heap.size wx w'):C7 w w' bo pa qa Lp Lt v ws:=⟨(hb.block _ (zJ h.box)).trans h.box,h.lp.below hb,h.lt.below hb,uV h.own hb,h.bel.trans (hb.mono h.bel.size)⟩
theorem C7.app(h:C7 w wx bo pa qa Lp Lt v ws)(hz:Below wx.heap.size wx wz)(hg:wz.grownBy w9 v.ownBlock)(zL1:w9.ownsRow (w.heap.size+1) 9 1 v9 (ws.length+ns.length) (vE ws++vE ns)):C7 w w9 bo pa qa Lp Lt v9 (ws++ns):=by
 have hZ:=h.below hz;have hb:Below (w.heap.size+1) wz w9:=(tg _ wz).grown hg (zJ hZ.box) (zU hZ.own);refine⟨(hb.block _ (l8 _)).trans hZ.box,hZ.lp.grown hZ.own (by decide) hg,hZ.lt.grown hZ.own (by decide) hg,?_,hZ.bel.trans (hb.mono (mw _))⟩;rw[tm];have e:vE (ws++ns)=vE ws++vE ns:=by unfold vE;rw[bi]
 rw[e];exact zL1
theorem C7.five(h:C7 w wx bo pa qa Lp Lt v ws)(a b c d e:Bs):C7 w (wx.alloc (.cells #[.string ⟨a.toArray⟩,.string ⟨b.toArray⟩,.string ⟨c.toArray⟩,.string ⟨d.toArray⟩,.string ⟨e.toArray⟩] 9)) bo pa qa Lp Lt (.slice (some ⟨wx.heap.size,0,none⟩) 5 5) [a,b,c,d,e]:=by
 have hz:=h.below (gb (j1 _) (.cells #[.string ⟨a.toArray⟩,.string ⟨b.toArray⟩,.string ⟨c.toArray⟩,.string ⟨d.toArray⟩,.string ⟨e.toArray⟩] 9));exact⟨hz.box,hz.lp,hz.lt,⟨rfl,.inr ⟨wx.heap.size,5,_,rfl,zJ h.box,zG _ _,by simp,by decide,rfl,rfl⟩⟩,hz.bel⟩
theorem gW(tw:List Bs):(vE tw).length=tw.length*1/\∀u∈vE tw,u.oneCell'=true:=by
 refine⟨by unfold vE;simp,fun u hu=>?_⟩;obtain⟨x,-,rfl⟩:=p9.1 hu;rfl
theorem FG(j:Nat)(p:yU):(mQ j p).length<=4:=by
 have h1:(dV j p).length<=1:=by unfold dV;split;simp;split <;> simp
 have h2:(uZ p).length<=1:=by unfold uZ;split <;> simp
 have h3:(tN p).length<=1:=by unfold tN;split <;> simp
 have h4:(qE p).length<=1:=by unfold qE;split;simp;split <;> simp
 unfold mQ;simp only[tm];omega
theorem Q5:∀i,(pD ps i).length<=4*i:=by
 intro i
 induction i with
 | zero=>simp[pD]
 | succ i ih=>rw[aK,tm];have:=FG i (ps.getD i aD);omega
theorem Fd:∀i,(jE ts lo i).length<=7*i:=by
 intro i
 induction i with
 | zero=>simp[jE]
 | succ i ih =>
   rw[aI,tm,tm];have h1:=(Y9 (ts.getD i bV) lo).2;have h2:(kQ i (ts.getD i bV)).length<=1:=by unfold kQ;split;simp;split <;> simp
   omega
theorem Fc{i:Nat}(h:0<i):0<(jE ts lo i).length:=by
 obtain⟨j,rfl⟩:∃j,i=j+1:=⟨i-1,by omega⟩;rw[aI,tm,tm];have h1:=(Y9 (ts.getD j bV) lo).1;omega
theorem VH(wh:Bool)(ts:List zR)(lo:Bool)(h0:0<ts.length)(h6:ts.length<=6):0<(bG wh ts lo).length/\(bG wh ts lo).length<=45:=by
 have h1:=Fd ts lo ts.length;have h2:=Fc ts lo h0;have a1:((if wh=true then [[110,111,116]] else []):List Bs).length<=1:=by split <;> simp
 have a2:∀x:Bs,((if Yf wh lo ts.length=true then [x] else []):List Bs).length<=1:=fun x=>by split <;> simp
 have a3:=a2 [40];have a4:=a2 [41];unfold bG;simp only[tm];omega
theorem FR{low:List Nat}(h:jR low p):0<(uZ p++qE p).length:=by
 rw[tm];rcases h with ⟨-,-,h1,h2⟩|⟨-,h1,-⟩|⟨-,-,h1,-⟩|⟨-,h1,d,-,h2⟩
 ·have:(uZ p).length=1:=by unfold uZ;rw[tl (.inr ⟨by omega,by omega⟩)];rfl
  omega
 ·have:(qE p).length=1:=by unfold qE;rw[tl h1.1];rfl
  omega
 ·have:(qE p).length=1:=by unfold qE;rw[tl h1.1];rfl
  omega
 ·have:(qE p).length=1:=by unfold qE;rw[tb (by omega),tl (by omega)];rfl
  omega
theorem vg{low:List Nat}{ps:List yU}(h:jG low ps):0<(bQ ps).length:=by
 obtain⟨j,hj⟩:∃j,ps.length=j+1:=⟨ps.length-1,by have:=h.1;omega⟩;unfold bQ;rw[hj,aK,tm];have h1:=FR (h.2.2 (ps.getD j aD) (by simp[List.getD,hj]));unfold mQ;simp only[tm]at h1 ⊢;omega
theorem zAM(w:World)(h i:Nat)(wh lo:Bool)(pa qa:Option Addr)(pc qc:Nat)(ps:List yU)(ts:List zR)(low:List Nat)(hh:h<4)(hi8:i<8)(hps:jG low ps)(hts:qX low ts)(hl4:∀d∈low,d<4)(hP:yZ w 89 pa (ps.flatMap nY))(hQ:yZ w 87 qa (ts.flatMap mT))(hT:rL w) :
 Calls Tryz.prog 49 #[.agg #[.int .i64 (h:Int),.bool wh,.slice pa ps.length pc,.slice qa ts.length qc],.int .i64 (i:Int),.bool lo] w fun e w'=>∃v,e=.returned v/\w'.ownsRow w.heap.size 9 1 v (cM ⟨h,wh,ps,ts⟩ i lo).length (vE (cM ⟨h,wh,ps,ts⟩ i lo))/\Below w.heap.size w w':=by
 obtain⟨i0,hi0,hz0,hz1,hz2⟩:=info_parts sI;have HTb:=zA (fun w' (hb:Below w.heap.size w w')=>hT.below hb);have HN1:=zA (fun w'=>dZ w' 114 i (by omega));have HN2:=zA (fun w'=>dZ w' 99 h (by omega));rw[show ((114:UInt8).toNat:Int)=114 from rfl]at HN1;rw[show ((99:UInt8).toNat:Int)=99 from rfl]at HN2;have HSu:=zA (fun w' pc (hc:yZ w' 89 pa (ps.flatMap nY)) (ht:rL w')=>zF9 w' pa pc ps low hps hl4 hc ht);have HGu:=zA (fun w' (hc:yZ w' 87 qa (ts.flatMap mT)) (ht:rL w')=>GB w' (h:Int) wh lo pa qa ps.length pc qc ts low hts hl4 hc ht);have HRW:Hid (cM ⟨h,wh,ps,ts⟩ i lo=[[114,117,108,101],xG 114 i,[58],xG 99 h,[61]]++bQ ps++[[119,104,101,110]]++bG wh ts lo++[[59]]):=rfl;have s1:=vg hps;have s2:(bQ ps).length<=16:=by have:=Q5 ps ps.length;have:=hps.2.1;unfold bQ;omega
 obtain⟨g1,g2⟩:=VH wh ts lo hts.1 hts.2.1;have HS0:Hid (C7 w (w.alloc (.cells #[.int .i64 (h:Int),.bool wh,.slice pa ps.length pc,.slice qa ts.length qc] 85)) (.cells #[.int .i64 (h:Int),.bool wh,.slice pa ps.length pc,.slice qa ts.length qc] 85 (0,0)) pa qa (ps.flatMap nY) (ts.flatMap mT) (.slice none 0 0) []):=⟨zG _ _,hP.below (gb (j1 _) _),hQ.below (gb (j1 _) _),ly _ _ _ _,gb (j1 _) _⟩;have hfp:ps.length<=4:=hps.2.1;have hft:ts.length<=6:=hts.2.1;generalize cM ⟨h,wh,ps,ts⟩ i lo=TW at *;generalize bQ ps=sw at *;generalize bG wh ts lo=gw at *;generalize xG 114 i=n1 at *;generalize xG 99 h=n2 at *;clear hps hts hl4 hP hQ hT
 go_enter Tryz.func49,Tryz.ntmps49
 go_upto_region 1 with fail
 generalize w.alloc (.cells #[.int .i64 (h:Int),.bool wh,.slice pa ps.length pc,.slice qa ts.length qc] 85)=w0 at *;have d0:w0.cell? ⟨w.heap.size,0,none⟩=some (.int .i64 (h:Int)):=zB HS0.out.box 0
 go_cut [7] from 10 to 15 (fun v7 wx=>Hid (C7 w wx (.cells #[.int .i64 (h:Int),.bool wh,.slice pa ps.length pc,.slice qa ts.length qc] 85 (0,0)) pa qa (ps.flatMap nY) (ts.flatMap mT) v7 [[114,117,108,101],n1,[58],n2,[61]]))
 case first =>
  go_region_held3 (fun w'=>w'.cell? ⟨w.heap.size,0,none⟩=some (.int .i64 (h:Int))) (go_keep) (first
   | (go_at_call_of 19 (Value.int .u8 114);refine(HN1.out _).mono ?_;rintro e w5 ⟨rfl,hb5⟩;have hS5:=HS0.out.below ((pj (tg _ _)).trans hb5);have d0:w5.cell? ⟨w.heap.size,0,none⟩=some (.int .i64 (h:Int)):=zB hS5.box 0)
   | (go_at_call_of 19 (Value.int .u8 99);refine(HN2.out _).mono ?_;rintro e w6 ⟨rfl,hb6⟩;have hS6:=hS5.below hb6;have d0:w6.cell? ⟨w.heap.size,0,none⟩=some (.int .i64 (h:Int)):=zB hS6.box 0;have n6:w6.heap.size≠w.heap.size:=by have:=zJ hS6.box;omega))
  all_goals
   have HS6:=zA (hS6.five [114,117,108,101] n1 [58] n2 [61]);clear hS6 hS5;go_wp2_with fail
   go_meet
   exact HS6
 case rest =>
  clear HS0 d0;have HS1:=hcut;clear hcut;generalize hA:[[114,117,108,101],n1,[58],n2,[61]]=wsA at *;have hlA:wsA.length<=5:=by rw[<-hA];simp
  have HA:Hid (wsA=[[114,117,108,101],n1,[58],n2,[61]]):=hA.symm;clear hA;obtain⟨oa,oc,rfl⟩:=zP HS1.out.own;have d2:wc.cell? ⟨w.heap.size,2,none⟩=some (.slice pa ps.length pc):=zB HS1.out.box 2;have HSw:=zA (HSu.out wc pc HS1.out.lp (HTb.out wc HS1.out.bel));go_wp2_with fail
  refine HSw.out.mono ?_;rintro e w7 ⟨v7,rfl,ho7,hb7⟩;obtain⟨g7,c7,rfl,hc7⟩:=Ba ho7 s1;have HS7:=zA (HS1.out.below hb7);have HC7:=zA hc7;have hsz7:=zJ HS7.out.box;have HSlen:=zA (gW sw).1;have HSone:=zA (gW sw).2;clear hb7 ho7 hc7 d2 HSw HS1
  go_wp2_with (at_builtin;refine wpList_append_own _ rfl _ _ 70 rfl (w.heap.size+1) 9 i0 _ 1 16 Tryz.underlying70 hi0 hz0 hz1 hz2 rfl (by decide) _ _ _ rfl HS7.out.own ⟨g7,0,none⟩ sw.length c7 (vE sw) rfl HSlen.out HC7.out HSone.out ?c1k3 ?c1k4 ?c1k5 ?_)
  try (case c1k3=>unfold maxLen;omega)
  try (case c1k4=>omega)
  try (case c1k5=>first|omega|(simp;omega))
  intro v6 w6 zL0 zKY _;have HS6:Hid (C7 w w6 (.cells #[.int .i64 (h:Int),.bool wh,.slice pa ps.length pc,.slice qa ts.length qc] 85 (0,0)) pa qa (ps.flatMap nY) (ts.flatMap mT) v6 (wsA++sw)):=HS7.out.app (tg _ _) zKY zL0;clear zL0 zKY;obtain⟨a6,c6,rfl⟩:=zP HS6.out.own;have HS8:=HS6;have hsz8:=zJ HS8.out.box;have hl8:(wsA++sw).length<=21:=by rw[tm];omega
  generalize hB:wsA++sw=wsB at *;have HB8:Hid (wsB=wsA++sw):=hB.symm;clear hB HS6 HS7 HC7 HSlen HSone
  go_wp2_with (at_builtin;refine wpList_append_own _ rfl _ _ 70 rfl (w.heap.size+1) 9 i0 _ 1 16 Tryz.underlying70 hi0 hz0 hz1 hz2 rfl (by decide) _ _ _ rfl (HS8.out.own.alloc _) ⟨w6.heap.size,0,none⟩ 1 1 [.string ⟨#[119,104,101,110]⟩] rfl rfl ?c2k1 ?c2k2 ?c2k3 ?c2k4 ?c2k5 ?_)
  try (case c2k1=>exact zM _ _ _ _ rfl)
  try (case c2k2=>first|rfl|(intro u hu;simp at hu;rcases hu with rfl;rfl))
  try (case c2k3=>unfold maxLen;omega)
  try (case c2k4=>omega)
  try (case c2k5=>first|omega|(simp;omega))
  intro v8 w8 zL0 zKY _;have HS9:Hid (C7 w w8 (.cells #[.int .i64 (h:Int),.bool wh,.slice pa ps.length pc,.slice qa ts.length qc] 85 (0,0)) pa qa (ps.flatMap nY) (ts.flatMap mT) v8 (wsB++[[119,104,101,110]])):=HS8.out.app (gb (j1 _) _) zKY zL0;clear zL0 zKY HS8;obtain⟨a8,c8,rfl⟩:=zP HS9.out.own;have hl9:(wsB++[[119,104,101,110]]).length<=22:=by rw[tm];simp only[pf,List.length_nil];omega
  generalize hC:wsB++[[119,104,101,110]]=wsC at *;have HC9:Hid (wsC=wsB++[[119,104,101,110]]):=hC.symm;clear hC;have d0:w8.cell? ⟨w.heap.size,0,none⟩=some (.int .i64 (h:Int)):=zB HS9.out.box 0;have d1:w8.cell? ⟨w.heap.size,1,none⟩=some (.bool wh):=zB HS9.out.box 1;have d2:w8.cell? ⟨w.heap.size,2,none⟩=some (.slice pa ps.length pc):=zB HS9.out.box 2;have d3:w8.cell? ⟨w.heap.size,3,none⟩=some (.slice qa ts.length qc):=zB HS9.out.box 3;have HGw:=zA (HGu.out w8 HS9.out.lt (HTb.out w8 HS9.out.bel));go_wp2_with fail
  refine HGw.out.mono ?_;rintro e w7 ⟨v7,rfl,ho7,hb7⟩;obtain⟨g7,c7,rfl,hc7⟩:=Ba ho7 g1;have HS7:=zA (HS9.out.below hb7);have HC7:=zA hc7;have hsz7:=zJ HS7.out.box;have HSlen:=zA (gW gw).1;have HSone:=zA (gW gw).2;clear hb7 ho7 hc7 d0 d1 d2 d3 HGw HS9
  go_wp2_with (at_builtin;refine wpList_append_own _ rfl _ _ 70 rfl (w.heap.size+1) 9 i0 _ 1 16 Tryz.underlying70 hi0 hz0 hz1 hz2 rfl (by decide) _ _ _ rfl HS7.out.own ⟨g7,0,none⟩ gw.length c7 (vE gw) rfl HSlen.out HC7.out HSone.out ?c3k3 ?c3k4 ?c3k5 ?_)
  try (case c3k3=>unfold maxLen;omega)
  try (case c3k4=>omega)
  try (case c3k5=>first|omega|(simp;omega))
  intro v10 w10 zL0 zKY _;have HS10:Hid (C7 w w10 (.cells #[.int .i64 (h:Int),.bool wh,.slice pa ps.length pc,.slice qa ts.length qc] 85 (0,0)) pa qa (ps.flatMap nY) (ts.flatMap mT) v10 (wsC++gw)):=HS7.out.app (tg _ _) zKY zL0;clear zL0 zKY HS7;obtain⟨a10,c10,rfl⟩:=zP HS10.out.own;have hl10:(wsC++gw).length<=70:=by rw[tm];omega
  have hsz10:=zJ HS10.out.box;generalize hD:wsC++gw=wsD at *;have HD:Hid (wsD=wsC++gw):=hD.symm;clear hD
  go_wp2_with (at_builtin;refine wpList_append_own _ rfl _ _ 70 rfl (w.heap.size+1) 9 i0 _ 1 16 Tryz.underlying70 hi0 hz0 hz1 hz2 rfl (by decide) _ _ _ rfl (HS10.out.own.alloc _) ⟨w10.heap.size,0,none⟩ 1 1 [.string ⟨#[59]⟩] rfl rfl ?c4k1 ?c4k2 ?c4k3 ?c4k4 ?c4k5 ?_)
  try (case c4k1=>exact zM _ _ _ _ rfl)
  try (case c4k2=>first|rfl|(intro u hu;simp at hu;rcases hu with rfl;rfl))
  try (case c4k3=>unfold maxLen;omega)
  try (case c4k4=>omega)
  try (case c4k5=>first|omega|(simp;omega))
  intro v11 w11 zL0 zKY _;have HS11:Hid (C7 w w11 (.cells #[.int .i64 (h:Int),.bool wh,.slice pa ps.length pc,.slice qa ts.length qc] 85 (0,0)) pa qa (ps.flatMap nY) (ts.flatMap mT) v11 (wsD++[[59]])):=HS10.out.app (gb (j1 _) _) zKY zL0;clear zL0 zKY HS10
  have HQ:Hid (w11.ownsRow w.heap.size 9 1 v11 TW.length (vE TW)):=by
   unfold Hid;rw[HRW.out];exact yT HS11.out.own (mw _)
  have HBl:=zA HS11.out.bel;clear HS11;go_wp2_with fail
  go_ret
  exact⟨_,rfl,HQ.out,HBl.out⟩
end Go.Proofs.YtnbpdffdnphbeabGreatDoor
