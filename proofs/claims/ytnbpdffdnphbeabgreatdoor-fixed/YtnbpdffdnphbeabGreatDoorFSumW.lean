import Derived.Test.YtnbpdffdnphbeabGreatDoorFTestW
set_option maxHeartbeats 3000000
set_option maxRecDepth 100000
namespace Go.Proofs.YtnbpdffdnphbeabGreatDoor
open Go.RowKit
variable{ns ws:List Bs}{L Lt Lp:List Value}{gp:Nat}{bo:Obj}{qa pa la:Option Addr}{v9 v:Value}{w' w9 wx w wz:World}{p:yR}(ts:List zX)(ps:List yR)(lo:Bool)(i:Nat)
def dQ:yR:=⟨false,false,0,-1,-1⟩
def cI(i:Nat)(p:yR):List Bs:=if i=0 then [] else if p.minus=true then [[45]] else [[43]]
def uI(p:yR):List Bs:=if p.times=true\/(p.num<0/\p.head<0) then [Lib.itoa p.n] else []
def tD(p:yR):List Bs:=if p.times=true then [[42]] else []
def uU(p:yR):List Bs:=if 0<=p.num then [yG p.num.toNat] else if 0<=p.head then [xG 99 p.head.toNat] else []
def mB(i:Nat)(p:yR):List Bs:=cI i p++uI p++tD p++uU p
def tK(ps:List yR)(i:Nat):List Bs:=(List.range i).flatMap fun j=>mB j (ps.getD j dQ)
def bL(ps:List yR):List Bs:=tK ps ps.length
theorem oI:tK ps (i+1)=tK ps i++mB i (ps.getD i dQ):=by unfold tK;rw[l8,bh];simp
structure XH(w wx:World)(gp:Nat)(p:yR)(la:Option Addr)(L:List Value)(v:Value)(ws:List Bs):Prop where
 prt:xB wx 89 (some ⟨gp,0,none⟩) (cT p)
 lst:xB wx 89 la L
 own:wx.ownsRow w.heap.size 9 1 v ws.length (xV ws)
 bel:Below w.heap.size w wx
theorem XH.below(h:XH w wx gp p la L v ws)(hb:Below wx.heap.size wx w'):XH w w' gp p la L v ws:=⟨h.prt.below hb,h.lst.below hb,qJ h.own hb,h.bel.trans (hb.mono h.bel.size)⟩
theorem XH.app(h:XH w wx gp p la L v ws)(hz:Below wx.heap.size wx wz)(hg:wz.grownBy w9 v.ownBlock)(zEA:w9.ownsRow w.heap.size 9 1 v9 (ws.length+ns.length) (xV ws++xV ns)):XH w w9 gp p la L v9 (ws++ns):=by
 have hZ:=h.below hz;refine⟨hZ.prt.grown hZ.own (by decide) hg,hZ.lst.grown hZ.own (by decide) hg,?_,hZ.bel.grown hg hZ.bel.size (zU hZ.own)⟩;rw[tb];have e:xV (ws++ns)=xV ws++xV ns:=by unfold xV;rw[lj]
 rw[e];exact zEA
theorem XH.cells(h:XH w wx gp p la L v ws):wx.cell? ⟨gp,0,none⟩=some (.bool p.minus)/\wx.cell? ⟨gp,1,none⟩=some (.bool p.times)/\wx.cell? ⟨gp,2,none⟩=some (.int .i64 p.n)/\wx.cell? ⟨gp,3,none⟩=some (.int .i64 p.num)/\wx.cell? ⟨gp,4,none⟩=some (.int .i64 p.head):=by
 have t:∀(j:Nat) (u:Value),(cT p)[j]? = some u->wx.cell? ⟨gp,j,none⟩=some u:=fun j u hj=>by
  obtain⟨g,e,c⟩:=h.prt.cel.at hj;obtain rfl:gp=g:=by simpa using e
  exact c
 exact⟨t 0 _ rfl,t 1 _ rfl,t 2 _ rfl,t 3 _ rfl,t 4 _ rfl⟩
theorem qg(w:World)(la:Option Addr)(lc:Nat)(ps:List yR)(low:List Nat)(hp:jD low ps)(hl4:∀d∈low,d<4)(hL:xB w 89 la (ps.flatMap cT))(hT:gT w) :
 Calls Tryz.prog 62 #[.slice la ps.length lc] w fun e w'=>∃v,e=.returned v/\w'.ownsRow w.heap.size 9 1 v (bL ps).length (xV (bL ps))/\Below w.heap.size w w':=by
 obtain⟨i0,hi0,hz0,hz1,hz2⟩:=info_parts nF;have hp4:=hp.2.1;have HPo:=zA hp.2.2;have HTb:=zA (fun w' (hb:Below w.heap.size w w')=>hT.below hb);have HL4:=zA hl4;have HLc:=zA hL;have HSW:Hid (bL ps=tK ps ps.length):=rfl;have HSs:=zA (oI ps);generalize bL ps=TW at *;clear hp hl4 hL hT
 go_enter Tryz.func62,Tryz.ntmps62
 go_wp2_with fail
 go_loopw [3,4] (fun ov iv wr=>∃(i:Nat),i<=ps.length/\iv=.int .i64 (i:Int)/\Hid (Below w.heap.size w wr)/\Hid (xB wr 89 la (ps.flatMap cT))/\Hid ((tK ps i).length<=4*i)/\Hid (wr.ownsRow w.heap.size 9 1 ov (tK ps i).length (xV (tK ps i)))) (fun _ iv _=>ps.length-(intOf iv).toNat)
 case atStart=>exact⟨0,tq _,rfl,zA (t9 _ _),HLc,zA (tq _),zA (mt _ _ _ _)⟩
 case round =>
  obtain⟨i,hi,rfl,HB,HLi,HLen,HO⟩:=hrel;obtain⟨oa,oc,rfl⟩:=yD HO.out;by_cases zE9:i<ps.length
  ·have ii:(i:Int)<(ps.length:Int):=by omega
   have hmem:ps.getD i dQ∈ps:=by simp[List.getD,zE9]
   have zEI:=HPo.out _ hmem;have hss:=HSs.out i;obtain⟨g,e0,q0⟩:=HLi.out.cel.at ((zY cT 5 (fun _=>rfl) dQ ps i 0 zE9 (by decide)).trans rfl);subst e0
   have qq:∀(r:Nat) (u:Value),r<5->(cT (ps.getD i dQ))[r]? = some u->wr.cell? ⟨g,i*5+r,none⟩=some u:=fun r u hr hu=>by
    obtain⟨g',e',c'⟩:=HLi.out.cel.at ((zY cT 5 (fun _=>rfl) dQ ps i r zE9 hr).trans hu);obtain rfl:g=g':=by simpa using e'
    exact c'
   have q1:=qq 1 _ (by decide) rfl;have q2:=qq 2 _ (by decide) rfl;have q3:=qq 3 _ (by decide) rfl;have q4:=qq 4 _ (by decide) rfl;rw[mj]at q0;clear qq hmem;generalize ps.getD i dQ=p at *;obtain⟨mi,ti,nn,nu,hd⟩:=p;simp only at q0 q1 q2 q3 q4;have HOk:=zA zEI;have HSi:=zA hss;clear zEI hss;generalize tK ps i=ws0 at *;have hl0:=HLen.out;have HS0:Hid (XH w (wr.alloc (.cells #[.bool mi,.bool ti,.int .i64 nn,.int .i64 nu,.int .i64 hd] 89)) wr.heap.size ⟨mi,ti,nn,nu,hd⟩ (some ⟨g,0,none⟩) (ps.flatMap cT) (.slice oa ws0.length oc) ws0):=⟨.inr ⟨wr.heap.size,_,_,rfl,zH _ _,fun j _=>by rw[<-mz];rfl⟩,HLi.out.below (da (j1 _) _),HO.out.alloc _,HB.out.alloc HB.out.size _⟩
   go_upto_region 6 with fail
   clear q0 q1 q2 q3 q4 HB HLi HO HLen;generalize wr.alloc (.cells #[.bool mi,.bool ti,.int .i64 nn,.int .i64 nu,.int .i64 hd] 89)=w0 at *;generalize wr.heap.size=gp at *;obtain⟨c0,c1,c2,c3,c4⟩:=HS0.out.cells;simp only at c0 c1 c2 c3 c4;have zEF:=HS0.out.bel.size;have HSg:Hid (cI i ⟨mi,ti,nn,nu,hd⟩=if i=0 then [] else if mi=true then [[45]] else [[43]]):=rfl
   go_cut [3,21] from 6 to 70 (fun v3 v21 wx=>v3=.slice oa ws0.length oc/\v21=.bool (decide (0<i)&&mi)/\wx=w0)
   case first =>
    by_cases k0:i=0
    ·subst k0
     go_wp2_with fail
     go_meet
     exact⟨rfl,rfl,rfl⟩
    ·have k1:0<i:=by omega
     have k2:(0:Int)<(i:Int):=by omega
     have HD:Hid (decide (0<i)=true):=tl k1;clear k0;go_wp2_with fail
     go_meet
     exact⟨rfl,by rw[HD.out];rfl,rfl⟩
   case rest =>
    obtain⟨rfl,rfl,rfl⟩:=hcut
    go_upto_if 21 with fail
    go_cut [3] from 6 to 70 (fun v3 wx=>∃ws1,Hid (ws1=ws0++cI i ⟨mi,ti,nn,nu,hd⟩)/\Hid (ws1.length<=ws0.length+1)/\Hid (XH w wx gp ⟨mi,ti,nn,nu,hd⟩ (some ⟨g,0,none⟩) (ps.flatMap cT) v3 ws1))
    case first =>
     by_cases k0:i=0
     ·have HE:Hid (cI i ⟨mi,ti,nn,nu,hd⟩=[]):=HSg.out.trans (tg k0)
      subst k0;rw[show (decide (0<0)&&mi)=false from rfl];go_wp2_with fail
      go_meet
      exact⟨ws0,zA (by rw[HE.out,md]),zA (my _),HS0⟩
     ·have k1:0<i:=by omega
      have k2:(0:Int)<(i:Int):=by omega
      rw[tl k1,mh];cases mi
      ·have HE:Hid (cI i ⟨false,ti,nn,nu,hd⟩=[[43]]):=HSg.out.trans ((t7 k0).trans (t7 (by simp)))
       clear k0
       go_wp2_with (at_builtin;refine wpList_append_own _ rfl _ _ 70 rfl w.heap.size 9 i0 _ 1 16 Tryz.underlying70 hi0 hz0 hz1 hz2 rfl (by decide) _ _ _ rfl (HS0.out.own.alloc _) ⟨wc.heap.size,0,none⟩ 1 1 [.string ⟨#[43]⟩] rfl rfl ?c1k1 ?c1k2 ?c1k3 ?c1k4 ?c1k5 ?_)
       try (case c1k1=>exact zS _ _ _ _ rfl)
       try (case c1k2=>first|rfl|exact⟨rfl,rfl⟩|(intro u hu;simp at hu;rcases hu with rfl <;> rfl))
       try (case c1k3=>unfold maxLen;omega)
       try (case c1k4=>omega)
       try (case c1k5=>first|omega|(simp;omega))
       intro v6 w6 zE8 zE7 _;have HS6:Hid (XH w w6 gp ⟨false,ti,nn,nu,hd⟩ (some ⟨g,0,none⟩) (ps.flatMap cT) v6 (ws0++[[43]])):=HS0.out.app (da (j1 _) _) zE7 zE8;clear zE8 zE7;go_wp2_with fail
       go_meet
       exact⟨_,zA (by rw[HE.out]),zA (by simp),HS6⟩
      ·have HE:Hid (cI i ⟨true,ti,nn,nu,hd⟩=[[45]]):=HSg.out.trans ((t7 k0).trans (tg rfl))
       clear k0
       go_wp2_with (at_builtin;refine wpList_append_own _ rfl _ _ 70 rfl w.heap.size 9 i0 _ 1 16 Tryz.underlying70 hi0 hz0 hz1 hz2 rfl (by decide) _ _ _ rfl (HS0.out.own.alloc _) ⟨wc.heap.size,0,none⟩ 1 1 [.string ⟨#[45]⟩] rfl rfl ?c2k1 ?c2k2 ?c2k3 ?c2k4 ?c2k5 ?_)
       try (case c2k1=>exact zS _ _ _ _ rfl)
       try (case c2k2=>first|rfl|exact⟨rfl,rfl⟩|(intro u hu;simp at hu;rcases hu with rfl <;> rfl))
       try (case c2k3=>unfold maxLen;omega)
       try (case c2k4=>omega)
       try (case c2k5=>first|omega|(simp;omega))
       intro v6 w6 zE8 zE7 _;have HS6:Hid (XH w w6 gp ⟨true,ti,nn,nu,hd⟩ (some ⟨g,0,none⟩) (ps.flatMap cT) v6 (ws0++[[45]])):=HS0.out.app (da (j1 _) _) zE7 zE8;clear zE8 zE7;go_wp2_with fail
       go_meet
       exact⟨_,zA (by rw[HE.out]),zA (by simp),HS6⟩
    case rest =>
     clear c0 c1 c2 c3 c4 HS0 zEF HSg;obtain⟨ws1,HE1,HL1,HS1⟩:=hcut;obtain⟨oa1,oc1,rfl⟩:=yD HS1.out.own;obtain⟨c0,c1,c2,c3,c4⟩:=HS1.out.cells;simp only at c0 c1 c2 c3 c4;have zEF:=HS1.out.bel.size;have hl1:=HL1.out;have HTm:Hid (uI ⟨mi,ti,nn,nu,hd⟩=if ti=true\/(nu<0/\hd<0) then [Lib.itoa nn] else []):=rfl
     have HNn:Hid ((ti=true\/(nu<0/\hd<0))->0<=nn/\nn<=9999):=fun h=>by
      rcases HOk.out with ⟨-,h1,-,-⟩|⟨h0,h1,-⟩|⟨-,h1,-⟩|⟨h1,-,-⟩
      ·exact h1
      ·rcases h with h|h
       ·exact absurd (h.symm.trans h0) (by simp)
       ·have:=h1.1;simp only at this;omega
      ·have:=h1;simp only at this;omega
      ·have:=h1;simp only at this;omega
     go_upto_region 10 with fail
     go_cut [3,41] from 6 to 70 (fun v3 v41 wx=>v3=.slice oa1 ws1.length oc1/\v41=.bool (decide (ti=true\/(nu<0/\hd<0)))/\wx=wc)
     case first =>
      cases ti
      ·by_cases k1:nu<0
       ·by_cases k2:hd<0
        ·have HD:Hid (decide (false=true\/(nu<0/\hd<0))=true):=tl (.inr ⟨k1,k2⟩)
         go_wp2_with fail
         go_meet
         exact⟨rfl,by rw[HD.out],rfl⟩
        ·have HD:Hid (decide (false=true\/(nu<0/\hd<0))=false):=tm (fun h=>by rcases h with h|h;cases h;exact k2 h.2)
         go_wp2_with fail
         go_meet
         exact⟨rfl,by rw[HD.out],rfl⟩
       ·have HD:Hid (decide (false=true\/(nu<0/\hd<0))=false):=tm (fun h=>by rcases h with h|h;cases h;exact k1 h.1)
        go_wp2_with fail
        go_meet
        exact⟨rfl,by rw[HD.out],rfl⟩
      ·have HD:Hid (decide (true=true\/(nu<0/\hd<0))=true):=tl (.inl rfl)
       go_wp2_with fail
       go_meet
       exact⟨rfl,by rw[HD.out],rfl⟩
     case rest =>
      obtain⟨rfl,rfl,rfl⟩:=hcut
      go_upto_if 41 with fail
      go_cut [3] from 6 to 70 (fun v3 wx=>∃ws2,Hid (ws2=ws1++uI ⟨mi,ti,nn,nu,hd⟩)/\Hid (ws2.length<=ws1.length+1)/\Hid (XH w wx gp ⟨mi,ti,nn,nu,hd⟩ (some ⟨g,0,none⟩) (ps.flatMap cT) v3 ws2))
      case first =>
       by_cases hc:ti=true\/(nu<0/\hd<0)
       ·have HE:Hid (uI ⟨mi,ti,nn,nu,hd⟩=[Lib.itoa nn]):=HTm.out.trans (tg hc)
        obtain⟨n1,n2⟩:=HNn.out hc;rw[tl hc];have HI:=zA (sH wc nn n1 n2 (HTb.out wc HS1.out.bel));generalize Lib.itoa nn=iw at *;clear hc;go_wp2_with fail
        refine HI.out.mono ?_;rintro e w5 ⟨rfl,hb5⟩;have HS5:=zA (HS1.out.below hb5);have hsz5:=HS5.out.bel.size;clear hb5 HI
        go_wp2_with (at_builtin;refine wpList_append_own _ rfl _ _ 70 rfl w.heap.size 9 i0 _ 1 16 Tryz.underlying70 hi0 hz0 hz1 hz2 rfl (by decide) _ _ _ rfl (HS5.out.own.alloc _) ⟨w5.heap.size,0,none⟩ 1 1 [.string ⟨iw.toArray⟩] rfl rfl ?c3k1 ?c3k2 ?c3k3 ?c3k4 ?c3k5 ?_)
        try (case c3k1=>exact zS _ _ _ _ rfl)
        try (case c3k2=>first|rfl|exact⟨rfl,rfl⟩|(intro u hu;simp at hu;rcases hu with rfl <;> rfl))
        try (case c3k3=>unfold maxLen;omega)
        try (case c3k4=>omega)
        try (case c3k5=>first|omega|(simp;omega))
        intro v6 w6 zE8 zE7 _;have HS6:Hid (XH w w6 gp ⟨mi,ti,nn,nu,hd⟩ (some ⟨g,0,none⟩) (ps.flatMap cT) v6 (ws1++[iw])):=HS5.out.app (da (j1 _) _) zE7 zE8;clear zE8 zE7;go_wp2_with fail
        go_meet
        exact⟨_,zA (by rw[HE.out]),zA (by simp),HS6⟩
       ·have HE:Hid (uI ⟨mi,ti,nn,nu,hd⟩=[]):=HTm.out.trans (t7 hc)
        rw[tm hc];clear hc;go_wp2_with fail
        go_meet
        exact⟨ws1,zA (by rw[HE.out,md]),zA (my _),HS1⟩
      case rest =>
       clear c0 c1 c2 c3 c4 HS1 zEF HTm HNn;obtain⟨ws2,HE2,HL2,HS2⟩:=hcut;obtain⟨oa2,oc2,rfl⟩:=yD HS2.out.own;obtain⟨c0,c1,c2,c3,c4⟩:=HS2.out.cells;simp only at c0 c1 c2 c3 c4;have zEF:=HS2.out.bel.size;have hl2:=HL2.out;have HSr:Hid (tD ⟨mi,ti,nn,nu,hd⟩=if ti=true then [[42]] else []):=rfl
       go_upto_if 49 with fail
       go_cut [3] from 6 to 70 (fun v3 wx=>∃ws3,Hid (ws3=ws2++tD ⟨mi,ti,nn,nu,hd⟩)/\Hid (ws3.length<=ws2.length+1)/\Hid (XH w wx gp ⟨mi,ti,nn,nu,hd⟩ (some ⟨g,0,none⟩) (ps.flatMap cT) v3 ws3))
       case first =>
        cases ti
        ·have HE:Hid (tD ⟨mi,false,nn,nu,hd⟩=[]):=HSr.out.trans (t7 (by simp))
         go_wp2_with fail
         go_meet
         exact⟨ws2,zA (by rw[HE.out,md]),zA (my _),HS2⟩
        ·have HE:Hid (tD ⟨mi,true,nn,nu,hd⟩=[[42]]):=HSr.out.trans (tg rfl)
         go_wp2_with (at_builtin;refine wpList_append_own _ rfl _ _ 70 rfl w.heap.size 9 i0 _ 1 16 Tryz.underlying70 hi0 hz0 hz1 hz2 rfl (by decide) _ _ _ rfl (HS2.out.own.alloc _) ⟨wc.heap.size,0,none⟩ 1 1 [.string ⟨#[42]⟩] rfl rfl ?c4k1 ?c4k2 ?c4k3 ?c4k4 ?c4k5 ?_)
         try (case c4k1=>exact zS _ _ _ _ rfl)
         try (case c4k2=>first|rfl|exact⟨rfl,rfl⟩|(intro u hu;simp at hu;rcases hu with rfl <;> rfl))
         try (case c4k3=>unfold maxLen;omega)
         try (case c4k4=>omega)
         try (case c4k5=>first|omega|(simp;omega))
         intro v6 w6 zE8 zE7 _;have HS6:Hid (XH w w6 gp ⟨mi,true,nn,nu,hd⟩ (some ⟨g,0,none⟩) (ps.flatMap cT) v6 (ws2++[[42]])):=HS2.out.app (da (j1 _) _) zE7 zE8;clear zE8 zE7;go_wp2_with fail
         go_meet
         exact⟨_,zA (by rw[HE.out]),zA (by simp),HS6⟩
       case rest =>
        clear c0 c1 c2 c3 c4 HS2 zEF HSr;obtain⟨ws3,HE3,HL3,HS3⟩:=hcut;obtain⟨oa3,oc3,rfl⟩:=yD HS3.out.own;obtain⟨c0,c1,c2,c3,c4⟩:=HS3.out.cells;simp only at c0 c1 c2 c3 c4;have zEF:=HS3.out.bel.size;have hl3:=HL3.out;have HNm:Hid (uU ⟨mi,ti,nn,nu,hd⟩=if 0<=nu then [yG nu.toNat] else if 0<=hd then [xG 99 hd.toNat] else []):=rfl
        have HEn:Hid (tK ps (i+1)=ws3++uU ⟨mi,ti,nn,nu,hd⟩):=by
         unfold Hid;rw[HSi.out,HE3.out,HE2.out,HE1.out];simp only[mB,pd]
        have HNb:Hid ((0<=nu->nu<3)/\(0<=hd->hd<4)):=by
         rcases HOk.out with ⟨-,-,h1,h2⟩|⟨-,h1,h2⟩|⟨-,-,h1,h2⟩|⟨-,h1,d,hd1,h2⟩
         ·simp only at h1 h2;exact⟨fun h=>by omega,fun h=>by omega⟩
         ·simp only at h1 h2;exact⟨fun h=>by omega,fun h=>by omega⟩
         ·simp only at h1 h2;exact⟨fun h=>by omega,fun h=>by omega⟩
         ·have:=HL4.out d hd1;simp only at h1 h2;exact⟨fun h=>by omega,fun h=>by omega⟩
        have HSt:Hid (∀(w6:World) (v6:Value) (nm:List Bs),nm.length<=1->uU ⟨mi,ti,nn,nu,hd⟩=nm->XH w w6 gp ⟨mi,ti,nn,nu,hd⟩ (some ⟨g,0,none⟩) (ps.flatMap cT) v6 (ws3++nm)->Below w.heap.size w w6/\xB w6 89 (some ⟨g,0,none⟩) (ps.flatMap cT)/\(tK ps (i+1)).length<=4*(i+1)/\w6.ownsRow w.heap.size 9 1 v6 (tK ps (i+1)).length (xV (tK ps (i+1)))):=fun w6 v6 nm hn e hS=>by
         rw[HEn.out,e];exact⟨hS.bel,hS.lst,by rw[tb];omega,hS.own⟩
        clear HE3 HE2 HE1 HSi HEn;by_cases k1:0<=nu
        ·have HE:Hid (uU ⟨mi,ti,nn,nu,hd⟩=[yG nu.toNat]):=HNm.out.trans (tg k1)
         have k3:=HNb.out.1 k1;obtain⟨un,rfl⟩:=lh k1;rw[Int.toNat_natCast]at HE;have HI:=zA (bE wc un (by omega));generalize yG un=iw at *;go_wp2_with fail
         refine HI.out.mono ?_;rintro e w5 ⟨rfl,hb5⟩;have HS5:=zA (HS3.out.below hb5);have hsz5:=HS5.out.bel.size;clear hb5 HI
         go_wp2_with (at_builtin;refine wpList_append_own _ rfl _ _ 70 rfl w.heap.size 9 i0 _ 1 16 Tryz.underlying70 hi0 hz0 hz1 hz2 rfl (by decide) _ _ _ rfl (HS5.out.own.alloc _) ⟨w5.heap.size,0,none⟩ 1 1 [.string ⟨iw.toArray⟩] rfl rfl ?c5k1 ?c5k2 ?c5k3 ?c5k4 ?c5k5 ?_)
         try (case c5k1=>exact zS _ _ _ _ rfl)
         try (case c5k2=>first|rfl|exact⟨rfl,rfl⟩|(intro u hu;simp at hu;rcases hu with rfl <;> rfl))
         try (case c5k3=>unfold maxLen;omega)
         try (case c5k4=>omega)
         try (case c5k5=>first|omega|(simp;omega))
         intro v6 w6 zE8 zE7 _;have HS6:Hid (XH w w6 gp ⟨mi,ti,nn,(un:Int),hd⟩ (some ⟨g,0,none⟩) (ps.flatMap cT) v6 (ws3++[iw])):=HS5.out.app (da (j1 _) _) zE7 zE8;clear zE8 zE7;obtain⟨z1,z2,z3,z4⟩:=HSt.out w6 v6 [iw] (by simp) HE.out HS6.out;have Z1:=zA z1;have Z2:=zA z2;have Z3:=zA z3;have Z4:=zA z4;clear z1 z2 z3 z4;go_wp2_with fail
         go_roundw
         case rel=>exact⟨i+1,by omega,by go_num,Z1,Z2,Z3,Z4⟩
         case measure=>simp[intOf];omega
        ·have HE0:Hid (uU ⟨mi,ti,nn,nu,hd⟩=if 0<=hd then [xG 99 hd.toNat] else []):=HNm.out.trans (t7 k1)
         by_cases k2:0<=hd
         ·have HE:Hid (uU ⟨mi,ti,nn,nu,hd⟩=[xG 99 hd.toNat]):=HE0.out.trans (tg k2)
          have k3:=HNb.out.2 k2;obtain⟨un,rfl⟩:=lh k2;rw[Int.toNat_natCast]at HE;have HI:=zA (pW wc 99 un (by omega));rw[show ((99:UInt8).toNat:Int)=99 from rfl]at HI;generalize xG 99 un=iw at *;go_wp2_with fail
          refine HI.out.mono ?_;rintro e w5 ⟨rfl,hb5⟩;have HS5:=zA (HS3.out.below hb5);have hsz5:=HS5.out.bel.size;clear hb5 HI
          go_wp2_with (at_builtin;refine wpList_append_own _ rfl _ _ 70 rfl w.heap.size 9 i0 _ 1 16 Tryz.underlying70 hi0 hz0 hz1 hz2 rfl (by decide) _ _ _ rfl (HS5.out.own.alloc _) ⟨w5.heap.size,0,none⟩ 1 1 [.string ⟨iw.toArray⟩] rfl rfl ?c6k1 ?c6k2 ?c6k3 ?c6k4 ?c6k5 ?_)
          try (case c6k1=>exact zS _ _ _ _ rfl)
          try (case c6k2=>first|rfl|exact⟨rfl,rfl⟩|(intro u hu;simp at hu;rcases hu with rfl <;> rfl))
          try (case c6k3=>unfold maxLen;omega)
          try (case c6k4=>omega)
          try (case c6k5=>first|omega|(simp;omega))
          intro v6 w6 zE8 zE7 _;have HS6:Hid (XH w w6 gp ⟨mi,ti,nn,nu,(un:Int)⟩ (some ⟨g,0,none⟩) (ps.flatMap cT) v6 (ws3++[iw])):=HS5.out.app (da (j1 _) _) zE7 zE8;clear zE8 zE7;obtain⟨z1,z2,z3,z4⟩:=HSt.out w6 v6 [iw] (by simp) HE.out HS6.out;have Z1:=zA z1;have Z2:=zA z2;have Z3:=zA z3;have Z4:=zA z4;clear z1 z2 z3 z4;go_wp2_with fail
          go_roundw
          case rel=>exact⟨i+1,by omega,by go_num,Z1,Z2,Z3,Z4⟩
          case measure=>simp[intOf];omega
         ·have HE:Hid (uU ⟨mi,ti,nn,nu,hd⟩=[]):=HE0.out.trans (t7 k2)
          obtain⟨z1,z2,z3,z4⟩:=HSt.out wc _ [] (by simp) HE.out (by rw[md];exact HS3.out);have Z1:=zA z1;have Z2:=zA z2;have Z3:=zA z3;have Z4:=zA z4;clear z1 z2 z3 z4;go_wp2_with fail
          go_roundw
          case rel=>exact⟨i+1,by omega,by go_num,Z1,Z2,Z3,Z4⟩
          case measure=>simp[intOf];omega
  ·obtain rfl:i=ps.length:=by omega
   have ii:¬(ps.length:Int)<(ps.length:Int):=by omega
   have HQ:Hid (wr.ownsRow w.heap.size 9 1 (.slice oa (tK ps ps.length).length oc) TW.length (xV TW)):=by unfold Hid;rw[HSW.out];exact HO.out
   clear HO HLen HSs;go_wp2_with fail
   go_ret
   exact⟨_,rfl,HQ.out,HB.out⟩
def lI:zX:=⟨false,false,false,0,0,0,0,0⟩
def qS(j:Nat)(t:zX):List Bs:=if j=0 then [] else if t.or=true then [[111,114]] else [[97,110,100]]
def kI(ts:List zX)(lo:Bool)(i:Nat):List Bs:=(List.range i).flatMap fun j=>qS j (ts.getD j lI)++yZ (ts.getD j lI) lo
theorem oG:kI ts lo (i+1)=kI ts lo i++(qS i (ts.getD i lI)++yZ (ts.getD i lI) lo):=by unfold kI;rw[l8,bh];simp
def iB(wh lo:Bool)(n:Nat):Bool:=wh&&(lo || decide (1<n))
def bD(wh:Bool)(ts:List zX)(lo:Bool):List Bs:=(if wh=true then [[110,111,116]] else [])++(if iB wh lo ts.length=true then [[40]] else [])++kI ts lo ts.length++(if iB wh lo ts.length=true then [[41]] else [])
theorem ZS(t:zX):0<(uD t).length/\(uD t).length<=3:=by
 unfold uD;by_cases h0:t.kind=0
 ·rw[tg h0];simp
 ·rw[t7 h0]
  by_cases h1:t.kind=1
  ·rw[tg h1];simp
  ·rw[t7 h1]
   by_cases h2:t.kind=2
   ·rw[tg h2];simp
   ·rw[t7 h2]
    by_cases h3:t.kind=3
    ·rw[tg h3];simp
    ·rw[t7 h3];simp
theorem wE(t:zX)(lo:Bool):0<(yZ t lo).length/\(yZ t lo).length<=6:=by
 unfold yZ;simp only[tb];have h1:((if t.not=true then [[110,111,116]] else []):List Bs).length<=1:=by split <;> simp
 have h2:∀x:Bs,((if (lo&&t.pair)=true then [x] else []):List Bs).length<=1:=fun x=>by split <;> simp
 have h3:=h2 [40];have h4:=h2 [41];have h5:=ZS t;omega
structure Qb(w wx:World)(bo:Obj)(qa:Option Addr)(L:List Value)(v:Value)(ws:List Bs):Prop where
 box:wx.heap[w.heap.size]? = some bo
 lst:xB wx 87 qa L
 own:wx.ownsRow (w.heap.size+1) 9 1 v ws.length (xV ws)
 bel:Below w.heap.size w wx
theorem Qb.below(h:Qb w wx bo qa L v ws)(hb:Below wx.heap.size wx w'):Qb w w' bo qa L v ws:=⟨(hb.block _ (zL h.box)).trans h.box,h.lst.below hb,qJ h.own hb,h.bel.trans (hb.mono h.bel.size)⟩
theorem Qb.app(h:Qb w wx bo qa L v ws)(hz:Below wx.heap.size wx wz)(hg:wz.grownBy w9 v.ownBlock)(zEA:w9.ownsRow (w.heap.size+1) 9 1 v9 (ws.length+ns.length) (xV ws++xV ns)):Qb w w9 bo qa L v9 (ws++ns):=by
 have hZ:=h.below hz;have hb:Below (w.heap.size+1) wz w9:=(t9 _ wz).grown hg (zL hZ.box) (zU hZ.own);refine⟨(hb.block _ (mq _)).trans hZ.box,hZ.lst.grown hZ.own (by decide) hg,?_,hZ.bel.trans (hb.mono (my _))⟩;rw[tb];have e:xV (ws++ns)=xV ws++xV ns:=by unfold xV;rw[lj]
 rw[e];exact zEA
theorem JZ{B:Nat}(h:w.ownsRow B 9 1 v ws.length (xV ws))(h0:0<ws.length):∃g c,v=.slice (some ⟨g,0,none⟩) ws.length c/\∀(j:Nat) (u:Value),(xV ws)[j]? = some u->w.cell? ((⟨g,0,none⟩:Addr).add j)=some u:=by
 obtain⟨a,c,e,hc,-,-⟩:=VZ h;obtain⟨g,rfl,-⟩:=hc.at (j:=0) (show (xV ws)[0]? = some (.string ⟨(ws.getD 0 []).toArray⟩) by simp[xV,List.getD,h0]);refine⟨g,c,e,fun j u hj=>?_⟩;obtain⟨g',e',c'⟩:=hc.at hj;obtain rfl:g=g':=by simpa using e'
 have:(⟨g,0,none⟩:Addr).add j=⟨g,j,none⟩:=by simp[Addr.add];omega
 rw[this];exact c'
theorem BY(w:World)(hd:Int)(wh lo:Bool)(pa qa:Option Addr)(pn pc qc:Nat)(ts:List zX)(low:List Nat)(hp:jS low ts)(hl4:∀d∈low,d<4)(hL:xB w 87 qa (ts.flatMap fB))(hT:gT w) :
 Calls Tryz.prog 63 #[.agg #[.int .i64 hd,.bool wh,.slice pa pn pc,.slice qa ts.length qc],.bool lo] w fun e w'=>∃v,e=.returned v/\w'.ownsRow w.heap.size 9 1 v (bD wh ts lo).length (xV (bD wh ts lo))/\Below w.heap.size w w':=by
 obtain⟨i0,hi0,hz0,hz1,hz2⟩:=info_parts nF;have hp6:=hp.2.1;have HPo:=zA hp.2.2;have HTb:=zA (fun w' (hb:Below w.heap.size w w')=>hT.below hb);have HL4:=zA hl4;have HGW:Hid (bD wh ts lo=(if wh=true then [[110,111,116]] else [])++(if iB wh lo ts.length=true then [[40]] else [])++kI ts lo ts.length++(if iB wh lo ts.length=true then [[41]] else [])):=rfl;have HIn:Hid (iB wh lo ts.length=(wh&&(lo || decide (1<ts.length)))):=rfl;have HSs:=zA (oG ts lo);generalize bD wh ts lo=TW at *;generalize iB wh lo ts.length=inn at *;have HS0:Hid (Qb w (w.alloc (.cells #[.int .i64 hd,.bool wh,.slice pa pn pc,.slice qa ts.length qc] 85)) (.cells #[.int .i64 hd,.bool wh,.slice pa pn pc,.slice qa ts.length qc] 85 (0,0)) qa (ts.flatMap fB) (.slice none 0 0) []):=⟨zH _ _,hL.below (da (j1 _) _),mt _ _ _ _,da (j1 _) _⟩;clear hp hl4 hL hT
 go_enter Tryz.func63,Tryz.ntmps63
 go_upto_region 2 with fail
 generalize w.alloc (.cells #[.int .i64 hd,.bool wh,.slice pa pn pc,.slice qa ts.length qc] 85)=w0 at *;have b1:w0.cell? ⟨w.heap.size,1,none⟩=some (.bool wh):=zC HS0.out.box 1;have b3:w0.cell? ⟨w.heap.size,3,none⟩=some (.slice qa ts.length qc):=zC HS0.out.box 3
 go_cut [6] from 9 to 19 (fun v6 wx=>v6=.bool inn/\wx=w0)
 case first =>
  cases wh
  ·have HI:Hid (inn=false):=HIn.out
   go_wp2_with fail
   go_meet
   exact⟨by rw[HI.out],rfl⟩
  ·cases lo
   ·by_cases k1:1<ts.length
    ·have HI:Hid (inn=true):=HIn.out.trans (by simp[k1])
     have k2:(1:Int)<(ts.length:Int):=by omega
     go_wp2_with fail
     go_meet
     exact⟨by rw[HI.out],rfl⟩
    ·have HI:Hid (inn=false):=HIn.out.trans (by simp[k1])
     have k2:¬(1:Int)<(ts.length:Int):=by omega
     go_wp2_with fail
     go_meet
     exact⟨by rw[HI.out],rfl⟩
   ·have HI:Hid (inn=true):=HIn.out
    go_wp2_with fail
    go_meet
    exact⟨by rw[HI.out],rfl⟩
 case rest =>
  obtain⟨rfl,rfl⟩:=hcut;have zEF:=zL HS0.out.box
  go_upto_if 21 with fail
  go_cut [5] from 9 to 28 (fun v5 wx=>∃ws,Hid (ws=if wh=true then [[110,111,116]] else [])/\Hid (ws.length<=1)/\Hid (Qb w wx (.cells #[.int .i64 hd,.bool wh,.slice pa pn pc,.slice qa ts.length qc] 85 (0,0)) qa (ts.flatMap fB) v5 ws))
  case first =>
   cases wh
   ·go_wp2_with fail
    go_meet
    exact⟨[],zA rfl,zA (by decide),HS0⟩
   ·go_wp2_with (at_builtin;refine wpList_append_own _ rfl _ _ 70 rfl (w.heap.size+1) 9 i0 _ 1 16 Tryz.underlying70 hi0 hz0 hz1 hz2 rfl (by decide) _ _ _ rfl (HS0.out.own.alloc _) ⟨wc.heap.size,0,none⟩ 1 1 [.string ⟨#[110,111,116]⟩] rfl rfl ?c1k1 ?c1k2 ?c1k3 ?c1k4 ?c1k5 ?_)
    try (case c1k1=>exact zS _ _ _ _ rfl)
    try (case c1k2=>first|rfl|(intro u hu;simp at hu;rcases hu with rfl;rfl))
    try (case c1k3=>unfold maxLen;omega)
    try (case c1k4=>omega)
    try (case c1k5=>first|omega|(simp;omega))
    intro v6 w6 zE8 zE7 _;have HS6:Hid (Qb w w6 (.cells #[.int .i64 hd,.bool true,.slice pa pn pc,.slice qa ts.length qc] 85 (0,0)) qa (ts.flatMap fB) v6 ([]++[[110,111,116]])):=HS0.out.app (da (j1 _) _) zE7 zE8;clear zE8 zE7;go_wp2_with fail
    go_meet
    exact⟨_,zA rfl,zA (by decide),HS6⟩
  case rest =>
   clear b1 b3 HS0 zEF;obtain⟨ws1,HE1,HL1,HS1⟩:=hcut;obtain⟨oa1,oc1,rfl⟩:=yD HS1.out.own;have zEF:=zL HS1.out.box;have hl1:=HL1.out
   go_upto_if 25 with fail
   go_cut [5] from 9 to 28 (fun v5 wx=>∃ws,Hid (ws=ws1++if inn=true then [[40]] else [])/\Hid (ws.length<=2)/\Hid (Qb w wx (.cells #[.int .i64 hd,.bool wh,.slice pa pn pc,.slice qa ts.length qc] 85 (0,0)) qa (ts.flatMap fB) v5 ws))
   case first =>
    cases inn
    ·go_wp2_with fail
     go_meet
     exact⟨ws1,zA (md _).symm,zA (by omega),HS1⟩
    ·go_wp2_with (at_builtin;refine wpList_append_own _ rfl _ _ 70 rfl (w.heap.size+1) 9 i0 _ 1 16 Tryz.underlying70 hi0 hz0 hz1 hz2 rfl (by decide) _ _ _ rfl (HS1.out.own.alloc _) ⟨wc.heap.size,0,none⟩ 1 1 [.string ⟨#[40]⟩] rfl rfl ?c2k1 ?c2k2 ?c2k3 ?c2k4 ?c2k5 ?_)
     try (case c2k1=>exact zS _ _ _ _ rfl)
     try (case c2k2=>first|rfl|(intro u hu;simp at hu;rcases hu with rfl;rfl))
     try (case c2k3=>unfold maxLen;omega)
     try (case c2k4=>omega)
     try (case c2k5=>first|omega|(simp;omega))
     intro v6 w6 zE8 zE7 _;have HS6:Hid (Qb w w6 (.cells #[.int .i64 hd,.bool wh,.slice pa pn pc,.slice qa ts.length qc] 85 (0,0)) qa (ts.flatMap fB) v6 (ws1++[[40]])):=HS1.out.app (da (j1 _) _) zE7 zE8;clear zE8 zE7;go_wp2_with fail
     go_meet
     exact⟨_,zA rfl,zA (by simp;omega),HS6⟩
   case rest =>
    clear HS1 zEF;obtain⟨ws2,HE2,HL2,HS2⟩:=hcut;obtain⟨oa2,oc2,rfl⟩:=yD HS2.out.own;have hl2:=HL2.out;go_wp2_with fail
    go_loopw [5,7] (fun ov iv wr=>∃(i:Nat),i<=ts.length/\iv=.int .i64 (i:Int)/\Hid ((kI ts lo i).length<=7*i)/\Hid (Qb w wr (.cells #[.int .i64 hd,.bool wh,.slice pa pn pc,.slice qa ts.length qc] 85 (0,0)) qa (ts.flatMap fB) ov (ws2++kI ts lo i))) (fun _ iv _=>ts.length-(intOf iv).toNat)
    case atStart=>exact⟨0,tq _,rfl,zA (tq _),by rw[show ws2++kI ts lo 0=ws2 from md _];exact HS2⟩
    case round =>
     clear HS2;obtain⟨i,hi,rfl,HLen,HS⟩:=hrel;obtain⟨oa,oc,rfl⟩:=yD HS.out.own;have zEF:=zL HS.out.box;have b3:wr.cell? ⟨w.heap.size,3,none⟩=some (.slice qa ts.length qc):=zC HS.out.box 3;by_cases zE9:i<ts.length
     ·have ii:(i:Int)<(ts.length:Int):=by omega
      have hmem:ts.getD i lI∈ts:=by simp[List.getD,zE9]
      have zEI:=HPo.out _ hmem;have hss:=HSs.out i;obtain⟨g,e0,-⟩:=HS.out.lst.cel.at ((zY fB 8 (fun _=>rfl) lI ts i 0 zE9 (by decide)).trans rfl);subst e0
      have HQq:Hid (∀wx,xB wx 87 (some ⟨g,0,none⟩) (ts.flatMap fB)->∀(r:Nat) (u:Value),r<8->(fB (ts.getD i lI))[r]? = some u->wx.cell? ⟨g,i*8+r,none⟩=some u):=fun wx h r u hr hu=>by
       obtain⟨g',e',c'⟩:=h.cel.at ((zY fB 8 (fun _=>rfl) lI ts i r zE9 hr).trans hu);obtain rfl:g=g':=by simpa using e'
       exact c'
      clear hmem;generalize ts.getD i lI=t at *;have HOk:=zA zEI;have HSi:=zA hss;clear zEI hss;generalize kI ts lo i=ws0 at *;have hl0:=HLen.out;have hlw:(ws2++ws0).length<=100:=by rw[tb];omega
      generalize hWA:ws2++ws0=wsA at *;have HWA:Hid (wsA=ws2++ws0):=hWA.symm;clear hWA;have q0:=HQq.out wr HS.out.lst 0 _ (by decide) rfl;rw[mj]at q0;have HJn:Hid (qS i t=if i=0 then [] else if t.or=true then [[111,114]] else [[97,110,100]]):=rfl
      go_upto_region 10 with fail
      go_cut [5,45] from 29 to 63 (fun v5 v45 wx=>v5=.slice oa wsA.length oc/\v45=.bool (decide (0<i)&&t.or)/\wx=wr)
      case first =>
       by_cases k0:i=0
       ·subst k0
        go_wp2_with fail
        go_meet
        exact⟨rfl,rfl,rfl⟩
       ·have k1:0<i:=by omega
        have k2:(0:Int)<(i:Int):=by omega
        have HD:Hid (decide (0<i)=true):=tl k1;clear k0;go_wp2_with fail
        go_meet
        exact⟨rfl,by rw[HD.out];rfl,rfl⟩
      case rest =>
       obtain⟨rfl,rfl,rfl⟩:=hcut
       go_upto_if 45 with fail
       go_cut [5] from 29 to 63 (fun v5 wx=>∃wsB,Hid (wsB=wsA++qS i t)/\Hid (wsB.length<=wsA.length+1)/\Hid (Qb w wx (.cells #[.int .i64 hd,.bool wh,.slice pa pn pc,.slice (some ⟨g,0,none⟩) ts.length qc] 85 (0,0)) (some ⟨g,0,none⟩) (ts.flatMap fB) v5 wsB))
       case first =>
        by_cases k0:i=0
        ·have HE:Hid (qS i t=[]):=HJn.out.trans (tg k0)
         subst k0;rw[show (decide (0<0)&&t.or)=false from rfl];go_wp2_with fail
         go_meet
         exact⟨wsA,zA (by rw[HE.out,md]),zA (my _),HS⟩
        ·have k1:0<i:=by omega
         have k2:(0:Int)<(i:Int):=by omega
         rw[tl k1,mh];cases hto:t.or
         ·have HE:Hid (qS i t=[[97,110,100]]):=HJn.out.trans ((t7 k0).trans (t7 (by rw[hto];simp)))
          clear k0 hto
          go_wp2_with (at_builtin;refine wpList_append_own _ rfl _ _ 70 rfl (w.heap.size+1) 9 i0 _ 1 16 Tryz.underlying70 hi0 hz0 hz1 hz2 rfl (by decide) _ _ _ rfl (HS.out.own.alloc _) ⟨wc.heap.size,0,none⟩ 1 1 [.string ⟨#[97,110,100]⟩] rfl rfl ?c3k1 ?c3k2 ?c3k3 ?c3k4 ?c3k5 ?_)
          try (case c3k1=>exact zS _ _ _ _ rfl)
          try (case c3k2=>first|rfl|(intro u hu;simp at hu;rcases hu with rfl;rfl))
          try (case c3k3=>unfold maxLen;omega)
          try (case c3k4=>omega)
          try (case c3k5=>first|omega|(simp;omega))
          intro v6 w6 zE8 zE7 _;have HS6:Hid (Qb w w6 (.cells #[.int .i64 hd,.bool wh,.slice pa pn pc,.slice (some ⟨g,0,none⟩) ts.length qc] 85 (0,0)) (some ⟨g,0,none⟩) (ts.flatMap fB) v6 (wsA++[[97,110,100]])):=HS.out.app (da (j1 _) _) zE7 zE8;clear zE8 zE7;go_wp2_with fail
          go_meet
          exact⟨_,zA (by rw[HE.out]),zA (by simp),HS6⟩
         ·have HE:Hid (qS i t=[[111,114]]):=HJn.out.trans ((t7 k0).trans (tg hto))
          clear k0 hto
          go_wp2_with (at_builtin;refine wpList_append_own _ rfl _ _ 70 rfl (w.heap.size+1) 9 i0 _ 1 16 Tryz.underlying70 hi0 hz0 hz1 hz2 rfl (by decide) _ _ _ rfl (HS.out.own.alloc _) ⟨wc.heap.size,0,none⟩ 1 1 [.string ⟨#[111,114]⟩] rfl rfl ?c4k1 ?c4k2 ?c4k3 ?c4k4 ?c4k5 ?_)
          try (case c4k1=>exact zS _ _ _ _ rfl)
          try (case c4k2=>first|rfl|(intro u hu;simp at hu;rcases hu with rfl;rfl))
          try (case c4k3=>unfold maxLen;omega)
          try (case c4k4=>omega)
          try (case c4k5=>first|omega|(simp;omega))
          intro v6 w6 zE8 zE7 _;have HS6:Hid (Qb w w6 (.cells #[.int .i64 hd,.bool wh,.slice pa pn pc,.slice (some ⟨g,0,none⟩) ts.length qc] 85 (0,0)) (some ⟨g,0,none⟩) (ts.flatMap fB) v6 (wsA++[[111,114]])):=HS.out.app (da (j1 _) _) zE7 zE8;clear zE8 zE7;go_wp2_with fail
          go_meet
          exact⟨_,zA (by rw[HE.out]),zA (by simp),HS6⟩
       case rest =>
        clear HS zEF b3 q0 HJn;obtain⟨wsB,HE1b,HL1b,HSb⟩:=hcut;obtain⟨oab,ocb,rfl⟩:=yD HSb.out.own;have hlb:=HL1b.out;have b3:wc.cell? ⟨w.heap.size,3,none⟩=some (.slice (some ⟨g,0,none⟩) ts.length qc):=zC HSb.out.box 3;have q0:=HQq.out wc HSb.out.lst 0 _ (by decide) rfl;rw[mj]at q0;have q1:=HQq.out wc HSb.out.lst 1 _ (by decide) rfl;have q2:=HQq.out wc HSb.out.lst 2 _ (by decide) rfl;have q3:=HQq.out wc HSb.out.lst 3 _ (by decide) rfl;have q4:=HQq.out wc HSb.out.lst 4 _ (by decide) rfl;have q5:=HQq.out wc HSb.out.lst 5 _ (by decide) rfl;have q6:=HQq.out wc HSb.out.lst 6 _ (by decide) rfl;have q7:=HQq.out wc HSb.out.lst 7 _ (by decide) rfl;have HTw:=zA (FQ wc t low lo HOk.out HL4.out (HTb.out wc HSb.out.bel));obtain⟨t1,t2⟩:=wE t lo;generalize hTT:yZ t lo=tw at *;clear hTT;go_wp2_with fail
        refine HTw.out.mono ?_;rintro e w7 ⟨v7,rfl,ho7,hb7⟩;obtain⟨g7,c7,rfl,hc7⟩:=JZ ho7 t1;have HS7:=zA (HSb.out.below hb7);have HC7:=zA hc7;have hsz7:=zL HS7.out.box;have HSlen:Hid ((xV tw).length=tw.length*1):=by unfold Hid xV;simp
        have HSone:Hid (∀u∈xV tw,u.oneCell'=true):=fun u hu=>by
         obtain⟨x,-,rfl⟩:=p7.1 hu;rfl
        clear hb7 ho7 hc7 q0 q1 q2 q3 q4 q5 q6 q7 b3 HTw
        go_wp2_with (at_builtin;refine wpList_append_own _ rfl _ _ 70 rfl (w.heap.size+1) 9 i0 _ 1 16 Tryz.underlying70 hi0 hz0 hz1 hz2 rfl (by decide) _ _ _ rfl HS7.out.own ⟨g7,0,none⟩ tw.length c7 (xV tw) rfl HSlen.out HC7.out HSone.out ?c5k3 ?c5k4 ?c5k5 ?_)
        try (case c5k3=>unfold maxLen;omega)
        try (case c5k4=>omega)
        try (case c5k5=>first|omega|(simp;omega))
        intro v6 w6 zE8 zE7 _;have HS6:Hid (Qb w w6 (.cells #[.int .i64 hd,.bool wh,.slice pa pn pc,.slice (some ⟨g,0,none⟩) ts.length qc] 85 (0,0)) (some ⟨g,0,none⟩) (ts.flatMap fB) v6 (wsB++tw)):=HS7.out.app (t9 _ _) zE7 zE8
        have HX:Hid ((kI ts lo (i+1)).length<=7*(i+1)/\ws2++kI ts lo (i+1)=wsB++tw):=by
         unfold Hid;have hj:(qS i t).length<=1:=by unfold qS;split;simp;split <;> simp
         rw[HSi.out,HE1b.out,HWA.out];exact⟨by simp only[tb];omega,by simp only[pd]⟩
        have Z1:=zA HX.out.1;have Z2:Hid (Qb w w6 (.cells #[.int .i64 hd,.bool wh,.slice pa pn pc,.slice (some ⟨g,0,none⟩) ts.length qc] 85 (0,0)) (some ⟨g,0,none⟩) (ts.flatMap fB) v6 (ws2++kI ts lo (i+1))):=by unfold Hid;rw[HX.out.2];exact HS6.out
        clear zE8 zE7 HX HS6;go_wp2_with fail
        go_roundw
        case rel=>exact⟨i+1,by omega,by go_num,Z1,Z2⟩
        case measure=>simp[intOf];omega
     ·obtain rfl:i=ts.length:=by omega
      have ii:¬(ts.length:Int)<(ts.length:Int):=by omega
      have hl0:=HLen.out
      have HTW:Hid (TW=ws2++kI ts lo ts.length++if inn=true then [[41]] else []):=by
       unfold Hid;rw[HGW.out,HE2.out,HE1.out]
      have hlw:(ws2++kI ts lo ts.length).length<=100:=by rw[tb];omega
      clear HGW HE2 HE1;generalize ws2++kI ts lo ts.length=wsA at *;cases inn
      ·have HQ:Hid (wr.ownsRow w.heap.size 9 1 (.slice oa wsA.length oc) TW.length (xV TW)):=by
        have e:TW=wsA:=HTW.out.trans (by simp);unfold Hid;rw[e];exact xH HS.out.own (my _)
       go_wp2_with fail
       go_ret
       exact⟨_,rfl,HQ.out,HS.out.bel⟩
      ·go_wp2_with (at_builtin;refine wpList_append_own _ rfl _ _ 70 rfl (w.heap.size+1) 9 i0 _ 1 16 Tryz.underlying70 hi0 hz0 hz1 hz2 rfl (by decide) _ _ _ rfl (HS.out.own.alloc _) ⟨wr.heap.size,0,none⟩ 1 1 [.string ⟨#[41]⟩] rfl rfl ?c6k1 ?c6k2 ?c6k3 ?c6k4 ?c6k5 ?_)
       try (case c6k1=>exact zS _ _ _ _ rfl)
       try (case c6k2=>first|rfl|(intro u hu;simp at hu;rcases hu with rfl;rfl))
       try (case c6k3=>unfold maxLen;omega)
       try (case c6k4=>omega)
       try (case c6k5=>first|omega|(simp;omega))
       intro v6 w6 zE8 zE7 _;have HS6:Hid (Qb w w6 (.cells #[.int .i64 hd,.bool wh,.slice pa pn pc,.slice qa ts.length qc] 85 (0,0)) qa (ts.flatMap fB) v6 (wsA++[[41]])):=HS.out.app (da (j1 _) _) zE7 zE8;clear zE8 zE7
       have HQ:Hid (w6.ownsRow w.heap.size 9 1 v6 TW.length (xV TW)):=by
        have e:TW=wsA++[[41]]:=HTW.out.trans (by simp);unfold Hid;rw[e];exact xH HS6.out.own (my _)
       have HB6:=zA HS6.out.bel;clear HS6;go_wp2_with fail
       go_ret
       exact⟨_,rfl,HQ.out,HB6.out⟩
def bM(r:vF)(i:Nat)(lo:Bool):List Bs:=[[114,117,108,101],xG 114 i,[58],xG 99 r.head,[61]]++bL r.parts++[[119,104,101,110]]++bD r.whole r.tests lo++[[59]]
structure V7(w wx:World)(bo:Obj)(pa qa:Option Addr)(Lp Lt:List Value)(v:Value)(ws:List Bs):Prop where
 box:wx.heap[w.heap.size]? = some bo
 lp:xB wx 89 pa Lp
 lt:xB wx 87 qa Lt
 own:wx.ownsRow (w.heap.size+1) 9 1 v ws.length (xV ws)
 bel:Below w.heap.size w wx
theorem V7.below(h:V7 w wx bo pa qa Lp Lt v ws)(hb:Below wx.heap.size wx w'):V7 w w' bo pa qa Lp Lt v ws:=⟨(hb.block _ (zL h.box)).trans h.box,h.lp.below hb,h.lt.below hb,qJ h.own hb,h.bel.trans (hb.mono h.bel.size)⟩
theorem V7.app(h:V7 w wx bo pa qa Lp Lt v ws)(hz:Below wx.heap.size wx wz)(hg:wz.grownBy w9 v.ownBlock)(zEA:w9.ownsRow (w.heap.size+1) 9 1 v9 (ws.length+ns.length) (xV ws++xV ns)):V7 w w9 bo pa qa Lp Lt v9 (ws++ns):=by
 have hZ:=h.below hz;have hb:Below (w.heap.size+1) wz w9:=(t9 _ wz).grown hg (zL hZ.box) (zU hZ.own);refine⟨(hb.block _ (mq _)).trans hZ.box,hZ.lp.grown hZ.own (by decide) hg,hZ.lt.grown hZ.own (by decide) hg,?_,hZ.bel.trans (hb.mono (my _))⟩;rw[tb];have e:xV (ws++ns)=xV ws++xV ns:=by unfold xV;rw[lj]
 rw[e];exact zEA
theorem V7.five(h:V7 w wx bo pa qa Lp Lt v ws)(a b c d e:Bs):V7 w (wx.alloc (.cells #[.string ⟨a.toArray⟩,.string ⟨b.toArray⟩,.string ⟨c.toArray⟩,.string ⟨d.toArray⟩,.string ⟨e.toArray⟩] 9)) bo pa qa Lp Lt (.slice (some ⟨wx.heap.size,0,none⟩) 5 5) [a,b,c,d,e]:=by
 have hz:=h.below (da (j1 _) (.cells #[.string ⟨a.toArray⟩,.string ⟨b.toArray⟩,.string ⟨c.toArray⟩,.string ⟨d.toArray⟩,.string ⟨e.toArray⟩] 9));exact⟨hz.box,hz.lp,hz.lt,⟨rfl,.inr ⟨wx.heap.size,5,_,rfl,zL h.box,zH _ _,by simp,by decide,rfl,rfl⟩⟩,hz.bel⟩
theorem dE(tw:List Bs):(xV tw).length=tw.length*1/\∀u∈xV tw,u.oneCell'=true:=by
 refine⟨by unfold xV;simp,fun u hu=>?_⟩;obtain⟨x,-,rfl⟩:=p7.1 hu;rfl
theorem Bg(j:Nat)(p:yR):(mB j p).length<=4:=by
 have h1:(cI j p).length<=1:=by unfold cI;split;simp;split <;> simp
 have h2:(uI p).length<=1:=by unfold uI;split <;> simp
 have h3:(tD p).length<=1:=by unfold tD;split <;> simp
 have h4:(uU p).length<=1:=by unfold uU;split;simp;split <;> simp
 unfold mB;simp only[tb];omega
theorem Yv:∀i,(tK ps i).length<=4*i:=by
 intro i
 induction i with
 | zero=>simp[tK]
 | succ i ih=>rw[oI,tb];have:=Bg i (ps.getD i dQ);omega
theorem UL:∀i,(kI ts lo i).length<=7*i:=by
 intro i
 induction i with
 | zero=>simp[kI]
 | succ i ih =>
   rw[oG,tb,tb];have h1:=(wE (ts.getD i lI) lo).2;have h2:(qS i (ts.getD i lI)).length<=1:=by unfold qS;split;simp;split <;> simp
   omega
theorem UK{i:Nat}(h:0<i):0<(kI ts lo i).length:=by
 obtain⟨j,rfl⟩:∃j,i=j+1:=⟨i-1,by omega⟩;rw[oG,tb,tb];have h1:=(wE (ts.getD j lI) lo).1;omega
theorem QZ(wh:Bool)(ts:List zX)(lo:Bool)(h0:0<ts.length)(h6:ts.length<=6):0<(bD wh ts lo).length/\(bD wh ts lo).length<=45:=by
 have h1:=UL ts lo ts.length;have h2:=UK ts lo h0;have a1:((if wh=true then [[110,111,116]] else []):List Bs).length<=1:=by split <;> simp
 have a2:∀x:Bs,((if iB wh lo ts.length=true then [x] else []):List Bs).length<=1:=fun x=>by split <;> simp
 have a3:=a2 [40];have a4:=a2 [41];unfold bD;simp only[tb];omega
theorem Br{low:List Nat}(h:qZ low p):0<(uI p++uU p).length:=by
 rw[tb];rcases h with ⟨-,-,h1,h2⟩|⟨-,h1,-⟩|⟨-,-,h1,-⟩|⟨-,h1,d,-,h2⟩
 ·have:(uI p).length=1:=by unfold uI;rw[tg (.inr ⟨by omega,by omega⟩)];rfl
  omega
 ·have:(uU p).length=1:=by unfold uU;rw[tg h1.1];rfl
  omega
 ·have:(uU p).length=1:=by unfold uU;rw[tg h1.1];rfl
  omega
 ·have:(uU p).length=1:=by unfold uU;rw[t7 (by omega),tg (by omega)];rfl
  omega
theorem CZ{low:List Nat}{ps:List yR}(h:jD low ps):0<(bL ps).length:=by
 obtain⟨j,hj⟩:∃j,ps.length=j+1:=⟨ps.length-1,by have:=h.1;omega⟩;unfold bL;rw[hj,oI,tb];have h1:=Br (h.2.2 (ps.getD j dQ) (by simp[List.getD,hj]));unfold mB;simp only[tb]at h1 ⊢;omega
theorem FR(w:World)(h i:Nat)(wh lo:Bool)(pa qa:Option Addr)(pc qc:Nat)(ps:List yR)(ts:List zX)(low:List Nat)(hh:h<4)(hi8:i<8)(hps:jD low ps)(hts:jS low ts)(hl4:∀d∈low,d<4)(hP:xB w 89 pa (ps.flatMap cT))(hQ:xB w 87 qa (ts.flatMap fB))(hT:gT w) :
 Calls Tryz.prog 49 #[.agg #[.int .i64 (h:Int),.bool wh,.slice pa ps.length pc,.slice qa ts.length qc],.int .i64 (i:Int),.bool lo] w fun e w'=>∃v,e=.returned v/\w'.ownsRow w.heap.size 9 1 v (bM ⟨h,wh,ps,ts⟩ i lo).length (xV (bM ⟨h,wh,ps,ts⟩ i lo))/\Below w.heap.size w w':=by
 obtain⟨i0,hi0,hz0,hz1,hz2⟩:=info_parts nF;have HTb:=zA (fun w' (hb:Below w.heap.size w w')=>hT.below hb);have HN1:=zA (fun w'=>pW w' 114 i (by omega));have HN2:=zA (fun w'=>pW w' 99 h (by omega));rw[show ((114:UInt8).toNat:Int)=114 from rfl]at HN1;rw[show ((99:UInt8).toNat:Int)=99 from rfl]at HN2;have HSu:=zA (fun w' pc (hc:xB w' 89 pa (ps.flatMap cT)) (ht:gT w')=>qg w' pa pc ps low hps hl4 hc ht);have HGu:=zA (fun w' (hc:xB w' 87 qa (ts.flatMap fB)) (ht:gT w')=>BY w' (h:Int) wh lo pa qa ps.length pc qc ts low hts hl4 hc ht);have HRW:Hid (bM ⟨h,wh,ps,ts⟩ i lo=[[114,117,108,101],xG 114 i,[58],xG 99 h,[61]]++bL ps++[[119,104,101,110]]++bD wh ts lo++[[59]]):=rfl;have s1:=CZ hps;have s2:(bL ps).length<=16:=by have:=Yv ps ps.length;have:=hps.2.1;unfold bL;omega
 obtain⟨g1,g2⟩:=QZ wh ts lo hts.1 hts.2.1;have HS0:Hid (V7 w (w.alloc (.cells #[.int .i64 (h:Int),.bool wh,.slice pa ps.length pc,.slice qa ts.length qc] 85)) (.cells #[.int .i64 (h:Int),.bool wh,.slice pa ps.length pc,.slice qa ts.length qc] 85 (0,0)) pa qa (ps.flatMap cT) (ts.flatMap fB) (.slice none 0 0) []):=⟨zH _ _,hP.below (da (j1 _) _),hQ.below (da (j1 _) _),mt _ _ _ _,da (j1 _) _⟩;have hfp:ps.length<=4:=hps.2.1;have hft:ts.length<=6:=hts.2.1;generalize bM ⟨h,wh,ps,ts⟩ i lo=TW at *;generalize bL ps=sw at *;generalize bD wh ts lo=gw at *;generalize xG 114 i=n1 at *;generalize xG 99 h=n2 at *;clear hps hts hl4 hP hQ hT
 go_enter Tryz.func49,Tryz.ntmps49
 go_upto_region 1 with fail
 generalize w.alloc (.cells #[.int .i64 (h:Int),.bool wh,.slice pa ps.length pc,.slice qa ts.length qc] 85)=w0 at *;have d0:w0.cell? ⟨w.heap.size,0,none⟩=some (.int .i64 (h:Int)):=zC HS0.out.box 0
 go_cut [7] from 10 to 15 (fun v7 wx=>Hid (V7 w wx (.cells #[.int .i64 (h:Int),.bool wh,.slice pa ps.length pc,.slice qa ts.length qc] 85 (0,0)) pa qa (ps.flatMap cT) (ts.flatMap fB) v7 [[114,117,108,101],n1,[58],n2,[61]]))
 case first =>
  go_region_held3 (fun w'=>w'.cell? ⟨w.heap.size,0,none⟩=some (.int .i64 (h:Int))) (go_keep) (first
   | (go_at_call_of 19 (Value.int .u8 114);refine(HN1.out _).mono ?_;rintro e w5 ⟨rfl,hb5⟩;have hS5:=HS0.out.below ((pq (t9 _ _)).trans hb5);have d0:w5.cell? ⟨w.heap.size,0,none⟩=some (.int .i64 (h:Int)):=zC hS5.box 0)
   | (go_at_call_of 19 (Value.int .u8 99);refine(HN2.out _).mono ?_;rintro e w6 ⟨rfl,hb6⟩;have hS6:=hS5.below hb6;have d0:w6.cell? ⟨w.heap.size,0,none⟩=some (.int .i64 (h:Int)):=zC hS6.box 0;have n6:w6.heap.size≠w.heap.size:=by have:=zL hS6.box;omega))
  all_goals
   have HS6:=zA (hS6.five [114,117,108,101] n1 [58] n2 [61]);clear hS6 hS5;go_wp2_with fail
   go_meet
   exact HS6
 case rest =>
  clear HS0 d0;have HS1:=hcut;clear hcut;generalize hA:[[114,117,108,101],n1,[58],n2,[61]]=wsA at *;have hlA:wsA.length<=5:=by rw[<-hA];simp
  have HA:Hid (wsA=[[114,117,108,101],n1,[58],n2,[61]]):=hA.symm;clear hA;obtain⟨oa,oc,rfl⟩:=yD HS1.out.own;have d2:wc.cell? ⟨w.heap.size,2,none⟩=some (.slice pa ps.length pc):=zC HS1.out.box 2;have HSw:=zA (HSu.out wc pc HS1.out.lp (HTb.out wc HS1.out.bel));go_wp2_with fail
  refine HSw.out.mono ?_;rintro e w7 ⟨v7,rfl,ho7,hb7⟩;obtain⟨g7,c7,rfl,hc7⟩:=JZ ho7 s1;have HS7:=zA (HS1.out.below hb7);have HC7:=zA hc7;have hsz7:=zL HS7.out.box;have HSlen:=zA (dE sw).1;have HSone:=zA (dE sw).2;clear hb7 ho7 hc7 d2 HSw HS1
  go_wp2_with (at_builtin;refine wpList_append_own _ rfl _ _ 70 rfl (w.heap.size+1) 9 i0 _ 1 16 Tryz.underlying70 hi0 hz0 hz1 hz2 rfl (by decide) _ _ _ rfl HS7.out.own ⟨g7,0,none⟩ sw.length c7 (xV sw) rfl HSlen.out HC7.out HSone.out ?c1k3 ?c1k4 ?c1k5 ?_)
  try (case c1k3=>unfold maxLen;omega)
  try (case c1k4=>omega)
  try (case c1k5=>first|omega|(simp;omega))
  intro v6 w6 zE8 zE7 _;have HS6:Hid (V7 w w6 (.cells #[.int .i64 (h:Int),.bool wh,.slice pa ps.length pc,.slice qa ts.length qc] 85 (0,0)) pa qa (ps.flatMap cT) (ts.flatMap fB) v6 (wsA++sw)):=HS7.out.app (t9 _ _) zE7 zE8;clear zE8 zE7;obtain⟨a6,c6,rfl⟩:=yD HS6.out.own;have HS8:=HS6;have hsz8:=zL HS8.out.box;have hl8:(wsA++sw).length<=21:=by rw[tb];omega
  generalize hB:wsA++sw=wsB at *;have HB8:Hid (wsB=wsA++sw):=hB.symm;clear hB HS6 HS7 HC7 HSlen HSone
  go_wp2_with (at_builtin;refine wpList_append_own _ rfl _ _ 70 rfl (w.heap.size+1) 9 i0 _ 1 16 Tryz.underlying70 hi0 hz0 hz1 hz2 rfl (by decide) _ _ _ rfl (HS8.out.own.alloc _) ⟨w6.heap.size,0,none⟩ 1 1 [.string ⟨#[119,104,101,110]⟩] rfl rfl ?c2k1 ?c2k2 ?c2k3 ?c2k4 ?c2k5 ?_)
  try (case c2k1=>exact zS _ _ _ _ rfl)
  try (case c2k2=>first|rfl|(intro u hu;simp at hu;rcases hu with rfl;rfl))
  try (case c2k3=>unfold maxLen;omega)
  try (case c2k4=>omega)
  try (case c2k5=>first|omega|(simp;omega))
  intro v8 w8 zE8 zE7 _;have HS9:Hid (V7 w w8 (.cells #[.int .i64 (h:Int),.bool wh,.slice pa ps.length pc,.slice qa ts.length qc] 85 (0,0)) pa qa (ps.flatMap cT) (ts.flatMap fB) v8 (wsB++[[119,104,101,110]])):=HS8.out.app (da (j1 _) _) zE7 zE8;clear zE8 zE7 HS8;obtain⟨a8,c8,rfl⟩:=yD HS9.out.own;have hl9:(wsB++[[119,104,101,110]]).length<=22:=by rw[tb];simp only[ty,List.length_nil];omega
  generalize hC:wsB++[[119,104,101,110]]=wsC at *;have HC9:Hid (wsC=wsB++[[119,104,101,110]]):=hC.symm;clear hC;have d0:w8.cell? ⟨w.heap.size,0,none⟩=some (.int .i64 (h:Int)):=zC HS9.out.box 0;have d1:w8.cell? ⟨w.heap.size,1,none⟩=some (.bool wh):=zC HS9.out.box 1;have d2:w8.cell? ⟨w.heap.size,2,none⟩=some (.slice pa ps.length pc):=zC HS9.out.box 2;have d3:w8.cell? ⟨w.heap.size,3,none⟩=some (.slice qa ts.length qc):=zC HS9.out.box 3;have HGw:=zA (HGu.out w8 HS9.out.lt (HTb.out w8 HS9.out.bel));go_wp2_with fail
  refine HGw.out.mono ?_;rintro e w7 ⟨v7,rfl,ho7,hb7⟩;obtain⟨g7,c7,rfl,hc7⟩:=JZ ho7 g1;have HS7:=zA (HS9.out.below hb7);have HC7:=zA hc7;have hsz7:=zL HS7.out.box;have HSlen:=zA (dE gw).1;have HSone:=zA (dE gw).2;clear hb7 ho7 hc7 d0 d1 d2 d3 HGw HS9
  go_wp2_with (at_builtin;refine wpList_append_own _ rfl _ _ 70 rfl (w.heap.size+1) 9 i0 _ 1 16 Tryz.underlying70 hi0 hz0 hz1 hz2 rfl (by decide) _ _ _ rfl HS7.out.own ⟨g7,0,none⟩ gw.length c7 (xV gw) rfl HSlen.out HC7.out HSone.out ?c3k3 ?c3k4 ?c3k5 ?_)
  try (case c3k3=>unfold maxLen;omega)
  try (case c3k4=>omega)
  try (case c3k5=>first|omega|(simp;omega))
  intro v10 w10 zE8 zE7 _;have HS10:Hid (V7 w w10 (.cells #[.int .i64 (h:Int),.bool wh,.slice pa ps.length pc,.slice qa ts.length qc] 85 (0,0)) pa qa (ps.flatMap cT) (ts.flatMap fB) v10 (wsC++gw)):=HS7.out.app (t9 _ _) zE7 zE8;clear zE8 zE7 HS7;obtain⟨a10,c10,rfl⟩:=yD HS10.out.own;have hl10:(wsC++gw).length<=70:=by rw[tb];omega
  have hsz10:=zL HS10.out.box;generalize hD:wsC++gw=wsD at *;have HD:Hid (wsD=wsC++gw):=hD.symm;clear hD
  go_wp2_with (at_builtin;refine wpList_append_own _ rfl _ _ 70 rfl (w.heap.size+1) 9 i0 _ 1 16 Tryz.underlying70 hi0 hz0 hz1 hz2 rfl (by decide) _ _ _ rfl (HS10.out.own.alloc _) ⟨w10.heap.size,0,none⟩ 1 1 [.string ⟨#[59]⟩] rfl rfl ?c4k1 ?c4k2 ?c4k3 ?c4k4 ?c4k5 ?_)
  try (case c4k1=>exact zS _ _ _ _ rfl)
  try (case c4k2=>first|rfl|(intro u hu;simp at hu;rcases hu with rfl;rfl))
  try (case c4k3=>unfold maxLen;omega)
  try (case c4k4=>omega)
  try (case c4k5=>first|omega|(simp;omega))
  intro v11 w11 zE8 zE7 _;have HS11:Hid (V7 w w11 (.cells #[.int .i64 (h:Int),.bool wh,.slice pa ps.length pc,.slice qa ts.length qc] 85 (0,0)) pa qa (ps.flatMap cT) (ts.flatMap fB) v11 (wsD++[[59]])):=HS10.out.app (da (j1 _) _) zE7 zE8;clear zE8 zE7 HS10
  have HQ:Hid (w11.ownsRow w.heap.size 9 1 v11 TW.length (xV TW)):=by
   unfold Hid;rw[HRW.out];exact xH HS11.out.own (my _)
  have HBl:=zA HS11.out.bel;clear HS11;go_wp2_with fail
  go_ret
  exact⟨_,rfl,HQ.out,HBl.out⟩
end Go.Proofs.YtnbpdffdnphbeabGreatDoor
