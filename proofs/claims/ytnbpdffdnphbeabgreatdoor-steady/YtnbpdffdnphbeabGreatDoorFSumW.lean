import Derived.Test.YtnbpdffdnphbeabGreatDoorFTestW
open Go.Proofs.Tryz
set_option maxHeartbeats 3000000
set_option maxRecDepth 100000
namespace Go.Proofs.YtnbpdffdnphbeabGreatDoor
open Go.RowKit
variable{ws ns:List Bs}{L Lp Lt:List Value}{gp:Nat}{bo:Obj}{qa pa la:Option Addr}{v v9:Value}{wx wz w9 w w':World}{p:xJ}(ts:List yH)(ps:List xJ)(lo:Bool)(i:Nat)
def eX:xJ:=⟨false,false,0,-1,-1⟩
def fT(i:Nat)(p:xJ):List Bs:=if i=0 then [] else if p.minus=true then [[45]] else [[43]]
def qR(p:xJ):List Bs:=if p.times=true\/(p.num<0/\p.head<0) then [Lib.itoa p.n] else []
def pW(p:xJ):List Bs:=if p.times=true then [[42]] else []
def kC(p:xJ):List Bs:=if 0<=p.num then [xC p.num.toNat] else if 0<=p.head then [xU 99 p.head.toNat] else []
def bD(i:Nat)(p:xJ):List Bs:=fT i p++qR p++pW p++kC p
def mL(ps:List xJ)(i:Nat):List Bs:=(List.range i).flatMap λj=>bD j (ps.getD j eX)
def cT(ps:List xJ):List Bs:=mL ps ps.length
theorem iH:mL ps (i+1)=mL ps i++bD i (ps.getD i eX):=by unfold mL;rw[bf,lk];simp
structure V9(w wx:World)(gp:Nat)(p:xJ)(la:Option Addr)(L:List Value)(v:Value)(ws:List Bs):Prop where
 E9:xX wx 89 (some ⟨gp,0,none⟩) (rM p)
 ik:xX wx 89 la L
 own:wx.ownsRow w.heap.size 9 1 v ws.length (xG ws)
 af:Below w.heap.size w wx
theorem V9.below(h:V9 w wx gp p la L v ws)(hb:Below wx.heap.size wx w'):V9 w w' gp p la L v ws:=⟨h.E9.below hb,h.ik.below hb,kV h.own hb,h.af.trans (hb.mono h.af.size)⟩
theorem V9.app(h:V9 w wx gp p la L v ws)(hz:Below wx.heap.size wx wz)(hg:wz.grownBy w9 v.ownBlock)(bc:w9.ownsRow w.heap.size 9 1 v9 (ws.length+ns.length) (xG ws++xG ns)):V9 w w9 gp p la L v9 (ws++ns):=by
 have hZ:=h.below hz;refine⟨hZ.E9.grown hZ.own (by decide) hg,hZ.ik.grown hZ.own (by decide) hg,?_,hZ.af.grown hg hZ.af.size (zS hZ.own)⟩;rw[tm];have e:xG (ws++ns)=xG ws++xG ns:=by unfold xG;rw[bj]
 rw[e];exact bc
theorem V9.cells(h:V9 w wx gp p la L v ws):wx.cell? ⟨gp,0,none⟩=some (.bool p.minus)/\wx.cell? ⟨gp,1,none⟩=some (.bool p.times)/\wx.cell? ⟨gp,2,none⟩=some (.int .i64 p.n)/\wx.cell? ⟨gp,3,none⟩=some (.int .i64 p.num)/\wx.cell? ⟨gp,4,none⟩=some (.int .i64 p.head):=by
 have t:∀(j:Nat) (u:Value),(rM p)[j]? = some u->wx.cell? ⟨gp,j,none⟩=some u:=λj u hj=>by
  obtain⟨g,e,c⟩:=h.E9.ay.at hj;obtain rfl:gp=g:=by simpa using e
  exact c
 exact⟨t 0 _ rfl,t 1 _ rfl,t 2 _ rfl,t 3 _ rfl,t 4 _ rfl⟩
theorem Na(w:World)(la:Option Addr)(lc:Nat)(ps:List xJ)(low:List Nat)(hp:tP low ps)(bA:∀d∈low,d<4)(hL:xX w 89 la (ps.flatMap rM))(hT:eG w) :
 Calls prog 62 #[.slice la ps.length lc] w λe w'=>∃v,e=.returned v/\w'.ownsRow w.heap.size 9 1 v (cT ps).length (xG (cT ps))/\Below w.heap.size w w':=by
 obtain⟨i0,ai,hz0,hz1,aK⟩:=du oP;have dL:=hp.2.1;have cD:=zA hp.2.2;have bX:=zA (λw' (hb:Below w.heap.size w w')=>hT.below hb);have cE:=zA bA;have dB:=zA hL;have c5:Hid (cT ps=mL ps ps.length):=rfl;have bw:=zA (iH ps);generalize cT ps=TW at *;clear hp bA hL hT
 go_enter func62,ntmps62
 go_wp2_with fail
 go_loopw [3,4] (λov iv wr=>∃(i:Nat),i<=ps.length/\iv=.int .i64 (i:Int)/\Hid (Below w.heap.size w wr)/\Hid (xX wr 89 la (ps.flatMap rM))/\Hid ((mL ps i).length<=4*i)/\Hid (wr.ownsRow w.heap.size 9 1 ov (mL ps i).length (xG (mL ps i)))) (λ_ iv _=>ps.length-(intOf iv).toNat)
 case atStart=>exact⟨0,p8,rfl,zA (tl _ _),dB,zA (p8),zA (ly _ _ _ _)⟩
 case round =>
  obtain⟨i,hi,rfl,HB,b5,aN,HO⟩:=hrel;obtain⟨oa,oc,rfl⟩:=zO HO.out;by_cases bI:i<ps.length
  ·have ii:(i:Int)<(ps.length:Int):=by omega
   have aS:ps.getD i eX∈ps:=(by simp[List.getD,bI]);have bb:=cD.out _ aS;have bl:=bw.out i;obtain⟨g,e0,q0⟩:=b5.out.ay.at ((zV rM 5 (λ_=>rfl) eX ps i 0 bI (by decide)).trans rfl);subst e0
   have qq:∀(r:Nat) (u:Value),r<5->(rM (ps.getD i eX))[r]? = some u->wr.cell? ⟨g,i*5+r,none⟩=some u:=λr u hr hu=>by
    obtain⟨g',e',c'⟩:=b5.out.ay.at ((zV rM 5 (λ_=>rfl) eX ps i r bI hr).trans hu);obtain rfl:g=g':=by simpa using e'
    exact c'
   have q1:=qq 1 _ (by decide) rfl;have q2:=qq 2 _ (by decide) rfl;have q3:=qq 3 _ (by decide) rfl;have q4:=qq 4 _ (by decide) rfl;rw[lh]at q0;clear qq aS;generalize ps.getD i eX=p at *;obtain⟨mi,ti,nn,nu,hd⟩:=p;simp only at q0 q1 q2 q3 q4;have b4:=zA bb;have bx:=zA bl;clear bb bl;generalize mL ps i=aQ at *;have cQ:=aN.out;have aI:Hid (V9 w (wr.alloc (.cells #[.bool mi,.bool ti,.int .i64 nn,.int .i64 nu,.int .i64 hd] 89)) wr.heap.size ⟨mi,ti,nn,nu,hd⟩ (some ⟨g,0,none⟩) (ps.flatMap rM) (.slice oa aQ.length oc) aQ):=⟨.inr ⟨wr.heap.size,_,_,rfl,zF _ _,λj _=>by rw[<-cb];rfl⟩,b5.out.below (fk (tg _) _),HO.out.alloc _,HB.out.alloc HB.out.size _⟩
   go_upto_region 6 with fail
   clear q0 q1 q2 q3 q4 HB b5 HO aN;generalize wr.alloc (.cells #[.bool mi,.bool ti,.int .i64 nn,.int .i64 nu,.int .i64 hd] 89)=w0 at *;generalize wr.heap.size=gp at *;obtain⟨c0,c1,c2,c3,c4⟩:=aI.out.cells;simp only at c0 c1 c2 c3 c4;have aO:=aI.out.af.size;have bz:Hid (fT i ⟨mi,ti,nn,nu,hd⟩=if i=0 then [] else if mi=true then [[45]] else [[43]]):=rfl
   go_cut [3,21] from 6 to 70 (λv3 v21 wx=>v3=.slice oa aQ.length oc/\v21=.bool (decide (0<i)&&mi)/\wx=w0)
   case first =>
    by_cases k0:i=0
    ·subst k0
     go_wp2_with fail
     go_meet
     exact⟨rfl,rfl,rfl⟩
    ·have k1:0<i:=by omega
     have k2:(0:Int)<(i:Int):=(by omega);have HD:Hid (decide (0<i)=true):=tz k1;clear k0;go_wp2_with fail
     go_meet
     exact⟨rfl,by rw[HD.out];rfl,rfl⟩
   case rest =>
    obtain⟨rfl,rfl,rfl⟩:=hcut
    go_upto_if 21 with fail
    go_cut [3] from 6 to 70 (λv3 wx=>∃aL,Hid (aL=aQ++fT i ⟨mi,ti,nn,nu,hd⟩)/\Hid (aL.length<=aQ.length+1)/\Hid (V9 w wx gp ⟨mi,ti,nn,nu,hd⟩ (some ⟨g,0,none⟩) (ps.flatMap rM) v3 aL))
    case first =>
     by_cases k0:i=0
     ·have HE:Hid (fT i ⟨mi,ti,nn,nu,hd⟩=[]):=bz.out.trans (tr k0)
      subst k0;rw[show (decide (0<0)&&mi)=false from rfl];go_wp2_with fail
      go_meet
      exact⟨aQ,zA (by rw[HE.out,mt]),zA (my _),aI⟩
     ·have k1:0<i:=by omega
      have k2:(0:Int)<(i:Int):=(by omega);rw[tz k1,bm];cases mi
      ·have HE:Hid (fT i ⟨false,ti,nn,nu,hd⟩=[[43]]):=bz.out.trans ((tj k0).trans (tj (by simp)))
       clear k0
       go_wp2_with (at_builtin;refine wpList_append_own _ rfl _ _ 70 rfl w.heap.size 9 i0 _ 1 16 underlying70 ai hz0 hz1 aK rfl (by decide) _ _ _ rfl (aI.out.own.alloc _) ⟨wc.heap.size,0,none⟩ 1 1 [.string ⟨#[43]⟩] rfl rfl ?bV ?bU ?au ?aq ?ao ?_)
       try (case bV=>exact zM _ _ _ _ rfl)
       try (case bU=>first|rfl|exact⟨rfl,rfl⟩|(intro u hu;simp at hu;rcases hu with rfl <;> rfl))
       try (case au=>unfold maxLen;omega)
       try (case aq=>omega)
       try (case ao=>first|omega|(simp;omega))
       intro v6 w6 aA aB _;have aC:Hid (V9 w w6 gp ⟨false,ti,nn,nu,hd⟩ (some ⟨g,0,none⟩) (ps.flatMap rM) v6 (aQ++[[43]])):=aI.out.app (fk (tg _) _) aB aA;clear aA aB;go_wp2_with fail
       go_meet
       exact⟨_,zA (by rw[HE.out]),zA (by simp),aC⟩
      ·have HE:Hid (fT i ⟨true,ti,nn,nu,hd⟩=[[45]]):=bz.out.trans ((tj k0).trans (tr rfl))
       clear k0
       go_wp2_with (at_builtin;refine wpList_append_own _ rfl _ _ 70 rfl w.heap.size 9 i0 _ 1 16 underlying70 ai hz0 hz1 aK rfl (by decide) _ _ _ rfl (aI.out.own.alloc _) ⟨wc.heap.size,0,none⟩ 1 1 [.string ⟨#[45]⟩] rfl rfl ?ak ?aj ?ah ?ag ?ae ?_)
       try (case ak=>exact zM _ _ _ _ rfl)
       try (case aj=>first|rfl|exact⟨rfl,rfl⟩|(intro u hu;simp at hu;rcases hu with rfl <;> rfl))
       try (case ah=>unfold maxLen;omega)
       try (case ag=>omega)
       try (case ae=>first|omega|(simp;omega))
       intro v6 w6 aA aB _;have aC:Hid (V9 w w6 gp ⟨true,ti,nn,nu,hd⟩ (some ⟨g,0,none⟩) (ps.flatMap rM) v6 (aQ++[[45]])):=aI.out.app (fk (tg _) _) aB aA;clear aA aB;go_wp2_with fail
       go_meet
       exact⟨_,zA (by rw[HE.out]),zA (by simp),aC⟩
    case rest =>
     clear c0 c1 c2 c3 c4 aI aO bz;obtain⟨aL,bq,cH,aD⟩:=hcut;obtain⟨cO,cN,rfl⟩:=zO aD.out.own;obtain⟨c0,c1,c2,c3,c4⟩:=aD.out.cells;simp only at c0 c1 c2 c3 c4;have aO:=aD.out.af.size;have cv:=cH.out;have cB:Hid (qR ⟨mi,ti,nn,nu,hd⟩=if ti=true\/(nu<0/\hd<0) then [Lib.itoa nn] else []):=rfl
     have cW:Hid ((ti=true\/(nu<0/\hd<0))->0<=nn/\nn<=9999):=λh=>by
      rcases b4.out with ⟨-,h1,-,-⟩|⟨h0,h1,-⟩|⟨-,h1,-⟩|⟨h1,-,-⟩
      ·exact h1
      ·rcases h with h|h
       ·exact x' (h.symm.trans h0) (by simp)
       ·have:=h1.1;simp only at this;omega
      ·have:=h1;simp only at this;omega
      ·have:=h1;simp only at this;omega
     go_upto_region 10 with fail
     go_cut [3,41] from 6 to 70 (λv3 cm wx=>v3=.slice cO aL.length cN/\cm=.bool (decide (ti=true\/(nu<0/\hd<0)))/\wx=wc)
     case first =>
      cases ti
      ·by_cases k1:nu<0
       ·by_cases k2:hd<0
        ·have HD:Hid (decide (false=true\/(nu<0/\hd<0))=true):=tz (.inr ⟨k1,k2⟩)
         go_wp2_with fail
         go_meet
         exact⟨rfl,by rw[HD.out],rfl⟩
        ·have HD:Hid (decide (false=true\/(nu<0/\hd<0))=false):=ty (λh=>by rcases h with h|h;cases h;exact k2 h.2)
         go_wp2_with fail
         go_meet
         exact⟨rfl,by rw[HD.out],rfl⟩
       ·have HD:Hid (decide (false=true\/(nu<0/\hd<0))=false):=ty (λh=>by rcases h with h|h;cases h;exact k1 h.1)
        go_wp2_with fail
        go_meet
        exact⟨rfl,by rw[HD.out],rfl⟩
      ·have HD:Hid (decide (true=true\/(nu<0/\hd<0))=true):=tz (.inl rfl)
       go_wp2_with fail
       go_meet
       exact⟨rfl,by rw[HD.out],rfl⟩
     case rest =>
      obtain⟨rfl,rfl,rfl⟩:=hcut
      go_upto_if 41 with fail
      go_cut [3] from 6 to 70 (λv3 wx=>∃aF,Hid (aF=aL++qR ⟨mi,ti,nn,nu,hd⟩)/\Hid (aF.length<=aL.length+1)/\Hid (V9 w wx gp ⟨mi,ti,nn,nu,hd⟩ (some ⟨g,0,none⟩) (ps.flatMap rM) v3 aF))
      case first =>
       by_cases hc:ti=true\/(nu<0/\hd<0)
       ·have HE:Hid (qR ⟨mi,ti,nn,nu,hd⟩=[Lib.itoa nn]):=cB.out.trans (tr hc)
        obtain⟨n1,n2⟩:=cW.out hc;rw[tz hc];have HI:=zA (Xy wc nn n1 n2 (bX.out wc aD.out.af));generalize Lib.itoa nn=iw at *;clear hc;go_wp2_with fail
        refine HI.out.mono ?_;rintro e w5 ⟨rfl,a7⟩;have av:=zA (aD.out.below a7);have bk:=av.out.af.size;clear a7 HI
        go_wp2_with (at_builtin;refine wpList_append_own _ rfl _ _ 70 rfl w.heap.size 9 i0 _ 1 16 underlying70 ai hz0 hz1 aK rfl (by decide) _ _ _ rfl (av.out.own.alloc _) ⟨w5.heap.size,0,none⟩ 1 1 [.string ⟨iw.toArray⟩] rfl rfl ?bT ?bS ?aa ?aZ ?aY ?_)
        try (case bT=>exact zM _ _ _ _ rfl)
        try (case bS=>first|rfl|exact⟨rfl,rfl⟩|(intro u hu;simp at hu;rcases hu with rfl <;> rfl))
        try (case aa=>unfold maxLen;omega)
        try (case aZ=>omega)
        try (case aY=>first|omega|(simp;omega))
        intro v6 w6 aA aB _;have aC:Hid (V9 w w6 gp ⟨mi,ti,nn,nu,hd⟩ (some ⟨g,0,none⟩) (ps.flatMap rM) v6 (aL++[iw])):=av.out.app (fk (tg _) _) aB aA;clear aA aB;go_wp2_with fail
        go_meet
        exact⟨_,zA (by rw[HE.out]),zA (by simp),aC⟩
       ·have HE:Hid (qR ⟨mi,ti,nn,nu,hd⟩=[]):=cB.out.trans (tj hc)
        rw[ty hc];clear hc;go_wp2_with fail
        go_meet
        exact⟨aL,zA (by rw[HE.out,mt]),zA (my _),aD⟩
      case rest =>
       clear c0 c1 c2 c3 c4 aD aO cB cW;obtain⟨aF,bp,cF,aw⟩:=hcut;obtain⟨cp,cn,rfl⟩:=zO aw.out.own;obtain⟨c0,c1,c2,c3,c4⟩:=aw.out.cells;simp only at c0 c1 c2 c3 c4;have aO:=aw.out.af.size;have ct:=cF.out;have cC:Hid (pW ⟨mi,ti,nn,nu,hd⟩=if ti=true then [[42]] else []):=rfl
       go_upto_if 49 with fail
       go_cut [3] from 6 to 70 (λv3 wx=>∃bE,Hid (bE=aF++pW ⟨mi,ti,nn,nu,hd⟩)/\Hid (bE.length<=aF.length+1)/\Hid (V9 w wx gp ⟨mi,ti,nn,nu,hd⟩ (some ⟨g,0,none⟩) (ps.flatMap rM) v3 bE))
       case first =>
        cases ti
        ·have HE:Hid (pW ⟨mi,false,nn,nu,hd⟩=[]):=cC.out.trans (tj (by simp))
         go_wp2_with fail
         go_meet
         exact⟨aF,zA (by rw[HE.out,mt]),zA (my _),aw⟩
        ·have HE:Hid (pW ⟨mi,true,nn,nu,hd⟩=[[42]]):=cC.out.trans (tr rfl)
         go_wp2_with (at_builtin;refine wpList_append_own _ rfl _ _ 70 rfl w.heap.size 9 i0 _ 1 16 underlying70 ai hz0 hz1 aK rfl (by decide) _ _ _ rfl (aw.out.own.alloc _) ⟨wc.heap.size,0,none⟩ 1 1 [.string ⟨#[42]⟩] rfl rfl ?aX ?aW ?aV ?aU ?aT ?_)
         try (case aX=>exact zM _ _ _ _ rfl)
         try (case aW=>first|rfl|exact⟨rfl,rfl⟩|(intro u hu;simp at hu;rcases hu with rfl <;> rfl))
         try (case aV=>unfold maxLen;omega)
         try (case aU=>omega)
         try (case aT=>first|omega|(simp;omega))
         intro v6 w6 aA aB _;have aC:Hid (V9 w w6 gp ⟨mi,true,nn,nu,hd⟩ (some ⟨g,0,none⟩) (ps.flatMap rM) v6 (aF++[[42]])):=aw.out.app (fk (tg _) _) aB aA;clear aA aB;go_wp2_with fail
         go_meet
         exact⟨_,zA (by rw[HE.out]),zA (by simp),aC⟩
       case rest =>
        clear c0 c1 c2 c3 c4 aw aO cC;obtain⟨bE,cj,dC,bY⟩:=hcut;obtain⟨dJ,dH,rfl⟩:=zO bY.out.own;obtain⟨c0,c1,c2,c3,c4⟩:=bY.out.cells;simp only at c0 c1 c2 c3 c4;have aO:=bY.out.af.size;have dQ:=dC.out;have cX:Hid (kC ⟨mi,ti,nn,nu,hd⟩=if 0<=nu then [xC nu.toNat] else if 0<=hd then [xU 99 hd.toNat] else []):=rfl
        have cg:Hid (mL ps (i+1)=bE++kC ⟨mi,ti,nn,nu,hd⟩):=by
         unfold Hid;rw[bx.out,cj.out,bp.out,bq.out];simp only[bD,po]
        have cY:Hid ((0<=nu->nu<3)/\(0<=hd->hd<4)):=by
         rcases b4.out with ⟨-,-,h1,h2⟩|⟨-,h1,h2⟩|⟨-,-,h1,h2⟩|⟨-,h1,d,hd1,h2⟩
         ·simp only at h1 h2;exact⟨λh=>by omega,λh=>by omega⟩
         ·simp only at h1 h2;exact⟨λh=>by omega,λh=>by omega⟩
         ·simp only at h1 h2;exact⟨λh=>by omega,λh=>by omega⟩
         ·have:=cE.out d hd1;simp only at h1 h2;exact⟨λh=>by omega,λh=>by omega⟩
        have b7:Hid (∀(w6:World) (v6:Value) (nm:List Bs),nm.length<=1->kC ⟨mi,ti,nn,nu,hd⟩=nm->V9 w w6 gp ⟨mi,ti,nn,nu,hd⟩ (some ⟨g,0,none⟩) (ps.flatMap rM) v6 (bE++nm)->Below w.heap.size w w6/\xX w6 89 (some ⟨g,0,none⟩) (ps.flatMap rM)/\(mL ps (i+1)).length<=4*(i+1)/\w6.ownsRow w.heap.size 9 1 v6 (mL ps (i+1)).length (xG (mL ps (i+1)))):=λw6 v6 nm hn e hS=>by
         rw[cg.out,e];exact⟨hS.af,hS.ik,by rw[tm];omega,hS.own⟩
        clear cj bp bq bx cg;by_cases k1:0<=nu
        ·have HE:Hid (kC ⟨mi,ti,nn,nu,hd⟩=[xC nu.toNat]):=cX.out.trans (tr k1)
         have k3:=cY.out.1 k1;obtain⟨un,rfl⟩:=mz k1;rw[fm]at HE;have HI:=zA (fG wc un (by omega));generalize xC un=iw at *;go_wp2_with fail
         refine HI.out.mono ?_;rintro e w5 ⟨rfl,a7⟩;have av:=zA (bY.out.below a7);have bk:=av.out.af.size;clear a7 HI
         go_wp2_with (at_builtin;refine wpList_append_own _ rfl _ _ 70 rfl w.heap.size 9 i0 _ 1 16 underlying70 ai hz0 hz1 aK rfl (by decide) _ _ _ rfl (av.out.own.alloc _) ⟨w5.heap.size,0,none⟩ 1 1 [.string ⟨iw.toArray⟩] rfl rfl ?cA ?b9 ?bQ ?bP ?bO ?_)
         try (case cA=>exact zM _ _ _ _ rfl)
         try (case b9=>first|rfl|exact⟨rfl,rfl⟩|(intro u hu;simp at hu;rcases hu with rfl <;> rfl))
         try (case bQ=>unfold maxLen;omega)
         try (case bP=>omega)
         try (case bO=>first|omega|(simp;omega))
         intro v6 w6 aA aB _;have aC:Hid (V9 w w6 gp ⟨mi,ti,nn,(un:Int),hd⟩ (some ⟨g,0,none⟩) (ps.flatMap rM) v6 (bE++[iw])):=av.out.app (fk (tg _) _) aB aA;clear aA aB;obtain⟨z1,z2,z3,z4⟩:=b7.out w6 v6 [iw] (by simp) HE.out aC.out;have Z1:=zA z1;have Z2:=zA z2;have Z3:=zA z3;have Z4:=zA z4;clear z1 z2 z3 z4;go_wp2_with fail
         go_roundw
         case rel=>exact⟨i+1,by omega,by go_num,Z1,Z2,Z3,Z4⟩
         case measure=>simp[intOf];omega
        ·have ck:Hid (kC ⟨mi,ti,nn,nu,hd⟩=if 0<=hd then [xU 99 hd.toNat] else []):=cX.out.trans (tj k1)
         by_cases k2:0<=hd
         ·have HE:Hid (kC ⟨mi,ti,nn,nu,hd⟩=[xU 99 hd.toNat]):=ck.out.trans (tr k2)
          have k3:=cY.out.2 k2;obtain⟨un,rfl⟩:=mz k2;rw[fm]at HE;have HI:=zA (bR wc 99 un (by omega));rw[show ((99:UInt8).toNat:Int)=99 from rfl]at HI;generalize xU 99 un=iw at *;go_wp2_with fail
          refine HI.out.mono ?_;rintro e w5 ⟨rfl,a7⟩;have av:=zA (bY.out.below a7);have bk:=av.out.af.size;clear a7 HI
          go_wp2_with (at_builtin;refine wpList_append_own _ rfl _ _ 70 rfl w.heap.size 9 i0 _ 1 16 underlying70 ai hz0 hz1 aK rfl (by decide) _ _ _ rfl (av.out.own.alloc _) ⟨w5.heap.size,0,none⟩ 1 1 [.string ⟨iw.toArray⟩] rfl rfl ?bN ?bM ?bL ?bK ?bJ ?_)
          try (case bN=>exact zM _ _ _ _ rfl)
          try (case bM=>first|rfl|exact⟨rfl,rfl⟩|(intro u hu;simp at hu;rcases hu with rfl <;> rfl))
          try (case bL=>unfold maxLen;omega)
          try (case bK=>omega)
          try (case bJ=>first|omega|(simp;omega))
          intro v6 w6 aA aB _;have aC:Hid (V9 w w6 gp ⟨mi,ti,nn,nu,(un:Int)⟩ (some ⟨g,0,none⟩) (ps.flatMap rM) v6 (bE++[iw])):=av.out.app (fk (tg _) _) aB aA;clear aA aB;obtain⟨z1,z2,z3,z4⟩:=b7.out w6 v6 [iw] (by simp) HE.out aC.out;have Z1:=zA z1;have Z2:=zA z2;have Z3:=zA z3;have Z4:=zA z4;clear z1 z2 z3 z4;go_wp2_with fail
          go_roundw
          case rel=>exact⟨i+1,by omega,by go_num,Z1,Z2,Z3,Z4⟩
          case measure=>simp[intOf];omega
         ·have HE:Hid (kC ⟨mi,ti,nn,nu,hd⟩=[]):=ck.out.trans (tj k2)
          obtain⟨z1,z2,z3,z4⟩:=b7.out wc _ [] (by simp) HE.out (by rw[mt];exact bY.out);have Z1:=zA z1;have Z2:=zA z2;have Z3:=zA z3;have Z4:=zA z4;clear z1 z2 z3 z4;go_wp2_with fail
          go_roundw
          case rel=>exact⟨i+1,by omega,by go_num,Z1,Z2,Z3,Z4⟩
          case measure=>simp[intOf];omega
  ·obtain rfl:i=ps.length:=by omega
   have ii:¬(ps.length:Int)<(ps.length:Int):=(by omega);have HQ:Hid (wr.ownsRow w.heap.size 9 1 (.slice oa (mL ps ps.length).length oc) TW.length (xG TW)):=(by unfold Hid;rw[c5.out];exact HO.out);clear HO aN bw;go_wp2_with fail
   go_ret
   exact⟨_,rfl,HQ.out,HB.out⟩
def dA:yH:=⟨false,false,false,0,0,0,0,0⟩
def jL(j:Nat)(t:yH):List Bs:=if j=0 then [] else if t.or=true then [[111,114]] else [[97,110,100]]
def tM(ts:List yH)(lo:Bool)(i:Nat):List Bs:=(List.range i).flatMap λj=>jL j (ts.getD j dA)++xM (ts.getD j dA) lo
theorem iF:tM ts lo (i+1)=tM ts lo i++(jL i (ts.getD i dA)++xM (ts.getD i dA) lo):=by unfold tM;rw[bf,lk];simp
def Xd(wh lo:Bool)(n:Nat):Bool:=wh&&(lo || decide (1<n))
def cL(wh:Bool)(ts:List yH)(lo:Bool):List Bs:=(if wh=true then [[110,111,116]] else [])++(if Xd wh lo ts.length=true then [[40]] else [])++tM ts lo ts.length++(if Xd wh lo ts.length=true then [[41]] else [])
theorem QN(t:yH):0<(uZ t).length/\(uZ t).length<=3:=by
 unfold uZ;by_cases h0:t.kind=0
 ·rw[tr h0];simp
 ·rw[tj h0]
  by_cases h1:t.kind=1
  ·rw[tr h1];simp
  ·rw[tj h1]
   by_cases h2:t.kind=2
   ·rw[tr h2];simp
   ·rw[tj h2]
    by_cases h3:t.kind=3
    ·rw[tr h3];simp
    ·rw[tj h3];simp
theorem X7(t:yH)(lo:Bool):0<(xM t lo).length/\(xM t lo).length<=6:=by
 unfold xM;simp only[tm];have h1:((if t.not=true then [[110,111,116]] else []):List Bs).length<=1:=by split <;> simp
 have h2:∀x:Bs,((if (lo&&t.pair)=true then [x] else []):List Bs).length<=1:=λx=>by split <;> simp
 have h3:=h2 [40];have h4:=h2 [41];have h5:=QN t;omega
structure VN(w wx:World)(bo:Obj)(qa:Option Addr)(L:List Value)(v:Value)(ws:List Bs):Prop where
 box:wx.heap[w.heap.size]? = some bo
 ik:xX wx 87 qa L
 own:wx.ownsRow (w.heap.size+1) 9 1 v ws.length (xG ws)
 af:Below w.heap.size w wx
theorem VN.below(h:VN w wx bo qa L v ws)(hb:Below wx.heap.size wx w'):VN w w' bo qa L v ws:=⟨(hb.block _ (zP h.box)).trans h.box,h.ik.below hb,kV h.own hb,h.af.trans (hb.mono h.af.size)⟩
theorem VN.app(h:VN w wx bo qa L v ws)(hz:Below wx.heap.size wx wz)(hg:wz.grownBy w9 v.ownBlock)(bc:w9.ownsRow (w.heap.size+1) 9 1 v9 (ws.length+ns.length) (xG ws++xG ns)):VN w w9 bo qa L v9 (ws++ns):=by
 have hZ:=h.below hz;have hb:Below (w.heap.size+1) wz w9:=(tl _ wz).grown hg (zP hZ.box) (zS hZ.own);refine⟨(hb.block _ (mh _)).trans hZ.box,hZ.ik.grown hZ.own (by decide) hg,?_,hZ.af.trans (hb.mono (my _))⟩;rw[tm];have e:xG (ws++ns)=xG ws++xG ns:=by unfold xG;rw[bj]
 rw[e];exact bc
theorem C8{B:Nat}(h:w.ownsRow B 9 1 v ws.length (xG ws))(h0:0<ws.length):∃g c,v=.slice (some ⟨g,0,none⟩) ws.length c/\∀(j:Nat) (u:Value),(xG ws)[j]? = some u->w.cell? ((⟨g,0,none⟩:Addr).add j)=some u:=by
 obtain⟨a,c,e,hc,-,-⟩:=oJ h;obtain⟨g,rfl,-⟩:=hc.at (j:=0) (show (xG ws)[0]? = some (.string ⟨(ws.getD 0 []).toArray⟩) by simp[xG,List.getD,h0]);refine⟨g,c,e,λj u hj=>?_⟩;obtain⟨g',e',c'⟩:=hc.at hj;obtain rfl:g=g':=by simpa using e'
 have:(⟨g,0,none⟩:Addr).add j=⟨g,j,none⟩:=by simp[Addr.add];omega
 rw[this];exact c'
theorem qf(w:World)(hd:Int)(wh lo:Bool)(pa qa:Option Addr)(pn pc qc:Nat)(ts:List yH)(low:List Nat)(hp:pG low ts)(bA:∀d∈low,d<4)(hL:xX w 87 qa (ts.flatMap nV))(hT:eG w) :
 Calls prog 63 #[.agg #[.int .i64 hd,.bool wh,.slice pa pn pc,.slice qa ts.length qc],.bool lo] w λe w'=>∃v,e=.returned v/\w'.ownsRow w.heap.size 9 1 v (cL wh ts lo).length (xG (cL wh ts lo))/\Below w.heap.size w w':=by
 obtain⟨i0,ai,hz0,hz1,aK⟩:=du oP;have dK:=hp.2.1;have cD:=zA hp.2.2;have bX:=zA (λw' (hb:Below w.heap.size w w')=>hT.below hb);have cE:=zA bA;have cf:Hid (cL wh ts lo=(if wh=true then [[110,111,116]] else [])++(if Xd wh lo ts.length=true then [[40]] else [])++tM ts lo ts.length++(if Xd wh lo ts.length=true then [[41]] else [])):=rfl;have br:Hid (Xd wh lo ts.length=(wh&&(lo || decide (1<ts.length)))):=rfl;have bw:=zA (iF ts lo);generalize cL wh ts lo=TW at *;generalize Xd wh lo ts.length=ar at *;have aI:Hid (VN w (w.alloc (.cells #[.int .i64 hd,.bool wh,.slice pa pn pc,.slice qa ts.length qc] 85)) (.cells #[.int .i64 hd,.bool wh,.slice pa pn pc,.slice qa ts.length qc] 85 (0,0)) qa (ts.flatMap nV) (.slice none 0 0) []):=⟨zF _ _,hL.below (fk (tg _) _),ly _ _ _ _,fk (tg _) _⟩;clear hp bA hL hT
 go_enter func63,ntmps63
 go_upto_region 2 with fail
 generalize w.alloc (.cells #[.int .i64 hd,.bool wh,.slice pa pn pc,.slice qa ts.length qc] 85)=w0 at *;have b1:w0.cell? ⟨w.heap.size,1,none⟩=some (.bool wh):=zC aI.out.box 1;have b3:w0.cell? ⟨w.heap.size,3,none⟩=some (.slice qa ts.length qc):=zC aI.out.box 3
 go_cut [6] from 9 to 19 (λv6 wx=>v6=.bool ar/\wx=w0)
 case first =>
  cases wh
  ·have HI:Hid (ar=false):=br.out
   go_wp2_with fail
   go_meet
   exact⟨by rw[HI.out],rfl⟩
  ·cases lo
   ·by_cases k1:1<ts.length
    ·have HI:Hid (ar=true):=br.out.trans (by simp[k1])
     have k2:(1:Int)<(ts.length:Int):=by omega
     go_wp2_with fail
     go_meet
     exact⟨by rw[HI.out],rfl⟩
    ·have HI:Hid (ar=false):=br.out.trans (by simp[k1])
     have k2:¬(1:Int)<(ts.length:Int):=by omega
     go_wp2_with fail
     go_meet
     exact⟨by rw[HI.out],rfl⟩
   ·have HI:Hid (ar=true):=br.out
    go_wp2_with fail
    go_meet
    exact⟨by rw[HI.out],rfl⟩
 case rest =>
  obtain⟨rfl,rfl⟩:=hcut;have aO:=zP aI.out.box
  go_upto_if 21 with fail
  go_cut [5] from 9 to 28 (λv5 wx=>∃ws,Hid (ws=if wh=true then [[110,111,116]] else [])/\Hid (ws.length<=1)/\Hid (VN w wx (.cells #[.int .i64 hd,.bool wh,.slice pa pn pc,.slice qa ts.length qc] 85 (0,0)) qa (ts.flatMap nV) v5 ws))
  case first =>
   cases wh
   ·go_wp2_with fail
    go_meet
    exact⟨[],zA rfl,zA (by decide),aI⟩
   ·go_wp2_with (at_builtin;refine wpList_append_own _ rfl _ _ 70 rfl (w.heap.size+1) 9 i0 _ 1 16 underlying70 ai hz0 hz1 aK rfl (by decide) _ _ _ rfl (aI.out.own.alloc _) ⟨wc.heap.size,0,none⟩ 1 1 [.string ⟨#[110,111,116]⟩] rfl rfl ?bV ?bU ?au ?aq ?ao ?_)
    try (case bV=>exact zM _ _ _ _ rfl)
    try (case bU=>first|rfl|(intro u hu;simp at hu;rcases hu with rfl;rfl))
    try (case au=>unfold maxLen;omega)
    try (case aq=>omega)
    try (case ao=>first|omega|(simp;omega))
    intro v6 w6 aA aB _;have aC:Hid (VN w w6 (.cells #[.int .i64 hd,.bool true,.slice pa pn pc,.slice qa ts.length qc] 85 (0,0)) qa (ts.flatMap nV) v6 ([]++[[110,111,116]])):=aI.out.app (fk (tg _) _) aB aA;clear aA aB;go_wp2_with fail
    go_meet
    exact⟨_,zA rfl,zA (by decide),aC⟩
  case rest =>
   clear b1 b3 aI aO;obtain⟨aL,bq,cH,aD⟩:=hcut;obtain⟨cO,cN,rfl⟩:=zO aD.out.own;have aO:=zP aD.out.box;have cv:=cH.out
   go_upto_if 25 with fail
   go_cut [5] from 9 to 28 (λv5 wx=>∃ws,Hid (ws=aL++if ar=true then [[40]] else [])/\Hid (ws.length<=2)/\Hid (VN w wx (.cells #[.int .i64 hd,.bool wh,.slice pa pn pc,.slice qa ts.length qc] 85 (0,0)) qa (ts.flatMap nV) v5 ws))
   case first =>
    cases ar
    ·go_wp2_with fail
     go_meet
     exact⟨aL,zA (mt _).symm,zA (by omega),aD⟩
    ·go_wp2_with (at_builtin;refine wpList_append_own _ rfl _ _ 70 rfl (w.heap.size+1) 9 i0 _ 1 16 underlying70 ai hz0 hz1 aK rfl (by decide) _ _ _ rfl (aD.out.own.alloc _) ⟨wc.heap.size,0,none⟩ 1 1 [.string ⟨#[40]⟩] rfl rfl ?ak ?aj ?ah ?ag ?ae ?_)
     try (case ak=>exact zM _ _ _ _ rfl)
     try (case aj=>first|rfl|(intro u hu;simp at hu;rcases hu with rfl;rfl))
     try (case ah=>unfold maxLen;omega)
     try (case ag=>omega)
     try (case ae=>first|omega|(simp;omega))
     intro v6 w6 aA aB _;have aC:Hid (VN w w6 (.cells #[.int .i64 hd,.bool wh,.slice pa pn pc,.slice qa ts.length qc] 85 (0,0)) qa (ts.flatMap nV) v6 (aL++[[40]])):=aD.out.app (fk (tg _) _) aB aA;clear aA aB;go_wp2_with fail
     go_meet
     exact⟨_,zA rfl,zA (by simp;omega),aC⟩
   case rest =>
    clear aD aO;obtain⟨aF,bp,cF,aw⟩:=hcut;obtain⟨cp,cn,rfl⟩:=zO aw.out.own;have ct:=cF.out;go_wp2_with fail
    go_loopw [5,7] (λov iv wr=>∃(i:Nat),i<=ts.length/\iv=.int .i64 (i:Int)/\Hid ((tM ts lo i).length<=7*i)/\Hid (VN w wr (.cells #[.int .i64 hd,.bool wh,.slice pa pn pc,.slice qa ts.length qc] 85 (0,0)) qa (ts.flatMap nV) ov (aF++tM ts lo i))) (λ_ iv _=>ts.length-(intOf iv).toNat)
    case atStart=>exact⟨0,p8,rfl,zA (p8),by rw[show aF++tM ts lo 0=aF from mt _];exact aw⟩
    case round =>
     clear aw;obtain⟨i,hi,rfl,aN,HS⟩:=hrel;obtain⟨oa,oc,rfl⟩:=zO HS.out.own;have aO:=zP HS.out.box;have b3:wr.cell? ⟨w.heap.size,3,none⟩=some (.slice qa ts.length qc):=zC HS.out.box 3;by_cases bI:i<ts.length
     ·have ii:(i:Int)<(ts.length:Int):=by omega
      have aS:ts.getD i dA∈ts:=(by simp[List.getD,bI]);have bb:=cD.out _ aS;have bl:=bw.out i;obtain⟨g,e0,-⟩:=HS.out.ik.ay.at ((zV nV 8 (λ_=>rfl) dA ts i 0 bI (by decide)).trans rfl);subst e0
      have bC:Hid (∀wx,xX wx 87 (some ⟨g,0,none⟩) (ts.flatMap nV)->∀(r:Nat) (u:Value),r<8->(nV (ts.getD i dA))[r]? = some u->wx.cell? ⟨g,i*8+r,none⟩=some u):=λwx h r u hr hu=>by
       obtain⟨g',e',c'⟩:=h.ay.at ((zV nV 8 (λ_=>rfl) dA ts i r bI hr).trans hu);obtain rfl:g=g':=by simpa using e'
       exact c'
      clear aS;generalize ts.getD i dA=t at *;have b4:=zA bb;have bx:=zA bl;clear bb bl;generalize tM ts lo i=aQ at *;have cQ:=aN.out;have cr:(aF++aQ).length<=100:=by rw[tm];omega
      generalize cR:aF++aQ=aJ at *;have cy:Hid (aJ=aF++aQ):=cR.symm;clear cR;have q0:=bC.out wr HS.out.ik 0 _ (by decide) rfl;rw[lh]at q0;have b6:Hid (jL i t=if i=0 then [] else if t.or=true then [[111,114]] else [[97,110,100]]):=rfl
      go_upto_region 10 with fail
      go_cut [5,45] from 29 to 63 (λv5 cl wx=>v5=.slice oa aJ.length oc/\cl=.bool (decide (0<i)&&t.or)/\wx=wr)
      case first =>
       by_cases k0:i=0
       ·subst k0
        go_wp2_with fail
        go_meet
        exact⟨rfl,rfl,rfl⟩
       ·have k1:0<i:=by omega
        have k2:(0:Int)<(i:Int):=(by omega);have HD:Hid (decide (0<i)=true):=tz k1;clear k0;go_wp2_with fail
        go_meet
        exact⟨rfl,by rw[HD.out];rfl,rfl⟩
      case rest =>
       obtain⟨rfl,rfl,rfl⟩:=hcut
       go_upto_if 45 with fail
       go_cut [5] from 29 to 63 (λv5 wx=>∃aP,Hid (aP=aJ++jL i t)/\Hid (aP.length<=aJ.length+1)/\Hid (VN w wx (.cells #[.int .i64 hd,.bool wh,.slice pa pn pc,.slice (some ⟨g,0,none⟩) ts.length qc] 85 (0,0)) (some ⟨g,0,none⟩) (ts.flatMap nV) v5 aP))
       case first =>
        by_cases k0:i=0
        ·have HE:Hid (jL i t=[]):=b6.out.trans (tr k0)
         subst k0;rw[show (decide (0<0)&&t.or)=false from rfl];go_wp2_with fail
         go_meet
         exact⟨aJ,zA (by rw[HE.out,mt]),zA (my _),HS⟩
        ·have k1:0<i:=by omega
         have k2:(0:Int)<(i:Int):=(by omega);rw[tz k1,bm];cases bt:t.or
         ·have HE:Hid (jL i t=[[97,110,100]]):=b6.out.trans ((tj k0).trans (tj (by rw[bt];simp)))
          clear k0 bt
          go_wp2_with (at_builtin;refine wpList_append_own _ rfl _ _ 70 rfl (w.heap.size+1) 9 i0 _ 1 16 underlying70 ai hz0 hz1 aK rfl (by decide) _ _ _ rfl (HS.out.own.alloc _) ⟨wc.heap.size,0,none⟩ 1 1 [.string ⟨#[97,110,100]⟩] rfl rfl ?bT ?bS ?aa ?aZ ?aY ?_)
          try (case bT=>exact zM _ _ _ _ rfl)
          try (case bS=>first|rfl|(intro u hu;simp at hu;rcases hu with rfl;rfl))
          try (case aa=>unfold maxLen;omega)
          try (case aZ=>omega)
          try (case aY=>first|omega|(simp;omega))
          intro v6 w6 aA aB _;have aC:Hid (VN w w6 (.cells #[.int .i64 hd,.bool wh,.slice pa pn pc,.slice (some ⟨g,0,none⟩) ts.length qc] 85 (0,0)) (some ⟨g,0,none⟩) (ts.flatMap nV) v6 (aJ++[[97,110,100]])):=HS.out.app (fk (tg _) _) aB aA;clear aA aB;go_wp2_with fail
          go_meet
          exact⟨_,zA (by rw[HE.out]),zA (by simp),aC⟩
         ·have HE:Hid (jL i t=[[111,114]]):=b6.out.trans ((tj k0).trans (tr bt))
          clear k0 bt
          go_wp2_with (at_builtin;refine wpList_append_own _ rfl _ _ 70 rfl (w.heap.size+1) 9 i0 _ 1 16 underlying70 ai hz0 hz1 aK rfl (by decide) _ _ _ rfl (HS.out.own.alloc _) ⟨wc.heap.size,0,none⟩ 1 1 [.string ⟨#[111,114]⟩] rfl rfl ?aX ?aW ?aV ?aU ?aT ?_)
          try (case aX=>exact zM _ _ _ _ rfl)
          try (case aW=>first|rfl|(intro u hu;simp at hu;rcases hu with rfl;rfl))
          try (case aV=>unfold maxLen;omega)
          try (case aU=>omega)
          try (case aT=>first|omega|(simp;omega))
          intro v6 w6 aA aB _;have aC:Hid (VN w w6 (.cells #[.int .i64 hd,.bool wh,.slice pa pn pc,.slice (some ⟨g,0,none⟩) ts.length qc] 85 (0,0)) (some ⟨g,0,none⟩) (ts.flatMap nV) v6 (aJ++[[111,114]])):=HS.out.app (fk (tg _) _) aB aA;clear aA aB;go_wp2_with fail
          go_meet
          exact⟨_,zA (by rw[HE.out]),zA (by simp),aC⟩
       case rest =>
        clear HS aO b3 q0 b6;obtain⟨aP,cI,cG,aR⟩:=hcut;obtain⟨dI,dG,rfl⟩:=zO aR.out.own;have dM:=cG.out;have b3:wc.cell? ⟨w.heap.size,3,none⟩=some (.slice (some ⟨g,0,none⟩) ts.length qc):=zC aR.out.box 3;have q0:=bC.out wc aR.out.ik 0 _ (by decide) rfl;rw[lh]at q0;have q1:=bC.out wc aR.out.ik 1 _ (by decide) rfl;have q2:=bC.out wc aR.out.ik 2 _ (by decide) rfl;have q3:=bC.out wc aR.out.ik 3 _ (by decide) rfl;have q4:=bC.out wc aR.out.ik 4 _ (by decide) rfl;have q5:=bC.out wc aR.out.ik 5 _ (by decide) rfl;have q6:=bC.out wc aR.out.ik 6 _ (by decide) rfl;have q7:=bC.out wc aR.out.ik 7 _ (by decide) rfl;have cS:=zA (RH wc t low lo b4.out cE.out (bX.out wc aR.out.af));obtain⟨t1,t2⟩:=X7 t lo;generalize cx:xM t lo=tw at *;clear cx;go_wp2_with fail
        refine cS.out.mono ?_;rintro e w7 ⟨v7,rfl,bF,bH⟩;obtain⟨g7,c7,rfl,bG⟩:=C8 bF t1;have aM:=zA (aR.out.below bH);have bZ:=zA bG;have bh:=zP aM.out.box;have aH:Hid ((xG tw).length=tw.length*1):=by unfold Hid xG;simp
        have aG:Hid (∀u∈xG tw,u.oneCell'=true):=λu hu=>by
         obtain⟨x,-,rfl⟩:=pd.1 hu;rfl
        clear bH bF bG q0 q1 q2 q3 q4 q5 q6 q7 b3 cS
        go_wp2_with (at_builtin;refine wpList_append_own _ rfl _ _ 70 rfl (w.heap.size+1) 9 i0 _ 1 16 underlying70 ai hz0 hz1 aK rfl (by decide) _ _ _ rfl aM.out.own ⟨g7,0,none⟩ tw.length c7 (xG tw) rfl aH.out bZ.out aG.out ?bQ ?bP ?bO ?_)
        try (case bQ=>unfold maxLen;omega)
        try (case bP=>omega)
        try (case bO=>first|omega|(simp;omega))
        intro v6 w6 aA aB _;have aC:Hid (VN w w6 (.cells #[.int .i64 hd,.bool wh,.slice pa pn pc,.slice (some ⟨g,0,none⟩) ts.length qc] 85 (0,0)) (some ⟨g,0,none⟩) (ts.flatMap nV) v6 (aP++tw)):=aM.out.app (tl _ _) aB aA
        have HX:Hid ((tM ts lo (i+1)).length<=7*(i+1)/\aF++tM ts lo (i+1)=aP++tw):=by
         unfold Hid;have hj:(jL i t).length<=1:=by unfold jL;split;simp;split <;> simp
         rw[bx.out,cI.out,cy.out];exact⟨by simp only[tm];omega,by simp only[po]⟩
        have Z1:=zA HX.out.1;have Z2:Hid (VN w w6 (.cells #[.int .i64 hd,.bool wh,.slice pa pn pc,.slice (some ⟨g,0,none⟩) ts.length qc] 85 (0,0)) (some ⟨g,0,none⟩) (ts.flatMap nV) v6 (aF++tM ts lo (i+1))):=(by unfold Hid;rw[HX.out.2];exact aC.out);clear aA aB HX aC;go_wp2_with fail
        go_roundw
        case rel=>exact⟨i+1,by omega,by go_num,Z1,Z2⟩
        case measure=>simp[intOf];omega
     ·obtain rfl:i=ts.length:=by omega
      have ii:¬(ts.length:Int)<(ts.length:Int):=(by omega);have cQ:=aN.out
      have cU:Hid (TW=aF++tM ts lo ts.length++if ar=true then [[41]] else []):=by
       unfold Hid;rw[cf.out,bp.out,bq.out]
      have cr:(aF++tM ts lo ts.length).length<=100:=(by rw[tm];omega);clear cf bp bq;generalize aF++tM ts lo ts.length=aJ at *;cases ar
      ·have HQ:Hid (wr.ownsRow w.heap.size 9 1 (.slice oa aJ.length oc) TW.length (xG TW)):=by
        have e:TW=aJ:=cU.out.trans (by simp);unfold Hid;rw[e];exact yN HS.out.own (my _)
       go_wp2_with fail
       go_ret
       exact⟨_,rfl,HQ.out,HS.out.af⟩
      ·go_wp2_with (at_builtin;refine wpList_append_own _ rfl _ _ 70 rfl (w.heap.size+1) 9 i0 _ 1 16 underlying70 ai hz0 hz1 aK rfl (by decide) _ _ _ rfl (HS.out.own.alloc _) ⟨wr.heap.size,0,none⟩ 1 1 [.string ⟨#[41]⟩] rfl rfl ?bN ?bM ?bL ?bK ?bJ ?_)
       try (case bN=>exact zM _ _ _ _ rfl)
       try (case bM=>first|rfl|(intro u hu;simp at hu;rcases hu with rfl;rfl))
       try (case bL=>unfold maxLen;omega)
       try (case bK=>omega)
       try (case bJ=>first|omega|(simp;omega))
       intro v6 w6 aA aB _;have aC:Hid (VN w w6 (.cells #[.int .i64 hd,.bool wh,.slice pa pn pc,.slice qa ts.length qc] 85 (0,0)) qa (ts.flatMap nV) v6 (aJ++[[41]])):=HS.out.app (fk (tg _) _) aB aA;clear aA aB
       have HQ:Hid (w6.ownsRow w.heap.size 9 1 v6 TW.length (xG TW)):=by
        have e:TW=aJ++[[41]]:=cU.out.trans (by simp);unfold Hid;rw[e];exact yN aC.out.own (my _)
       have dF:=zA aC.out.af;clear aC;go_wp2_with fail
       go_ret
       exact⟨_,rfl,HQ.out,dF.out⟩
def dU(r:vR)(i:Nat)(lo:Bool):List Bs:=[[114,117,108,101],xU 114 i,[58],xU 99 r.head,[61]]++cT r.parts++[[119,104,101,110]]++cL r.whole r.tests lo++[[59]]
structure Fm(w wx:World)(bo:Obj)(pa qa:Option Addr)(Lp Lt:List Value)(v:Value)(ws:List Bs):Prop where
 box:wx.heap[w.heap.size]? = some bo
 lp:xX wx 89 pa Lp
 lt:xX wx 87 qa Lt
 own:wx.ownsRow (w.heap.size+1) 9 1 v ws.length (xG ws)
 af:Below w.heap.size w wx
theorem Fm.below(h:Fm w wx bo pa qa Lp Lt v ws)(hb:Below wx.heap.size wx w'):Fm w w' bo pa qa Lp Lt v ws:=⟨(hb.block _ (zP h.box)).trans h.box,h.lp.below hb,h.lt.below hb,kV h.own hb,h.af.trans (hb.mono h.af.size)⟩
theorem Fm.app(h:Fm w wx bo pa qa Lp Lt v ws)(hz:Below wx.heap.size wx wz)(hg:wz.grownBy w9 v.ownBlock)(bc:w9.ownsRow (w.heap.size+1) 9 1 v9 (ws.length+ns.length) (xG ws++xG ns)):Fm w w9 bo pa qa Lp Lt v9 (ws++ns):=by
 have hZ:=h.below hz;have hb:Below (w.heap.size+1) wz w9:=(tl _ wz).grown hg (zP hZ.box) (zS hZ.own);refine⟨(hb.block _ (mh _)).trans hZ.box,hZ.lp.grown hZ.own (by decide) hg,hZ.lt.grown hZ.own (by decide) hg,?_,hZ.af.trans (hb.mono (my _))⟩;rw[tm];have e:xG (ws++ns)=xG ws++xG ns:=by unfold xG;rw[bj]
 rw[e];exact bc
theorem Fm.Ho(h:Fm w wx bo pa qa Lp Lt v ws)(a b c d e:Bs):Fm w (wx.alloc (.cells #[.string ⟨a.toArray⟩,.string ⟨b.toArray⟩,.string ⟨c.toArray⟩,.string ⟨d.toArray⟩,.string ⟨e.toArray⟩] 9)) bo pa qa Lp Lt (.slice (some ⟨wx.heap.size,0,none⟩) 5 5) [a,b,c,d,e]:=by
 have hz:=h.below (fk (tg _) (.cells #[.string ⟨a.toArray⟩,.string ⟨b.toArray⟩,.string ⟨c.toArray⟩,.string ⟨d.toArray⟩,.string ⟨e.toArray⟩] 9));exact⟨hz.box,hz.lp,hz.lt,⟨rfl,.inr ⟨wx.heap.size,5,_,rfl,zP h.box,zF _ _,by simp,by decide,rfl,rfl⟩⟩,hz.af⟩
theorem oG(tw:List Bs):(xG tw).length=tw.length*1/\∀u∈xG tw,u.oneCell'=true:=by
 refine⟨by unfold xG;simp,λu hu=>?_⟩;obtain⟨x,-,rfl⟩:=pd.1 hu;rfl
theorem x6(j:Nat)(p:xJ):(bD j p).length<=4:=by
 have h1:(fT j p).length<=1:=by unfold fT;split;simp;split <;> simp
 have h2:(qR p).length<=1:=by unfold qR;split <;> simp
 have h3:(pW p).length<=1:=by unfold pW;split <;> simp
 have h4:(kC p).length<=1:=by unfold kC;split;simp;split <;> simp
 unfold bD;simp only[tm];omega
theorem JJ:∀i,(mL ps i).length<=4*i:=by
 intro i
 induction i with
 | zero=>simp[mL]
 | succ i ih=>rw[iH,tm];have:=x6 i (ps.getD i eX);omega
theorem GT:∀i,(tM ts lo i).length<=7*i:=by
 intro i
 induction i with
 | zero=>simp[tM]
 | succ i ih =>
   rw[iF,tm,tm];have h1:=(X7 (ts.getD i dA) lo).2;have h2:(jL i (ts.getD i dA)).length<=1:=by unfold jL;split;simp;split <;> simp
   omega
theorem GQ{i:Nat}(h:0<i):0<(tM ts lo i).length:=by
 obtain⟨j,rfl⟩:∃j,i=j+1:=⟨i-1,by omega⟩;rw[iF,tm,tm];have h1:=(X7 (ts.getD j dA) lo).1;omega
theorem Ba(wh:Bool)(ts:List yH)(lo:Bool)(h0:0<ts.length)(h6:ts.length<=6):0<(cL wh ts lo).length/\(cL wh ts lo).length<=45:=by
 have h1:=GT ts lo ts.length;have h2:=GQ ts lo h0;have a1:((if wh=true then [[110,111,116]] else []):List Bs).length<=1:=by split <;> simp
 have a2:∀x:Bs,((if Xd wh lo ts.length=true then [x] else []):List Bs).length<=1:=λx=>by split <;> simp
 have a3:=a2 [40];have a4:=a2 [41];unfold cL;simp only[tm];omega
theorem vi{low:List Nat}(h:mJ low p):0<(qR p++kC p).length:=by
 rw[tm];rcases h with ⟨-,-,h1,h2⟩|⟨-,h1,-⟩|⟨-,-,h1,-⟩|⟨-,h1,d,-,h2⟩
 ·have:(qR p).length=1:=by unfold qR;rw[tr (.inr ⟨by omega,by omega⟩)];rfl
  omega
 ·have:(kC p).length=1:=by unfold kC;rw[tr h1.1];rfl
  omega
 ·have:(kC p).length=1:=by unfold kC;rw[tr h1.1];rfl
  omega
 ·have:(kC p).length=1:=by unfold kC;rw[i6,u'];rfl
  omega
theorem Sr{low:List Nat}{ps:List xJ}(h:tP low ps):0<(cT ps).length:=by
 obtain⟨j,hj⟩:∃j,ps.length=j+1:=⟨ps.length-1,by have:=h.1;omega⟩;unfold cT;rw[hj,iH,tm];have h1:=vi (h.2.2 (ps.getD j eX) (by simp[List.getD,hj]));unfold bD;simp only[tm]at h1 ⊢;omega
theorem RE(w:World)(h i:Nat)(wh lo:Bool)(pa qa:Option Addr)(pc qc:Nat)(ps:List xJ)(ts:List yH)(low:List Nat)(hh:h<4)(dR:i<8)(bn:tP low ps)(ba:pG low ts)(bA:∀d∈low,d<4)(hP:xX w 89 pa (ps.flatMap rM))(hQ:xX w 87 qa (ts.flatMap nV))(hT:eG w) :
 Calls prog 49 #[.agg #[.int .i64 (h:Int),.bool wh,.slice pa ps.length pc,.slice qa ts.length qc],.int .i64 (i:Int),.bool lo] w λe w'=>∃v,e=.returned v/\w'.ownsRow w.heap.size 9 1 v (dU ⟨h,wh,ps,ts⟩ i lo).length (xG (dU ⟨h,wh,ps,ts⟩ i lo))/\Below w.heap.size w w':=by
 obtain⟨i0,ai,hz0,hz1,aK⟩:=du oP;have bX:=zA (λw' (hb:Below w.heap.size w w')=>hT.below hb);have cc:=zA (λw'=>bR w' 114 i (by omega));have cZ:=zA (λw'=>bR w' 99 h (by omega));rw[show ((114:UInt8).toNat:Int)=114 from rfl]at cc;rw[show ((99:UInt8).toNat:Int)=99 from rfl]at cZ;have cz:=zA (λw' pc (hc:xX w' 89 pa (ps.flatMap rM)) (ht:eG w')=>Na w' pa pc ps low bn bA hc ht);have dD:=zA (λw' (hc:xX w' 87 qa (ts.flatMap nV)) (ht:eG w')=>qf w' (h:Int) wh lo pa qa ps.length pc qc ts low ba bA hc ht);have c9:Hid (dU ⟨h,wh,ps,ts⟩ i lo=[[114,117,108,101],xU 114 i,[58],xU 99 h,[61]]++cT ps++[[119,104,101,110]]++cL wh ts lo++[[59]]):=rfl;have s1:=Sr bn;have s2:(cT ps).length<=16:=by have:=JJ ps ps.length;have:=bn.2.1;unfold cT;omega
 obtain⟨g1,g2⟩:=Ba wh ts lo ba.1 ba.2.1;have aI:Hid (Fm w (w.alloc (.cells #[.int .i64 (h:Int),.bool wh,.slice pa ps.length pc,.slice qa ts.length qc] 85)) (.cells #[.int .i64 (h:Int),.bool wh,.slice pa ps.length pc,.slice qa ts.length qc] 85 (0,0)) pa qa (ps.flatMap rM) (ts.flatMap nV) (.slice none 0 0) []):=⟨zF _ _,hP.below (fk (tg _) _),hQ.below (fk (tg _) _),ly _ _ _ _,fk (tg _) _⟩;have dS:ps.length<=4:=bn.2.1;have hft:ts.length<=6:=ba.2.1;generalize dU ⟨h,wh,ps,ts⟩ i lo=TW at *;generalize cT ps=sw at *;generalize cL wh ts lo=gw at *;generalize xU 114 i=n1 at *;generalize xU 99 h=n2 at *;clear bn ba bA hP hQ hT
 go_enter func49,ntmps49
 go_upto_region 1 with fail
 generalize w.alloc (.cells #[.int .i64 (h:Int),.bool wh,.slice pa ps.length pc,.slice qa ts.length qc] 85)=w0 at *;have d0:w0.cell? ⟨w.heap.size,0,none⟩=some (.int .i64 (h:Int)):=zC aI.out.box 0
 go_cut [7] from 10 to 15 (λv7 wx=>Hid (Fm w wx (.cells #[.int .i64 (h:Int),.bool wh,.slice pa ps.length pc,.slice qa ts.length qc] 85 (0,0)) pa qa (ps.flatMap rM) (ts.flatMap nV) v7 [[114,117,108,101],n1,[58],n2,[61]]))
 case first =>
  go_region_held3 (λw'=>w'.cell? ⟨w.heap.size,0,none⟩=some (.int .i64 (h:Int))) (go_keep) (first
   | (go_at_call_of 19 (Value.int .u8 114);refine(cc.out _).mono ?_;rintro e w5 ⟨rfl,a7⟩;have b8:=aI.out.below ((md (tl _ _)).trans a7);have d0:w5.cell? ⟨w.heap.size,0,none⟩=some (.int .i64 (h:Int)):=zC b8.box 0)
   | (go_at_call_of 19 (Value.int .u8 99);refine(cZ.out _).mono ?_;rintro e w6 ⟨rfl,cw⟩;have bu:=b8.below cw;have d0:w6.cell? ⟨w.heap.size,0,none⟩=some (.int .i64 (h:Int)):=zC bu.box 0;have n6:w6.heap.size≠w.heap.size:=by have:=zP bu.box;omega))
  all_goals
   have aC:=zA (bu.Ho [114,117,108,101] n1 [58] n2 [61]);clear bu b8;go_wp2_with fail
   go_meet
   exact aC
 case rest =>
  clear aI d0;have aD:=hcut;clear hcut;generalize hA:[[114,117,108,101],n1,[58],n2,[61]]=aJ at *;have dN:aJ.length<=5:=by rw[<-hA];simp
  have HA:Hid (aJ=[[114,117,108,101],n1,[58],n2,[61]]):=hA.symm;clear hA;obtain⟨oa,oc,rfl⟩:=zO aD.out.own;have d2:wc.cell? ⟨w.heap.size,2,none⟩=some (.slice pa ps.length pc):=zC aD.out.box 2;have cV:=zA (cz.out wc pc aD.out.lp (bX.out wc aD.out.af));go_wp2_with fail
  refine cV.out.mono ?_;rintro e w7 ⟨v7,rfl,bF,bH⟩;obtain⟨g7,c7,rfl,bG⟩:=C8 bF s1;have aM:=zA (aD.out.below bH);have bZ:=zA bG;have bh:=zP aM.out.box;have aH:=zA (oG sw).1;have aG:=zA (oG sw).2;clear bH bF bG d2 cV aD
  go_wp2_with (at_builtin;refine wpList_append_own _ rfl _ _ 70 rfl (w.heap.size+1) 9 i0 _ 1 16 underlying70 ai hz0 hz1 aK rfl (by decide) _ _ _ rfl aM.out.own ⟨g7,0,none⟩ sw.length c7 (xG sw) rfl aH.out bZ.out aG.out ?au ?aq ?ao ?_)
  try (case au=>unfold maxLen;omega)
  try (case aq=>omega)
  try (case ao=>first|omega|(simp;omega))
  intro v6 w6 aA aB _;have aC:Hid (Fm w w6 (.cells #[.int .i64 (h:Int),.bool wh,.slice pa ps.length pc,.slice qa ts.length qc] 85 (0,0)) pa qa (ps.flatMap rM) (ts.flatMap nV) v6 (aJ++sw)):=aM.out.app (tl _ _) aB aA;clear aA aB;obtain⟨a6,c6,rfl⟩:=zO aC.out.own;have b2:=aC;have cq:=zP b2.out.box;have dP:(aJ++sw).length<=21:=by rw[tm];omega
  generalize hB:aJ++sw=aP at *;have dW:Hid (aP=aJ++sw):=hB.symm;clear hB aC aM bZ aH aG
  go_wp2_with (at_builtin;refine wpList_append_own _ rfl _ _ 70 rfl (w.heap.size+1) 9 i0 _ 1 16 underlying70 ai hz0 hz1 aK rfl (by decide) _ _ _ rfl (b2.out.own.alloc _) ⟨w6.heap.size,0,none⟩ 1 1 [.string ⟨#[119,104,101,110]⟩] rfl rfl ?ak ?aj ?ah ?ag ?ae ?_)
  try (case ak=>exact zM _ _ _ _ rfl)
  try (case aj=>first|rfl|(intro u hu;simp at hu;rcases hu with rfl;rfl))
  try (case ah=>unfold maxLen;omega)
  try (case ag=>omega)
  try (case ae=>first|omega|(simp;omega))
  intro v8 w8 aA aB _;have bB:Hid (Fm w w8 (.cells #[.int .i64 (h:Int),.bool wh,.slice pa ps.length pc,.slice qa ts.length qc] 85 (0,0)) pa qa (ps.flatMap rM) (ts.flatMap nV) v8 (aP++[[119,104,101,110]])):=b2.out.app (fk (tg _) _) aB aA;clear aA aB b2;obtain⟨a8,c8,rfl⟩:=zO bB.out.own;have dO:(aP++[[119,104,101,110]]).length<=22:=by rw[tm];simp only[pb,ge];omega
  generalize hC:aP++[[119,104,101,110]]=bg at *;have dV:Hid (bg=aP++[[119,104,101,110]]):=hC.symm;clear hC;have d0:w8.cell? ⟨w.heap.size,0,none⟩=some (.int .i64 (h:Int)):=zC bB.out.box 0;have d1:w8.cell? ⟨w.heap.size,1,none⟩=some (.bool wh):=zC bB.out.box 1;have d2:w8.cell? ⟨w.heap.size,2,none⟩=some (.slice pa ps.length pc):=zC bB.out.box 2;have d3:w8.cell? ⟨w.heap.size,3,none⟩=some (.slice qa ts.length qc):=zC bB.out.box 3;have cd:=zA (dD.out w8 bB.out.lt (bX.out w8 bB.out.af));go_wp2_with fail
  refine cd.out.mono ?_;rintro e w7 ⟨v7,rfl,bF,bH⟩;obtain⟨g7,c7,rfl,bG⟩:=C8 bF g1;have aM:=zA (bB.out.below bH);have bZ:=zA bG;have bh:=zP aM.out.box;have aH:=zA (oG gw).1;have aG:=zA (oG gw).2;clear bH bF bG d0 d1 d2 d3 cd bB
  go_wp2_with (at_builtin;refine wpList_append_own _ rfl _ _ 70 rfl (w.heap.size+1) 9 i0 _ 1 16 underlying70 ai hz0 hz1 aK rfl (by decide) _ _ _ rfl aM.out.own ⟨g7,0,none⟩ gw.length c7 (xG gw) rfl aH.out bZ.out aG.out ?aa ?aZ ?aY ?_)
  try (case aa=>unfold maxLen;omega)
  try (case aZ=>omega)
  try (case aY=>first|omega|(simp;omega))
  intro v10 cM aA aB _;have az:Hid (Fm w cM (.cells #[.int .i64 (h:Int),.bool wh,.slice pa ps.length pc,.slice qa ts.length qc] 85 (0,0)) pa qa (ps.flatMap rM) (ts.flatMap nV) v10 (bg++gw)):=aM.out.app (tl _ _) aB aA;clear aA aB aM;obtain⟨dT,ax,rfl⟩:=zO az.out.own;have cu:(bg++gw).length<=70:=by rw[tm];omega
  have cP:=zP az.out.box;generalize hD:bg++gw=cJ at *;have HD:Hid (cJ=bg++gw):=hD.symm;clear hD
  go_wp2_with (at_builtin;refine wpList_append_own _ rfl _ _ 70 rfl (w.heap.size+1) 9 i0 _ 1 16 underlying70 ai hz0 hz1 aK rfl (by decide) _ _ _ rfl (az.out.own.alloc _) ⟨cM.heap.size,0,none⟩ 1 1 [.string ⟨#[59]⟩] rfl rfl ?aX ?aW ?aV ?aU ?aT ?_)
  try (case aX=>exact zM _ _ _ _ rfl)
  try (case aW=>first|rfl|(intro u hu;simp at hu;rcases hu with rfl;rfl))
  try (case aV=>unfold maxLen;omega)
  try (case aU=>omega)
  try (case aT=>first|omega|(simp;omega))
  intro v11 cK aA aB _;have bW:Hid (Fm w cK (.cells #[.int .i64 (h:Int),.bool wh,.slice pa ps.length pc,.slice qa ts.length qc] 85 (0,0)) pa qa (ps.flatMap rM) (ts.flatMap nV) v11 (cJ++[[59]])):=az.out.app (fk (tg _) _) aB aA;clear aA aB az
  have HQ:Hid (cK.ownsRow w.heap.size 9 1 v11 TW.length (xG TW)):=by
   unfold Hid;rw[c9.out];exact yN bW.out.own (my _)
  have dE:=zA bW.out.af;clear bW;go_wp2_with fail
  go_ret
  exact⟨_,rfl,HQ.out,dE.out⟩
end Go.Proofs.YtnbpdffdnphbeabGreatDoor
