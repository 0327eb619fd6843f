import Derived.Test.YtnbpdffdnphbeabGreatDoorLKit
open Go.Proofs.Tryz
set_option maxHeartbeats 1000000
set_option maxRecDepth 100000
namespace Go.Proofs.YtnbpdffdnphbeabGreatDoor
open Go.RowKit
variable{i g:Nat}{f:Nat->Bool}{hi lo:Nat->Int}{ov:Nat->Nat->Bool}{v rv hv:Value}{w w':World}(hs:List Nat)
theorem J6.at{a:Option Addr}{m:Nat}(h:J6 w a m)(hi:i<m):∃g o,a=some ⟨g,o,none⟩/\∃(b1 b2 b3:Bool) (k x y mk n:Int),(w.cell? ⟨g,o+i*8,none⟩=some (.bool b1)/\w.cell? ⟨g,o+i*8+1,none⟩=some (.bool b2)/\w.cell? ⟨g,o+i*8+2,none⟩=some (.bool b3)/\w.cell? ⟨g,o+i*8+3,none⟩=some (.int .i64 k)/\w.cell? ⟨g,o+i*8+4,none⟩=some (.int .i64 x)/\w.cell? ⟨g,o+i*8+5,none⟩=some (.int .i64 y)/\w.cell? ⟨g,o+i*8+6,none⟩=some (.int .i64 mk)/\w.cell? ⟨g,o+i*8+7,none⟩=some (.int .i64 n))/\(pA k/\pA x/\pA y/\pA mk/\pA n):=by
 obtain⟨g,o,e,hc⟩:=h.blk (by omega);exact⟨g,o,e,hc i hi⟩
theorem RA(w:World)(sa la:Option Addr)(sn sc lc:Nat)(low:List Nat)(hS:J6 w sa sn)(hL:kQ w la (fO low))(bN:low.length<=4) :
 Calls prog 43 #[.slice sa sn sc,.slice la low.length lc] w λe w'=>∃ts v,e=.returned v/\pG low ts/\w'.ownsRow w.heap.size 87 8 v ts.length (ts.flatMap nV)/\Below w.heap.size w w':=by
 obtain⟨i0,ai,hz0,hz1,ar⟩:=du MR;have a8:=hS.aj;unfold maxLen at a8;have HS:=zA (λw' (hb:Below w.heap.size w w')=>hS.below hb);have HL:=zA (λw' (hb:Below w.heap.size w w')=>hL.below hb);have aB:=zA V0;clear hS hL
 go_enter func43,ntmps43
 go_wp2_with fail
 go_loopw [5,6] (λov iv wr=>∃(i:Nat) (ts:List yH),i<=sn/\i<=6/\iv=.int .i64 i/\ts.length=i/\Hid (Below w.heap.size w wr)/\Hid (wr.ownsRow w.heap.size 87 8 ov i (ts.flatMap nV))/\Hid (∀p∈ts,vO low p)) (λ_ iv _=>6-(intOf iv).toNat)
 case atStart=>exact⟨0,[],p8,p8,rfl,rfl,zA (tl _ _),zA (ly _ _ _ _),zA (λp hp=>by cases hp)⟩
 case round =>
  obtain⟨i,ts,hi,bF,rfl,aN,HB,HO,HP⟩:=hrel;obtain⟨oa,oc,rfl⟩:=zO HO.out;by_cases aO:i<sn/\i<6
  ·have c1:(i:Int)<(sn:Int):=by omega
   have c2:(i:Int)<6:=(by omega);obtain⟨g,o,rfl,b1,b2,b3,k,x,y,mk,n,⟨t0,t1,t2,t3,-⟩,hk,-⟩:=(HS.out wr HB.out).at aO.1;have ay:=zA (λw'=>aB.out w' k 5 hk (by decide) (by decide));have ao:=zA (λw' (hb:Below wr.heap.size wr w')=>HB.out.trans (hb.mono HB.out.size))
   go_upto_region 5 with fail
   have bK:=zA c1;have aJ:=zA aN;have af:=zA aO;clear aO aN
   go_cut [7] from 8 to 109 (λv7 wx=>∃(k:Nat),v7=.pointer (some ⟨wr.heap.size,0,none⟩)/\Hid (k<5)/\Hid (wx.heap[wr.heap.size]? = some (.cells #[.bool b1,.bool b2,.bool b3,.int .i64 (k:Int),.int .i64 0,.int .i64 0,.int .i64 0,.int .i64 0] 87 (0,0)))/\Hid (Below wr.heap.size wr wx))
   case first =>
    go_region_held3 (λw'=>w'.cell? ⟨g,o+i*8,none⟩=some (.bool b1)/\w'.cell? ⟨g,o+i*8+1,none⟩=some (.bool b2)/\w'.cell? ⟨g,o+i*8+2,none⟩=some (.bool b3)/\w'.cell? ⟨g,o+i*8+3,none⟩=some (.int .i64 k)) (go_keep) (
     (go_at_call 41;refine(ay.out _).mono ?_;rintro e w4 ⟨r,rfl,hr,hw⟩;obtain rfl:=hw.symm))
    all_goals
     go_wp2_with fail
     go_meet
     exact⟨r,rfl,zA (by omega),zA (aQ (zF _ _)),zA (md (fk (tg _) _))⟩
   case rest =>
    obtain⟨k',rfl,HK,HX,aA⟩:=hcut
    have a7:=zA (λ(d:Nat) (hd:d<low.length)=>(show ∃gl,la=some ⟨gl,0,none⟩/\gl<w.heap.size/\∀w',Below wr.heap.size wr w'->w'.cell? ⟨gl,d,none⟩=some (.int .i64 ((low.getD d 0:Nat):Int)) by
     have e:(fO low)[d]? = some (.int .i64 ((low.getD d 0:Nat):Int)):=(by simp[fO,List.getD,hd]);obtain⟨gl,e0,c0⟩:=(HL.out w (tl _ _)).at e;refine⟨gl,e0,yJ c0,λw' hb=>?_⟩;obtain⟨g',e',c'⟩:=(HL.out w' (ao.out w' hb)).at e;obtain rfl:gl=g':=by rw[e0]at e';simpa using e'
     exact c'))
    have ax:=zA (λw' (hb:Below wr.heap.size wr w')=>(show ∃(x y mk n:Int),(w'.cell? ⟨g,o+i*8+4,none⟩=some (.int .i64 x)/\w'.cell? ⟨g,o+i*8+5,none⟩=some (.int .i64 y)/\w'.cell? ⟨g,o+i*8+6,none⟩=some (.int .i64 mk)/\w'.cell? ⟨g,o+i*8+7,none⟩=some (.int .i64 n))/\(pA x/\pA y/\pA mk/\pA n) by
     obtain⟨g',o',e,_,_,_,_,x,y,mk,n,⟨-,-,-,-,c4,c5,c6,c7⟩,-,f1,f2,f3,f4⟩:=(HS.out w' (ao.out w' hb)).at af.out.1;simp only[bi,Addr.mk.injEq,and_true]at e;obtain⟨rfl,rfl⟩:=e;exact⟨x,y,mk,n,⟨c4,c5,c6,c7⟩,f1,f2,f3,f4⟩))
    have hg:g<wr.heap.size:=yJ t0;have ng:wr.heap.size≠g:=(by omega);clear t0 t1 t2 t3 c1 c2 ay;have d0:wc.cell? ⟨wr.heap.size,3,none⟩=some (.int .i64 (k':Int)):=zC HX.out 3;have e0:wc.frozen? ⟨wr.heap.size,3,none⟩=false:=by simp[World.frozen?,HX.out]
    go_upto_region 6 with fail
    go_cut [7,47] from 8 to 109 (λv7 c wx=>v7=.pointer (some ⟨wr.heap.size,0,none⟩)/\c=.bool (decide (k'=2/\low.length=0))/\wx=wc)
    case first =>
     by_cases h2:k'=2
     ·subst h2
      by_cases hl:low.length=0
      ·have HD:Hid (decide ((2:Nat)=2/\low.length=0)=true):=by unfold Hid;simp[hl]
       have l0:((low.length:Int)==0)=true:=(by rw[beq_iff_eq];omega);clear hl;go_wp2_with fail
       go_meet
       exact⟨rfl,by rw[HD.out],rfl⟩
      ·have HD:Hid (decide ((2:Nat)=2/\low.length=0)=false):=by unfold Hid;simp[hl]
       have l0:((low.length:Int)==0)=false:=(by rw[lj];omega);clear hl;go_wp2_with fail
       go_meet
       exact⟨rfl,by rw[HD.out],rfl⟩
     ·have HD:Hid (decide (k'=2/\low.length=0)=false):=by unfold Hid;simp[h2]
      have l0:((k':Int)==2)=false:=(by rw[lj];omega);clear h2;go_wp2_with fail
      go_meet
      exact⟨rfl,by rw[HD.out],rfl⟩
    case rest =>
     obtain⟨rfl,rfl,rfl⟩:=hcut
     go_upto_if 47 with fail
     go_cut [7] from 8 to 109 (λv7 wx=>∃(k2:Nat),v7=.pointer (some ⟨wr.heap.size,0,none⟩)/\Hid (k2<5/\(k2=2->0<low.length))/\Hid (wx.heap[wr.heap.size]? = some (.cells #[.bool b1,.bool b2,.bool b3,.int .i64 (k2:Int),.int .i64 0,.int .i64 0,.int .i64 0,.int .i64 0] 87 (0,0)))/\Hid (Below wr.heap.size wr wx))
     case first =>
      by_cases hc:k'=2/\low.length=0
      ·rw[tz hc]
       clear hc;go_wp2_with fail
       go_meet
       exact⟨1,rfl,zA ⟨by decide,λh=>by cases h⟩,zA ((p9 _ _ _ _ _ _ HX.out).trans rfl),zA (aA.out.setCell (tg _) _)⟩
      ·rw[ty hc]
       have bJ:Hid (k'<5/\(k'=2->0<low.length)):=⟨HK.out,λh=>by omega⟩;clear hc;go_wp2_with fail
       go_meet
       exact⟨k',rfl,bJ,HX,aA⟩
     case rest =>
      clear HX aA HK d0 e0;obtain⟨k2,rfl,HK,HX,aA⟩:=hcut;have aM:Hid (∀k,wc.frozen? ⟨wr.heap.size,k,none⟩=false):=λk=>by simp[World.frozen?,HX.out]
      have d3:wc.cell? ⟨wr.heap.size,3,none⟩=some (.int .i64 (k2:Int)):=zC HX.out 3
      go_upto_block 2 with fail
      go_cut [7] from 8 to 109 (λv7 wx=>∃t:yH,v7=.pointer (some ⟨wr.heap.size,0,none⟩)/\Hid (wx.heap[wr.heap.size]? = some (.cells (nV t).toArray 87 (0,0)))/\Hid (vO low t)/\Hid (Below wr.heap.size wr wx))
      case first =>
       have f4:=aM.out 4;have f5:=aM.out 5;have f6:=aM.out 6;have f7:=aM.out 7;have d4:wc.cell? ⟨wr.heap.size,4,none⟩=some (.int .i64 0):=zC HX.out 4;have d5:wc.cell? ⟨wr.heap.size,5,none⟩=some (.int .i64 0):=zC HX.out 5;have d6:wc.cell? ⟨wr.heap.size,6,none⟩=some (.int .i64 0):=zC HX.out 6;have d7:wc.cell? ⟨wr.heap.size,7,none⟩=some (.int .i64 0):=zC HX.out 7;obtain⟨x,y,mk,n,⟨r4,r5,r6,r7⟩,g1,g2,g3,g4⟩:=ax.out wc aA.out;have c1:=bK.out;have bD:k2=0\/k2=1\/k2=2\/k2=3\/k2=4:=(by have:=HK.out.1;omega);have az:=zA (λc m (hc:pA c) (h1:0<m) (h2:m<=1099511627776)=>aB.out wc c m hc h1 h2);rcases bD with rfl|rfl|rfl|rfl|rfl
       ·go_wp2_with fail
        go_meet
        exact⟨⟨b1,b2,b3,0,0,0,0,0⟩,rfl,HX,zA (.inl rfl),aA⟩
       ·have aZ:=zA (az.out x 2 g1 (by decide) (by decide))
        go_wp2_with fail
        refine aZ.out.mono ?_;rintro e w4 ⟨r,rfl,hr,hw⟩;obtain rfl:=hw.symm;have HR:Hid (3<=3+(r:Int)/\3+(r:Int)<5):=⟨by omega,by omega⟩;go_wp2_with fail
        go_meet
        exact⟨⟨b1,b2,b3,1,3+(r:Int),0,0,0⟩,rfl,zA ((p9 _ _ _ _ _ _ HX.out).trans rfl),zA (.inr (.inl ⟨rfl,HR.out.1,HR.out.2⟩)),zA (aA.out.setCell (tg _) _)⟩
       ·have bM:=HK.out.2 rfl
        have aZ:=zA (az.out x (low.length:Int) g1 (by omega) (by omega));go_wp2_with fail
        refine aZ.out.mono ?_;rintro e w4 ⟨d,rfl,hr,hw⟩;obtain rfl:=hw.symm;have av:d<low.length:=by omega
        obtain⟨gl,rfl,bO,aw⟩:=a7.out d av;have cl:=aw wc aA.out;have aS:low.getD d 0∈low:=by simp[List.getD,av]
        have bL:wr.heap.size≠gl:=(by have:=HB.out.size;omega);generalize low.getD d 0=dd at *;clear aw;go_wp2_with fail
        go_meet
        exact⟨⟨b1,b2,b3,2,dd,0,0,0⟩,rfl,zA ((p9 _ _ _ _ _ _ HX.out).trans rfl),zA (.inr (.inr (.inl ⟨rfl,dd,aS,rfl⟩))),zA (aA.out.setCell (tg _) _)⟩
       ·go_wp2_with fail
        refine(aB.out _ x 3 g1 (by decide) (by decide)).mono ?_;rintro e w4 ⟨a1,rfl,aX,hw⟩;obtain rfl:=hw.symm;go_wp2_with fail
        refine(aB.out _ y 3 g2 (by decide) (by decide)).mono ?_;rintro e w4 ⟨a2,rfl,aW,hw⟩;obtain rfl:=hw.symm;go_wp2_with fail
        refine(aB.out _ mk 6 g3 (by decide) (by decide)).mono ?_;rintro e w4 ⟨a3,rfl,aV,hw⟩;obtain rfl:=hw.symm;go_wp2_with fail
        refine(aB.out _ n 10000 g4 (by decide) (by decide)).mono ?_;rintro e w4 ⟨a4,rfl,aU,hw⟩;obtain rfl:=hw.symm;have aY:Hid (vO low ⟨b1,b2,b3,3,(a1:Int),(a2:Int),(a3:Int),(a4:Int)⟩):=.inr (.inr (.inr ⟨.inl rfl,⟨nf _,aX⟩,⟨nf _,aW⟩,⟨nf _,aV⟩,⟨nf _,Int.lt_add_one_iff.1 aU⟩⟩));go_wp2_with fail
        go_meet
        exact⟨⟨b1,b2,b3,3,(a1:Int),(a2:Int),(a3:Int),(a4:Int)⟩,rfl,zA ((p9 _ _ _ _ _ _ (p9 _ _ _ _ _ _ (p9 _ _ _ _ _ _ (p9 _ _ _ _ _ _ HX.out)))).trans rfl),aY,zA ((((aA.out.setCell (tg _) _).setCell (tg _) _).setCell (tg _) _).setCell (tg _) _)⟩
       ·go_wp2_with fail
        refine(aB.out _ x 3 g1 (by decide) (by decide)).mono ?_;rintro e w4 ⟨a1,rfl,aX,hw⟩;obtain rfl:=hw.symm;go_wp2_with fail
        refine(aB.out _ y 3 g2 (by decide) (by decide)).mono ?_;rintro e w4 ⟨a2,rfl,aW,hw⟩;obtain rfl:=hw.symm;go_wp2_with fail
        refine(aB.out _ mk 6 g3 (by decide) (by decide)).mono ?_;rintro e w4 ⟨a3,rfl,aV,hw⟩;obtain rfl:=hw.symm;go_wp2_with fail
        refine(aB.out _ n 10000 g4 (by decide) (by decide)).mono ?_;rintro e w4 ⟨a4,rfl,aU,hw⟩;obtain rfl:=hw.symm;have aY:Hid (vO low ⟨b1,b2,b3,4,(a1:Int),(a2:Int),(a3:Int),(a4:Int)⟩):=.inr (.inr (.inr ⟨.inr rfl,⟨nf _,aX⟩,⟨nf _,aW⟩,⟨nf _,aV⟩,⟨nf _,Int.lt_add_one_iff.1 aU⟩⟩));go_wp2_with fail
        go_meet
        exact⟨⟨b1,b2,b3,4,(a1:Int),(a2:Int),(a3:Int),(a4:Int)⟩,rfl,zA ((p9 _ _ _ _ _ _ (p9 _ _ _ _ _ _ (p9 _ _ _ _ _ _ (p9 _ _ _ _ _ _ HX.out)))).trans rfl),aY,zA ((((aA.out.setCell (tg _) _).setCell (tg _) _).setCell (tg _) _).setCell (tg _) _)⟩
      case rest =>
       clear HX aA aM d3 ax a7;obtain⟨t,rfl,aC,bG,ah⟩:=hcut;obtain⟨o1,o2,o3,o4,o5,o6,o7,o8⟩:=t;have c0:wc.cell? ⟨wr.heap.size,0,none⟩=some (.bool o1):=zC aC.out 0;have c1:wc.cell? ⟨wr.heap.size,1,none⟩=some (.bool o2):=zC aC.out 1;have c2:wc.cell? ⟨wr.heap.size,2,none⟩=some (.bool o3):=zC aC.out 2;have c3:wc.cell? ⟨wr.heap.size,3,none⟩=some (.int .i64 o4):=zC aC.out 3;have c4:wc.cell? ⟨wr.heap.size,4,none⟩=some (.int .i64 o5):=zC aC.out 4;have c5:wc.cell? ⟨wr.heap.size,5,none⟩=some (.int .i64 o6):=zC aC.out 5;have c6:wc.cell? ⟨wr.heap.size,6,none⟩=some (.int .i64 o7):=zC aC.out 6;have c7:wc.cell? ⟨wr.heap.size,7,none⟩=some (.int .i64 o8):=zC aC.out 7;have a6:=zA (kV HO.out ah.out);have ak:Hid (Below w.heap.size w wc):=HB.out.trans (ah.out.mono HB.out.size);have bA:w.heap.size<=wc.heap.size:=ak.out.size;clear aC ah HO
       go_wp2_with (at_builtin;refine wpList_append_own _ rfl _ _ 83 rfl w.heap.size 87 i0 _ 8 48 underlying83 ai hz0 hz1 ar rfl (by decide) _ _ _ rfl (a6.out.alloc _) ⟨wc.heap.size,0,none⟩ 1 1 [.bool o1,.bool o2,.bool o3,.int .i64 o4,.int .i64 o5,.int .i64 o6,.int .i64 o7,.int .i64 o8] rfl rfl ?aI ?aH ?aG ?aF ?aD ?_)
       try (case aI=>exact zM _ _ _ _ rfl)
       try (case aH=>intro u hu;simp at hu;rcases hu with rfl|rfl|rfl|rfl|rfl|rfl|rfl|rfl <;> rfl)
       try (case aG=>unfold maxLen;omega)
       try (case aF=>omega)
       try (case aD=>simp;omega)
       intro v6 w6 aK aL _;have ag:Hid (Below w.heap.size w w6):=(ak.out.alloc bA _).grown aL (by simp;omega) (zS a6.out);have ae:Hid (w6.ownsRow w.heap.size 87 8 v6 (i+1) ((ts++[(⟨o1,o2,o3,o4,o5,o6,o7,o8⟩:yH)]).flatMap nV)):=by unfold Hid;rw[lk];exact aK
       have bI:Hid (∀p∈ts++[(⟨o1,o2,o3,o4,o5,o6,o7,o8⟩:yH)],vO low p):=XL HP.out bG.out;have bC:(ts++[(⟨o1,o2,o3,o4,o5,o6,o7,o8⟩:yH)]).length=i+1:=(by simp[aJ.out]);clear aK aL;have aT:i+1<=6:=(by have:=af.out;omega);have bE:i+1<=sn:=by have:=af.out;omega
       go_wp2_with fail
       go_roundw
       case rel=>exact⟨i+1,_,bE,aT,by go_num,bC,ag,ae,bI⟩
       case measure=>simp[intOf];omega
  ·have aJ:=zA aN
   have aq:¬i<sn\/(i<sn/\i=6):=(by omega);clear aO aN;by_cases h0:i=0
   ·subst h0
    have bB:sn=0:=(by omega);subst bB;clear aq
    go_wp2_with (at_builtin;refine wpList_append_own _ rfl _ _ 83 rfl w.heap.size 87 i0 _ 8 48 underlying83 ai hz0 hz1 ar rfl (by decide) _ _ _ rfl (HO.out.alloc _) ⟨wr.heap.size,0,none⟩ 1 1 [.bool false,.bool false,.bool false,.int .i64 0,.int .i64 0,.int .i64 0,.int .i64 0,.int .i64 0] rfl rfl ?aI ?aH ?aG ?aF ?aD ?_)
    try (case aI=>exact zM _ _ _ _ rfl)
    try (case aH=>intro u hu;simp at hu;rcases hu with rfl|rfl <;> rfl)
    try (case aG=>unfold maxLen;omega)
    try (case aF=>omega)
    try (case aD=>have:=HB.out.size;simp;omega)
    intro v6 w6 aK aL _;have ag:Hid (Below w.heap.size w w6):=(HB.out.alloc HB.out.size _).grown aL (by have:=HB.out.size;simp;omega) (zS HO.out);have aR:ts=[]:=l5 aJ.out;subst aR;have ae:=zA aK;have bH:Hid (pG low [⟨false,false,false,0,0,0,0,0⟩]):=⟨by simp,by simp,λp hp=>by rw[pr.1 hp];exact .inl rfl⟩;clear aK aL;go_wp2_with fail
    go_ret
    exact⟨[⟨false,false,false,0,0,0,0,0⟩],_,rfl,bH.out,ae.out,ag.out⟩
   ·have HQ:Hid (∃ps' v,Ending.returned (.slice oa i oc)=.returned v/\pG low ps'/\wr.ownsRow w.heap.size 87 8 v ps'.length (ps'.flatMap nV)/\Below w.heap.size w wr):=⟨ts,_,rfl,⟨by rw[aJ.out];omega,by rw[aJ.out];exact bF,HP.out⟩,by rw[aJ.out];exact HO.out,HB.out⟩
    have k0:((i:Int)==0)=false:=(by rw[lj];omega);clear h0;rcases aq with hc|⟨hc,h4⟩
    ·have c1:¬(i:Int)<(sn:Int):=by omega
     go_wp2_with fail
     go_ret
     exact HQ.out
    ·subst h4
     have c1:((6:Nat):Int)<(sn:Int):=(by omega);have c2:(6:Int)<(sn:Int):=by omega
     go_wp2_with fail
     go_ret
     exact HQ.out
structure vR where
 head:Nat
 whole:Bool
 parts:List xJ
 tests:List yH
structure yO where
 lo:Nat->Int
 hi:Nat->Int
 rules:List vR
 over:Nat->Nat->Bool
 aa:List Nat
def Xf(acc:List Nat)(h:Nat):List Nat:=if h∈acc then acc else acc++[h]
def yU(hs:List Nat):List Nat:=hs.foldl Xf []
theorem BE{acc:List Nat}{h x:Nat}:x∈Xf acc h ↔ x∈acc\/x=h:=by
 unfold Xf;split
 ·rename_i hm
  constructor
  ·exact .inl
  ·rintro(h1|rfl)
   ·exact h1
   ·exact hm
 ·simp
theorem dP:∀(acc:List Nat) {x:Nat},x∈hs.foldl Xf acc ↔ x∈acc\/x∈hs:=by
 induction hs with
 | nil=>simp
 | cons h r ih=>intro acc x;rw[List.foldl_cons,ih,BE,pi];exact or_assoc
theorem bW{hs:List Nat}{x:Nat}:x∈yU hs ↔ x∈hs:=by unfold yU;rw[dP];simp
theorem Bh:∀acc:List Nat,acc.Nodup->(hs.foldl Xf acc).Nodup:=by
 induction hs with
 | nil=>intro acc h;exact h
 | cons h r ih =>
   intro acc ha;refine ih _ ?_;unfold Xf;split
   ·exact ha
   ·rename_i hn
    rw[List.nodup_append];exact⟨ha,by simp,λa ha' b hb=>by rw[pr.1 hb];intro e;exact hn (e ▸ ha')⟩
theorem eW:(yU hs).Nodup:=Bh hs [] List.nodup_nil
theorem ZF(h:Nat):yU (hs++[h])=Xf (yU hs) h:=by unfold yU;rw[List.foldl_append];rfl
theorem sP{hs:List Nat}(h:∀x∈hs,x<4):(yU hs).length<=4:=by
 have:=List.Nodup.length_le_of_subset (eW hs) (l₂:=List.range 4) (λx hx=>me.2 (h x (bW.1 hx)));simpa using this
def xP(aa:List Nat)(h:Nat):List Nat:=(List.range h).filter λd=>decide (d∈aa)
structure oX(aa:List Nat)(r:vR):Prop where
 head:r.head<4
 parts:tP (xP aa r.head) r.parts
 tests:pG (xP aa r.head) r.tests
 unit:lN r.parts
structure yR(M:yO):Prop where
 au:∀i,i<3->0<=M.lo i/\M.lo i<=M.hi i/\M.hi i<=9998
 aj:M.rules.length<=8
 aa:M.aa=yU (M.rules.map vR.head)
 rules:∀r∈M.rules,oX M.aa r
 over:∀i j,M.over i j=true->i<j/\j<M.rules.length/\(M.rules.map vR.head).getD i 0=(M.rules.map vR.head).getD j 0
def ZY{α:Type}(f:Nat->α)(i:Nat)(v:α):Nat->α:=λj=>if j=i then v else f j
def EM(f:Nat->Nat->Bool)(i k:Nat)(v:Bool):Nat->Nat->Bool:=λa b=>if a=i/\b=k then v else f a b
structure kH(w:World)(g:Nat)(lo hi:Nat->Int)(rv:Value)(ov:Nat->Nat->Bool)(hv:Value):Prop where
 blk:∃cs:Array Value,w.heap[g]? = some (.cells cs 48 (0,0))/\cs.size=72/\(∀i,i<3->cs[i]? = some (.int .i64 (lo i)))/\(∀i,i<3->cs[3+i]? = some (.int .i64 (hi i)))/\cs[6]? = some rv/\(∀i j,i<8->j<8->cs[7+i*8+j]? = some (.bool (ov i j)))/\cs[71]? = some hv
theorem kH.below(h:kH w g lo hi rv ov hv)(hb:Below w.heap.size w w'):kH w' g lo hi rv ov hv:=by
 obtain⟨cs,h1,h2⟩:=h.blk;exact⟨cs,(hb.block g (zP h1)).trans h1,h2⟩
theorem kH.down{B:Nat}(h:kH w g lo hi rv ov hv)(hb:Below B w w')(hg:g<B):kH w' g lo hi rv ov hv:=by
 obtain⟨cs,h1,h2⟩:=h.blk;exact⟨cs,(hb.block g hg).trans h1,h2⟩
theorem kH.other{g' k:Nat}(h:kH w g lo hi rv ov hv)(aP:g≠g'):kH (w.setCell ⟨g',k,none⟩ v) g lo hi rv ov hv:=by
 obtain⟨cs,h1,h2⟩:=h.blk;exact⟨cs,by rw[l6 _ _ _ _ (show g≠(⟨g',k,none⟩:Addr).block from aP)];exact h1,h2⟩
theorem kH.lt(h:kH w g lo hi rv ov hv):g<w.heap.size:=by
 obtain⟨cs,h1,h2⟩:=h.blk;exact zP h1
theorem kH.free(h:kH w g lo hi rv ov hv)(k:Nat):w.frozen? ⟨g,k,none⟩=false:=by
 obtain⟨cs,h1,h2⟩:=h.blk;simp[World.frozen?,h1]
theorem kH.cells(h:kH w g lo hi rv ov hv):(∀i,i<3->w.cell? ⟨g,i,none⟩=some (.int .i64 (lo i)))/\(∀i,i<3->w.cell? ⟨g,3+i,none⟩=some (.int .i64 (hi i)))/\w.cell? ⟨g,6,none⟩=some rv/\(∀i j,i<8->j<8->w.cell? ⟨g,7+i*8+j,none⟩=some (.bool (ov i j)))/\w.cell? ⟨g,71,none⟩=some hv:=by
 obtain⟨cs,h1,h2,h3,h4,h5,h6,h7⟩:=h.blk;exact⟨λi hi=>(zC h1 i).trans (h3 i hi),λi hi=>(zC h1 _).trans (h4 i hi),(zC h1 6).trans h5,λi j hi hj=>(zC h1 _).trans (h6 i j hi hj),(zC h1 71).trans h7⟩
theorem vX{cs:Array Value}{j:Nat}(hi:i<cs.size:=by omega):(cs.setIfInBounds i v)[j]? = if j=i then some v else cs[j]? := by
 rw[Array.getElem?_setIfInBounds];by_cases h:i=j
 ·subst h;simp[hi]
 ·rw[tj h,tj (λe=>h e.symm)]
theorem kH.D'(h:kH w g lo hi rv ov hv)(k:Nat)(hk:k<3)(v:Int):kH (w.setCell ⟨g,k,none⟩ (.int .i64 v)) g (ZY lo k v) hi rv ov hv:=by
 obtain⟨cs,h1,h2,h3,h4,h5,h6,h7⟩:=h.blk;refine⟨_,p9 _ _ _ _ _ _ h1,by simp[h2],λi hi=>?_,λi hi=>?_,?_,λi j hi hj=>?_,?_⟩
 ·rw[vX];unfold ZY;split
  ·rfl
  ·exact h3 i hi
 ·rw[vX,i6];exact h4 i hi
 ·rw[vX,i6];exact h5
 ·rw[vX,i6];exact h6 i j hi hj
 ·rw[vX,i6];exact h7
theorem kH.AG(h:kH w g lo hi rv ov hv)(k:Nat)(hk:k<3)(v:Int):kH (w.setCell ⟨g,3+k,none⟩ (.int .i64 v)) g lo (ZY hi k v) rv ov hv:=by
 obtain⟨cs,h1,h2,h3,h4,h5,h6,h7⟩:=h.blk;refine⟨_,p9 _ _ _ _ _ _ h1,by simp[h2],λi hi=>?_,λi hi=>?_,?_,λi j hi hj=>?_,?_⟩
 ·rw[vX,i6];exact h3 i hi
 ·rw[vX];unfold ZY
  by_cases e:i=k
  ·rw[u',tr e]
  ·rw[i6,tj e];exact h4 i hi
 ·rw[vX,i6];exact h5
 ·rw[vX,i6];exact h6 i j hi hj
 ·rw[vX,i6];exact h7
theorem kH.AW(h:kH w g lo hi rv ov hv)(v:Value):kH (w.setCell ⟨g,6,none⟩ v) g lo hi v ov hv:=by
 obtain⟨cs,h1,h2,h3,h4,h5,h6,h7⟩:=h.blk;refine⟨_,p9 _ _ _ _ _ _ h1,by simp[h2],λi hi=>?_,λi hi=>?_,?_,λi j hi hj=>?_,?_⟩
 ·rw[vX,i6];exact h3 i hi
 ·rw[vX,i6];exact h4 i hi
 ·rw[vX,tr rfl]
 ·rw[vX,i6];exact h6 i j hi hj
 ·rw[vX,i6];exact h7
theorem kH.gu(h:kH w g lo hi rv ov hv)(v:Value):kH (w.setCell ⟨g,71,none⟩ v) g lo hi rv ov v:=by
 obtain⟨cs,h1,h2,h3,h4,h5,h6,h7⟩:=h.blk;refine⟨_,p9 _ _ _ _ _ _ h1,by simp[h2],λi hi=>?_,λi hi=>?_,?_,λi j hi hj=>?_,?_⟩
 ·rw[vX,i6];exact h3 i hi
 ·rw[vX,i6];exact h4 i hi
 ·rw[vX,i6];exact h5
 ·rw[vX,i6];exact h6 i j hi hj
 ·rw[vX,tr rfl]
theorem kH.AX(h:kH w g lo hi rv ov hv)(a b:Nat)(ha:a<8)(hb:b<8)(v:Bool):kH (w.setCell ⟨g,7+a*8+b,none⟩ (.bool v)) g lo hi rv (EM ov a b v) hv:=by
 obtain⟨cs,h1,h2,h3,h4,h5,h6,h7⟩:=h.blk;refine⟨_,p9 _ _ _ _ _ _ h1,by simp[h2],λi hi=>?_,λi hi=>?_,?_,λi j hi hj=>?_,?_⟩
 ·rw[vX,i6];exact h3 i hi
 ·rw[vX,i6];exact h4 i hi
 ·rw[vX,i6];exact h5
 ·rw[vX];unfold EM
  by_cases e:i=a/\j=b
  ·rw[u',tr e]
  ·rw[i6,tj e];exact h6 i j hi hj
 ·rw[vX,i6];exact h7
def YU(w:World)(g:Nat)(f:Nat->Bool):Prop:=∃cs:Array Value,w.heap[g]? = some (.cells cs 104 (0,0))/\cs.size=4/\∀i,i<4->cs[i]? = some (.bool (f i))
theorem YU.cell(h:YU w g f)(hi:i<4):w.cell? ⟨g,i,none⟩=some (.bool (f i)):=by
 obtain⟨cs,h1,h2,h3⟩:=h;exact(zC h1 i).trans (h3 i hi)
theorem YU.free(h:YU w g f)(k:Nat):w.frozen? ⟨g,k,none⟩=false:=by
 obtain⟨cs,h1,h2⟩:=h;simp[World.frozen?,h1]
theorem YU.lt(h:YU w g f):g<w.heap.size:=by obtain⟨cs,h1,h2⟩:=h;exact zP h1
theorem YU.below(h:YU w g f)(hb:Below w.heap.size w w'):YU w' g f:=by
 obtain⟨cs,h1,h2⟩:=h;exact⟨cs,(hb.block g (zP h1)).trans h1,h2⟩
theorem YU.down{B:Nat}(h:YU w g f)(hb:Below B w w')(hg:g<B):YU w' g f:=by
 obtain⟨cs,h1,h2⟩:=h;exact⟨cs,(hb.block g hg).trans h1,h2⟩
theorem YU.other{g' k:Nat}(h:YU w g f)(aP:g≠g'):YU (w.setCell ⟨g',k,none⟩ v) g f:=by
 obtain⟨cs,h1,h2⟩:=h;exact⟨cs,by rw[l6 _ _ _ _ (show g≠(⟨g',k,none⟩:Addr).block from aP)];exact h1,h2⟩
theorem YU.of{f':Nat->Bool}(h:YU w g f)(e:∀i,i<4->f i=f' i):YU w g f':=by
 obtain⟨cs,h1,h2,h3⟩:=h;exact⟨cs,h1,h2,λi hi=>by rw[h3 i hi,e i hi]⟩
theorem YU.set(h:YU w g f)(k:Nat)(hk:k<4)(v:Bool):YU (w.setCell ⟨g,k,none⟩ (.bool v)) g (ZY f k v):=by
 obtain⟨cs,h1,h2,h3⟩:=h;refine⟨_,p9 _ _ _ _ _ _ h1,by simp[h2],λi hi=>?_⟩;rw[vX];unfold ZY;split
 ·rfl
 ·exact h3 i hi
theorem R3:zeroCells48=(List.replicate 6 (Value.int .i64 0)++(Value.slice none 0 0::(List.replicate 64 (Value.bool false)++[Value.slice none 0 0]))).toArray:=by kernel_rfl
theorem Dx(w:World):kH (w.alloc (.cells zeroCells48 48)) w.heap.size (λ_=>0) (λ_=>0) (.slice none 0 0) (λ_ _=>false) (.slice none 0 0):=by
 rw[R3];refine⟨_,zF _ _,by simp,λi hi=>?_,λi hi=>?_,rfl,λi j hi hj=>?_,rfl⟩
 ·rw[cb,mj (by simp;omega),cy,u']
 ·rw[cb,mj (by simp;omega),cy,u']
 ·rw[cb,l8 (by simp;omega),List.length_replicate,show 7+i*8+j-6=(i*8+j)+1 by omega,dt,mj (by simp;omega),cy,u']
def pQ(hd:Nat->Int)(i:Nat):List Nat:=(List.range i).map λj=>(Jo (hd j) 4).toNat
theorem UU(hd:Nat->Int)(i:Nat):pQ hd (i+1)=pQ hd i++[(Jo (hd i) 4).toNat]:=by unfold pQ;rw[bf,bj];rfl
theorem Ij(hd:Nat->Int)(i:Nat):∀x∈pQ hd i,x<4:=λx hx=>by
 obtain⟨j,-,rfl⟩:=pd.1 hx;have:=jF (hd j) 4 (by decide);omega
theorem JW(l:List Nat)(d:Nat):fO (l++[d])=fO l++[.int .i64 (d:Int)]:=by unfold fO;rw[bj];rfl
end Go.Proofs.YtnbpdffdnphbeabGreatDoor
