import Derived.Test.YtnbpdffdnphbeabGreatDoorLKit
set_option maxHeartbeats 1000000
set_option maxRecDepth 100000
namespace Go.Proofs.YtnbpdffdnphbeabGreatDoor
open Go.RowKit
variable{i g:Nat}{f:Nat->Bool}{lo hi:Nat->Int}{ov:Nat->Nat->Bool}{hv rv v:Value}{w' w:World}(hs:List Nat)
theorem Qv.at{a:Option Addr}{m:Nat}(h:Qv w a m)(hi:i<m):∃g o,a=some ⟨g,o,none⟩/\∃(b1 b2 b3:Bool) (k x y mk n:Int),(w.cell? ⟨g,o+i*8,none⟩=some (.bool b1)/\w.cell? ⟨g,o+i*8+1,none⟩=some (.bool b2)/\w.cell? ⟨g,o+i*8+2,none⟩=some (.bool b3)/\w.cell? ⟨g,o+i*8+3,none⟩=some (.int .i64 k)/\w.cell? ⟨g,o+i*8+4,none⟩=some (.int .i64 x)/\w.cell? ⟨g,o+i*8+5,none⟩=some (.int .i64 y)/\w.cell? ⟨g,o+i*8+6,none⟩=some (.int .i64 mk)/\w.cell? ⟨g,o+i*8+7,none⟩=some (.int .i64 n))/\(jA k/\jA x/\jA y/\jA mk/\jA n):=by
 obtain⟨g,o,e,hc⟩:=h.blk (by omega);exact⟨g,o,e,hc i hi⟩
theorem zAQ(w:World)(sa la:Option Addr)(sn sc lc:Nat)(low:List Nat)(hS:Qv w sa sn)(hL:tZ w la (fK low))(hl4:low.length<=4) :
 Calls Tryz.prog 43 #[.slice sa sn sc,.slice la low.length lc] w fun e w'=>∃ts v,e=.returned v/\qX low ts/\w'.ownsRow w.heap.size 87 8 v ts.length (ts.flatMap mT)/\Below w.heap.size w w':=by
 obtain⟨i0,hi0,hz0,hz1,hz2⟩:=info_parts zIF;have zLE:=hS.few;unfold maxLen at zLE;have HS:=zA (fun w' (hb:Below w.heap.size w w')=>hS.below hb);have HL:=zA (fun w' (hb:Below w.heap.size w w')=>hL.below hb);have HPk:=zA Y0;clear hS hL
 go_enter Tryz.func43,Tryz.ntmps43
 go_wp2_with fail
 go_loopw [5,6] (fun ov iv wr=>∃(i:Nat) (ts:List zR),i<=sn/\i<=6/\iv=.int .i64 i/\ts.length=i/\Hid (Below w.heap.size w wr)/\Hid (wr.ownsRow w.heap.size 87 8 ov i (ts.flatMap mT))/\Hid (∀p∈ts,xL low p)) (fun _ iv _=>6-(intOf iv).toNat)
 case atStart=>exact⟨0,[],p7 _,p7 _,rfl,rfl,zA (tg _ _),zA (ly _ _ _ _),zA (fun p hp=>by cases hp)⟩
 case round =>
  obtain⟨i,ts,hi,hi6,rfl,hts,HB,HO,HP⟩:=hrel;obtain⟨oa,oc,rfl⟩:=zP HO.out;by_cases zKZ:i<sn/\i<6
  ·have c1:(i:Int)<(sn:Int):=by omega
   have c2:(i:Int)<6:=by omega
   obtain⟨g,o,rfl,b1,b2,b3,k,x,y,mk,n,⟨t0,t1,t2,t3,-⟩,hk,-⟩:=(HS.out wr HB.out).at zKZ.1;have HPw:=zA (fun w'=>HPk.out w' k 5 hk (by decide) (by decide));have zLI:=zA (fun w' (hb:Below wr.heap.size wr w')=>HB.out.trans (hb.mono HB.out.size))
   go_upto_region 5 with fail
   have HC1:=zA c1;have HPs:=zA hts;have HLt:=zA zKZ;clear zKZ hts
   go_cut [7] from 8 to 109 (fun v7 wx=>∃(k:Nat),v7=.pointer (some ⟨wr.heap.size,0,none⟩)/\Hid (k<5)/\Hid (wx.heap[wr.heap.size]? = some (.cells #[.bool b1,.bool b2,.bool b3,.int .i64 (k:Int),.int .i64 0,.int .i64 0,.int .i64 0,.int .i64 0] 87 (0,0)))/\Hid (Below wr.heap.size wr wx))
   case first =>
    go_region_held3 (fun w'=>w'.cell? ⟨g,o+i*8,none⟩=some (.bool b1)/\w'.cell? ⟨g,o+i*8+1,none⟩=some (.bool b2)/\w'.cell? ⟨g,o+i*8+2,none⟩=some (.bool b3)/\w'.cell? ⟨g,o+i*8+3,none⟩=some (.int .i64 k)) (go_keep) (
     (go_at_call 41;refine(HPw.out _).mono ?_;rintro e w4 ⟨r,rfl,hr,hw⟩;obtain rfl:=hw.symm))
    all_goals
     go_wp2_with fail
     go_meet
     exact⟨r,rfl,zA (by omega),zA (tU (zG _ _)),zA (pj (gb (j1 _) _))⟩
   case rest =>
    obtain⟨k',rfl,HK,HX,HBc⟩:=hcut
    have HL2:=zA (fun (d:Nat) (hd:d<low.length)=>(show ∃gl,la=some ⟨gl,0,none⟩/\gl<w.heap.size/\∀w',Below wr.heap.size wr w'->w'.cell? ⟨gl,d,none⟩=some (.int .i64 ((low.getD d 0:Nat):Int)) by
     have e:(fK low)[d]? = some (.int .i64 ((low.getD d 0:Nat):Int)):=by simp[fK,List.getD,hd]
     obtain⟨gl,e0,c0⟩:=(HL.out w (tg _ _)).at e;refine⟨gl,e0,yQ c0,fun w' hb=>?_⟩;obtain⟨g',e',c'⟩:=(HL.out w' (zLI.out w' hb)).at e;obtain rfl:gl=g':=by rw[e0]at e';simpa using e'
     exact c'))
    have HT2:=zA (fun w' (hb:Below wr.heap.size wr w')=>(show ∃(x y mk n:Int),(w'.cell? ⟨g,o+i*8+4,none⟩=some (.int .i64 x)/\w'.cell? ⟨g,o+i*8+5,none⟩=some (.int .i64 y)/\w'.cell? ⟨g,o+i*8+6,none⟩=some (.int .i64 mk)/\w'.cell? ⟨g,o+i*8+7,none⟩=some (.int .i64 n))/\(jA x/\jA y/\jA mk/\jA n) by
     obtain⟨g',o',e,_,_,_,_,x,y,mk,n,⟨-,-,-,-,c4,c5,c6,c7⟩,-,f1,f2,f3,f4⟩:=(HS.out w' (zLI.out w' hb)).at HLt.out.1;simp only[ld,Addr.mk.injEq,and_true]at e;obtain⟨rfl,rfl⟩:=e;exact⟨x,y,mk,n,⟨c4,c5,c6,c7⟩,f1,f2,f3,f4⟩))
    have hg:g<wr.heap.size:=yQ t0;have ng:wr.heap.size≠g:=by omega
    clear t0 t1 t2 t3 c1 c2 HPw;have d0:wc.cell? ⟨wr.heap.size,3,none⟩=some (.int .i64 (k':Int)):=zB HX.out 3;have e0:wc.frozen? ⟨wr.heap.size,3,none⟩=false:=by simp[World.frozen?,HX.out]
    go_upto_region 6 with fail
    go_cut [7,47] from 8 to 109 (fun v7 c wx=>v7=.pointer (some ⟨wr.heap.size,0,none⟩)/\c=.bool (decide (k'=2/\low.length=0))/\wx=wc)
    case first =>
     by_cases h2:k'=2
     ·subst h2
      by_cases hl:low.length=0
      ·have HD:Hid (decide ((2:Nat)=2/\low.length=0)=true):=by unfold Hid;simp[hl]
       have l0:((low.length:Int)==0)=true:=by rw[beq_iff_eq];omega
       clear hl;go_wp2_with fail
       go_meet
       exact⟨rfl,by rw[HD.out],rfl⟩
      ·have HD:Hid (decide ((2:Nat)=2/\low.length=0)=false):=by unfold Hid;simp[hl]
       have l0:((low.length:Int)==0)=false:=by rw[mq];omega
       clear hl;go_wp2_with fail
       go_meet
       exact⟨rfl,by rw[HD.out],rfl⟩
     ·have HD:Hid (decide (k'=2/\low.length=0)=false):=by unfold Hid;simp[h2]
      have l0:((k':Int)==2)=false:=by rw[mq];omega
      clear h2;go_wp2_with fail
      go_meet
      exact⟨rfl,by rw[HD.out],rfl⟩
    case rest =>
     obtain⟨rfl,rfl,rfl⟩:=hcut
     go_upto_if 47 with fail
     go_cut [7] from 8 to 109 (fun v7 wx=>∃(k2:Nat),v7=.pointer (some ⟨wr.heap.size,0,none⟩)/\Hid (k2<5/\(k2=2->0<low.length))/\Hid (wx.heap[wr.heap.size]? = some (.cells #[.bool b1,.bool b2,.bool b3,.int .i64 (k2:Int),.int .i64 0,.int .i64 0,.int .i64 0,.int .i64 0] 87 (0,0)))/\Hid (Below wr.heap.size wr wx))
     case first =>
      by_cases hc:k'=2/\low.length=0
      ·rw[tu hc]
       clear hc;go_wp2_with fail
       go_meet
       exact⟨1,rfl,zA ⟨by decide,fun h=>by cases h⟩,zA ((tr _ _ _ _ _ _ HX.out).trans rfl),zA (HBc.out.setCell (j1 _) _)⟩
      ·rw[ty hc]
       have HK2:Hid (k'<5/\(k'=2->0<low.length)):=⟨HK.out,fun h=>by omega⟩;clear hc;go_wp2_with fail
       go_meet
       exact⟨k',rfl,HK2,HX,HBc⟩
     case rest =>
      clear HX HBc HK d0 e0;obtain⟨k2,rfl,HK,HX,HBc⟩:=hcut;have HFz:Hid (∀k,wc.frozen? ⟨wr.heap.size,k,none⟩=false):=fun k=>by simp[World.frozen?,HX.out]
      have d3:wc.cell? ⟨wr.heap.size,3,none⟩=some (.int .i64 (k2:Int)):=zB HX.out 3
      go_upto_block 2 with fail
      go_cut [7] from 8 to 109 (fun v7 wx=>∃t:zR,v7=.pointer (some ⟨wr.heap.size,0,none⟩)/\Hid (wx.heap[wr.heap.size]? = some (.cells (mT t).toArray 87 (0,0)))/\Hid (xL low t)/\Hid (Below wr.heap.size wr wx))
      case first =>
       have f4:=HFz.out 4;have f5:=HFz.out 5;have f6:=HFz.out 6;have f7:=HFz.out 7;have d4:wc.cell? ⟨wr.heap.size,4,none⟩=some (.int .i64 0):=zB HX.out 4;have d5:wc.cell? ⟨wr.heap.size,5,none⟩=some (.int .i64 0):=zB HX.out 5;have d6:wc.cell? ⟨wr.heap.size,6,none⟩=some (.int .i64 0):=zB HX.out 6;have d7:wc.cell? ⟨wr.heap.size,7,none⟩=some (.int .i64 0):=zB HX.out 7;obtain⟨x,y,mk,n,⟨r4,r5,r6,r7⟩,g1,g2,g3,g4⟩:=HT2.out wc HBc.out;have c1:=HC1.out;have hk5:k2=0\/k2=1\/k2=2\/k2=3\/k2=4:=by have:=HK.out.1;omega
       have HPq:=zA (fun c m (hc:jA c) (h1:0<m) (h2:m<=1099511627776)=>HPk.out wc c m hc h1 h2);rcases hk5 with rfl|rfl|rfl|rfl|rfl
       ·go_wp2_with fail
        go_meet
        exact⟨⟨b1,b2,b3,0,0,0,0,0⟩,rfl,HX,zA (.inl rfl),HBc⟩
       ·have HP1:=zA (HPq.out x 2 g1 (by decide) (by decide))
        go_wp2_with fail
        refine HP1.out.mono ?_;rintro e w4 ⟨r,rfl,hr,hw⟩;obtain rfl:=hw.symm;have HR:Hid (3<=3+(r:Int)/\3+(r:Int)<5):=⟨by omega,by omega⟩;go_wp2_with fail
        go_meet
        exact⟨⟨b1,b2,b3,1,3+(r:Int),0,0,0⟩,rfl,zA ((tr _ _ _ _ _ _ HX.out).trans rfl),zA (.inr (.inl ⟨rfl,HR.out.1,HR.out.2⟩)),zA (HBc.out.setCell (j1 _) _)⟩
       ·have hlp:=HK.out.2 rfl
        have HP1:=zA (HPq.out x (low.length:Int) g1 (by omega) (by omega));go_wp2_with fail
        refine HP1.out.mono ?_;rintro e w4 ⟨d,rfl,hr,hw⟩;obtain rfl:=hw.symm;have hdl:d<low.length:=by omega
        obtain⟨gl,rfl,hgl,hcl⟩:=HL2.out d hdl;have cl:=hcl wc HBc.out;have hmem:low.getD d 0∈low:=by simp[List.getD,hdl]
        have ngl:wr.heap.size≠gl:=by have:=HB.out.size;omega
        generalize low.getD d 0=dd at *;clear hcl;go_wp2_with fail
        go_meet
        exact⟨⟨b1,b2,b3,2,dd,0,0,0⟩,rfl,zA ((tr _ _ _ _ _ _ HX.out).trans rfl),zA (.inr (.inr (.inl ⟨rfl,dd,hmem,rfl⟩))),zA (HBc.out.setCell (j1 _) _)⟩
       ·go_wp2_with fail
        refine(HPk.out _ x 3 g1 (by decide) (by decide)).mono ?_;rintro e w4 ⟨a1,rfl,ha1,hw⟩;obtain rfl:=hw.symm;go_wp2_with fail
        refine(HPk.out _ y 3 g2 (by decide) (by decide)).mono ?_;rintro e w4 ⟨a2,rfl,ha2,hw⟩;obtain rfl:=hw.symm;go_wp2_with fail
        refine(HPk.out _ mk 6 g3 (by decide) (by decide)).mono ?_;rintro e w4 ⟨a3,rfl,ha3,hw⟩;obtain rfl:=hw.symm;go_wp2_with fail
        refine(HPk.out _ n 10000 g4 (by decide) (by decide)).mono ?_;rintro e w4 ⟨a4,rfl,ha4,hw⟩;obtain rfl:=hw.symm;have zLM:Hid (xL low ⟨b1,b2,b3,3,(a1:Int),(a2:Int),(a3:Int),(a4:Int)⟩):=.inr (.inr (.inr ⟨.inl rfl,⟨Int.natCast_nonneg _,ha1⟩,⟨Int.natCast_nonneg _,ha2⟩,⟨Int.natCast_nonneg _,ha3⟩,⟨Int.natCast_nonneg _,Int.lt_add_one_iff.1 ha4⟩⟩));go_wp2_with fail
        go_meet
        exact⟨⟨b1,b2,b3,3,(a1:Int),(a2:Int),(a3:Int),(a4:Int)⟩,rfl,zA ((tr _ _ _ _ _ _ (tr _ _ _ _ _ _ (tr _ _ _ _ _ _ (tr _ _ _ _ _ _ HX.out)))).trans rfl),zLM,zA ((((HBc.out.setCell (j1 _) _).setCell (j1 _) _).setCell (j1 _) _).setCell (j1 _) _)⟩
       ·go_wp2_with fail
        refine(HPk.out _ x 3 g1 (by decide) (by decide)).mono ?_;rintro e w4 ⟨a1,rfl,ha1,hw⟩;obtain rfl:=hw.symm;go_wp2_with fail
        refine(HPk.out _ y 3 g2 (by decide) (by decide)).mono ?_;rintro e w4 ⟨a2,rfl,ha2,hw⟩;obtain rfl:=hw.symm;go_wp2_with fail
        refine(HPk.out _ mk 6 g3 (by decide) (by decide)).mono ?_;rintro e w4 ⟨a3,rfl,ha3,hw⟩;obtain rfl:=hw.symm;go_wp2_with fail
        refine(HPk.out _ n 10000 g4 (by decide) (by decide)).mono ?_;rintro e w4 ⟨a4,rfl,ha4,hw⟩;obtain rfl:=hw.symm;have zLM:Hid (xL low ⟨b1,b2,b3,4,(a1:Int),(a2:Int),(a3:Int),(a4:Int)⟩):=.inr (.inr (.inr ⟨.inr rfl,⟨Int.natCast_nonneg _,ha1⟩,⟨Int.natCast_nonneg _,ha2⟩,⟨Int.natCast_nonneg _,ha3⟩,⟨Int.natCast_nonneg _,Int.lt_add_one_iff.1 ha4⟩⟩));go_wp2_with fail
        go_meet
        exact⟨⟨b1,b2,b3,4,(a1:Int),(a2:Int),(a3:Int),(a4:Int)⟩,rfl,zA ((tr _ _ _ _ _ _ (tr _ _ _ _ _ _ (tr _ _ _ _ _ _ (tr _ _ _ _ _ _ HX.out)))).trans rfl),zLM,zA ((((HBc.out.setCell (j1 _) _).setCell (j1 _) _).setCell (j1 _) _).setCell (j1 _) _)⟩
      case rest =>
       clear HX HBc HFz d3 HT2 HL2;obtain⟨t,rfl,HX1,HT1,HB1⟩:=hcut;obtain⟨o1,o2,o3,o4,o5,o6,o7,o8⟩:=t;have c0:wc.cell? ⟨wr.heap.size,0,none⟩=some (.bool o1):=zB HX1.out 0;have c1:wc.cell? ⟨wr.heap.size,1,none⟩=some (.bool o2):=zB HX1.out 1;have c2:wc.cell? ⟨wr.heap.size,2,none⟩=some (.bool o3):=zB HX1.out 2;have c3:wc.cell? ⟨wr.heap.size,3,none⟩=some (.int .i64 o4):=zB HX1.out 3;have c4:wc.cell? ⟨wr.heap.size,4,none⟩=some (.int .i64 o5):=zB HX1.out 4;have c5:wc.cell? ⟨wr.heap.size,5,none⟩=some (.int .i64 o6):=zB HX1.out 5;have c6:wc.cell? ⟨wr.heap.size,6,none⟩=some (.int .i64 o7):=zB HX1.out 6;have c7:wc.cell? ⟨wr.heap.size,7,none⟩=some (.int .i64 o8):=zB HX1.out 7;have HO1:=zA (uV HO.out HB1.out);have zLJ:Hid (Below w.heap.size w wc):=HB.out.trans (HB1.out.mono HB.out.size);have zL8:w.heap.size<=wc.heap.size:=zLJ.out.size;clear HX1 HB1 HO
       go_wp2_with (at_builtin;refine wpList_append_own _ rfl _ _ 83 rfl w.heap.size 87 i0 _ 8 48 Tryz.underlying83 hi0 hz0 hz1 hz2 rfl (by decide) _ _ _ rfl (HO1.out.alloc _) ⟨wc.heap.size,0,none⟩ 1 1 [.bool o1,.bool o2,.bool o3,.int .i64 o4,.int .i64 o5,.int .i64 o6,.int .i64 o7,.int .i64 o8] rfl rfl ?c1k1 ?c1k2 ?c1k3 ?c1k4 ?c1k5 ?_)
       try (case c1k1=>exact zM _ _ _ _ rfl)
       try (case c1k2=>intro u hu;simp at hu;rcases hu with rfl|rfl|rfl|rfl|rfl|rfl|rfl|rfl <;> rfl)
       try (case c1k3=>unfold maxLen;omega)
       try (case c1k4=>omega)
       try (case c1k5=>simp;omega)
       intro v6 w6 zL0 zKY _;have HB6:Hid (Below w.heap.size w w6):=(zLJ.out.alloc zL8 _).grown zKY (by simp;omega) (zU HO1.out);have HO6:Hid (w6.ownsRow w.heap.size 87 8 v6 (i+1) ((ts++[(⟨o1,o2,o3,o4,o5,o6,o7,o8⟩:zR)]).flatMap mT)):=by unfold Hid;rw[lu];exact zL0
       have HP6:Hid (∀p∈ts++[(⟨o1,o2,o3,o4,o5,o6,o7,o8⟩:zR)],xL low p):=YL HP.out HT1.out;have hl6:(ts++[(⟨o1,o2,o3,o4,o5,o6,o7,o8⟩:zR)]).length=i+1:=by simp[HPs.out]
       clear zL0 zKY;have hi6':i+1<=6:=by have:=HLt.out;omega
       have his:i+1<=sn:=by have:=HLt.out;omega
       go_wp2_with fail
       go_roundw
       case rel=>exact⟨i+1,_,his,hi6',by go_num,hl6,HB6,HO6,HP6⟩
       case measure=>simp[intOf];omega
  ·have HPs:=zA hts
   have zLN:¬i<sn\/(i<sn/\i=6):=by omega
   clear zKZ hts;by_cases h0:i=0
   ·subst h0
    have hsn:sn=0:=by omega
    subst hsn;clear zLN
    go_wp2_with (at_builtin;refine wpList_append_own _ rfl _ _ 83 rfl w.heap.size 87 i0 _ 8 48 Tryz.underlying83 hi0 hz0 hz1 hz2 rfl (by decide) _ _ _ rfl (HO.out.alloc _) ⟨wr.heap.size,0,none⟩ 1 1 [.bool false,.bool false,.bool false,.int .i64 0,.int .i64 0,.int .i64 0,.int .i64 0,.int .i64 0] rfl rfl ?c1k1 ?c1k2 ?c1k3 ?c1k4 ?c1k5 ?_)
    try (case c1k1=>exact zM _ _ _ _ rfl)
    try (case c1k2=>intro u hu;simp at hu;rcases hu with rfl|rfl <;> rfl)
    try (case c1k3=>unfold maxLen;omega)
    try (case c1k4=>omega)
    try (case c1k5=>have:=HB.out.size;simp;omega)
    intro v6 w6 zL0 zKY _;have HB6:Hid (Below w.heap.size w w6):=(HB.out.alloc HB.out.size _).grown zKY (by have:=HB.out.size;simp;omega) (zU HO.out);have hnil:ts=[]:=my HPs.out;subst hnil;have HO6:=zA zL0;have HPo:Hid (qX low [⟨false,false,false,0,0,0,0,0⟩]):=⟨by simp,by simp,fun p hp=>by rw[pr.1 hp];exact .inl rfl⟩;clear zL0 zKY;go_wp2_with fail
    go_ret
    exact⟨[⟨false,false,false,0,0,0,0,0⟩],_,rfl,HPo.out,HO6.out,HB6.out⟩
   ·have HQ:Hid (∃ps' v,Ending.returned (.slice oa i oc)=.returned v/\qX low ps'/\wr.ownsRow w.heap.size 87 8 v ps'.length (ps'.flatMap mT)/\Below w.heap.size w wr):=⟨ts,_,rfl,⟨by rw[HPs.out];omega,by rw[HPs.out];exact hi6,HP.out⟩,by rw[HPs.out];exact HO.out,HB.out⟩
    have k0:((i:Int)==0)=false:=by rw[mq];omega
    clear h0;rcases zLN with hc|⟨hc,h4⟩
    ·have c1:¬(i:Int)<(sn:Int):=by omega
     go_wp2_with fail
     go_ret
     exact HQ.out
    ·subst h4
     have c1:((6:Nat):Int)<(sn:Int):=by omega
     have c2:(6:Int)<(sn:Int):=by omega
     go_wp2_with fail
     go_ret
     exact HQ.out
structure xP where
 head:Nat
 whole:Bool
 parts:List yU
 tests:List zR
structure yC where
 lo:Nat->Int
 hi:Nat->Int
 rules:List xP
 over:Nat->Nat->Bool
 heads:List Nat
def Yg(acc:List Nat)(h:Nat):List Nat:=if h∈acc then acc else acc++[h]
def yM(hs:List Nat):List Nat:=hs.foldl Yg []
theorem Uu{acc:List Nat}{h x:Nat}:x∈Yg acc h ↔ x∈acc\/x=h:=by
 unfold Yg;split
 ·rename_i hm
  constructor
  ·exact .inl
  ·rintro(h1|rfl)
   ·exact h1
   ·exact hm
 ·simp
theorem cF:∀(acc:List Nat) {x:Nat},x∈hs.foldl Yg acc ↔ x∈acc\/x∈hs:=by
 induction hs with
 | nil=>simp
 | cons h r ih=>intro acc x;rw[List.foldl_cons,ih,Uu,l6];exact or_assoc
theorem lU{hs:List Nat}{x:Nat}:x∈yM hs ↔ x∈hs:=by unfold yM;rw[cF];simp
theorem VN:∀acc:List Nat,acc.Nodup->(hs.foldl Yg acc).Nodup:=by
 induction hs with
 | nil=>intro acc h;exact h
 | cons h r ih =>
   intro acc ha;refine ih _ ?_;unfold Yg;split
   ·exact ha
   ·rename_i hn
    rw[List.nodup_append];exact⟨ha,by simp,fun a ha' b hb=>by rw[pr.1 hb];intro e;exact hn (e ▸ ha')⟩
theorem aC:(yM hs).Nodup:=VN hs [] List.nodup_nil
theorem iX(h:Nat):yM (hs++[h])=Yg (yM hs) h:=by unfold yM;rw[List.foldl_append];rfl
theorem ZR{hs:List Nat}(h:∀x∈hs,x<4):(yM hs).length<=4:=by
 have:=List.Nodup.length_le_of_subset (aC hs) (l₂:=List.range 4) (fun x hx=>py.2 (h x (lU.1 hx)));simpa using this
def xC(heads:List Nat)(h:Nat):List Nat:=(List.range h).filter fun d=>decide (d∈heads)
structure dI(heads:List Nat)(r:xP):Prop where
 head:r.head<4
 parts:jG (xC heads r.head) r.parts
 tests:qX (xC heads r.head) r.tests
 unit:mF r.parts
structure yI(M:yC):Prop where
 nums:∀i,i<3->0<=M.lo i/\M.lo i<=M.hi i/\M.hi i<=9998
 few:M.rules.length<=8
 heads:M.heads=yM (M.rules.map xP.head)
 rules:∀r∈M.rules,dI M.heads r
 over:∀i j,M.over i j=true->i<j/\j<M.rules.length/\(M.rules.map xP.head).getD i 0=(M.rules.map xP.head).getD j 0
def sU{α:Type}(f:Nat->α)(i:Nat)(v:α):Nat->α:=fun j=>if j=i then v else f j
def zCJ(f:Nat->Nat->Bool)(i k:Nat)(v:Bool):Nat->Nat->Bool:=fun a b=>if a=i/\b=k then v else f a b
structure uX(w:World)(g:Nat)(lo hi:Nat->Int)(rv:Value)(ov:Nat->Nat->Bool)(hv:Value):Prop where
 blk:∃cs:Array Value,w.heap[g]? = some (.cells cs 48 (0,0))/\cs.size=72/\(∀i,i<3->cs[i]? = some (.int .i64 (lo i)))/\(∀i,i<3->cs[3+i]? = some (.int .i64 (hi i)))/\cs[6]? = some rv/\(∀i j,i<8->j<8->cs[7+i*8+j]? = some (.bool (ov i j)))/\cs[71]? = some hv
theorem uX.below(h:uX w g lo hi rv ov hv)(hb:Below w.heap.size w w'):uX w' g lo hi rv ov hv:=by
 obtain⟨cs,h1,h2⟩:=h.blk;exact⟨cs,(hb.block g (zJ h1)).trans h1,h2⟩
theorem uX.down{B:Nat}(h:uX w g lo hi rv ov hv)(hb:Below B w w')(hg:g<B):uX w' g lo hi rv ov hv:=by
 obtain⟨cs,h1,h2⟩:=h.blk;exact⟨cs,(hb.block g hg).trans h1,h2⟩
theorem uX.other{g' k:Nat}(h:uX w g lo hi rv ov hv)(zL4:g≠g'):uX (w.setCell ⟨g',k,none⟩ v) g lo hi rv ov hv:=by
 obtain⟨cs,h1,h2⟩:=h.blk;exact⟨cs,by rw[lk _ _ _ _ (show g≠(⟨g',k,none⟩:Addr).block from zL4)];exact h1,h2⟩
theorem uX.lt(h:uX w g lo hi rv ov hv):g<w.heap.size:=by
 obtain⟨cs,h1,h2⟩:=h.blk;exact zJ h1
theorem uX.free(h:uX w g lo hi rv ov hv)(k:Nat):w.frozen? ⟨g,k,none⟩=false:=by
 obtain⟨cs,h1,h2⟩:=h.blk;simp[World.frozen?,h1]
theorem uX.cells(h:uX w g lo hi rv ov hv):(∀i,i<3->w.cell? ⟨g,i,none⟩=some (.int .i64 (lo i)))/\(∀i,i<3->w.cell? ⟨g,3+i,none⟩=some (.int .i64 (hi i)))/\w.cell? ⟨g,6,none⟩=some rv/\(∀i j,i<8->j<8->w.cell? ⟨g,7+i*8+j,none⟩=some (.bool (ov i j)))/\w.cell? ⟨g,71,none⟩=some hv:=by
 obtain⟨cs,h1,h2,h3,h4,h5,h6,h7⟩:=h.blk;exact⟨fun i hi=>(zB h1 i).trans (h3 i hi),fun i hi=>(zB h1 _).trans (h4 i hi),(zB h1 6).trans h5,fun i j hi hj=>(zB h1 _).trans (h6 i j hi hj),(zB h1 71).trans h7⟩
theorem vN{cs:Array Value}{j:Nat}(hi:i<cs.size):(cs.setIfInBounds i v)[j]? = if j=i then some v else cs[j]? := by
 rw[Array.getElem?_setIfInBounds];by_cases h:i=j
 ·subst h;simp[hi]
 ·rw[tb h,tb (fun e=>h e.symm)]
theorem uX.setLo(h:uX w g lo hi rv ov hv)(k:Nat)(hk:k<3)(v:Int):uX (w.setCell ⟨g,k,none⟩ (.int .i64 v)) g (sU lo k v) hi rv ov hv:=by
 obtain⟨cs,h1,h2,h3,h4,h5,h6,h7⟩:=h.blk;refine⟨_,tr _ _ _ _ _ _ h1,by simp[h2],fun i hi=>?_,fun i hi=>?_,?_,fun i j hi hj=>?_,?_⟩
 ·rw[vN (by omega)];unfold sU;split
  ·rfl
  ·exact h3 i hi
 ·rw[vN (by omega),tb (by omega)];exact h4 i hi
 ·rw[vN (by omega),tb (by omega)];exact h5
 ·rw[vN (by omega),tb (by omega)];exact h6 i j hi hj
 ·rw[vN (by omega),tb (by omega)];exact h7
theorem uX.setHi(h:uX w g lo hi rv ov hv)(k:Nat)(hk:k<3)(v:Int):uX (w.setCell ⟨g,3+k,none⟩ (.int .i64 v)) g lo (sU hi k v) rv ov hv:=by
 obtain⟨cs,h1,h2,h3,h4,h5,h6,h7⟩:=h.blk;refine⟨_,tr _ _ _ _ _ _ h1,by simp[h2],fun i hi=>?_,fun i hi=>?_,?_,fun i j hi hj=>?_,?_⟩
 ·rw[vN (by omega),tb (by omega)];exact h3 i hi
 ·rw[vN (by omega)];unfold sU
  by_cases e:i=k
  ·rw[tl (by omega),tl e]
  ·rw[tb (by omega),tb e];exact h4 i hi
 ·rw[vN (by omega),tb (by omega)];exact h5
 ·rw[vN (by omega),tb (by omega)];exact h6 i j hi hj
 ·rw[vN (by omega),tb (by omega)];exact h7
theorem uX.setR(h:uX w g lo hi rv ov hv)(v:Value):uX (w.setCell ⟨g,6,none⟩ v) g lo hi v ov hv:=by
 obtain⟨cs,h1,h2,h3,h4,h5,h6,h7⟩:=h.blk;refine⟨_,tr _ _ _ _ _ _ h1,by simp[h2],fun i hi=>?_,fun i hi=>?_,?_,fun i j hi hj=>?_,?_⟩
 ·rw[vN (by omega),tb (by omega)];exact h3 i hi
 ·rw[vN (by omega),tb (by omega)];exact h4 i hi
 ·rw[vN (by omega),tl rfl]
 ·rw[vN (by omega),tb (by omega)];exact h6 i j hi hj
 ·rw[vN (by omega),tb (by omega)];exact h7
theorem uX.setH(h:uX w g lo hi rv ov hv)(v:Value):uX (w.setCell ⟨g,71,none⟩ v) g lo hi rv ov v:=by
 obtain⟨cs,h1,h2,h3,h4,h5,h6,h7⟩:=h.blk;refine⟨_,tr _ _ _ _ _ _ h1,by simp[h2],fun i hi=>?_,fun i hi=>?_,?_,fun i j hi hj=>?_,?_⟩
 ·rw[vN (by omega),tb (by omega)];exact h3 i hi
 ·rw[vN (by omega),tb (by omega)];exact h4 i hi
 ·rw[vN (by omega),tb (by omega)];exact h5
 ·rw[vN (by omega),tb (by omega)];exact h6 i j hi hj
 ·rw[vN (by omega),tl rfl]
theorem uX.setO(h:uX w g lo hi rv ov hv)(a b:Nat)(ha:a<8)(hb:b<8)(v:Bool):uX (w.setCell ⟨g,7+a*8+b,none⟩ (.bool v)) g lo hi rv (zCJ ov a b v) hv:=by
 obtain⟨cs,h1,h2,h3,h4,h5,h6,h7⟩:=h.blk;refine⟨_,tr _ _ _ _ _ _ h1,by simp[h2],fun i hi=>?_,fun i hi=>?_,?_,fun i j hi hj=>?_,?_⟩
 ·rw[vN (by omega),tb (by omega)];exact h3 i hi
 ·rw[vN (by omega),tb (by omega)];exact h4 i hi
 ·rw[vN (by omega),tb (by omega)];exact h5
 ·rw[vN (by omega)];unfold zCJ
  by_cases e:i=a/\j=b
  ·rw[tl (by omega),tl e]
  ·rw[tb (by omega),tb e];exact h6 i j hi hj
 ·rw[vN (by omega),tb (by omega)];exact h7
def ZW(w:World)(g:Nat)(f:Nat->Bool):Prop:=∃cs:Array Value,w.heap[g]? = some (.cells cs 104 (0,0))/\cs.size=4/\∀i,i<4->cs[i]? = some (.bool (f i))
theorem ZW.cell(h:ZW w g f)(hi:i<4):w.cell? ⟨g,i,none⟩=some (.bool (f i)):=by
 obtain⟨cs,h1,h2,h3⟩:=h;exact(zB h1 i).trans (h3 i hi)
theorem ZW.free(h:ZW w g f)(k:Nat):w.frozen? ⟨g,k,none⟩=false:=by
 obtain⟨cs,h1,h2⟩:=h;simp[World.frozen?,h1]
theorem ZW.lt(h:ZW w g f):g<w.heap.size:=by obtain⟨cs,h1,h2⟩:=h;exact zJ h1
theorem ZW.below(h:ZW w g f)(hb:Below w.heap.size w w'):ZW w' g f:=by
 obtain⟨cs,h1,h2⟩:=h;exact⟨cs,(hb.block g (zJ h1)).trans h1,h2⟩
theorem ZW.down{B:Nat}(h:ZW w g f)(hb:Below B w w')(hg:g<B):ZW w' g f:=by
 obtain⟨cs,h1,h2⟩:=h;exact⟨cs,(hb.block g hg).trans h1,h2⟩
theorem ZW.other{g' k:Nat}(h:ZW w g f)(zL4:g≠g'):ZW (w.setCell ⟨g',k,none⟩ v) g f:=by
 obtain⟨cs,h1,h2⟩:=h;exact⟨cs,by rw[lk _ _ _ _ (show g≠(⟨g',k,none⟩:Addr).block from zL4)];exact h1,h2⟩
theorem ZW.of{f':Nat->Bool}(h:ZW w g f)(e:∀i,i<4->f i=f' i):ZW w g f':=by
 obtain⟨cs,h1,h2,h3⟩:=h;exact⟨cs,h1,h2,fun i hi=>by rw[h3 i hi,e i hi]⟩
theorem ZW.set(h:ZW w g f)(k:Nat)(hk:k<4)(v:Bool):ZW (w.setCell ⟨g,k,none⟩ (.bool v)) g (sU f k v):=by
 obtain⟨cs,h1,h2,h3⟩:=h;refine⟨_,tr _ _ _ _ _ _ h1,by simp[h2],fun i hi=>?_⟩;rw[vN (by omega)];unfold sU;split
 ·rfl
 ·exact h3 i hi
theorem ki:Tryz.zeroCells48=(List.replicate 6 (Value.int .i64 0)++(Value.slice none 0 0::(List.replicate 64 (Value.bool false)++[Value.slice none 0 0]))).toArray:=by kernel_rfl
theorem BG(w:World):uX (w.alloc (.cells Tryz.zeroCells48 48)) w.heap.size (fun _=>0) (fun _=>0) (.slice none 0 0) (fun _ _=>false) (.slice none 0 0):=by
 rw[ki];refine⟨_,zG _ _,by simp,fun i hi=>?_,fun i hi=>?_,rfl,fun i j hi hj=>?_,rfl⟩
 ·rw[bg,ms (by simp;omega),bt,tl (by omega)]
 ·rw[bg,ms (by simp;omega),bt,tl (by omega)]
 ·rw[bg,lj (by simp;omega),List.length_replicate,show 7+i*8+j-6=(i*8+j)+1 by omega,co,ms (by simp;omega),bt,tl (by omega)]
def tK(hd:Nat->Int)(i:Nat):List Nat:=(List.range i).map fun j=>(wV (hd j) 4).toNat
theorem VA(hd:Nat->Int)(i:Nat):tK hd (i+1)=tK hd i++[(wV (hd i) 4).toNat]:=by unfold tK;rw[lq,bi];rfl
theorem ju(hd:Nat->Int)(i:Nat):∀x∈tK hd i,x<4:=fun x hx=>by
 obtain⟨j,-,rfl⟩:=p9.1 hx;have:=qQ (hd j) 4 (by decide);omega
theorem QN(l:List Nat)(d:Nat):fK (l++[d])=fK l++[.int .i64 (d:Int)]:=by unfold fK;rw[bi];rfl
end Go.Proofs.YtnbpdffdnphbeabGreatDoor
