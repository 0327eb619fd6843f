import Derived.Test.YtnbpdffdnphbeabGreatDoorLKit
set_option maxHeartbeats 1000000
set_option maxRecDepth 100000
namespace Go.Proofs.YtnbpdffdnphbeabGreatDoor
open Go.RowKit
variable{g i:Nat}{f:Nat->Bool}{hi lo:Nat->Int}{ov:Nat->Nat->Bool}{rv v hv:Value}{w' w:World}(hs:List Nat)
theorem Ys.at{a:Option Addr}{m:Nat}(h:Ys w a m)(hi:i<m):∃g o,a=some ⟨g,o,none⟩/\∃(b1 b2 b3:Bool) (k x y mk n:Int),(w.cell? ⟨g,o+i*8,none⟩=some (.bool b1)/\w.cell? ⟨g,o+i*8+1,none⟩=some (.bool b2)/\w.cell? ⟨g,o+i*8+2,none⟩=some (.bool b3)/\w.cell? ⟨g,o+i*8+3,none⟩=some (.int .i64 k)/\w.cell? ⟨g,o+i*8+4,none⟩=some (.int .i64 x)/\w.cell? ⟨g,o+i*8+5,none⟩=some (.int .i64 y)/\w.cell? ⟨g,o+i*8+6,none⟩=some (.int .i64 mk)/\w.cell? ⟨g,o+i*8+7,none⟩=some (.int .i64 n))/\(qY k/\qY x/\qY y/\qY mk/\qY n):=by
 obtain⟨g,o,e,hc⟩:=h.blk (by omega);exact⟨g,o,e,hc i hi⟩
theorem FW(w:World)(sa la:Option Addr)(sn sc lc:Nat)(low:List Nat)(hS:Ys w sa sn)(hL:bQ w la (lV low))(hl4:low.length<=4) :
 Calls Tryz.prog 43 #[.slice sa sn sc,.slice la low.length lc] w fun e w'=>∃ts v,e=.returned v/\jS low ts/\w'.ownsRow w.heap.size 87 8 v ts.length (ts.flatMap fB)/\Below w.heap.size w w':=by
 obtain⟨i0,hi0,hz0,hz1,hz2⟩:=info_parts zBF;have zEO:=hS.few;unfold maxLen at zEO;have HS:=zA (fun w' (hb:Below w.heap.size w w')=>hS.below hb);have HL:=zA (fun w' (hb:Below w.heap.size w w')=>hL.below hb);have HPk:=zA iV;clear hS hL
 go_enter Tryz.func43,Tryz.ntmps43
 go_wp2_with fail
 go_loopw [5,6] (fun ov iv wr=>∃(i:Nat) (ts:List zX),i<=sn/\i<=6/\iv=.int .i64 i/\ts.length=i/\Hid (Below w.heap.size w wr)/\Hid (wr.ownsRow w.heap.size 87 8 ov i (ts.flatMap fB))/\Hid (∀p∈ts,xY low p)) (fun _ iv _=>6-(intOf iv).toNat)
 case atStart=>exact⟨0,[],tq _,tq _,rfl,rfl,zA (t9 _ _),zA (mt _ _ _ _),zA (fun p hp=>by cases hp)⟩
 case round =>
  obtain⟨i,ts,hi,hi6,rfl,hts,HB,HO,HP⟩:=hrel;obtain⟨oa,oc,rfl⟩:=yD HO.out;by_cases zE9:i<sn/\i<6
  ·have c1:(i:Int)<(sn:Int):=by omega
   have c2:(i:Int)<6:=by omega
   obtain⟨g,o,rfl,b1,b2,b3,k,x,y,mk,n,⟨t0,t1,t2,t3,-⟩,hk,-⟩:=(HS.out wr HB.out).at zE9.1;have HPw:=zA (fun w'=>HPk.out w' k 5 hk (by decide) (by decide));have zES:=zA (fun w' (hb:Below wr.heap.size wr w')=>HB.out.trans (hb.mono HB.out.size))
   go_upto_region 5 with fail
   have HC1:=zA c1;have HPs:=zA hts;have HLt:=zA zE9;clear zE9 hts
   go_cut [7] from 8 to 109 (fun v7 wx=>∃(k:Nat),v7=.pointer (some ⟨wr.heap.size,0,none⟩)/\Hid (k<5)/\Hid (wx.heap[wr.heap.size]? = some (.cells #[.bool b1,.bool b2,.bool b3,.int .i64 (k:Int),.int .i64 0,.int .i64 0,.int .i64 0,.int .i64 0] 87 (0,0)))/\Hid (Below wr.heap.size wr wx))
   case first =>
    go_region_held3 (fun w'=>w'.cell? ⟨g,o+i*8,none⟩=some (.bool b1)/\w'.cell? ⟨g,o+i*8+1,none⟩=some (.bool b2)/\w'.cell? ⟨g,o+i*8+2,none⟩=some (.bool b3)/\w'.cell? ⟨g,o+i*8+3,none⟩=some (.int .i64 k)) (go_keep) (
     (go_at_call 41;refine(HPw.out _).mono ?_;rintro e w4 ⟨r,rfl,hr,hw⟩;obtain rfl:=hw.symm))
    all_goals
     go_wp2_with fail
     go_meet
     exact⟨r,rfl,zA (by omega),zA (nK (zH _ _)),zA (pq (da (j1 _) _))⟩
   case rest =>
    obtain⟨k',rfl,HK,HX,zEU⟩:=hcut
    have HL2:=zA (fun (d:Nat) (hd:d<low.length)=>(show ∃gl,la=some ⟨gl,0,none⟩/\gl<w.heap.size/\∀w',Below wr.heap.size wr w'->w'.cell? ⟨gl,d,none⟩=some (.int .i64 ((low.getD d 0:Nat):Int)) by
     have e:(lV low)[d]? = some (.int .i64 ((low.getD d 0:Nat):Int)):=by simp[lV,List.getD,hd]
     obtain⟨gl,e0,c0⟩:=(HL.out w (t9 _ _)).at e;refine⟨gl,e0,yO c0,fun w' hb=>?_⟩;obtain⟨g',e',c'⟩:=(HL.out w' (zES.out w' hb)).at e;obtain rfl:gl=g':=by rw[e0]at e';simpa using e'
     exact c'))
    have HT2:=zA (fun w' (hb:Below wr.heap.size wr w')=>(show ∃(x y mk n:Int),(w'.cell? ⟨g,o+i*8+4,none⟩=some (.int .i64 x)/\w'.cell? ⟨g,o+i*8+5,none⟩=some (.int .i64 y)/\w'.cell? ⟨g,o+i*8+6,none⟩=some (.int .i64 mk)/\w'.cell? ⟨g,o+i*8+7,none⟩=some (.int .i64 n))/\(qY x/\qY y/\qY mk/\qY n) by
     obtain⟨g',o',e,_,_,_,_,x,y,mk,n,⟨-,-,-,-,c4,c5,c6,c7⟩,-,f1,f2,f3,f4⟩:=(HS.out w' (zES.out w' hb)).at HLt.out.1;simp only[mw,Addr.mk.injEq,and_true]at e;obtain⟨rfl,rfl⟩:=e;exact⟨x,y,mk,n,⟨c4,c5,c6,c7⟩,f1,f2,f3,f4⟩))
    have hg:g<wr.heap.size:=yO t0;have ng:wr.heap.size≠g:=by omega
    clear t0 t1 t2 t3 c1 c2 HPw;have d0:wc.cell? ⟨wr.heap.size,3,none⟩=some (.int .i64 (k':Int)):=zC HX.out 3;have e0:wc.frozen? ⟨wr.heap.size,3,none⟩=false:=by simp[World.frozen?,HX.out]
    go_upto_region 6 with fail
    go_cut [7,47] from 8 to 109 (fun v7 c wx=>v7=.pointer (some ⟨wr.heap.size,0,none⟩)/\c=.bool (decide (k'=2/\low.length=0))/\wx=wc)
    case first =>
     by_cases h2:k'=2
     ·subst h2
      by_cases hl:low.length=0
      ·have HD:Hid (decide ((2:Nat)=2/\low.length=0)=true):=by unfold Hid;simp[hl]
       have l0:((low.length:Int)==0)=true:=by rw[beq_iff_eq];omega
       clear hl;go_wp2_with fail
       go_meet
       exact⟨rfl,by rw[HD.out],rfl⟩
      ·have HD:Hid (decide ((2:Nat)=2/\low.length=0)=false):=by unfold Hid;simp[hl]
       have l0:((low.length:Int)==0)=false:=by rw[py];omega
       clear hl;go_wp2_with fail
       go_meet
       exact⟨rfl,by rw[HD.out],rfl⟩
     ·have HD:Hid (decide (k'=2/\low.length=0)=false):=by unfold Hid;simp[h2]
      have l0:((k':Int)==2)=false:=by rw[py];omega
      clear h2;go_wp2_with fail
      go_meet
      exact⟨rfl,by rw[HD.out],rfl⟩
    case rest =>
     obtain⟨rfl,rfl,rfl⟩:=hcut
     go_upto_if 47 with fail
     go_cut [7] from 8 to 109 (fun v7 wx=>∃(k2:Nat),v7=.pointer (some ⟨wr.heap.size,0,none⟩)/\Hid (k2<5/\(k2=2->0<low.length))/\Hid (wx.heap[wr.heap.size]? = some (.cells #[.bool b1,.bool b2,.bool b3,.int .i64 (k2:Int),.int .i64 0,.int .i64 0,.int .i64 0,.int .i64 0] 87 (0,0)))/\Hid (Below wr.heap.size wr wx))
     case first =>
      by_cases hc:k'=2/\low.length=0
      ·rw[tl hc]
       clear hc;go_wp2_with fail
       go_meet
       exact⟨1,rfl,zA ⟨by decide,fun h=>by cases h⟩,zA ((tj _ _ _ _ _ _ HX.out).trans rfl),zA (zEU.out.setCell (j1 _) _)⟩
      ·rw[tm hc]
       have HK2:Hid (k'<5/\(k'=2->0<low.length)):=⟨HK.out,fun h=>by omega⟩;clear hc;go_wp2_with fail
       go_meet
       exact⟨k',rfl,HK2,HX,zEU⟩
     case rest =>
      clear HX zEU HK d0 e0;obtain⟨k2,rfl,HK,HX,zEU⟩:=hcut;have HFz:Hid (∀k,wc.frozen? ⟨wr.heap.size,k,none⟩=false):=fun k=>by simp[World.frozen?,HX.out]
      have d3:wc.cell? ⟨wr.heap.size,3,none⟩=some (.int .i64 (k2:Int)):=zC HX.out 3
      go_upto_block 2 with fail
      go_cut [7] from 8 to 109 (fun v7 wx=>∃t:zX,v7=.pointer (some ⟨wr.heap.size,0,none⟩)/\Hid (wx.heap[wr.heap.size]? = some (.cells (fB t).toArray 87 (0,0)))/\Hid (xY low t)/\Hid (Below wr.heap.size wr wx))
      case first =>
       have f4:=HFz.out 4;have f5:=HFz.out 5;have f6:=HFz.out 6;have f7:=HFz.out 7;have d4:wc.cell? ⟨wr.heap.size,4,none⟩=some (.int .i64 0):=zC HX.out 4;have d5:wc.cell? ⟨wr.heap.size,5,none⟩=some (.int .i64 0):=zC HX.out 5;have d6:wc.cell? ⟨wr.heap.size,6,none⟩=some (.int .i64 0):=zC HX.out 6;have d7:wc.cell? ⟨wr.heap.size,7,none⟩=some (.int .i64 0):=zC HX.out 7;obtain⟨x,y,mk,n,⟨r4,r5,r6,r7⟩,g1,g2,g3,g4⟩:=HT2.out wc zEU.out;have c1:=HC1.out;have hk5:k2=0\/k2=1\/k2=2\/k2=3\/k2=4:=by have:=HK.out.1;omega
       have HPq:=zA (fun c m (hc:qY c) (h1:0<m) (h2:m<=1099511627776)=>HPk.out wc c m hc h1 h2);rcases hk5 with rfl|rfl|rfl|rfl|rfl
       ·go_wp2_with fail
        go_meet
        exact⟨⟨b1,b2,b3,0,0,0,0,0⟩,rfl,HX,zA (.inl rfl),zEU⟩
       ·have HP1:=zA (HPq.out x 2 g1 (by decide) (by decide))
        go_wp2_with fail
        refine HP1.out.mono ?_;rintro e w4 ⟨r,rfl,hr,hw⟩;obtain rfl:=hw.symm;have HR:Hid (3<=3+(r:Int)/\3+(r:Int)<5):=⟨by omega,by omega⟩;go_wp2_with fail
        go_meet
        exact⟨⟨b1,b2,b3,1,3+(r:Int),0,0,0⟩,rfl,zA ((tj _ _ _ _ _ _ HX.out).trans rfl),zA (.inr (.inl ⟨rfl,HR.out.1,HR.out.2⟩)),zA (zEU.out.setCell (j1 _) _)⟩
       ·have hlp:=HK.out.2 rfl
        have HP1:=zA (HPq.out x (low.length:Int) g1 (by omega) (by omega));go_wp2_with fail
        refine HP1.out.mono ?_;rintro e w4 ⟨d,rfl,hr,hw⟩;obtain rfl:=hw.symm;have hdl:d<low.length:=by omega
        obtain⟨gl,rfl,hgl,hcl⟩:=HL2.out d hdl;have cl:=hcl wc zEU.out;have hmem:low.getD d 0∈low:=by simp[List.getD,hdl]
        have ngl:wr.heap.size≠gl:=by have:=HB.out.size;omega
        generalize low.getD d 0=dd at *;clear hcl;go_wp2_with fail
        go_meet
        exact⟨⟨b1,b2,b3,2,dd,0,0,0⟩,rfl,zA ((tj _ _ _ _ _ _ HX.out).trans rfl),zA (.inr (.inr (.inl ⟨rfl,dd,hmem,rfl⟩))),zA (zEU.out.setCell (j1 _) _)⟩
       ·go_wp2_with fail
        refine(HPk.out _ x 3 g1 (by decide) (by decide)).mono ?_;rintro e w4 ⟨a1,rfl,ha1,hw⟩;obtain rfl:=hw.symm;go_wp2_with fail
        refine(HPk.out _ y 3 g2 (by decide) (by decide)).mono ?_;rintro e w4 ⟨a2,rfl,ha2,hw⟩;obtain rfl:=hw.symm;go_wp2_with fail
        refine(HPk.out _ mk 6 g3 (by decide) (by decide)).mono ?_;rintro e w4 ⟨a3,rfl,ha3,hw⟩;obtain rfl:=hw.symm;go_wp2_with fail
        refine(HPk.out _ n 10000 g4 (by decide) (by decide)).mono ?_;rintro e w4 ⟨a4,rfl,ha4,hw⟩;obtain rfl:=hw.symm;have HTk:Hid (xY low ⟨b1,b2,b3,3,(a1:Int),(a2:Int),(a3:Int),(a4:Int)⟩):=.inr (.inr (.inr ⟨.inl rfl,⟨Int.natCast_nonneg _,ha1⟩,⟨Int.natCast_nonneg _,ha2⟩,⟨Int.natCast_nonneg _,ha3⟩,⟨Int.natCast_nonneg _,Int.lt_add_one_iff.1 ha4⟩⟩));go_wp2_with fail
        go_meet
        exact⟨⟨b1,b2,b3,3,(a1:Int),(a2:Int),(a3:Int),(a4:Int)⟩,rfl,zA ((tj _ _ _ _ _ _ (tj _ _ _ _ _ _ (tj _ _ _ _ _ _ (tj _ _ _ _ _ _ HX.out)))).trans rfl),HTk,zA ((((zEU.out.setCell (j1 _) _).setCell (j1 _) _).setCell (j1 _) _).setCell (j1 _) _)⟩
       ·go_wp2_with fail
        refine(HPk.out _ x 3 g1 (by decide) (by decide)).mono ?_;rintro e w4 ⟨a1,rfl,ha1,hw⟩;obtain rfl:=hw.symm;go_wp2_with fail
        refine(HPk.out _ y 3 g2 (by decide) (by decide)).mono ?_;rintro e w4 ⟨a2,rfl,ha2,hw⟩;obtain rfl:=hw.symm;go_wp2_with fail
        refine(HPk.out _ mk 6 g3 (by decide) (by decide)).mono ?_;rintro e w4 ⟨a3,rfl,ha3,hw⟩;obtain rfl:=hw.symm;go_wp2_with fail
        refine(HPk.out _ n 10000 g4 (by decide) (by decide)).mono ?_;rintro e w4 ⟨a4,rfl,ha4,hw⟩;obtain rfl:=hw.symm;have HTk:Hid (xY low ⟨b1,b2,b3,4,(a1:Int),(a2:Int),(a3:Int),(a4:Int)⟩):=.inr (.inr (.inr ⟨.inr rfl,⟨Int.natCast_nonneg _,ha1⟩,⟨Int.natCast_nonneg _,ha2⟩,⟨Int.natCast_nonneg _,ha3⟩,⟨Int.natCast_nonneg _,Int.lt_add_one_iff.1 ha4⟩⟩));go_wp2_with fail
        go_meet
        exact⟨⟨b1,b2,b3,4,(a1:Int),(a2:Int),(a3:Int),(a4:Int)⟩,rfl,zA ((tj _ _ _ _ _ _ (tj _ _ _ _ _ _ (tj _ _ _ _ _ _ (tj _ _ _ _ _ _ HX.out)))).trans rfl),HTk,zA ((((zEU.out.setCell (j1 _) _).setCell (j1 _) _).setCell (j1 _) _).setCell (j1 _) _)⟩
      case rest =>
       clear HX zEU HFz d3 HT2 HL2;obtain⟨t,rfl,HX1,HT1,HB1⟩:=hcut;obtain⟨o1,o2,o3,o4,o5,o6,o7,o8⟩:=t;have c0:wc.cell? ⟨wr.heap.size,0,none⟩=some (.bool o1):=zC HX1.out 0;have c1:wc.cell? ⟨wr.heap.size,1,none⟩=some (.bool o2):=zC HX1.out 1;have c2:wc.cell? ⟨wr.heap.size,2,none⟩=some (.bool o3):=zC HX1.out 2;have c3:wc.cell? ⟨wr.heap.size,3,none⟩=some (.int .i64 o4):=zC HX1.out 3;have c4:wc.cell? ⟨wr.heap.size,4,none⟩=some (.int .i64 o5):=zC HX1.out 4;have c5:wc.cell? ⟨wr.heap.size,5,none⟩=some (.int .i64 o6):=zC HX1.out 5;have c6:wc.cell? ⟨wr.heap.size,6,none⟩=some (.int .i64 o7):=zC HX1.out 6;have c7:wc.cell? ⟨wr.heap.size,7,none⟩=some (.int .i64 o8):=zC HX1.out 7;have HO1:=zA (qJ HO.out HB1.out);have zEQ:Hid (Below w.heap.size w wc):=HB.out.trans (HB1.out.mono HB.out.size);have zEF:w.heap.size<=wc.heap.size:=zEQ.out.size;clear HX1 HB1 HO
       go_wp2_with (at_builtin;refine wpList_append_own _ rfl _ _ 83 rfl w.heap.size 87 i0 _ 8 48 Tryz.underlying83 hi0 hz0 hz1 hz2 rfl (by decide) _ _ _ rfl (HO1.out.alloc _) ⟨wc.heap.size,0,none⟩ 1 1 [.bool o1,.bool o2,.bool o3,.int .i64 o4,.int .i64 o5,.int .i64 o6,.int .i64 o7,.int .i64 o8] rfl rfl ?c1k1 ?c1k2 ?c1k3 ?c1k4 ?c1k5 ?_)
       try (case c1k1=>exact zS _ _ _ _ rfl)
       try (case c1k2=>intro u hu;simp at hu;rcases hu with rfl|rfl|rfl|rfl|rfl|rfl|rfl|rfl <;> rfl)
       try (case c1k3=>unfold maxLen;omega)
       try (case c1k4=>omega)
       try (case c1k5=>simp;omega)
       intro v6 w6 zE8 zE7 _;have HB6:Hid (Below w.heap.size w w6):=(zEQ.out.alloc zEF _).grown zE7 (by simp;omega) (zU HO1.out);have HO6:Hid (w6.ownsRow w.heap.size 87 8 v6 (i+1) ((ts++[(⟨o1,o2,o3,o4,o5,o6,o7,o8⟩:zX)]).flatMap fB)):=by unfold Hid;rw[bh];exact zE8
       have HP6:Hid (∀p∈ts++[(⟨o1,o2,o3,o4,o5,o6,o7,o8⟩:zX)],xY low p):=wQ HP.out HT1.out;have hl6:(ts++[(⟨o1,o2,o3,o4,o5,o6,o7,o8⟩:zX)]).length=i+1:=by simp[HPs.out]
       clear zE8 zE7;have hi6':i+1<=6:=by have:=HLt.out;omega
       have his:i+1<=sn:=by have:=HLt.out;omega
       go_wp2_with fail
       go_roundw
       case rel=>exact⟨i+1,_,his,hi6',by go_num,hl6,HB6,HO6,HP6⟩
       case measure=>simp[intOf];omega
  ·have HPs:=zA hts
   have zEP:¬i<sn\/(i<sn/\i=6):=by omega
   clear zE9 hts;by_cases h0:i=0
   ·subst h0
    have hsn:sn=0:=by omega
    subst hsn;clear zEP
    go_wp2_with (at_builtin;refine wpList_append_own _ rfl _ _ 83 rfl w.heap.size 87 i0 _ 8 48 Tryz.underlying83 hi0 hz0 hz1 hz2 rfl (by decide) _ _ _ rfl (HO.out.alloc _) ⟨wr.heap.size,0,none⟩ 1 1 [.bool false,.bool false,.bool false,.int .i64 0,.int .i64 0,.int .i64 0,.int .i64 0,.int .i64 0] rfl rfl ?c1k1 ?c1k2 ?c1k3 ?c1k4 ?c1k5 ?_)
    try (case c1k1=>exact zS _ _ _ _ rfl)
    try (case c1k2=>intro u hu;simp at hu;rcases hu with rfl|rfl <;> rfl)
    try (case c1k3=>unfold maxLen;omega)
    try (case c1k4=>omega)
    try (case c1k5=>have:=HB.out.size;simp;omega)
    intro v6 w6 zE8 zE7 _;have HB6:Hid (Below w.heap.size w w6):=(HB.out.alloc HB.out.size _).grown zE7 (by have:=HB.out.size;simp;omega) (zU HO.out);have hnil:ts=[]:=ml HPs.out;subst hnil;have HO6:=zA zE8;have HPo:Hid (jS low [⟨false,false,false,0,0,0,0,0⟩]):=⟨by simp,by simp,fun p hp=>by rw[po.1 hp];exact .inl rfl⟩;clear zE8 zE7;go_wp2_with fail
    go_ret
    exact⟨[⟨false,false,false,0,0,0,0,0⟩],_,rfl,HPo.out,HO6.out,HB6.out⟩
   ·have HQ:Hid (∃ps' v,Ending.returned (.slice oa i oc)=.returned v/\jS low ps'/\wr.ownsRow w.heap.size 87 8 v ps'.length (ps'.flatMap fB)/\Below w.heap.size w wr):=⟨ts,_,rfl,⟨by rw[HPs.out];omega,by rw[HPs.out];exact hi6,HP.out⟩,by rw[HPs.out];exact HO.out,HB.out⟩
    have k0:((i:Int)==0)=false:=by rw[py];omega
    clear h0;rcases zEP with hc|⟨hc,h4⟩
    ·have c1:¬(i:Int)<(sn:Int):=by omega
     go_wp2_with fail
     go_ret
     exact HQ.out
    ·subst h4
     have c1:((6:Nat):Int)<(sn:Int):=by omega
     have c2:(6:Int)<(sn:Int):=by omega
     go_wp2_with fail
     go_ret
     exact HQ.out
structure vF where
 head:Nat
 whole:Bool
 parts:List yR
 tests:List zX
structure zT where
 lo:Nat->Int
 hi:Nat->Int
 rules:List vF
 over:Nat->Nat->Bool
 heads:List Nat
def iE(acc:List Nat)(h:Nat):List Nat:=if h∈acc then acc else acc++[h]
def yK(hs:List Nat):List Nat:=hs.foldl iE []
theorem J6{acc:List Nat}{h x:Nat}:x∈iE acc h ↔ x∈acc\/x=h:=by
 unfold iE;split
 ·rename_i hm
  constructor
  ·exact .inl
  ·rintro(h1|rfl)
   ·exact h1
   ·exact hm
 ·simp
theorem nL:∀(acc:List Nat) {x:Nat},x∈hs.foldl iE acc ↔ x∈acc\/x∈hs:=by
 induction hs with
 | nil=>simp
 | cons h r ih=>intro acc x;rw[List.foldl_cons,ih,J6,l3];exact or_assoc
theorem mH{hs:List Nat}{x:Nat}:x∈yK hs ↔ x∈hs:=by unfold yK;rw[nL];simp
theorem Jh:∀acc:List Nat,acc.Nodup->(hs.foldl iE acc).Nodup:=by
 induction hs with
 | nil=>intro acc h;exact h
 | cons h r ih =>
   intro acc ha;refine ih _ ?_;unfold iE;split
   ·exact ha
   ·rename_i hn
    rw[List.nodup_append];exact⟨ha,by simp,fun a ha' b hb=>by rw[po.1 hb];intro e;exact hn (e ▸ ha')⟩
theorem nZ:(yK hs).Nodup:=Jh hs [] List.nodup_nil
theorem sC(h:Nat):yK (hs++[h])=iE (yK hs) h:=by unfold yK;rw[List.foldl_append];rfl
theorem bV{hs:List Nat}(h:∀x∈hs,x<4):(yK hs).length<=4:=by
 have:=List.Nodup.length_le_of_subset (nZ hs) (l₂:=List.range 4) (fun x hx=>ph.2 (h x (mH.1 hx)));simpa using this
def yW(heads:List Nat)(h:Nat):List Nat:=(List.range h).filter fun d=>decide (d∈heads)
structure bI(heads:List Nat)(r:vF):Prop where
 head:r.head<4
 parts:jD (yW heads r.head) r.parts
 tests:jS (yW heads r.head) r.tests
 unit:tW r.parts
structure yF(M:zT):Prop where
 nums:∀i,i<3->0<=M.lo i/\M.lo i<=M.hi i/\M.hi i<=9998
 few:M.rules.length<=8
 heads:M.heads=yK (M.rules.map vF.head)
 rules:∀r∈M.rules,bI M.heads r
 over:∀i j,M.over i j=true->i<j/\j<M.rules.length/\(M.rules.map vF.head).getD i 0=(M.rules.map vF.head).getD j 0
def pA{α:Type}(f:Nat->α)(i:Nat)(v:α):Nat->α:=fun j=>if j=i then v else f j
def zw(f:Nat->Nat->Bool)(i k:Nat)(v:Bool):Nat->Nat->Bool:=fun a b=>if a=i/\b=k then v else f a b
structure uT(w:World)(g:Nat)(lo hi:Nat->Int)(rv:Value)(ov:Nat->Nat->Bool)(hv:Value):Prop where
 blk:∃cs:Array Value,w.heap[g]? = some (.cells cs 48 (0,0))/\cs.size=72/\(∀i,i<3->cs[i]? = some (.int .i64 (lo i)))/\(∀i,i<3->cs[3+i]? = some (.int .i64 (hi i)))/\cs[6]? = some rv/\(∀i j,i<8->j<8->cs[7+i*8+j]? = some (.bool (ov i j)))/\cs[71]? = some hv
theorem uT.below(h:uT w g lo hi rv ov hv)(hb:Below w.heap.size w w'):uT w' g lo hi rv ov hv:=by
 obtain⟨cs,h1,h2⟩:=h.blk;exact⟨cs,(hb.block g (zL h1)).trans h1,h2⟩
theorem uT.down{B:Nat}(h:uT w g lo hi rv ov hv)(hb:Below B w w')(hg:g<B):uT w' g lo hi rv ov hv:=by
 obtain⟨cs,h1,h2⟩:=h.blk;exact⟨cs,(hb.block g hg).trans h1,h2⟩
theorem uT.other{g' k:Nat}(h:uT w g lo hi rv ov hv)(zEB:g≠g'):uT (w.setCell ⟨g',k,none⟩ v) g lo hi rv ov hv:=by
 obtain⟨cs,h1,h2⟩:=h.blk;exact⟨cs,by rw[ms _ _ _ _ (show g≠(⟨g',k,none⟩:Addr).block from zEB)];exact h1,h2⟩
theorem uT.lt(h:uT w g lo hi rv ov hv):g<w.heap.size:=by
 obtain⟨cs,h1,h2⟩:=h.blk;exact zL h1
theorem uT.free(h:uT w g lo hi rv ov hv)(k:Nat):w.frozen? ⟨g,k,none⟩=false:=by
 obtain⟨cs,h1,h2⟩:=h.blk;simp[World.frozen?,h1]
theorem uT.cells(h:uT w g lo hi rv ov hv):(∀i,i<3->w.cell? ⟨g,i,none⟩=some (.int .i64 (lo i)))/\(∀i,i<3->w.cell? ⟨g,3+i,none⟩=some (.int .i64 (hi i)))/\w.cell? ⟨g,6,none⟩=some rv/\(∀i j,i<8->j<8->w.cell? ⟨g,7+i*8+j,none⟩=some (.bool (ov i j)))/\w.cell? ⟨g,71,none⟩=some hv:=by
 obtain⟨cs,h1,h2,h3,h4,h5,h6,h7⟩:=h.blk;exact⟨fun i hi=>(zC h1 i).trans (h3 i hi),fun i hi=>(zC h1 _).trans (h4 i hi),(zC h1 6).trans h5,fun i j hi hj=>(zC h1 _).trans (h6 i j hi hj),(zC h1 71).trans h7⟩
theorem xW{cs:Array Value}{j:Nat}(hi:i<cs.size):(cs.setIfInBounds i v)[j]? = if j=i then some v else cs[j]? := by
 rw[Array.getElem?_setIfInBounds];by_cases h:i=j
 ·subst h;simp[hi]
 ·rw[t7 h,t7 (fun e=>h e.symm)]
theorem uT.setLo(h:uT w g lo hi rv ov hv)(k:Nat)(hk:k<3)(v:Int):uT (w.setCell ⟨g,k,none⟩ (.int .i64 v)) g (pA lo k v) hi rv ov hv:=by
 obtain⟨cs,h1,h2,h3,h4,h5,h6,h7⟩:=h.blk;refine⟨_,tj _ _ _ _ _ _ h1,by simp[h2],fun i hi=>?_,fun i hi=>?_,?_,fun i j hi hj=>?_,?_⟩
 ·rw[xW (by omega)];unfold pA;split
  ·rfl
  ·exact h3 i hi
 ·rw[xW (by omega),t7 (by omega)];exact h4 i hi
 ·rw[xW (by omega),t7 (by omega)];exact h5
 ·rw[xW (by omega),t7 (by omega)];exact h6 i j hi hj
 ·rw[xW (by omega),t7 (by omega)];exact h7
theorem uT.setHi(h:uT w g lo hi rv ov hv)(k:Nat)(hk:k<3)(v:Int):uT (w.setCell ⟨g,3+k,none⟩ (.int .i64 v)) g lo (pA hi k v) rv ov hv:=by
 obtain⟨cs,h1,h2,h3,h4,h5,h6,h7⟩:=h.blk;refine⟨_,tj _ _ _ _ _ _ h1,by simp[h2],fun i hi=>?_,fun i hi=>?_,?_,fun i j hi hj=>?_,?_⟩
 ·rw[xW (by omega),t7 (by omega)];exact h3 i hi
 ·rw[xW (by omega)];unfold pA
  by_cases e:i=k
  ·rw[tg (by omega),tg e]
  ·rw[t7 (by omega),t7 e];exact h4 i hi
 ·rw[xW (by omega),t7 (by omega)];exact h5
 ·rw[xW (by omega),t7 (by omega)];exact h6 i j hi hj
 ·rw[xW (by omega),t7 (by omega)];exact h7
theorem uT.setR(h:uT w g lo hi rv ov hv)(v:Value):uT (w.setCell ⟨g,6,none⟩ v) g lo hi v ov hv:=by
 obtain⟨cs,h1,h2,h3,h4,h5,h6,h7⟩:=h.blk;refine⟨_,tj _ _ _ _ _ _ h1,by simp[h2],fun i hi=>?_,fun i hi=>?_,?_,fun i j hi hj=>?_,?_⟩
 ·rw[xW (by omega),t7 (by omega)];exact h3 i hi
 ·rw[xW (by omega),t7 (by omega)];exact h4 i hi
 ·rw[xW (by omega),tg rfl]
 ·rw[xW (by omega),t7 (by omega)];exact h6 i j hi hj
 ·rw[xW (by omega),t7 (by omega)];exact h7
theorem uT.setH(h:uT w g lo hi rv ov hv)(v:Value):uT (w.setCell ⟨g,71,none⟩ v) g lo hi rv ov v:=by
 obtain⟨cs,h1,h2,h3,h4,h5,h6,h7⟩:=h.blk;refine⟨_,tj _ _ _ _ _ _ h1,by simp[h2],fun i hi=>?_,fun i hi=>?_,?_,fun i j hi hj=>?_,?_⟩
 ·rw[xW (by omega),t7 (by omega)];exact h3 i hi
 ·rw[xW (by omega),t7 (by omega)];exact h4 i hi
 ·rw[xW (by omega),t7 (by omega)];exact h5
 ·rw[xW (by omega),t7 (by omega)];exact h6 i j hi hj
 ·rw[xW (by omega),tg rfl]
theorem uT.setO(h:uT w g lo hi rv ov hv)(a b:Nat)(ha:a<8)(hb:b<8)(v:Bool):uT (w.setCell ⟨g,7+a*8+b,none⟩ (.bool v)) g lo hi rv (zw ov a b v) hv:=by
 obtain⟨cs,h1,h2,h3,h4,h5,h6,h7⟩:=h.blk;refine⟨_,tj _ _ _ _ _ _ h1,by simp[h2],fun i hi=>?_,fun i hi=>?_,?_,fun i j hi hj=>?_,?_⟩
 ·rw[xW (by omega),t7 (by omega)];exact h3 i hi
 ·rw[xW (by omega),t7 (by omega)];exact h4 i hi
 ·rw[xW (by omega),t7 (by omega)];exact h5
 ·rw[xW (by omega)];unfold zw
  by_cases e:i=a/\j=b
  ·rw[tg (by omega),tg e]
  ·rw[t7 (by omega),t7 e];exact h6 i j hi hj
 ·rw[xW (by omega),t7 (by omega)];exact h7
def eP(w:World)(g:Nat)(f:Nat->Bool):Prop:=∃cs:Array Value,w.heap[g]? = some (.cells cs 104 (0,0))/\cs.size=4/\∀i,i<4->cs[i]? = some (.bool (f i))
theorem eP.cell(h:eP w g f)(hi:i<4):w.cell? ⟨g,i,none⟩=some (.bool (f i)):=by
 obtain⟨cs,h1,h2,h3⟩:=h;exact(zC h1 i).trans (h3 i hi)
theorem eP.free(h:eP w g f)(k:Nat):w.frozen? ⟨g,k,none⟩=false:=by
 obtain⟨cs,h1,h2⟩:=h;simp[World.frozen?,h1]
theorem eP.lt(h:eP w g f):g<w.heap.size:=by obtain⟨cs,h1,h2⟩:=h;exact zL h1
theorem eP.below(h:eP w g f)(hb:Below w.heap.size w w'):eP w' g f:=by
 obtain⟨cs,h1,h2⟩:=h;exact⟨cs,(hb.block g (zL h1)).trans h1,h2⟩
theorem eP.down{B:Nat}(h:eP w g f)(hb:Below B w w')(hg:g<B):eP w' g f:=by
 obtain⟨cs,h1,h2⟩:=h;exact⟨cs,(hb.block g hg).trans h1,h2⟩
theorem eP.other{g' k:Nat}(h:eP w g f)(zEB:g≠g'):eP (w.setCell ⟨g',k,none⟩ v) g f:=by
 obtain⟨cs,h1,h2⟩:=h;exact⟨cs,by rw[ms _ _ _ _ (show g≠(⟨g',k,none⟩:Addr).block from zEB)];exact h1,h2⟩
theorem eP.of{f':Nat->Bool}(h:eP w g f)(e:∀i,i<4->f i=f' i):eP w g f':=by
 obtain⟨cs,h1,h2,h3⟩:=h;exact⟨cs,h1,h2,fun i hi=>by rw[h3 i hi,e i hi]⟩
theorem eP.set(h:eP w g f)(k:Nat)(hk:k<4)(v:Bool):eP (w.setCell ⟨g,k,none⟩ (.bool v)) g (pA f k v):=by
 obtain⟨cs,h1,h2,h3⟩:=h;refine⟨_,tj _ _ _ _ _ _ h1,by simp[h2],fun i hi=>?_⟩;rw[xW (by omega)];unfold pA;split
 ·rfl
 ·exact h3 i hi
theorem DP:Tryz.zeroCells48=(List.replicate 6 (Value.int .i64 0)++(Value.slice none 0 0::(List.replicate 64 (Value.bool false)++[Value.slice none 0 0]))).toArray:=by kernel_rfl
theorem KD(w:World):uT (w.alloc (.cells Tryz.zeroCells48 48)) w.heap.size (fun _=>0) (fun _=>0) (.slice none 0 0) (fun _ _=>false) (.slice none 0 0):=by
 rw[DP];refine⟨_,zH _ _,by simp,fun i hi=>?_,fun i hi=>?_,rfl,fun i j hi hj=>?_,rfl⟩
 ·rw[mz,pm (by simp;omega),bf,tg (by omega)]
 ·rw[mz,pm (by simp;omega),bf,tg (by omega)]
 ·rw[mz,ma (by simp;omega),List.length_replicate,show 7+i*8+j-6=(i*8+j)+1 by omega,bg,pm (by simp;omega),bf,tg (by omega)]
def jK(hd:Nat->Int)(i:Nat):List Nat:=(List.range i).map fun j=>(sQ (hd j) 4).toNat
theorem QV(hd:Nat->Int)(i:Nat):jK hd (i+1)=jK hd i++[(sQ (hd i) 4).toNat]:=by unfold jK;rw[l8,lj];rfl
theorem Fw(hd:Nat->Int)(i:Nat):∀x∈jK hd i,x<4:=fun x hx=>by
 obtain⟨j,-,rfl⟩:=p7.1 hx;have:=uY (hd j) 4 (by decide);omega
theorem YA(l:List Nat)(d:Nat):lV (l++[d])=lV l++[.int .i64 (d:Int)]:=by unfold lV;rw[lj];rfl
end Go.Proofs.YtnbpdffdnphbeabGreatDoor
