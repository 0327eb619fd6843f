import Derived.Test.YtnbpdffdnphbeabGreatDoorLRow
open Go.Proofs.Tryz
set_option maxHeartbeats 3000000
set_option maxRecDepth 100000
namespace Go.Proofs.YtnbpdffdnphbeabGreatDoor
open Go.RowKit
theorem RH(w:World)(t:yH)(low:List Nat)(lo:Bool)(ht:vO low t)(bb:∀d∈low,d<4)(hT:eG w) :
 Calls prog 89 #[.agg #[.bool t.or,.bool t.not,.bool t.pair,.int .i64 t.kind,.int .i64 t.x,.int .i64 t.y,.int .i64 t.mark,.int .i64 t.n],.bool lo] w λe w'=>∃v,e=.returned v/\w'.ownsRow w.heap.size 9 1 v (xM t lo).length (xG (xM t lo))/\Below w.heap.size w w':=by
 obtain⟨i0,ai,hz0,hz1,aQ⟩:=du oP;have bm:=zA (λw' (hb:Below w.heap.size w w')=>hT.below hb);have bo:=zA bb;have HW:Hid (xM t lo=(if t.not=true then [[110,111,116]] else [])++(if (lo&&t.pair)=true then [[40]] else [])++uZ t++(if (lo&&t.pair)=true then [[41]] else [])):=rfl;have HC:Hid (uZ t=if t.kind=0 then [ZB] else if t.kind=1 then [xC t.x.toNat] else if t.kind=2 then [eU,xU 99 t.x.toNat] else if t.kind=3 then [xC t.x.toNat,aL t.mark.toNat,Lib.itoa t.n] else [xC t.x.toNat,aL t.mark.toNat,xC t.y.toNat]):=rfl;unfold vO at ht;have bU:=zA ht;clear ht bb hT;generalize xM t lo=TW at *;generalize bl:uZ t=CW at *;clear bl;obtain⟨o1,o2,o3,k,x,y,mk,n⟩:=t;simp only at HW HC bU ⊢
 go_enter func89,ntmps89
 have aa:Hid (VM w (w.alloc (.cells #[.bool o1,.bool o2,.bool o3,.int .i64 k,.int .i64 x,.int .i64 y,.int .i64 mk,.int .i64 n] 87)) (.cells #[.bool o1,.bool o2,.bool o3,.int .i64 k,.int .i64 x,.int .i64 y,.int .i64 mk,.int .i64 n] 87 (0,0)) (.slice none 0 0) []):=⟨zF _ _,ly _ _ _ _,fk (tg _) _⟩
 go_upto_if 7 with fail
 generalize w.alloc (.cells #[.bool o1,.bool o2,.bool o3,.int .i64 k,.int .i64 x,.int .i64 y,.int .i64 mk,.int .i64 n] 87)=w0 at *
 go_cut [5] from 6 to 75 (λv5 wx=>∃ws,Hid (ws=if o2=true then [[110,111,116]] else [])/\Hid (ws.length<=1)/\Hid (VM w wx (.cells #[.bool o1,.bool o2,.bool o3,.int .i64 k,.int .i64 x,.int .i64 y,.int .i64 mk,.int .i64 n] 87 (0,0)) v5 ws))
 case first =>
  have aV:=zP aa.out.box;cases o2
  ·go_wp2_with fail
   go_meet
   exact⟨[],zA rfl,zA (by decide),aa⟩
  ·go_wp2_with (at_builtin;refine wpList_append_own _ rfl _ _ 70 rfl (w.heap.size+1) 9 i0 _ 1 16 underlying70 ai hz0 hz1 aQ rfl (by decide) _ _ _ rfl (aa.out.own.alloc _) ⟨w0.heap.size,0,none⟩ 1 1 [.string ⟨#[110,111,116]⟩] rfl rfl ?bT ?bS ?bQ ?bP ?bO ?_)
   try (case bT=>exact zM _ _ _ _ rfl)
   try (case bS=>first|rfl|exact⟨rfl,rfl⟩|exact⟨rfl,rfl,rfl⟩|(intro u hu;simp at hu;rcases hu with rfl <;> rfl))
   try (case bQ=>unfold maxLen;omega)
   try (case bP=>omega)
   try (case bO=>first|omega|(simp;omega))
   intro v6 w6 aB aC _;have aM:Hid (VM w w6 (.cells #[.bool o1,.bool true,.bool o3,.int .i64 k,.int .i64 x,.int .i64 y,.int .i64 mk,.int .i64 n] 87 (0,0)) v6 ([]++[[110,111,116]])):=aa.out.app (fk (tg _) _) aC aB;clear aB aC;go_wp2_with fail
   go_meet
   exact⟨_,zA rfl,zA (by decide),aM⟩
 case rest =>
  clear aa;obtain⟨ws,bh,br,aR⟩:=hcut;obtain⟨oa,oc,rfl⟩:=zO aR.out.own;have bk:=br.out;have aV:=zP aR.out.box;have c2:wc.cell? ⟨w.heap.size,2,none⟩=some (.bool o3):=zC aR.out.box 2;have c3:wc.cell? ⟨w.heap.size,3,none⟩=some (.int .i64 k):=zC aR.out.box 3;generalize aK:(lo&&o3)=lp at *;have bn:=zA aK
  go_upto_region 4 with fail
  go_cut [5,15] from 6 to 75 (λv5 ae wx=>v5=.slice oa ws.length oc/\ae=.bool lp/\wx=wc)
  case first =>
   cases lo
   ·have aU:Hid (lp=false):=aK.symm
    clear aK;go_wp2_with fail
    go_meet
    exact⟨rfl,by rw[aU.out],rfl⟩
   ·have aU:Hid (o3=lp):=aK
    clear aK;go_wp2_with fail
    go_meet
    exact⟨rfl,by rw[aU.out],rfl⟩
  case rest =>
   clear aK;obtain⟨rfl,rfl,rfl⟩:=hcut
   go_upto_if 15 with fail
   go_cut [5] from 6 to 75 (λv5 wx=>∃aG,Hid (aG=ws++if lp=true then [[40]] else [])/\Hid (aG.length<=2)/\Hid (VM w wx (.cells #[.bool o1,.bool o2,.bool o3,.int .i64 k,.int .i64 x,.int .i64 y,.int .i64 mk,.int .i64 n] 87 (0,0)) v5 aG))
   case first =>
    cases lp
    ·go_wp2_with fail
     go_meet
     exact⟨ws,zA (mt _).symm,zA (by omega),aR⟩
    ·go_wp2_with (at_builtin;refine wpList_append_own _ rfl _ _ 70 rfl (w.heap.size+1) 9 i0 _ 1 16 underlying70 ai hz0 hz1 aQ rfl (by decide) _ _ _ rfl (aR.out.own.alloc _) ⟨wc.heap.size,0,none⟩ 1 1 [.string ⟨#[40]⟩] rfl rfl ?bN ?bM ?bL ?bK ?bJ ?_)
     try (case bN=>exact zM _ _ _ _ rfl)
     try (case bM=>first|rfl|exact⟨rfl,rfl⟩|exact⟨rfl,rfl,rfl⟩|(intro u hu;simp at hu;rcases hu with rfl <;> rfl))
     try (case bL=>unfold maxLen;omega)
     try (case bK=>omega)
     try (case bJ=>first|omega|(simp;omega))
     intro v6 w6 aB aC _;have aM:Hid (VM w w6 (.cells #[.bool o1,.bool o2,.bool o3,.int .i64 k,.int .i64 x,.int .i64 y,.int .i64 mk,.int .i64 n] 87 (0,0)) v6 (ws++[[40]])):=aR.out.app (fk (tg _) _) aC aB;clear aB aC;go_wp2_with fail
     go_meet
     exact⟨_,zA rfl,zA (by simp;omega),aM⟩
   case rest =>
    clear c2 c3 aR bk aV;obtain⟨aG,bg,bq,aI⟩:=hcut;obtain⟨bw,bu,rfl⟩:=zO aI.out.own;have bj:=bq.out;have aV:=zP aI.out.box;have c3:wc.cell? ⟨w.heap.size,3,none⟩=some (.int .i64 k):=zC aI.out.box 3;have c4:wc.cell? ⟨w.heap.size,4,none⟩=some (.int .i64 x):=zC aI.out.box 4;have c5:wc.cell? ⟨w.heap.size,5,none⟩=some (.int .i64 y):=zC aI.out.box 5;have c6:wc.cell? ⟨w.heap.size,6,none⟩=some (.int .i64 mk):=zC aI.out.box 6;have c7:wc.cell? ⟨w.heap.size,7,none⟩=some (.int .i64 n):=zC aI.out.box 7
    go_upto_block 0 with fail
    go_cut [5] from 6 to 75 (λv5 wx=>∃aO,Hid (aO=aG++CW)/\Hid (aO.length<=5)/\Hid (VM w wx (.cells #[.bool o1,.bool o2,.bool o3,.int .i64 k,.int .i64 x,.int .i64 y,.int .i64 mk,.int .i64 n] 87 (0,0)) v5 aO))
    case first =>
     rcases bU.out with hk|⟨hk,x1,x2⟩|⟨hk,d,hd,hx⟩|⟨hk,⟨x1,x2⟩,⟨y1,y2⟩,⟨m1,m2⟩,n1,n2⟩
     ·have aN:Hid (CW=[ZB]):=by have:=HC.out;rw[tr hk]at this;exact this
      subst hk
      go_wp2_with (at_builtin;refine wpList_append_own _ rfl _ _ 70 rfl (w.heap.size+1) 9 i0 _ 1 16 underlying70 ai hz0 hz1 aQ rfl (by decide) _ _ _ rfl (aI.out.own.alloc _) ⟨wc.heap.size,0,none⟩ 1 1 [.string ⟨#[97,108,119,97,121,115]⟩] rfl rfl ?bI ?bH ?bG ?bF ?bE ?_)
      try (case bI=>exact zM _ _ _ _ rfl)
      try (case bH=>first|rfl|exact⟨rfl,rfl⟩|exact⟨rfl,rfl,rfl⟩|(intro u hu;simp at hu;rcases hu with rfl <;> rfl))
      try (case bG=>unfold maxLen;omega)
      try (case bF=>omega)
      try (case bE=>first|omega|(simp;omega))
      intro v6 w6 aB aC _;have aM:Hid (VM w w6 (.cells #[.bool o1,.bool o2,.bool o3,.int .i64 0,.int .i64 x,.int .i64 y,.int .i64 mk,.int .i64 n] 87 (0,0)) v6 (aG++[ZB])):=aI.out.app (fk (tg _) _) aC aB;clear aB aC;go_wp2_with fail
      go_meet
      exact⟨_,by rw[aN.out];exact zA rfl,zA (by simp;omega),aM⟩
     ·have aN:Hid (CW=[xC x.toNat]):=by have:=HC.out;rw[i6,tr hk]at this;exact this
      subst hk;obtain⟨xn,rfl⟩:=mz (show 0<=x by omega);rw[fm]at aN;have HI:=zA (fG wc xn (by omega));generalize xC xn=iw at *;go_wp2_with fail
      refine HI.out.mono ?_;rintro e w5 ⟨rfl,aP⟩;have aS:=zA (aI.out.below aP);have ag:=zP aS.out.box;clear aP HI
      go_wp2_with (at_builtin;refine wpList_append_own _ rfl _ _ 70 rfl (w.heap.size+1) 9 i0 _ 1 16 underlying70 ai hz0 hz1 aQ rfl (by decide) _ _ _ rfl (aS.out.own.alloc _) ⟨w5.heap.size,0,none⟩ 1 1 [.string ⟨iw.toArray⟩] rfl rfl ?bD ?bC ?bB ?bA ?a8 ?_)
      try (case bD=>exact zM _ _ _ _ rfl)
      try (case bC=>first|rfl|exact⟨rfl,rfl⟩|exact⟨rfl,rfl,rfl⟩|(intro u hu;simp at hu;rcases hu with rfl <;> rfl))
      try (case bB=>unfold maxLen;omega)
      try (case bA=>omega)
      try (case a8=>first|omega|(simp;omega))
      intro v6 w6 aB aC _;have aM:Hid (VM w w6 (.cells #[.bool o1,.bool o2,.bool o3,.int .i64 1,.int .i64 (xn:Int),.int .i64 y,.int .i64 mk,.int .i64 n] 87 (0,0)) v6 (aG++[iw])):=aS.out.app (fk (tg _) _) aC aB;clear aB aC;go_wp2_with fail
      go_meet
      exact⟨_,by rw[aN.out];exact zA rfl,zA (by simp;omega),aM⟩
     ·have aN:Hid (CW=[eU,xU 99 x.toNat]):=by have:=HC.out;rw[i6,i6,tr hk]at this;exact this
      subst hk;subst hx;rw[fm]at aN;have bz:=bo.out d hd;have HI:=zA (bR wc 99 d (by omega));rw[show ((99:UInt8).toNat:Int)=99 from rfl]at HI;generalize xU 99 d=iw at *;go_wp2_with fail
      refine HI.out.mono ?_;rintro e w5 ⟨rfl,aP⟩;have aS:=zA (aI.out.below aP);have ag:=zP aS.out.box;clear aP HI
      go_wp2_with (at_builtin;refine wpList_append_own _ rfl _ _ 70 rfl (w.heap.size+1) 9 i0 _ 1 16 underlying70 ai hz0 hz1 aQ rfl (by decide) _ _ _ rfl (aS.out.own.alloc _) ⟨w5.heap.size,0,none⟩ 2 2 [.string ⟨#[104,97,115]⟩,.string ⟨iw.toArray⟩] rfl rfl ?a7 ?a6 ?az ?ay ?ax ?_)
      try (case a7=>exact zM _ _ _ _ rfl)
      try (case a6=>first|rfl|exact⟨rfl,rfl⟩|exact⟨rfl,rfl,rfl⟩|(intro u hu;simp at hu;rcases hu with rfl|rfl <;> rfl))
      try (case az=>unfold maxLen;omega)
      try (case ay=>omega)
      try (case ax=>first|omega|(simp;omega))
      intro v6 w6 aB aC _;have aM:Hid (VM w w6 (.cells #[.bool o1,.bool o2,.bool o3,.int .i64 2,.int .i64 (d:Int),.int .i64 y,.int .i64 mk,.int .i64 n] 87 (0,0)) v6 (aG++[eU,iw])):=aS.out.app (fk (tg _) _) aC aB;clear aB aC;go_wp2_with fail
      go_meet
      exact⟨_,by rw[aN.out];exact zA rfl,zA (by simp;omega),aM⟩
     ·obtain⟨xn,rfl⟩:=mz x1
      obtain⟨yn,rfl⟩:=mz y1;obtain⟨mn,rfl⟩:=mz m1;rcases hk with hk|hk
      ·subst hk
       have aN:Hid (CW=[xC xn,aL mn,Lib.itoa n]):=by
        have:=HC.out;rw[i6,i6,i6,tr rfl,fm,fm]at this;exact this
       have bY:=zA (λw'=>fG w' xn (by omega));have bX:=zA (λw'=>Gy w' mn);have bW:=zA (λw' (hT:eG w')=>Xy w' n n1 n2 hT);generalize Lib.itoa n=aW at *;generalize xC xn=aY at *;generalize aL mn=aX at *
       go_upto_region 15 with fail
       go_region_law (first
        | (refine step_append_lies _ (by rfl) _ _ _ (by rfl) (w.heap.size+1) 9 i0 _ 1 16 underlying70 ai hz0 hz1 aQ rfl (by decide) _ aG.length (xG aG) (by rfl) (aF.own.alloc _) ⟨w7.heap.size,0,none⟩ 3 3 [.string ⟨aY.toArray⟩,.string ⟨aX.toArray⟩,.string ⟨aW.toArray⟩] (by rfl) (by rfl) (zM _ _ _ _ rfl) (by simp[Value.oneCell']) (by decide) (by unfold maxLen;omega) (by omega) (by simp;omega) (w7.heap.size+1) (by simp) ?_;intro gg cap w9 aD aA ao ah;have aZ:VM w w9 (.cells #[.bool o1,.bool o2,.bool o3,.int .i64 3,.int .i64 (xn:Int),.int .i64 (yn:Int),.int .i64 (mn:Int),.int .i64 n] 87 (0,0)) (.slice (some ⟨gg,0,none⟩) (aG.length+3) cap) (aG++[aY,aX,aW]):=aF.app (fk (tg _) _) aA aD)
        | (go_simp;go_at_call 44;refine(bY.out _).mono ?_;rintro e w5 ⟨rfl,aP⟩;have aJ:=aI.out.below ((md (tl _ _)).trans aP);have d4:w5.cell? ⟨w.heap.size,4,none⟩=some (.int .i64 (xn:Int)):=zC aJ.box 4;have d5:w5.cell? ⟨w.heap.size,5,none⟩=some (.int .i64 (yn:Int)):=zC aJ.box 5;have d6:w5.cell? ⟨w.heap.size,6,none⟩=some (.int .i64 (mn:Int)):=zC aJ.box 6;have d7:w5.cell? ⟨w.heap.size,7,none⟩=some (.int .i64 n):=zC aJ.box 7;show _)
        | (go_simp;go_at_call 135;refine(bX.out _).mono ?_;rintro e w6 ⟨rfl,ak⟩;have aH:=aJ.below ak;have d4:w6.cell? ⟨w.heap.size,4,none⟩=some (.int .i64 (xn:Int)):=zC aH.box 4;have d5:w6.cell? ⟨w.heap.size,5,none⟩=some (.int .i64 (yn:Int)):=zC aH.box 5;have d6:w6.cell? ⟨w.heap.size,6,none⟩=some (.int .i64 (mn:Int)):=zC aH.box 6;have d7:w6.cell? ⟨w.heap.size,7,none⟩=some (.int .i64 n):=zC aH.box 7;show _)
        | (go_simp;go_at_call 45;refine(bW.out _ (bm.out _ aH.af)).mono ?_;rintro e w7 ⟨rfl,aj⟩;have aF:=aH.below aj;have d4:w7.cell? ⟨w.heap.size,4,none⟩=some (.int .i64 (xn:Int)):=zC aF.box 4;have d5:w7.cell? ⟨w.heap.size,5,none⟩=some (.int .i64 (yn:Int)):=zC aF.box 5;have d6:w7.cell? ⟨w.heap.size,6,none⟩=some (.int .i64 (mn:Int)):=zC aF.box 6;have d7:w7.cell? ⟨w.heap.size,7,none⟩=some (.int .i64 n):=zC aF.box 7;have l7:=zP aF.box;show _))
       all_goals
        have bV:=zA aZ;clear aZ aD aA aF aH aJ;go_wp2_with fail
        go_meet
        exact⟨_,by rw[aN.out];exact zA rfl,zA (by simp;omega),bV⟩
      ·subst hk
       have aN:Hid (CW=[xC xn,aL mn,xC yn]):=by
        have:=HC.out;rw[i6,i6,i6,i6,fm,fm,fm]at this;exact this
       have bY:=zA (λw'=>fG w' xn (by omega));have bX:=zA (λw'=>Gy w' mn);have bW:=zA (λw'=>fG w' yn (by omega));generalize xC yn=aW at *;generalize xC xn=aY at *;generalize aL mn=aX at *
       go_upto_region 7 with fail
       go_region_law (first
        | (refine step_append_lies _ (by rfl) _ _ _ (by rfl) (w.heap.size+1) 9 i0 _ 1 16 underlying70 ai hz0 hz1 aQ rfl (by decide) _ aG.length (xG aG) (by rfl) (aF.own.alloc _) ⟨w7.heap.size,0,none⟩ 3 3 [.string ⟨aY.toArray⟩,.string ⟨aX.toArray⟩,.string ⟨aW.toArray⟩] (by rfl) (by rfl) (zM _ _ _ _ rfl) (by simp[Value.oneCell']) (by decide) (by unfold maxLen;omega) (by omega) (by simp;omega) (w7.heap.size+1) (by simp) ?_;intro gg cap w9 aD aA ao ah;have aZ:VM w w9 (.cells #[.bool o1,.bool o2,.bool o3,.int .i64 4,.int .i64 (xn:Int),.int .i64 (yn:Int),.int .i64 (mn:Int),.int .i64 n] 87 (0,0)) (.slice (some ⟨gg,0,none⟩) (aG.length+3) cap) (aG++[aY,aX,aW]):=aF.app (fk (tg _) _) aA aD)
        | (go_simp;go_at_call_of 44 (Value.int .i64 (xn:Int));refine(bY.out _).mono ?_;rintro e w5 ⟨rfl,aP⟩;have aJ:=aI.out.below ((md (tl _ _)).trans aP);have d4:w5.cell? ⟨w.heap.size,4,none⟩=some (.int .i64 (xn:Int)):=zC aJ.box 4;have d5:w5.cell? ⟨w.heap.size,5,none⟩=some (.int .i64 (yn:Int)):=zC aJ.box 5;have d6:w5.cell? ⟨w.heap.size,6,none⟩=some (.int .i64 (mn:Int)):=zC aJ.box 6;have d7:w5.cell? ⟨w.heap.size,7,none⟩=some (.int .i64 n):=zC aJ.box 7;show _)
        | (go_simp;go_at_call 135;refine(bX.out _).mono ?_;rintro e w6 ⟨rfl,ak⟩;have aH:=aJ.below ak;have d4:w6.cell? ⟨w.heap.size,4,none⟩=some (.int .i64 (xn:Int)):=zC aH.box 4;have d5:w6.cell? ⟨w.heap.size,5,none⟩=some (.int .i64 (yn:Int)):=zC aH.box 5;have d6:w6.cell? ⟨w.heap.size,6,none⟩=some (.int .i64 (mn:Int)):=zC aH.box 6;have d7:w6.cell? ⟨w.heap.size,7,none⟩=some (.int .i64 n):=zC aH.box 7;show _)
        | (go_simp;go_at_call_of 44 (Value.int .i64 (yn:Int));refine(bW.out _).mono ?_;rintro e w7 ⟨rfl,aj⟩;have aF:=aH.below aj;have d4:w7.cell? ⟨w.heap.size,4,none⟩=some (.int .i64 (xn:Int)):=zC aF.box 4;have d5:w7.cell? ⟨w.heap.size,5,none⟩=some (.int .i64 (yn:Int)):=zC aF.box 5;have d6:w7.cell? ⟨w.heap.size,6,none⟩=some (.int .i64 (mn:Int)):=zC aF.box 6;have d7:w7.cell? ⟨w.heap.size,7,none⟩=some (.int .i64 n):=zC aF.box 7;have l7:=zP aF.box;show _))
       all_goals
        have bV:=zA aZ;clear aZ aD aA aF aH aJ;go_wp2_with fail
        go_meet
        exact⟨_,by rw[aN.out];exact zA rfl,zA (by simp;omega),bV⟩
    case rest =>
     clear c3 c4 c5 c6 c7 aI bj aV;obtain⟨aO,bf,bp,aT⟩:=hcut;obtain⟨ba,bZ,rfl⟩:=zO aT.out.own;have bx:=bp.out;have aV:=zP aT.out.box;have c2:wc.cell? ⟨w.heap.size,2,none⟩=some (.bool o3):=zC aT.out.box 2
     have bc:Hid (TW=aO++if lp=true then [[41]] else []):=by
      unfold Hid;rw[HW.out,bf.out,bg.out,bh.out]
     clear HW bf bg bh HC bU;have aK:=bn.out
     go_upto_region 16 with fail
     go_cut [5,72] from 6 to 75 (λv5 ae wx=>v5=.slice ba aO.length bZ/\ae=.bool lp/\wx=wc)
     case first =>
      cases lo
      ·have aU:Hid (lp=false):=aK.symm
       clear aK;go_wp2_with fail
       go_meet
       exact⟨rfl,by rw[aU.out],rfl⟩
      ·have aU:Hid (o3=lp):=aK
       clear aK;go_wp2_with fail
       go_meet
       exact⟨rfl,by rw[aU.out],rfl⟩
     case rest =>
      clear aK;obtain⟨rfl,rfl,rfl⟩:=hcut;cases lp
      ·have HQ:Hid (wc.ownsRow w.heap.size 9 1 (.slice ba aO.length bZ) TW.length (xG TW)):=by
        unfold Hid;rw[bc.out,tj (by simp),mt];exact yN aT.out.own (my _)
       go_wp2_with fail
       go_ret
       exact⟨_,rfl,HQ.out,aT.out.af⟩
      ·go_wp2_with (at_builtin;refine wpList_append_own _ rfl _ _ 70 rfl (w.heap.size+1) 9 i0 _ 1 16 underlying70 ai hz0 hz1 aQ rfl (by decide) _ _ _ rfl (aT.out.own.alloc _) ⟨wc.heap.size,0,none⟩ 1 1 [.string ⟨#[41]⟩] rfl rfl ?aw ?av ?au ?ar ?aq ?_)
       try (case aw=>exact zM _ _ _ _ rfl)
       try (case av=>first|rfl|exact⟨rfl,rfl⟩|exact⟨rfl,rfl,rfl⟩|(intro u hu;simp at hu;rcases hu with rfl <;> rfl))
       try (case au=>unfold maxLen;omega)
       try (case ar=>omega)
       try (case aq=>first|omega|(simp;omega))
       intro v6 w6 aB aC _;have aM:Hid (VM w w6 (.cells #[.bool o1,.bool o2,.bool o3,.int .i64 k,.int .i64 x,.int .i64 y,.int .i64 mk,.int .i64 n] 87 (0,0)) v6 (aO++[[41]])):=aT.out.app (fk (tg _) _) aC aB
       have HQ:Hid (w6.ownsRow w.heap.size 9 1 v6 TW.length (xG TW)):=by
        have e:TW=aO++[[41]]:=bc.out.trans (by simp);unfold Hid;rw[e];exact yN aM.out.own (my _)
       have bt:=zA aM.out.af;clear aB aC;go_wp2_with fail
       go_ret
       exact⟨_,rfl,HQ.out,bt.out⟩
end Go.Proofs.YtnbpdffdnphbeabGreatDoor
