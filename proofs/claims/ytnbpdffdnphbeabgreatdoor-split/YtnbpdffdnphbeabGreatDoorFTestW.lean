import Derived.Test.YtnbpdffdnphbeabGreatDoorLRow
set_option maxHeartbeats 3000000
set_option maxRecDepth 100000
namespace Go.Proofs.YtnbpdffdnphbeabGreatDoor
open Go.RowKit
theorem zAL(w:World)(t:zR)(low:List Nat)(lo:Bool)(ht:xL low t)(hl4:∀d∈low,d<4)(hT:rL w) :
 Calls Tryz.prog 89 #[.agg #[.bool t.or,.bool t.not,.bool t.pair,.int .i64 t.kind,.int .i64 t.x,.int .i64 t.y,.int .i64 t.mark,.int .i64 t.n],.bool lo] w fun e w'=>∃v,e=.returned v/\w'.ownsRow w.heap.size 9 1 v (xB t lo).length (vE (xB t lo))/\Below w.heap.size w w':=by
 obtain⟨i0,hi0,hz0,hz1,hz2⟩:=info_parts sI;have HTb:=zA (fun w' (hb:Below w.heap.size w w')=>hT.below hb);have HL4:=zA hl4;have HW:Hid (xB t lo=(if t.not=true then [[110,111,116]] else [])++(if (lo&&t.pair)=true then [[40]] else [])++uN t++(if (lo&&t.pair)=true then [[41]] else [])):=rfl;have HC:Hid (uN t=if t.kind=0 then [iS] else if t.kind=1 then [yD t.x.toNat] else if t.kind=2 then [aB,xG 99 t.x.toNat] else if t.kind=3 then [yD t.x.toNat,sE t.mark.toNat,Lib.itoa t.n] else [yD t.x.toNat,sE t.mark.toNat,yD t.y.toNat]):=rfl;unfold xL at ht;have zLM:=zA ht;clear ht hl4 hT;generalize xB t lo=TW at *;generalize hCW:uN t=CW at *;clear hCW;obtain⟨o1,o2,o3,k,x,y,mk,n⟩:=t;simp only at HW HC zLM ⊢
 go_enter Tryz.func89,Tryz.ntmps89
 have HS0:Hid (K2 w (w.alloc (.cells #[.bool o1,.bool o2,.bool o3,.int .i64 k,.int .i64 x,.int .i64 y,.int .i64 mk,.int .i64 n] 87)) (.cells #[.bool o1,.bool o2,.bool o3,.int .i64 k,.int .i64 x,.int .i64 y,.int .i64 mk,.int .i64 n] 87 (0,0)) (.slice none 0 0) []):=⟨zG _ _,ly _ _ _ _,gb (j1 _) _⟩
 go_upto_if 7 with fail
 generalize w.alloc (.cells #[.bool o1,.bool o2,.bool o3,.int .i64 k,.int .i64 x,.int .i64 y,.int .i64 mk,.int .i64 n] 87)=w0 at *
 go_cut [5] from 6 to 75 (fun v5 wx=>∃ws,Hid (ws=if o2=true then [[110,111,116]] else [])/\Hid (ws.length<=1)/\Hid (K2 w wx (.cells #[.bool o1,.bool o2,.bool o3,.int .i64 k,.int .i64 x,.int .i64 y,.int .i64 mk,.int .i64 n] 87 (0,0)) v5 ws))
 case first =>
  have zL8:=zJ HS0.out.box;cases o2
  ·go_wp2_with fail
   go_meet
   exact⟨[],zA rfl,zA (by decide),HS0⟩
  ·go_wp2_with (at_builtin;refine wpList_append_own _ rfl _ _ 70 rfl (w.heap.size+1) 9 i0 _ 1 16 Tryz.underlying70 hi0 hz0 hz1 hz2 rfl (by decide) _ _ _ rfl (HS0.out.own.alloc _) ⟨w0.heap.size,0,none⟩ 1 1 [.string ⟨#[110,111,116]⟩] rfl rfl ?c1k1 ?c1k2 ?c1k3 ?c1k4 ?c1k5 ?_)
   try (case c1k1=>exact zM _ _ _ _ rfl)
   try (case c1k2=>first|rfl|exact⟨rfl,rfl⟩|exact⟨rfl,rfl,rfl⟩|(intro u hu;simp at hu;rcases hu with rfl <;> rfl))
   try (case c1k3=>unfold maxLen;omega)
   try (case c1k4=>omega)
   try (case c1k5=>first|omega|(simp;omega))
   intro v6 w6 zL0 zKY _;have HS6:Hid (K2 w w6 (.cells #[.bool o1,.bool true,.bool o3,.int .i64 k,.int .i64 x,.int .i64 y,.int .i64 mk,.int .i64 n] 87 (0,0)) v6 ([]++[[110,111,116]])):=HS0.out.app (gb (j1 _) _) zKY zL0;clear zL0 zKY;go_wp2_with fail
   go_meet
   exact⟨_,zA rfl,zA (by decide),HS6⟩
 case rest =>
  clear HS0;obtain⟨ws,HE1,HL1,HS1⟩:=hcut;obtain⟨oa,oc,rfl⟩:=zP HS1.out.own;have hl1:=HL1.out;have zL8:=zJ HS1.out.box;have c2:wc.cell? ⟨w.heap.size,2,none⟩=some (.bool o3):=zB HS1.out.box 2;have c3:wc.cell? ⟨w.heap.size,3,none⟩=some (.int .i64 k):=zB HS1.out.box 3;generalize hlo:(lo&&o3)=lp at *;have HLo:=zA hlo
  go_upto_region 4 with fail
  go_cut [5,15] from 6 to 75 (fun v5 v15 wx=>v5=.slice oa ws.length oc/\v15=.bool lp/\wx=wc)
  case first =>
   cases lo
   ·have HLp:Hid (lp=false):=hlo.symm
    clear hlo;go_wp2_with fail
    go_meet
    exact⟨rfl,by rw[HLp.out],rfl⟩
   ·have HLp:Hid (o3=lp):=hlo
    clear hlo;go_wp2_with fail
    go_meet
    exact⟨rfl,by rw[HLp.out],rfl⟩
  case rest =>
   clear hlo;obtain⟨rfl,rfl,rfl⟩:=hcut
   go_upto_if 15 with fail
   go_cut [5] from 6 to 75 (fun v5 wx=>∃ws2,Hid (ws2=ws++if lp=true then [[40]] else [])/\Hid (ws2.length<=2)/\Hid (K2 w wx (.cells #[.bool o1,.bool o2,.bool o3,.int .i64 k,.int .i64 x,.int .i64 y,.int .i64 mk,.int .i64 n] 87 (0,0)) v5 ws2))
   case first =>
    cases lp
    ·go_wp2_with fail
     go_meet
     exact⟨ws,zA (mt _).symm,zA (by omega),HS1⟩
    ·go_wp2_with (at_builtin;refine wpList_append_own _ rfl _ _ 70 rfl (w.heap.size+1) 9 i0 _ 1 16 Tryz.underlying70 hi0 hz0 hz1 hz2 rfl (by decide) _ _ _ rfl (HS1.out.own.alloc _) ⟨wc.heap.size,0,none⟩ 1 1 [.string ⟨#[40]⟩] rfl rfl ?c2k1 ?c2k2 ?c2k3 ?c2k4 ?c2k5 ?_)
     try (case c2k1=>exact zM _ _ _ _ rfl)
     try (case c2k2=>first|rfl|exact⟨rfl,rfl⟩|exact⟨rfl,rfl,rfl⟩|(intro u hu;simp at hu;rcases hu with rfl <;> rfl))
     try (case c2k3=>unfold maxLen;omega)
     try (case c2k4=>omega)
     try (case c2k5=>first|omega|(simp;omega))
     intro v6 w6 zL0 zKY _;have HS6:Hid (K2 w w6 (.cells #[.bool o1,.bool o2,.bool o3,.int .i64 k,.int .i64 x,.int .i64 y,.int .i64 mk,.int .i64 n] 87 (0,0)) v6 (ws++[[40]])):=HS1.out.app (gb (j1 _) _) zKY zL0;clear zL0 zKY;go_wp2_with fail
     go_meet
     exact⟨_,zA rfl,zA (by simp;omega),HS6⟩
   case rest =>
    clear c2 c3 HS1 hl1 zL8;obtain⟨ws2,HE2,HL2,HS2⟩:=hcut;obtain⟨oa2,oc2,rfl⟩:=zP HS2.out.own;have hl2:=HL2.out;have zL8:=zJ HS2.out.box;have c3:wc.cell? ⟨w.heap.size,3,none⟩=some (.int .i64 k):=zB HS2.out.box 3;have c4:wc.cell? ⟨w.heap.size,4,none⟩=some (.int .i64 x):=zB HS2.out.box 4;have c5:wc.cell? ⟨w.heap.size,5,none⟩=some (.int .i64 y):=zB HS2.out.box 5;have c6:wc.cell? ⟨w.heap.size,6,none⟩=some (.int .i64 mk):=zB HS2.out.box 6;have c7:wc.cell? ⟨w.heap.size,7,none⟩=some (.int .i64 n):=zB HS2.out.box 7
    go_upto_block 0 with fail
    go_cut [5] from 6 to 75 (fun v5 wx=>∃ws3,Hid (ws3=ws2++CW)/\Hid (ws3.length<=5)/\Hid (K2 w wx (.cells #[.bool o1,.bool o2,.bool o3,.int .i64 k,.int .i64 x,.int .i64 y,.int .i64 mk,.int .i64 n] 87 (0,0)) v5 ws3))
    case first =>
     rcases zLM.out with hk|⟨hk,x1,x2⟩|⟨hk,d,hd,hx⟩|⟨hk,⟨x1,x2⟩,⟨y1,y2⟩,⟨m1,m2⟩,n1,n2⟩
     ·have HC1:Hid (CW=[iS]):=by have:=HC.out;rw[tl hk]at this;exact this
      subst hk
      go_wp2_with (at_builtin;refine wpList_append_own _ rfl _ _ 70 rfl (w.heap.size+1) 9 i0 _ 1 16 Tryz.underlying70 hi0 hz0 hz1 hz2 rfl (by decide) _ _ _ rfl (HS2.out.own.alloc _) ⟨wc.heap.size,0,none⟩ 1 1 [.string ⟨#[97,108,119,97,121,115]⟩] rfl rfl ?c3k1 ?c3k2 ?c3k3 ?c3k4 ?c3k5 ?_)
      try (case c3k1=>exact zM _ _ _ _ rfl)
      try (case c3k2=>first|rfl|exact⟨rfl,rfl⟩|exact⟨rfl,rfl,rfl⟩|(intro u hu;simp at hu;rcases hu with rfl <;> rfl))
      try (case c3k3=>unfold maxLen;omega)
      try (case c3k4=>omega)
      try (case c3k5=>first|omega|(simp;omega))
      intro v6 w6 zL0 zKY _;have HS6:Hid (K2 w w6 (.cells #[.bool o1,.bool o2,.bool o3,.int .i64 0,.int .i64 x,.int .i64 y,.int .i64 mk,.int .i64 n] 87 (0,0)) v6 (ws2++[iS])):=HS2.out.app (gb (j1 _) _) zKY zL0;clear zL0 zKY;go_wp2_with fail
      go_meet
      exact⟨_,by rw[HC1.out];exact zA rfl,zA (by simp;omega),HS6⟩
     ·have HC1:Hid (CW=[yD x.toNat]):=by have:=HC.out;rw[tb (by omega),tl hk]at this;exact this
      subst hk;obtain⟨xn,rfl⟩:=cb (show 0<=x by omega);rw[Int.toNat_natCast]at HC1;have HI:=zA (dD wc xn (by omega));generalize yD xn=iw at *;go_wp2_with fail
      refine HI.out.mono ?_;rintro e w5 ⟨rfl,hb5⟩;have HS5:=zA (HS2.out.below hb5);have hsz5:=zJ HS5.out.box;clear hb5 HI
      go_wp2_with (at_builtin;refine wpList_append_own _ rfl _ _ 70 rfl (w.heap.size+1) 9 i0 _ 1 16 Tryz.underlying70 hi0 hz0 hz1 hz2 rfl (by decide) _ _ _ rfl (HS5.out.own.alloc _) ⟨w5.heap.size,0,none⟩ 1 1 [.string ⟨iw.toArray⟩] rfl rfl ?c4k1 ?c4k2 ?c4k3 ?c4k4 ?c4k5 ?_)
      try (case c4k1=>exact zM _ _ _ _ rfl)
      try (case c4k2=>first|rfl|exact⟨rfl,rfl⟩|exact⟨rfl,rfl,rfl⟩|(intro u hu;simp at hu;rcases hu with rfl <;> rfl))
      try (case c4k3=>unfold maxLen;omega)
      try (case c4k4=>omega)
      try (case c4k5=>first|omega|(simp;omega))
      intro v6 w6 zL0 zKY _;have HS6:Hid (K2 w w6 (.cells #[.bool o1,.bool o2,.bool o3,.int .i64 1,.int .i64 (xn:Int),.int .i64 y,.int .i64 mk,.int .i64 n] 87 (0,0)) v6 (ws2++[iw])):=HS5.out.app (gb (j1 _) _) zKY zL0;clear zL0 zKY;go_wp2_with fail
      go_meet
      exact⟨_,by rw[HC1.out];exact zA rfl,zA (by simp;omega),HS6⟩
     ·have HC1:Hid (CW=[aB,xG 99 x.toNat]):=by have:=HC.out;rw[tb (by omega),tb (by omega),tl hk]at this;exact this
      subst hk;subst hx;rw[Int.toNat_natCast]at HC1;have hd4:=HL4.out d hd;have HI:=zA (dZ wc 99 d (by omega));rw[show ((99:UInt8).toNat:Int)=99 from rfl]at HI;generalize xG 99 d=iw at *;go_wp2_with fail
      refine HI.out.mono ?_;rintro e w5 ⟨rfl,hb5⟩;have HS5:=zA (HS2.out.below hb5);have hsz5:=zJ HS5.out.box;clear hb5 HI
      go_wp2_with (at_builtin;refine wpList_append_own _ rfl _ _ 70 rfl (w.heap.size+1) 9 i0 _ 1 16 Tryz.underlying70 hi0 hz0 hz1 hz2 rfl (by decide) _ _ _ rfl (HS5.out.own.alloc _) ⟨w5.heap.size,0,none⟩ 2 2 [.string ⟨#[104,97,115]⟩,.string ⟨iw.toArray⟩] rfl rfl ?c5k1 ?c5k2 ?c5k3 ?c5k4 ?c5k5 ?_)
      try (case c5k1=>exact zM _ _ _ _ rfl)
      try (case c5k2=>first|rfl|exact⟨rfl,rfl⟩|exact⟨rfl,rfl,rfl⟩|(intro u hu;simp at hu;rcases hu with rfl|rfl <;> rfl))
      try (case c5k3=>unfold maxLen;omega)
      try (case c5k4=>omega)
      try (case c5k5=>first|omega|(simp;omega))
      intro v6 w6 zL0 zKY _;have HS6:Hid (K2 w w6 (.cells #[.bool o1,.bool o2,.bool o3,.int .i64 2,.int .i64 (d:Int),.int .i64 y,.int .i64 mk,.int .i64 n] 87 (0,0)) v6 (ws2++[aB,iw])):=HS5.out.app (gb (j1 _) _) zKY zL0;clear zL0 zKY;go_wp2_with fail
      go_meet
      exact⟨_,by rw[HC1.out];exact zA rfl,zA (by simp;omega),HS6⟩
     ·obtain⟨xn,rfl⟩:=cb x1
      obtain⟨yn,rfl⟩:=cb y1;obtain⟨mn,rfl⟩:=cb m1;rcases hk with hk|hk
      ·subst hk
       have HC1:Hid (CW=[yD xn,sE mn,Lib.itoa n]):=by
        have:=HC.out;rw[tb (by omega),tb (by omega),tb (by omega),tl rfl,Int.toNat_natCast,Int.toNat_natCast]at this;exact this
       have HI1:=zA (fun w'=>dD w' xn (by omega));have HM1:=zA (fun w'=>DD w' mn (by omega));have HN1:=zA (fun w' (hT:rL w')=>wC w' n n1 n2 hT);generalize Lib.itoa n=iw3 at *;generalize yD xn=iw1 at *;generalize sE mn=iw2 at *
       go_upto_region 15 with fail
       go_region_law (first
        | (refine step_append_lies _ (by rfl) _ _ _ (by rfl) (w.heap.size+1) 9 i0 _ 1 16 Tryz.underlying70 hi0 hz0 hz1 hz2 rfl (by decide) _ ws2.length (vE ws2) (by rfl) (hS7.own.alloc _) ⟨w7.heap.size,0,none⟩ 3 3 [.string ⟨iw1.toArray⟩,.string ⟨iw2.toArray⟩,.string ⟨iw3.toArray⟩] (by rfl) (by rfl) (zM _ _ _ _ rfl) (by simp[Value.oneCell']) (by decide) (by unfold maxLen;omega) (by omega) (by simp;omega) (w7.heap.size+1) (by simp) ?_;intro gg cap w9 hown9 hgrow9 hat9 hlt9;have hS9:K2 w w9 (.cells #[.bool o1,.bool o2,.bool o3,.int .i64 3,.int .i64 (xn:Int),.int .i64 (yn:Int),.int .i64 (mn:Int),.int .i64 n] 87 (0,0)) (.slice (some ⟨gg,0,none⟩) (ws2.length+3) cap) (ws2++[iw1,iw2,iw3]):=hS7.app (gb (j1 _) _) hgrow9 hown9)
        | (go_simp;go_at_call 44;refine(HI1.out _).mono ?_;rintro e w5 ⟨rfl,hb5⟩;have hS5:=HS2.out.below ((pj (tg _ _)).trans hb5);have d4:w5.cell? ⟨w.heap.size,4,none⟩=some (.int .i64 (xn:Int)):=zB hS5.box 4;have d5:w5.cell? ⟨w.heap.size,5,none⟩=some (.int .i64 (yn:Int)):=zB hS5.box 5;have d6:w5.cell? ⟨w.heap.size,6,none⟩=some (.int .i64 (mn:Int)):=zB hS5.box 6;have d7:w5.cell? ⟨w.heap.size,7,none⟩=some (.int .i64 n):=zB hS5.box 7;show _)
        | (go_simp;go_at_call 135;refine(HM1.out _).mono ?_;rintro e w6 ⟨rfl,hb6⟩;have hS6:=hS5.below hb6;have d4:w6.cell? ⟨w.heap.size,4,none⟩=some (.int .i64 (xn:Int)):=zB hS6.box 4;have d5:w6.cell? ⟨w.heap.size,5,none⟩=some (.int .i64 (yn:Int)):=zB hS6.box 5;have d6:w6.cell? ⟨w.heap.size,6,none⟩=some (.int .i64 (mn:Int)):=zB hS6.box 6;have d7:w6.cell? ⟨w.heap.size,7,none⟩=some (.int .i64 n):=zB hS6.box 7;show _)
        | (go_simp;go_at_call 45;refine(HN1.out _ (HTb.out _ hS6.bel)).mono ?_;rintro e w7 ⟨rfl,hb7⟩;have hS7:=hS6.below hb7;have d4:w7.cell? ⟨w.heap.size,4,none⟩=some (.int .i64 (xn:Int)):=zB hS7.box 4;have d5:w7.cell? ⟨w.heap.size,5,none⟩=some (.int .i64 (yn:Int)):=zB hS7.box 5;have d6:w7.cell? ⟨w.heap.size,6,none⟩=some (.int .i64 (mn:Int)):=zB hS7.box 6;have d7:w7.cell? ⟨w.heap.size,7,none⟩=some (.int .i64 n):=zB hS7.box 7;have l7:=zJ hS7.box;show _))
       all_goals
        have HS9:=zA hS9;clear hS9 hown9 hgrow9 hS7 hS6 hS5;go_wp2_with fail
        go_meet
        exact⟨_,by rw[HC1.out];exact zA rfl,zA (by simp;omega),HS9⟩
      ·subst hk
       have HC1:Hid (CW=[yD xn,sE mn,yD yn]):=by
        have:=HC.out;rw[tb (by omega),tb (by omega),tb (by omega),tb (by omega),Int.toNat_natCast,Int.toNat_natCast,Int.toNat_natCast]at this;exact this
       have HI1:=zA (fun w'=>dD w' xn (by omega));have HM1:=zA (fun w'=>DD w' mn (by omega));have HN1:=zA (fun w'=>dD w' yn (by omega));generalize yD yn=iw3 at *;generalize yD xn=iw1 at *;generalize sE mn=iw2 at *
       go_upto_region 7 with fail
       go_region_law (first
        | (refine step_append_lies _ (by rfl) _ _ _ (by rfl) (w.heap.size+1) 9 i0 _ 1 16 Tryz.underlying70 hi0 hz0 hz1 hz2 rfl (by decide) _ ws2.length (vE ws2) (by rfl) (hS7.own.alloc _) ⟨w7.heap.size,0,none⟩ 3 3 [.string ⟨iw1.toArray⟩,.string ⟨iw2.toArray⟩,.string ⟨iw3.toArray⟩] (by rfl) (by rfl) (zM _ _ _ _ rfl) (by simp[Value.oneCell']) (by decide) (by unfold maxLen;omega) (by omega) (by simp;omega) (w7.heap.size+1) (by simp) ?_;intro gg cap w9 hown9 hgrow9 hat9 hlt9;have hS9:K2 w w9 (.cells #[.bool o1,.bool o2,.bool o3,.int .i64 4,.int .i64 (xn:Int),.int .i64 (yn:Int),.int .i64 (mn:Int),.int .i64 n] 87 (0,0)) (.slice (some ⟨gg,0,none⟩) (ws2.length+3) cap) (ws2++[iw1,iw2,iw3]):=hS7.app (gb (j1 _) _) hgrow9 hown9)
        | (go_simp;go_at_call_of 44 (Value.int .i64 (xn:Int));refine(HI1.out _).mono ?_;rintro e w5 ⟨rfl,hb5⟩;have hS5:=HS2.out.below ((pj (tg _ _)).trans hb5);have d4:w5.cell? ⟨w.heap.size,4,none⟩=some (.int .i64 (xn:Int)):=zB hS5.box 4;have d5:w5.cell? ⟨w.heap.size,5,none⟩=some (.int .i64 (yn:Int)):=zB hS5.box 5;have d6:w5.cell? ⟨w.heap.size,6,none⟩=some (.int .i64 (mn:Int)):=zB hS5.box 6;have d7:w5.cell? ⟨w.heap.size,7,none⟩=some (.int .i64 n):=zB hS5.box 7;show _)
        | (go_simp;go_at_call 135;refine(HM1.out _).mono ?_;rintro e w6 ⟨rfl,hb6⟩;have hS6:=hS5.below hb6;have d4:w6.cell? ⟨w.heap.size,4,none⟩=some (.int .i64 (xn:Int)):=zB hS6.box 4;have d5:w6.cell? ⟨w.heap.size,5,none⟩=some (.int .i64 (yn:Int)):=zB hS6.box 5;have d6:w6.cell? ⟨w.heap.size,6,none⟩=some (.int .i64 (mn:Int)):=zB hS6.box 6;have d7:w6.cell? ⟨w.heap.size,7,none⟩=some (.int .i64 n):=zB hS6.box 7;show _)
        | (go_simp;go_at_call_of 44 (Value.int .i64 (yn:Int));refine(HN1.out _).mono ?_;rintro e w7 ⟨rfl,hb7⟩;have hS7:=hS6.below hb7;have d4:w7.cell? ⟨w.heap.size,4,none⟩=some (.int .i64 (xn:Int)):=zB hS7.box 4;have d5:w7.cell? ⟨w.heap.size,5,none⟩=some (.int .i64 (yn:Int)):=zB hS7.box 5;have d6:w7.cell? ⟨w.heap.size,6,none⟩=some (.int .i64 (mn:Int)):=zB hS7.box 6;have d7:w7.cell? ⟨w.heap.size,7,none⟩=some (.int .i64 n):=zB hS7.box 7;have l7:=zJ hS7.box;show _))
       all_goals
        have HS9:=zA hS9;clear hS9 hown9 hgrow9 hS7 hS6 hS5;go_wp2_with fail
        go_meet
        exact⟨_,by rw[HC1.out];exact zA rfl,zA (by simp;omega),HS9⟩
    case rest =>
     clear c3 c4 c5 c6 c7 HS2 hl2 zL8;obtain⟨ws3,HE3,HL3,HS3⟩:=hcut;obtain⟨oa3,oc3,rfl⟩:=zP HS3.out.own;have hl3:=HL3.out;have zL8:=zJ HS3.out.box;have c2:wc.cell? ⟨w.heap.size,2,none⟩=some (.bool o3):=zB HS3.out.box 2
     have HTW:Hid (TW=ws3++if lp=true then [[41]] else []):=by
      unfold Hid;rw[HW.out,HE3.out,HE2.out,HE1.out]
     clear HW HE3 HE2 HE1 HC zLM;have hlo:=HLo.out
     go_upto_region 16 with fail
     go_cut [5,72] from 6 to 75 (fun v5 v15 wx=>v5=.slice oa3 ws3.length oc3/\v15=.bool lp/\wx=wc)
     case first =>
      cases lo
      ·have HLp:Hid (lp=false):=hlo.symm
       clear hlo;go_wp2_with fail
       go_meet
       exact⟨rfl,by rw[HLp.out],rfl⟩
      ·have HLp:Hid (o3=lp):=hlo
       clear hlo;go_wp2_with fail
       go_meet
       exact⟨rfl,by rw[HLp.out],rfl⟩
     case rest =>
      clear hlo;obtain⟨rfl,rfl,rfl⟩:=hcut;cases lp
      ·have HQ:Hid (wc.ownsRow w.heap.size 9 1 (.slice oa3 ws3.length oc3) TW.length (vE TW)):=by
        unfold Hid;rw[HTW.out,tb (by simp),mt];exact yT HS3.out.own (mw _)
       go_wp2_with fail
       go_ret
       exact⟨_,rfl,HQ.out,HS3.out.bel⟩
      ·go_wp2_with (at_builtin;refine wpList_append_own _ rfl _ _ 70 rfl (w.heap.size+1) 9 i0 _ 1 16 Tryz.underlying70 hi0 hz0 hz1 hz2 rfl (by decide) _ _ _ rfl (HS3.out.own.alloc _) ⟨wc.heap.size,0,none⟩ 1 1 [.string ⟨#[41]⟩] rfl rfl ?c6k1 ?c6k2 ?c6k3 ?c6k4 ?c6k5 ?_)
       try (case c6k1=>exact zM _ _ _ _ rfl)
       try (case c6k2=>first|rfl|exact⟨rfl,rfl⟩|exact⟨rfl,rfl,rfl⟩|(intro u hu;simp at hu;rcases hu with rfl <;> rfl))
       try (case c6k3=>unfold maxLen;omega)
       try (case c6k4=>omega)
       try (case c6k5=>first|omega|(simp;omega))
       intro v6 w6 zL0 zKY _;have HS6:Hid (K2 w w6 (.cells #[.bool o1,.bool o2,.bool o3,.int .i64 k,.int .i64 x,.int .i64 y,.int .i64 mk,.int .i64 n] 87 (0,0)) v6 (ws3++[[41]])):=HS3.out.app (gb (j1 _) _) zKY zL0
       have HQ:Hid (w6.ownsRow w.heap.size 9 1 v6 TW.length (vE TW)):=by
        have e:TW=ws3++[[41]]:=HTW.out.trans (by simp);unfold Hid;rw[e];exact yT HS6.out.own (mw _)
       have HB6:=zA HS6.out.bel;clear zL0 zKY;go_wp2_with fail
       go_ret
       exact⟨_,rfl,HQ.out,HB6.out⟩
end Go.Proofs.YtnbpdffdnphbeabGreatDoor
