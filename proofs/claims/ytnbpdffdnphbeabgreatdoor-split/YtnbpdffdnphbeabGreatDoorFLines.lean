import Derived.Test.YtnbpdffdnphbeabGreatDoorFSumW
import Derived.Test.YtnbpdffdnphbeabGreatDoorFBuild
import Derived.Lib.ItoaLen
set_option maxHeartbeats 3000000
set_option maxRecDepth 100000
namespace Go.Proofs.YtnbpdffdnphbeabGreatDoor
open Go.RowKit
variable{b a:List Bs}{w:World}(M:yC)(i:Nat)
def oW:xP:=⟨0,false,[],[]⟩
def gE(M:yC)(i:Nat):List Bs:=if i<3 then [[110,117,109],yD i,Lib.itoa (M.lo i),[46,46],Lib.itoa (M.hi i),[59]] else [[102,108,97,103],yD i,[59]]
def Yc(i j:Nat):List Bs:=[[111,118,101,114],xG 114 i,xG 114 j,[59]]
def tD(M:yC)(i j:Nat):List (List Bs):=(List.range j).flatMap fun k=>if M.over i k=true then [Yc i k] else []
def vI(M:yC)(lo:Bool):List (List Bs):=(List.range 5).map (gE M)++(List.range M.rules.length).map (fun i=>cM (M.rules.getD i oW) i lo)++(List.range M.rules.length).flatMap fun i=>tD M i M.rules.length
theorem gM.below{w':World}{g:Nat}{M:yC}(h:gM w g M)(hb:Below w.heap.size w w'):gM w' g M:=by
 obtain⟨ra,ha,rc,hc,xs,h1,h2,h3,h4,h5⟩:=h.mem;exact⟨ra,ha,rc,hc,xs,h1,h2.below hb,h3.below hb,fun x hx=>(h4 x hx).below hb,h5.below hb⟩
theorem Gq:(Tryz.prog.info? 70).map (fun i=>(i.zero,i.size,i.bytes))=some (some (.slice none 0 0),1,24):=by kernel_rfl
structure Qj(w wx:World)(v:Value)(L:List (List Bs))(vs:List Value):Prop where
 own:wx.ownsRow w.heap.size 70 1 v L.length vs
 ins:jV wx vs L
 bel:Below w.heap.size w wx
theorem Qj.below{wx w':World}{v:Value}{L:List (List Bs)}{vs:List Value}(h:Qj w wx v L vs)(hb:Below wx.heap.size wx w'):Qj w w' v L vs:=⟨uV h.own hb,h.ins.below hb,h.bel.trans (hb.mono h.bel.size)⟩
theorem Qj.app{wx wz w9:World}{v v9 lv:Value}{L:List (List Bs)}{vs:List Value}{l:List Bs}(h:Qj w wx v L vs)(hz:Below wx.heap.size wx wz)(hl:U7 wz lv l)(hg:wz.grownBy w9 v.ownBlock)(zL1:w9.ownsRow w.heap.size 70 1 v9 (L.length+1) (vs++[lv])):Qj w w9 v9 (L++[l]) (vs++[lv]):=by
 have hZ:=h.below hz;refine⟨by rw[tm];exact zL1,jV.snoc (hl.grown hZ.own hg) (hZ.ins.grown hZ.own hg),hZ.bel.grown hg hZ.bel.size (zU hZ.own)⟩
theorem BH(w:World)(cs:Array Value)(ws:List Bs)(h:cs.toList=vE ws):U7 (w.alloc (.cells cs 9)) (.slice (some ⟨w.heap.size,0,none⟩) ws.length ws.length) ws :=
 ⟨_,_,rfl,.inr ⟨w.heap.size,cs,_,rfl,zG _ _,fun j _=>by rw[<-h,du]⟩⟩
theorem gM.rule{g:Nat}{M:yC}(h:gM w g M){i:Nat}(hi:i<M.rules.length):∃gr rc pa pc qa qc,w.cell? ⟨g,6,none⟩=some (.slice (some ⟨gr,0,none⟩) M.rules.length rc)/\(w.cell? ⟨gr,i*4,none⟩=some (.int .i64 ((M.rules.getD i oW).head:Int))/\w.cell? ⟨gr,i*4+1,none⟩=some (.bool (M.rules.getD i oW).whole)/\w.cell? ⟨gr,i*4+2,none⟩=some (.slice pa (M.rules.getD i oW).parts.length pc)/\w.cell? ⟨gr,i*4+3,none⟩=some (.slice qa (M.rules.getD i oW).tests.length qc))/\yZ w 89 pa ((M.rules.getD i oW).parts.flatMap nY)/\yZ w 87 qa ((M.rules.getD i oW).tests.flatMap mT):=by
 obtain⟨ra,ha,rc,hc,xs,h1,h2,h3,h4,-⟩:=h.mem;have hl:i<xs.length:=by rw[<-h1,pi]at hi;exact hi
 have he:(xs.getD i (oW,.slice none 0 0,.slice none 0 0)).1=M.rules.getD i oW:=by rw[<-h1];simp[List.getD,hl]
 have hm:xs.getD i (oW,.slice none 0 0,.slice none 0 0)∈xs:=by simp[List.getD,hl]
 have hv:=h4 _ hm;have hf:=fun r hr=>zN Cb 4 (fun _=>rfl) (oW,Value.slice none 0 0,Value.slice none 0 0) xs i r hl hr;generalize xs.getD i (oW,.slice none 0 0,.slice none 0 0)=x at *;obtain⟨x1,x2,x3⟩:=x;simp only at he;subst he;obtain⟨pa,pc,e1,q1⟩:=hv.parts;obtain⟨qa,qc,e2,q2⟩:=hv.tests;simp only at e1 e2 q1 q2;subst e1 e2;obtain⟨gr,e0,c0⟩:=h3.cel.at ((hf 0 (by decide)).trans rfl);subst e0
 have tt:∀(r:Nat) (u:Value),r<4->(Cb (M.rules.getD i oW,.slice pa (M.rules.getD i oW).parts.length pc,.slice qa (M.rules.getD i oW).tests.length qc))[r]? = some u->w.cell? ⟨gr,i*4+r,none⟩=some u:=fun r u hr hu=>by
  obtain⟨g',e',c'⟩:=h3.cel.at ((hf r hr).trans hu);obtain rfl:gr=g':=by simpa using e'
  exact c'
 exact⟨gr,rc,pa,pc,qa,qc,h2.cells.2.2.1,⟨c0,tt 1 _ (by decide) rfl,tt 2 _ (by decide) rfl,tt 3 _ (by decide) rfl⟩,q1,q2⟩
theorem iN{H:List Nat}{h d:Nat}(hd:d∈xC H h):d<h:=by
 unfold xC at hd;exact py.1 (mj.1 hd).1
theorem Jc(j:Nat):tD M i (j+1)=tD M i j++if M.over i j=true then [Yc i j] else []:=by unfold tD;rw[lq,lu];simp
theorem VL:∀j,(tD M i j).length<=j:=by
 intro j
 induction j with
 | zero=>simp[tD]
 | succ j ih=>rw[Jc,tm];have:((if M.over i j=true then [Yc i j] else []):List (List Bs)).length<=1:=by split <;> simp
              omega
theorem Jd(n i:Nat):((List.range (i+1)).flatMap fun i=>tD M i n)=((List.range i).flatMap fun i=>tD M i n)++tD M i n:=by rw[lq,lu];simp
theorem VM(n:Nat):∀i,((List.range i).flatMap fun i=>tD M i n).length<=n*i:=by
 intro i
 induction i with
 | zero=>simp
 | succ i ih=>rw[Jd,tm];have:=VL M i n;rw[Nat.mul_succ];omega
theorem oP{α:Type}(f:Nat->α)(i:Nat):(List.range (i+1)).map f=(List.range i).map f++[f i]:=by rw[lq,bi];rfl
theorem zAO(w:World)(g:Nat)(M:yC)(lo:Bool)(hM:gM w g M)(hO:yI M)(hT:rL w) :
 Calls Tryz.prog 21 #[.pointer (some ⟨g,0,none⟩),.bool lo] w fun e w'=>∃v vs,e=.returned v/\Qj w w' v (vI M lo) vs:=by
 obtain⟨i0,hi0,hz0,hz1,hz2⟩:=info_parts Gq;have HTb:=zA (fun w' (hb:Below w.heap.size w w')=>hT.below hb);have HMv:=zA (fun w' (hb:Below w.heap.size w w')=>hM.below hb);have HNu:=zA hO.nums;have hn8:=hO.few;have HOr:=zA hO.rules;have HLW:Hid (vI M lo=(List.range 5).map (gE M)++(List.range M.rules.length).map (fun i=>cM (M.rules.getD i oW) i lo)++(List.range M.rules.length).flatMap fun i=>tD M i M.rules.length):=rfl;have HIl:Hid (∀i,gE M i=if i<3 then [[110,117,109],yD i,Lib.itoa (M.lo i),[46,46],Lib.itoa (M.hi i),[59]] else [[102,108,97,103],yD i,[59]]):=fun _=>rfl;generalize vI M lo=TL at *;clear hM hO hT
 go_enter Tryz.func21,Tryz.ntmps21
 go_wp2_with fail
 go_loopw [5,6] (fun ov iv wr=>∃(i:Nat) (vs:List Value),i<=5/\iv=.int .i64 (i:Int)/\Hid (Qj w wr ov ((List.range i).map (gE M)) vs)) (fun _ iv _=>5-(intOf iv).toNat)
 case atStart=>exact⟨0,[],p7 _,rfl,zA ⟨ly _ _ _ _,trivial,tg _ _⟩⟩
 case round =>
  obtain⟨i,vs,hi,rfl,HS⟩:=hrel;obtain⟨oa,oc,rfl⟩:=zP HS.out.own;by_cases zKZ:i<5
  ·have ii:(i:Int)<5:=by omega
   have zLS:=zA (fun w'=>dD w' i zKZ);have HIi:=zA (HIl.out i);have HE:=zA (oP (gE M) i);generalize yD i=iw at *;generalize gE M i=il at *;have zL6:((List.range i).map (gE M)).length<=5:=by simp;omega
   generalize (List.range i).map (gE M)=L0 at *;have zL8:=HS.out.bel.size;go_wp2_with fail
   refine(zLS.out _).mono ?_;rintro e w5 ⟨rfl,hb5⟩;have HB5:=zA hb5;have HSz5:=zA hb5.size;clear hb5
   go_upto_if 21 with fail
   go_cut [7] from 13 to 42 (fun v7 wx=>Hid (U7 wx v7 il)/\Hid (Below wr.heap.size wr wx))
   case first =>
    by_cases k3:i<3
    ·have k4:(i:Int)<3:=by omega
     have HI3:Hid (il=[[110,117,109],iw,Lib.itoa (M.lo i),[46,46],Lib.itoa (M.hi i),[59]]):=HIi.out.trans (tl k3);have hnb:=HNu.out i k3
     have HMc:=zA (fun w' (hb:Below wr.heap.size wr w')=>(show w'.cell? ⟨g,i,none⟩=some (.int .i64 (M.lo i))/\w'.cell? ⟨g,3+i,none⟩=some (.int .i64 (M.hi i)) by
      obtain⟨_,_,_,_,_,-,h2,-⟩:=(HMv.out w' (HS.out.bel.trans (hb.mono HS.out.bel.size))).mem;exact⟨h2.cells.1 i k3,h2.cells.2.1 i k3⟩))
     have HA:=zA (fun w' ht=>wC w' (M.lo i) (by omega) (by omega) ht);have HBb:=zA (fun w' ht=>wC w' (M.hi i) (by omega) (by omega) ht);have HTr:=zA (fun w' (hb:Below wr.heap.size wr w')=>HTb.out w' (HS.out.bel.trans (hb.mono HS.out.bel.size)));have HBW:Hid (Below wr.heap.size wr (w5.alloc (.cells #[.string ⟨#[102,108,97,103]⟩,.string ⟨iw.toArray⟩,.string ⟨#[59]⟩] 9))):=HB5.out.alloc HSz5.out _;generalize Lib.itoa (M.lo i)=s1 at *;generalize Lib.itoa (M.hi i)=s2 at *;generalize M.lo i=a at *;generalize M.hi i=b at *;clear hnb k3 HIi
     go_upto_region 7 with fail
     generalize w5.alloc (.cells #[.string ⟨#[102,108,97,103]⟩,.string ⟨iw.toArray⟩,.string ⟨#[59]⟩] 9)=W at *;obtain⟨p1,p2⟩:=HMc.out W HBW.out;have lgW:=yQ p1
     go_region_held3 (fun w'=>w'.cell? ⟨g,i,none⟩=some (.int .i64 a)/\w'.cell? ⟨g,3+i,none⟩=some (.int .i64 b)) (go_keep) (first
      | (go_at_call 44;refine(zLS.out _).mono ?_;rintro e w7 ⟨rfl,hb7⟩;have hB7:Below wr.heap.size wr w7:=HBW.out.trans (((pj (tg _ _)).trans hb7).mono HBW.out.size);obtain⟨p1,p2⟩:=HMc.out w7 hB7)
      | (go_at_call_of 45 (Value.int .i64 a);refine(HA.out _ (HTr.out _ hB7)).mono ?_;rintro e w8 ⟨rfl,hb8⟩;have hB8:Below wr.heap.size wr w8:=hB7.trans (hb8.mono hB7.size);obtain⟨p1,p2⟩:=HMc.out w8 hB8)
      | (go_at_call_of 45 (Value.int .i64 b);refine(HBb.out _ (HTr.out _ hB8)).mono ?_;rintro e w9 ⟨rfl,hb9⟩;have hB9:Below wr.heap.size wr w9:=hB8.trans (hb9.mono hB8.size);obtain⟨p1,p2⟩:=HMc.out w9 hB9;have n9:w9.heap.size≠g:=by have:=yQ p1;omega))
     all_goals
      have HB9:=zA hB9;clear hB9 hB8 hB7;go_wp2_with fail
      go_meet
      exact⟨by rw[HI3.out];exact zA (BH w9 _ [[110,117,109],iw,s1,[46,46],s2,[59]] rfl),zA (HB9.out.alloc HB9.out.size _)⟩
    ·have k4:¬(i:Int)<3:=by omega
     have HI3:Hid (il=[[102,108,97,103],iw,[59]]):=HIi.out.trans (tb k3);go_wp2_with fail
     go_meet
     exact⟨by rw[HI3.out];exact zA (BH w5 _ [[102,108,97,103],iw,[59]] rfl),zA (HB5.out.alloc HSz5.out _)⟩
   case rest =>
    obtain⟨HI7,HB7⟩:=hcut;obtain⟨la,lc,rfl,-⟩:=HI7.out;have HS7:=zA (HS.out.below HB7.out);have hsz7:=HS7.out.bel.size
    go_wp2_with (at_builtin;refine wpList_append_own _ rfl _ _ 57 rfl w.heap.size 70 i0 _ 1 24 Tryz.underlying57 hi0 hz0 hz1 hz2 rfl (by decide) _ _ _ rfl (HS7.out.own.alloc _) ⟨wc.heap.size,0,none⟩ 1 1 [.slice la il.length lc] rfl rfl ?c1k1 ?c1k2 ?c1k3 ?c1k4 ?c1k5 ?_)
    try (case c1k1=>exact zM _ _ _ _ rfl)
    try (case c1k2=>first|rfl|(intro u hu;simp at hu;rcases hu with rfl;rfl))
    try (case c1k3=>unfold maxLen;omega)
    try (case c1k4=>omega)
    try (case c1k5=>first|omega|(simp;omega))
    intro v6 w6 zL0 zKY _;have HS6:Hid (Qj w w6 v6 (L0++[il]) (vs++[.slice la il.length lc])):=HS7.out.app (gb (j1 _) _) (HI7.out.below (gb (j1 _) _)) zKY zL0;clear zL0 zKY;have Z:Hid (Qj w w6 v6 ((List.range (i+1)).map (gE M)) (vs++[.slice la il.length lc])):=by unfold Hid;rw[HE.out];exact HS6.out
    clear HS6 HS7 HS;go_wp2_with fail
    go_roundw
    case rel=>exact⟨i+1,_,by omega,by go_num,Z⟩
    case measure=>simp[intOf];omega
  ·have c9:¬(i:Int)<5:=by omega
   obtain⟨L5,hL5⟩:∃L5,L5=(List.range 5).map (gE M):=⟨_,rfl⟩
   have HS5:Hid (Qj w wr (.slice oa i oc) L5 vs):=by
    have h1:=HS.out;rw[show ((List.range i).map (gE M)).length=i by simp]at h1;unfold Hid;rw[hL5,show (5:Nat)=i by omega];exact h1
   have hl5:L5.length<=5:=by rw[hL5];simp
   rw[<-hL5]at HLW;clear HS zKZ hi hL5 HIl;obtain⟨RW,hRW⟩:∃RW:Nat->List Bs,RW=fun i=>cM (M.rules.getD i oW) i lo:=⟨_,rfl⟩;have HRW:Hid (∀i,RW i=cM (M.rules.getD i oW) i lo):=fun i=>by rw[hRW]
   rw[<-hRW]at HLW;clear hRW
   have HD6:=zA (fun w' (hb:Below w.heap.size w w')=>(show ∃ra rc,w'.cell? ⟨g,6,none⟩=some (.slice ra M.rules.length rc) by
    obtain⟨ra,_,rc,_,_,-,h2,-⟩:=(HMv.out w' hb).mem;exact⟨ra,rc,h2.cells.2.2.1⟩))
   generalize hnn:M.rules.length=n at *;have HNn:=zA hnn;clear hnn;go_wp2_with fail
   go_loopw [5,8] (fun ov iv wr=>∃(k:Nat) (vs:List Value),k<=n/\iv=.int .i64 (k:Int)/\Hid (Qj w wr ov (L5++(List.range k).map RW) vs)) (fun _ iv _=>n-(intOf iv).toNat)
   case atStart=>exact⟨0,vs,p7 _,rfl,by rw[show L5++(List.range 0).map RW=L5 from mt _];exact HS5⟩
   case round =>
    clear HS5;obtain⟨k,vs2,hk,rfl,HS⟩:=hrel;obtain⟨oa2,oc2,rfl⟩:=zP HS.out.own;by_cases hltk:k<n
    ·have kk:(k:Int)<(n:Int):=by omega
     have hkr:k<M.rules.length:=by rw[HNn.out];exact hltk
     obtain⟨gr,rc,pa,pc,qa,qc,d6,⟨e0,e1,e2,e3⟩,hcp,hcq⟩:=(HMv.out wr HS.out.bel).rule hkr;rw[HNn.out]at d6;have zLC:=HOr.out (M.rules.getD k oW) (by simp[List.getD,hkr]);have HRk:=zA (HRW.out k);have HE:=zA (oP RW k);generalize M.rules.getD k oW=r at *;obtain⟨h,wh,ps,ts⟩:=r;simp only at e0 e1 e2 e3 hcp hcq;have HRu:=zA (zAM wr h k wh lo pa qa pc qc ps ts (xC M.heads h) zLC.head (by omega) zLC.parts zLC.tests (fun d hd=>by have:=iN hd;have:=zLC.head;simp only at this;omega) hcp hcq (HTb.out wr HS.out.bel));have hp4:ps.length<=4:=zLC.parts.2.1;have ht6:ts.length<=6:=zLC.tests.2.1;have zL6:(L5++(List.range k).map RW).length<=20:=by rw[tm,pi,List.length_range];omega
     generalize hL0:L5++(List.range k).map RW=L0 at *;have HL0:=zA hL0;clear hL0;generalize cM ⟨h,wh,ps,ts⟩ k lo=rl at *;clear zLC hcp hcq hkr;go_wp2_with fail
     refine HRu.out.mono ?_;rintro e w7 ⟨v7,rfl,ho7,hb7⟩;obtain⟨la,lc,rfl,hlv⟩:=vR ho7;have HI7:Hid (U7 w7 (.slice la rl.length lc) rl):=⟨la,lc,rfl,hlv⟩;have HS7:=zA (HS.out.below hb7);have hsz7:=HS7.out.bel.size;clear ho7 hb7 hlv e0 e1 e2 e3 d6 HRu
     go_wp2_with (at_builtin;refine wpList_append_own _ rfl _ _ 57 rfl w.heap.size 70 i0 _ 1 24 Tryz.underlying57 hi0 hz0 hz1 hz2 rfl (by decide) _ _ _ rfl (HS7.out.own.alloc _) ⟨w7.heap.size,0,none⟩ 1 1 [.slice la rl.length lc] rfl rfl ?c2k1 ?c2k2 ?c2k3 ?c2k4 ?c2k5 ?_)
     try (case c2k1=>exact zM _ _ _ _ rfl)
     try (case c2k2=>first|rfl|(intro u hu;simp at hu;rcases hu with rfl;rfl))
     try (case c2k3=>unfold maxLen;omega)
     try (case c2k4=>omega)
     try (case c2k5=>first|omega|(simp;omega))
     intro v6 w6 zL0 zKY _;have HS6:Hid (Qj w w6 v6 (L0++[rl]) (vs2++[.slice la rl.length lc])):=HS7.out.app (gb (j1 _) _) (HI7.out.below (gb (j1 _) _)) zKY zL0;clear zL0 zKY;have Z:Hid (Qj w w6 v6 (L5++(List.range (k+1)).map RW) (vs2++[.slice la rl.length lc])):=by unfold Hid;rw[HE.out,HRk.out,<-pt,HL0.out];exact HS6.out
     clear HS6 HS7 HS;go_wp2_with fail
     go_roundw
     case rel=>exact⟨k+1,_,by omega,by go_num,Z⟩
     case measure=>simp[intOf];omega
    ·obtain rfl:n=k:=by omega
     have kk:¬(n:Int)<(n:Int):=by omega
     obtain⟨ra,rc,d6⟩:=HD6.out wr HS.out.bel;obtain⟨LB,hLB⟩:∃LB,LB=L5++(List.range n).map RW:=⟨_,rfl⟩;have hlB:LB.length<=13:=by rw[hLB,tm,pi,List.length_range];omega
     have HS2:Hid (Qj w wr (.slice oa2 (L5.length+n) oc2) LB vs2):=by
      have h1:=HS.out;rw[show (L5++(List.range n).map RW).length=L5.length+n by simp,<-hLB]at h1;exact h1
     rw[<-hLB]at HLW;clear hLB HRW;clear HS hltk hk;obtain⟨FA,hFA⟩:∃FA:Nat->List (List Bs),FA=fun m=>(List.range m).flatMap fun i=>tD M i n:=⟨_,rfl⟩;have HFs:Hid (∀m,FA (m+1)=FA m++tD M m n):=fun m=>by rw[hFA];exact Jd M n m
     have HFl:Hid (∀m,(FA m).length<=n*m):=fun m=>by rw[hFA];exact VM M n m
     have HF0:Hid (FA 0=[]):=by unfold Hid;rw[hFA];rfl
     have HTL:Hid (TL=LB++FA n):=by unfold Hid;rw[HLW.out,hFA]
     clear hFA HLW;go_wp2_with fail
     go_loopw [5,10] (fun ov iv wr=>∃(m:Nat) (vs:List Value),m<=n/\iv=.int .i64 (m:Int)/\Hid (Qj w wr ov (LB++FA m) vs)) (fun _ iv _=>n-(intOf iv).toNat)
     case atStart=>exact⟨0,vs2,p7 _,rfl,by rw[HF0.out,mt];exact HS2⟩
     case round =>
      clear HS2 d6;obtain⟨m,vs3,hm,rfl,HS⟩:=hrel;obtain⟨oa3,oc3,rfl⟩:=zP HS.out.own;obtain⟨ra,rc,d6⟩:=HD6.out wr HS.out.bel;by_cases hltm:m<n
      ·have mm:(m:Int)<(n:Int):=by omega
       have hm8:m<8:=by omega
       have HFm:=zA (HFs.out m);have hflm:=HFl.out m;have hbig:n*m<=64:=p8 (Nat.mul_le_mul hn8 (ph hm8)) (by decide);have HO0:Hid (tD M m 0=[]):=rfl;have HOs:=zA (Jc M m);have HOl:=zA (VL M m);have hlC:(LB++FA m).length<=77:=by rw[tm];omega
       generalize hLC:LB++FA m=LC at *;have HLC:=zA hLC;clear hLC;go_wp2_with fail
       go_loopw [5,11] (fun ov iv wr=>∃(j:Nat) (vs:List Value),j<=n/\iv=.int .i64 (j:Int)/\Hid (Qj w wr ov (LC++tD M m j) vs)) (fun _ iv _=>n-(intOf iv).toNat)
       case atStart=>exact⟨0,vs3,p7 _,rfl,by rw[HO0.out,mt];exact HS⟩
       case round =>
        clear HS d6;obtain⟨j,vs4,hj,rfl,HS⟩:=hrel;obtain⟨oa4,oc4,rfl⟩:=zP HS.out.own;obtain⟨ra,rc,d6⟩:=HD6.out wr HS.out.bel;by_cases hltj:j<n
        ·have jj:(j:Int)<(n:Int):=by omega
         have hj8:j<8:=by omega
         have m8:(m:Int)<8:=by omega
         have j8:(j:Int)<8:=by omega
         have do9:wr.cell? ⟨g,7+m*8+j,none⟩=some (.bool (M.over m j)):=by
          obtain⟨_,_,_,_,_,-,h2,-⟩:=(HMv.out wr HS.out.bel).mem;exact h2.cells.2.2.2.1 m j hm8 hj8
         have HOj:=zA (HOs.out j);have hoj:=HOl.out j;have hlD:(LC++tD M m j).length<=90:=by rw[tm];omega
         have HEq:Hid (LC++tD M m (j+1)=(LC++tD M m j)++if M.over m j=true then [Yc m j] else []):=by unfold Hid;rw[HOj.out,pt]
         generalize LC++tD M m j=LD at *;cases hov:M.over m j
         ·rw[hov]at do9 HEq
          have Z:Hid (Qj w wr (.slice oa4 LD.length oc4) (LC++tD M m (j+1)) vs4):=by
           have e:LC++tD M m (j+1)=LD:=HEq.out.trans (by simp);unfold Hid;rw[e];exact HS.out
          clear hov;go_wp2_with fail
          go_roundw
          case rel=>exact⟨j+1,_,by omega,by go_num,Z⟩
          case measure=>simp[intOf];omega
         ·rw[hov]at do9 HEq
          clear hov;have HN1:=zA (fun w'=>dZ w' 114 m (by omega));have HN2:=zA (fun w'=>dZ w' 114 j (by omega));rw[show ((114:UInt8).toNat:Int)=114 from rfl]at HN1 HN2;have HOv:Hid (Yc m j=[[111,118,101,114],xG 114 m,xG 114 j,[59]]):=rfl;generalize Yc m j=ol at *;generalize xG 114 m=n1 at *;generalize xG 114 j=n2 at *;go_wp2_with fail
          refine(HN1.out _).mono ?_;rintro e w5 ⟨rfl,hb5⟩;have HB5:=zA hb5;clear hb5;go_wp2_with fail
          refine(HN2.out _).mono ?_;rintro e w7 ⟨rfl,hb7⟩;have HB7:Hid (Below wr.heap.size wr w7):=HB5.out.trans (hb7.mono HB5.out.size);have HI8:Hid (U7 (w7.alloc (.cells #[.string ⟨#[111,118,101,114]⟩,.string ⟨n1.toArray⟩,.string ⟨n2.toArray⟩,.string ⟨#[59]⟩] 9)) (.slice (some ⟨w7.heap.size,0,none⟩) 4 4) ol):=by unfold Hid;rw[HOv.out];exact BH w7 _ [[111,118,101,114],n1,n2,[59]] rfl
          have HS8:=zA (HS.out.below (HB7.out.alloc HB7.out.size (.cells #[.string ⟨#[111,118,101,114]⟩,.string ⟨n1.toArray⟩,.string ⟨n2.toArray⟩,.string ⟨#[59]⟩] 9)));have hsz8:=HS8.out.bel.size;have hs8:(w7.alloc (.cells #[.string ⟨#[111,118,101,114]⟩,.string ⟨n1.toArray⟩,.string ⟨n2.toArray⟩,.string ⟨#[59]⟩] 9)).heap.size=w7.heap.size+1:=by simp
          clear hb7
          go_upto_region 22 with fail
          generalize w7.alloc (.cells #[.string ⟨#[111,118,101,114]⟩,.string ⟨n1.toArray⟩,.string ⟨n2.toArray⟩,.string ⟨#[59]⟩] 9)=w8 at *;generalize w7.heap.size=g8 at *;clear hs8
          go_wp2_with (at_builtin;refine wpList_append_own _ rfl _ _ 57 rfl w.heap.size 70 i0 _ 1 24 Tryz.underlying57 hi0 hz0 hz1 hz2 rfl (by decide) _ _ _ rfl (HS8.out.own.alloc _) ⟨w8.heap.size,0,none⟩ 1 1 [.slice (some ⟨g8,0,none⟩) 4 4] rfl rfl ?c3k1 ?c3k2 ?c3k3 ?c3k4 ?c3k5 ?_)
          try (case c3k1=>exact zM _ _ _ _ rfl)
          try (case c3k2=>first|rfl|(intro u hu;simp at hu;rcases hu with rfl;rfl))
          try (case c3k3=>unfold maxLen;omega)
          try (case c3k4=>omega)
          try (case c3k5=>first|omega|(simp;omega))
          intro v6 w6 zL0 zKY _;have HS6:Hid (Qj w w6 v6 (LD++[ol]) (vs4++[.slice (some ⟨g8,0,none⟩) 4 4])):=HS8.out.app (gb (j1 _) _) (HI8.out.below (gb (j1 _) _)) zKY zL0;clear zL0 zKY
          have Z:Hid (Qj w w6 v6 (LC++tD M m (j+1)) (vs4++[.slice (some ⟨g8,0,none⟩) 4 4])):=by
           have e:LC++tD M m (j+1)=LD++[ol]:=HEq.out.trans (by simp);unfold Hid;rw[e];exact HS6.out
          clear HS6 HS8 HS;go_wp2_with fail
          go_roundw
          case rel=>exact⟨j+1,_,by omega,by go_num,Z⟩
          case measure=>simp[intOf];omega
        ·have jj:¬(j:Int)<(n:Int):=by omega
         have Z:Hid (Qj w wr (.slice oa4 (LC++tD M m j).length oc4) (LB++FA (m+1)) vs4):=by
          unfold Hid;rw[HFm.out,<-pt,HLC.out,show n=j by omega];exact HS.out
         go_wp2_with fail
         go_roundw
         case rel=>exact⟨m+1,_,by omega,by go_num,Z⟩
         case measure=>simp[intOf];omega
      ·have mm:¬(m:Int)<(n:Int):=by omega
       have Z:Hid (Qj w wr (.slice oa3 (LB++FA m).length oc3) TL vs3):=by
        have h1:=HS.out;unfold Hid;rw[HTL.out,show n=m by omega];exact h1
       generalize (LB++FA m).length=zl at *;clear HS;go_wp2_with fail
       go_ret
       first|exact⟨_,vs3,rfl,Z.out⟩|exact⟨_,rfl,vs3,Z.out⟩
structure zBQ(L:List (List Bs)):Prop where
 few:L.length<=100
 line:∀i,i<L.length->(L.getD i []).length<=100
 word:∀i k,i<L.length->k<(L.getD i []).length->((L.getD i []).getD k []).length<=21
theorem Cr(w:World)(a:Option Addr)(c:Nat)(L:List (List Bs))(h:zFU w a L)(hS:zBQ L) :
 Calls Tryz.prog 23 #[.slice a L.length c] w fun e w'=>e=.returned (.string ⟨(wU L).toArray⟩)/\w'=w:=by
 have HO:=zA h;have HS:=zA hS;have zLE:=hS.few;clear h hS
 go_enter Tryz.func23,Tryz.ntmps23
 go_wp2_with fail
 go_loop [3,4] (fun sv iv=>∃(i:Nat) (s:Bs),i<=L.length/\sv=.string ⟨s.toArray⟩/\iv=.int .i64 i/\s.length<=i*5000/\Hid (s=wU (L.take i))) (fun _ iv=>L.length-(intOf iv).toNat)
 case atStart=>exact⟨0,[],p7 _,rfl,rfl,by simp,zA rfl⟩
 case round =>
  obtain⟨i,s,hi,rfl,rfl,hs,HE⟩:=hrel;by_cases zKZ:i<L.length
  ·obtain⟨g,la,lc,rfl,hc,hws⟩:=HO.out.line i zKZ
   have hl20:=HS.out.line i zKZ;have HT:Hid (∀k,k<(L.getD i []).length->((L.getD i []).getD k []).length<=21):=fun k hk=>HS.out.word i k zKZ hk;have HE2:Hid (wU (L.take (i+1))=s++mU (L.getD i [])):=by unfold Hid;rw[K5 L i zKZ,<-HE.out]
   generalize L.getD i []=ws at *;have HW:=zA hws;clear hws HE;go_wp2_with fail
   go_loop [3,5] (fun sv kv=>∃(k:Nat) (t:Bs),k<=ws.length/\sv=.string ⟨t.toArray⟩/\kv=.int .i64 k/\t.length<=i*5000+k*30/\Hid (t=s++zt ws k)) (fun _ kv=>ws.length-(intOf kv).toNat)
   case atStart =>
    refine⟨0,s,p7 _,rfl,rfl,?_,zA (mt s).symm⟩;rw[dz,l9];exact hs
   case round =>
    obtain⟨k,t,hk,rfl,rfl,ht,HF⟩:=hrel;by_cases hkl:k<ws.length
    ·obtain⟨gl,rfl,hcw⟩:=HW.out k hkl
     have hx:=HT.out k hkl
     have HF2:Hid (s++zt ws (k+1)=(if 0<k/\ws.getD k []≠[59] then t++[32] else t)++ws.getD k []):=by
      unfold Hid;rw[zt,HF.out];split <;> simp
     generalize ws.getD k []=x at *;clear HF;by_cases k0:k=0
     ·subst k0
      have HF3:Hid (s++zt ws (0+1)=t++x):=by have:=HF2.out;rw[tb (by omega)]at this;exact this
      clear HF2;go_wp2_with fail
      go_round
      case rel=>exact⟨0+1,t++x,by omega,by rw[<-jQ],by go_num,by simp;omega,zA HF3.out.symm⟩
      case measure=>simp[intOf];omega
     ·have bk:(0:Int)<(k:Int):=by omega
      by_cases k1:x=[59]
      ·have HF3:Hid (s++zt ws (k+1)=t++x):=by have:=HF2.out;rw[tb (fun q=>q.2 k1)]at this;exact this
       have b1:(x==[59])=true:=by simpa using k1
       clear HF2 k1;go_wp2_with fail
       go_round
       case rel=>exact⟨k+1,t++x,by omega,by rw[<-jQ],by go_num,by simp;omega,zA HF3.out.symm⟩
       case measure=>simp[intOf];omega
      ·have HF3:Hid (s++zt ws (k+1)=t++[32]++x):=by have:=HF2.out;rw[tl ⟨by omega,k1⟩]at this;exact this
       have b1:(x==[59])=false:=by simpa using k1
       clear HF2 k1;go_wp2_with fail
       go_round
       case rel=>exact⟨k+1,t++[32]++x,by omega,by rw[<-jQ,<-jQ],by go_num,by simp;omega,zA HF3.out.symm⟩
       case measure=>simp[intOf];omega
    ·obtain rfl:k=ws.length:=by omega
     have HF3:Hid (wU (L.take (i+1))=t++[10]):=by unfold Hid;rw[HE2.out,HF.out,pt,zEE]
     clear HF HE2;go_wp2_with fail
     go_round
     case rel=>exact⟨i+1,t++[10],by omega,by rw[<-jQ],by go_num,by simp;omega,zA HF3.out.symm⟩
     case measure=>simp[intOf];omega
  ·have HE2:Hid (s=wU L):=by have:=HE.out;rw[dw (by omega)]at this;exact this
   clear HE;go_wp2_with fail
   go_ret
   exact⟨congrArg (fun s:Bs=>Ending.returned (.string ⟨s.toArray⟩)) HE2.out,rfl⟩
def Ws(l:List Bs):Prop:=∀x∈l,x.length<=21
theorem Ws.app(ha:Ws a)(hb:Ws b):Ws (a++b):=fun x hx=>by
 rcases pu.1 hx with h|h
 ·exact ha x h
 ·exact hb x h
theorem xZ:Ws []:=fun x hx=>by cases hx
theorem yO{a:Bs}{l:List Bs}(ha:a.length<=21)(hl:Ws l):Ws (a::l):=fun x hx=>by
 rcases l6.1 hx with rfl|h
 ·exact ha
 ·exact hl x h
theorem tI{p:Prop}[Decidable p](ha:Ws a)(hb:Ws b):Ws (if p then a else b):=by split;exact ha;exact hb
theorem CG{p:Prop}[Decidable p](ha:p->Ws a)(hb:¬p->Ws b):Ws (if p then a else b):=by split <;> rename_i h;exact ha h;exact hb h
theorem CH{f:Nat->List Bs}{n:Nat}(h:∀i,i<n->Ws (f i)):Ws ((List.range n).flatMap f):=fun x hx=>by
 obtain⟨i,hi,hx'⟩:=bj.1 hx;exact h i (py.1 hi) x hx'
theorem Zk{n:Int}(h0:0<=n)(h1:n<=9999):(Lib.itoa n).length<=21:=Lib.itoa_length_le n (by omega) (by omega)
theorem aR(f:UInt8)(i:Nat):(xG f i).length<=21:=by unfold xG;simp
theorem nG:(yD i).length<=21:=by unfold yD;split <;> exact aR _ _
theorem qt(k:Nat):(sE k).length<=21:=by
 unfold sE;rcases k with _|_|_|_|_|_|k <;> simp
theorem zFC{low:List Nat}{t:zR}(h:xL low t):Ws (uN t):=by
 unfold uN;refine tI (yO (by decide) xZ) (tI (yO (nG _) xZ) (tI (yO (by decide) (yO (aR _ _) xZ)) (CG (fun h3=>yO (nG _) (yO (qt _) (yO ?_ xZ))) (fun _=>yO (nG _) (yO (qt _) (yO (nG _) xZ))))));rcases h with h|⟨h,-⟩|⟨h,-⟩|⟨-,-,-,-,n1,n2⟩
 ·omega
 ·omega
 ·omega
 ·exact Zk n1 n2
theorem zH9{low:List Nat}{t:zR}(h:xL low t)(lo:Bool):Ws (xB t lo):=by
 unfold xB;exact(((tI (yO (by decide) xZ) xZ).app (tI (yO (by decide) xZ) xZ)).app (zFC h)).app (tI (yO (by decide) xZ) xZ)
theorem zIL{low:List Nat}{ts:List zR}(h:qX low ts)(wh lo:Bool):Ws (bG wh ts lo):=by
 unfold bG jE;refine(((tI (yO (by decide) xZ) xZ).app (tI (yO (by decide) xZ) xZ)).app (CH fun i hi=>?_)).app (tI (yO (by decide) xZ) xZ);refine Ws.app ?_ (zH9 (h.2.2 _ (by simp[List.getD,hi])) lo);unfold kQ;exact tI xZ (tI (yO (by decide) xZ) (yO (by decide) xZ))
theorem zHI{low:List Nat}{ps:List yU}(h:jG low ps):Ws (bQ ps):=by
 unfold bQ pD;refine CH fun i hi=>?_;have hp:=h.2.2 (ps.getD i aD) (by simp[List.getD,hi]);generalize ps.getD i aD=p at *;unfold mQ dV uZ tN qE;refine(((tI xZ (tI (yO (by decide) xZ) (yO (by decide) xZ))).app (CG (fun hc=>yO ?_ xZ) (fun _=>xZ))).app (tI (yO (by decide) xZ) xZ)).app (tI (yO (nG _) xZ) (tI (yO (aR _ _) xZ) xZ));rcases hp with ⟨-,h1,-,-⟩|⟨h0,h1,-⟩|⟨-,h1,-⟩|⟨h1,-,-⟩
 ·exact Zk h1.1 h1.2
 ·rcases hc with hc|hc
  ·exact absurd (hc.symm.trans h0) (by simp)
  ·omega
 ·exact Zk h1.1 (by omega)
 ·exact Zk h1.1 (by omega)
theorem uf{H:List Nat}{r:xP}(h:dI H r)(i:Nat)(lo:Bool):Ws (cM r i lo)/\(cM r i lo).length<=100:=by
 have h1:=VH r.whole r.tests lo h.tests.1 h.tests.2.1;have h2:=Q5 r.parts r.parts.length;have h3:=h.parts.2.1;refine⟨?_,?_⟩
 ·have q1:Ws [[114,117,108,101],xG 114 i,[58],xG 99 r.head,[61]]:=yO (by decide) (yO (aR _ _) (yO (by decide) (yO (aR _ _) (yO (by decide) xZ))))
  unfold cM;exact(((q1.app (zHI h.parts)).app (yO (by decide) xZ)).app (zIL h.tests _ _)).app (yO (by decide) xZ)
 ·unfold cM bQ
  simp only[tm,pf,List.length_nil];omega
theorem j2{M:yC}(h:yI M)(lo:Bool):∀l∈vI M lo,Ws l/\l.length<=100:=fun l hl=>by
 unfold vI at hl;rcases pu.1 hl with hl|hl
 ·rcases pu.1 hl with hl|hl
  ·obtain⟨i,-,rfl⟩:=p9.1 hl
   unfold gE;split
   ·rename_i h3
    have:=h.nums i h3;exact⟨yO (by decide) (yO (nG _) (yO (Zk (by omega) (by omega)) (yO (by decide) (yO (Zk (by omega) (by omega)) (yO (by decide) xZ))))),by simp⟩
   ·exact⟨yO (by decide) (yO (nG _) (yO (by decide) xZ)),by simp⟩
  ·obtain⟨i,hi,rfl⟩:=p9.1 hl
   exact uf (h.rules _ (by simp[List.getD,py.1 hi])) i lo
 ·obtain⟨i,-,hl⟩:=bj.1 hl
  unfold tD at hl;obtain⟨j,-,hl⟩:=bj.1 hl;split at hl
  ·rw[pr.1 hl]
   exact⟨yO (by decide) (yO (aR _ _) (yO (aR _ _) (yO (by decide) xZ))),by simp[Yc]⟩
  ·cases hl
theorem tY{α:Type}{l:List α}{i:Nat}(d:α)(h:i<l.length):l.getD i d∈l:=by simp[List.getD,h]
theorem Vu{M:yC}(h:yI M)(lo:Bool):zBQ (vI M lo):=by
 have hl:=j2 h lo;have hm:∀i,i<(vI M lo).length->(vI M lo).getD i []∈vI M lo:=fun i hi=>by simp[List.getD,hi]
 refine⟨?_,fun i hi=>(hl _ (hm i hi)).2,fun i k hi hk=>(hl _ (hm i hi)).1 _ (tY [] hk)⟩;have h1:=VM M M.rules.length M.rules.length;have h2:=h.few;have h3:M.rules.length*M.rules.length<=64:=Nat.mul_le_mul h2 h2;unfold vI;simp only[tm,pi,List.length_range];omega
theorem zF8(w:World)(g:Nat)(M:yC)(hM:gM w g M)(hO:yI M)(hT:rL w) :
 Calls Tryz.prog 12 #[.pointer (some ⟨g,0,none⟩)] w fun e w'=>e=.returned (.string ⟨(wU (vI M false)).toArray⟩)/\Below w.heap.size w w':=by
 have HL:=zA (zAO w g M false hM hO hT);have HW:=zA (fun w' a c (h:zFU w' a (vI M false))=>Cr w' a c (vI M false) h (Vu hO false));generalize wU (vI M false)=tx at *;clear hM hO hT
 go_enter Tryz.func12,Tryz.ntmps12
 go_wp2_with fail
 refine HL.out.mono ?_;rintro e w1 ⟨v,vs,rfl,hS⟩;obtain⟨a,c,rfl,hc⟩:=vR hS.own;have HWw:=zA (HW.out w1 a c ⟨vs,hc,hS.ins⟩);have HB:=zA hS.bel;clear hS hc;go_wp2_with fail
 refine HWw.out.mono ?_;rintro e w2 ⟨rfl,hw⟩;obtain rfl:=hw.symm;go_wp2_with fail
 go_ret
 exact⟨rfl,HB.out⟩
def zGI(s:Bs):Bool:=(decide (97<=(s.getD 0 0).toNat)&&decide ((s.getD 0 0).toNat<=122)) || (decide (48<=(s.getD 0 0).toNat)&&decide ((s.getD 0 0).toNat<=57))
end Go.Proofs.YtnbpdffdnphbeabGreatDoor
