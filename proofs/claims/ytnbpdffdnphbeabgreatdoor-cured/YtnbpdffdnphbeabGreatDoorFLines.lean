import Derived.Test.YtnbpdffdnphbeabGreatDoorFSumW
import Derived.Test.YtnbpdffdnphbeabGreatDoorFBuild
import Derived.Lib.ItoaLen
set_option maxHeartbeats 3000000
set_option maxRecDepth 100000
namespace Go.Proofs.YtnbpdffdnphbeabGreatDoor
open Go.RowKit
variable{b a:List Bs}{low:List Nat}{w:World}(M:yB)(i:Nat)
def lU:vR:=⟨0,false,[],[]⟩
def gE(M:yB)(i:Nat):List Bs:=if i<3 then [[110,117,109],yV i,Lib.itoa (M.lo i),[46,46],Lib.itoa (M.hi i),[59]] else [[102,108,97,103],yV i,[59]]
def ZJ(i j:Nat):List Bs:=[[111,118,101,114],xL 114 i,xL 114 j,[59]]
def tU(M:yB)(i j:Nat):List (List Bs):=(List.range j).flatMap fun k=>if M.over i k=true then [ZJ i k] else []
def xW(M:yB)(lo:Bool):List (List Bs):=(List.range 5).map (gE M)++(List.range M.rules.length).map (fun i=>cO (M.rules.getD i lU) i lo)++(List.range M.rules.length).flatMap fun i=>tU M i M.rules.length
theorem jI.below{w':World}{g:Nat}{M:yB}(h:jI w g M)(hb:Below w.heap.size w w'):jI w' g M:=by
 obtain⟨ra,ha,rc,hc,xs,h1,h2,h3,h4,h5⟩:=h.mem;exact⟨ra,ha,rc,hc,xs,h1,h2.below hb,h3.below hb,fun x hx=>(h4 x hx).below hb,h5.below hb⟩
theorem FK:(Tryz.prog.info? 70).map (fun i=>(i.zero,i.size,i.bytes))=some (some (.slice none 0 0),1,24):=by kernel_rfl
structure XJ(w wx:World)(v:Value)(L:List (List Bs))(vs:List Value):Prop where
 own:wx.ownsRow w.heap.size 70 1 v L.length vs
 ins:kY wx vs L
 bel:Below w.heap.size w wx
theorem XJ.below{wx w':World}{v:Value}{L:List (List Bs)}{vs:List Value}(h:XJ w wx v L vs)(hb:Below wx.heap.size wx w'):XJ w w' v L vs:=⟨kD h.own hb,h.ins.below hb,h.bel.trans (hb.mono h.bel.size)⟩
theorem XJ.app{wx wz w9:World}{v v9 lv:Value}{L:List (List Bs)}{vs:List Value}{l:List Bs}(h:XJ w wx v L vs)(hz:Below wx.heap.size wx wz)(hl:Uk wz lv l)(hg:wz.grownBy w9 v.ownBlock)(zJU:w9.ownsRow w.heap.size 70 1 v9 (L.length+1) (vs++[lv])):XJ w w9 v9 (L++[l]) (vs++[lv]):=by
 have hZ:=h.below hz;refine⟨by rw[tq];exact zJU,kY.snoc (hl.grown hZ.own hg) (hZ.ins.grown hZ.own hg),hZ.bel.grown hg hZ.bel.size (zV hZ.own)⟩
theorem Bz(w:World)(cs:Array Value)(ws:List Bs)(h:cs.toList=vH ws):Uk (w.alloc (.cells cs 9)) (.slice (some ⟨w.heap.size,0,none⟩) ws.length ws.length) ws :=
 ⟨_,_,rfl,.inr ⟨w.heap.size,cs,_,rfl,zH _ _,fun j _=>by rw[<-h,Array.getElem?_toList]⟩⟩
theorem jI.rule{g:Nat}{M:yB}(h:jI w g M){i:Nat}(hi:i<M.rules.length):∃gr rc pa pc qa qc,w.cell? ⟨g,6,none⟩=some (.slice (some ⟨gr,0,none⟩) M.rules.length rc)/\(w.cell? ⟨gr,i*4,none⟩=some (.int .i64 ((M.rules.getD i lU).head:Int))/\w.cell? ⟨gr,i*4+1,none⟩=some (.bool (M.rules.getD i lU).whole)/\w.cell? ⟨gr,i*4+2,none⟩=some (.slice pa (M.rules.getD i lU).parts.length pc)/\w.cell? ⟨gr,i*4+3,none⟩=some (.slice qa (M.rules.getD i lU).tests.length qc))/\xM w 89 pa ((M.rules.getD i lU).parts.flatMap nF)/\xM w 87 qa ((M.rules.getD i lU).tests.flatMap nE):=by
 obtain⟨ra,ha,rc,hc,xs,h1,h2,h3,h4,-⟩:=h.mem;have hl:i<xs.length:=by rw[<-h1,me]at hi;exact hi
 have he:(xs.getD i (lU,.slice none 0 0,.slice none 0 0)).1=M.rules.getD i lU:=by rw[<-h1];simp[List.getD,hl]
 have hm:xs.getD i (lU,.slice none 0 0,.slice none 0 0)∈xs:=by simp[List.getD,hl]
 have hv:=h4 _ hm;have hf:=fun r hr=>zR zEO 4 (fun _=>rfl) (lU,Value.slice none 0 0,Value.slice none 0 0) xs i r hl hr;generalize xs.getD i (lU,.slice none 0 0,.slice none 0 0)=x at *;obtain⟨x1,x2,x3⟩:=x;simp only at he;subst he;obtain⟨pa,pc,e1,q1⟩:=hv.parts;obtain⟨qa,qc,e2,q2⟩:=hv.tests;simp only at e1 e2 q1 q2;subst e1 e2;obtain⟨gr,e0,c0⟩:=h3.cel.at ((hf 0 (by decide)).trans rfl);subst e0
 have tt:∀(r:Nat) (u:Value),r<4->(zEO (M.rules.getD i lU,.slice pa (M.rules.getD i lU).parts.length pc,.slice qa (M.rules.getD i lU).tests.length qc))[r]? = some u->w.cell? ⟨gr,i*4+r,none⟩=some u:=fun r u hr hu=>by
  obtain⟨g',e',c'⟩:=h3.cel.at ((hf r hr).trans hu);obtain rfl:gr=g':=by simpa using e'
  exact c'
 exact⟨gr,rc,pa,pc,qa,qc,h2.cells.2.2.1,⟨c0,tt 1 _ (by decide) rfl,tt 2 _ (by decide) rfl,tt 3 _ (by decide) rfl⟩,q1,q2⟩
theorem eX{H:List Nat}{h d:Nat}(hd:d∈xJ H h):d<h:=by
 unfold xJ at hd;exact md.1 (mw.1 hd).1
theorem QG(j:Nat):tU M i (j+1)=tU M i j++if M.over i j=true then [ZJ i j] else []:=by unfold tU;rw[ly,lk];simp
theorem Vz:∀j,(tU M i j).length<=j:=by
 intro j
 induction j with
 | zero=>simp[tU]
 | succ j ih=>rw[QG,tq];have:((if M.over i j=true then [ZJ i j] else []):List (List Bs)).length<=1:=by split <;> simp
              omega
theorem QH(n i:Nat):((List.range (i+1)).flatMap fun i=>tU M i n)=((List.range i).flatMap fun i=>tU M i n)++tU M i n:=by rw[ly,lk];simp
theorem V0(n:Nat):∀i,((List.range i).flatMap fun i=>tU M i n).length<=n*i:=by
 intro i
 induction i with
 | zero=>simp
 | succ i ih=>rw[QH,tq];have:=Vz M i n;rw[Nat.mul_succ];omega
theorem nY{α:Type}(f:Nat->α)(i:Nat):(List.range (i+1)).map f=(List.range i).map f++[f i]:=by rw[ly,lj];rfl
theorem jw(w:World)(g:Nat)(M:yB)(lo:Bool)(hM:jI w g M)(hO:yH M)(hT:gU w) :
 Calls Tryz.prog 21 #[.pointer (some ⟨g,0,none⟩),.bool lo] w fun e w'=>∃v vs,e=.returned v/\XJ w w' v (xW M lo) vs:=by
 obtain⟨i0,hi0,hz0,hz1,hz2⟩:=info_parts FK;have HTb:=zA (fun w' (hb:Below w.heap.size w w')=>hT.below hb);have HMv:=zA (fun w' (hb:Below w.heap.size w w')=>hM.below hb);have HNu:=zA hO.nums;have hn8:=hO.few;have HOr:=zA hO.rules;have HLW:Hid (xW M lo=(List.range 5).map (gE M)++(List.range M.rules.length).map (fun i=>cO (M.rules.getD i lU) i lo)++(List.range M.rules.length).flatMap fun i=>tU M i M.rules.length):=rfl;have HIl:Hid (∀i,gE M i=if i<3 then [[110,117,109],yV i,Lib.itoa (M.lo i),[46,46],Lib.itoa (M.hi i),[59]] else [[102,108,97,103],yV i,[59]]):=fun _=>rfl;generalize xW M lo=TL at *;clear hM hO hT
 go_enter Tryz.func21,Tryz.ntmps21
 go_wp2_with fail
 go_loopw [5,6] (fun ov iv wr=>∃(i:Nat) (vs:List Value),i<=5/\iv=.int .i64 (i:Int)/\Hid (XJ w wr ov ((List.range i).map (gE M)) vs)) (fun _ iv _=>5-(intOf iv).toNat)
 case atStart=>exact⟨0,[],p7 _,rfl,zA ⟨bi _ _ _ _,trivial,tl _ _⟩⟩
 case round =>
  obtain⟨i,vs,hi,rfl,HS⟩:=hrel;obtain⟨oa,oc,rfl⟩:=zO HS.out.own;by_cases zJS:i<5
  ·have ii:(i:Int)<5:=by omega
   have zKD:=zA (fun w'=>cH w' i zJS);have HIi:=zA (HIl.out i);have HE:=zA (nY (gE M) i);generalize yV i=iw at *;generalize gE M i=il at *;have zJV:((List.range i).map (gE M)).length<=5:=by simp;omega
   generalize (List.range i).map (gE M)=L0 at *;have zK2:=HS.out.bel.size;go_wp2_with fail
   refine(zKD.out _).mono ?_;rintro e w5 ⟨rfl,hb5⟩;have HB5:=zA hb5;have HSz5:=zA hb5.size;clear hb5
   go_upto_if 21 with fail
   go_cut [7] from 13 to 42 (fun v7 wx=>Hid (Uk wx v7 il)/\Hid (Below wr.heap.size wr wx))
   case first =>
    by_cases k3:i<3
    ·have k4:(i:Int)<3:=by omega
     have HI3:Hid (il=[[110,117,109],iw,Lib.itoa (M.lo i),[46,46],Lib.itoa (M.hi i),[59]]):=HIi.out.trans (tr k3);have hnb:=HNu.out i k3
     have HMc:=zA (fun w' (hb:Below wr.heap.size wr w')=>(show w'.cell? ⟨g,i,none⟩=some (.int .i64 (M.lo i))/\w'.cell? ⟨g,3+i,none⟩=some (.int .i64 (M.hi i)) by
      obtain⟨_,_,_,_,_,-,h2,-⟩:=(HMv.out w' (HS.out.bel.trans (hb.mono HS.out.bel.size))).mem;exact⟨h2.cells.1 i k3,h2.cells.2.1 i k3⟩))
     have HA:=zA (fun w' ht=>Yl w' (M.lo i) (by omega) (by omega) ht);have HBb:=zA (fun w' ht=>Yl w' (M.hi i) (by omega) (by omega) ht);have HTr:=zA (fun w' (hb:Below wr.heap.size wr w')=>HTb.out w' (HS.out.bel.trans (hb.mono HS.out.bel.size)));have HBW:Hid (Below wr.heap.size wr (w5.alloc (.cells #[.string ⟨#[102,108,97,103]⟩,.string ⟨iw.toArray⟩,.string ⟨#[59]⟩] 9))):=HB5.out.alloc HSz5.out _;generalize Lib.itoa (M.lo i)=s1 at *;generalize Lib.itoa (M.hi i)=s2 at *;generalize M.lo i=a at *;generalize M.hi i=b at *;clear hnb k3 HIi
     go_upto_region 7 with fail
     generalize w5.alloc (.cells #[.string ⟨#[102,108,97,103]⟩,.string ⟨iw.toArray⟩,.string ⟨#[59]⟩] 9)=W at *;obtain⟨p1,p2⟩:=HMc.out W HBW.out;have lgW:=zY p1
     go_region_held3 (fun w'=>w'.cell? ⟨g,i,none⟩=some (.int .i64 a)/\w'.cell? ⟨g,3+i,none⟩=some (.int .i64 b)) (go_keep) (first
      | (go_at_call 44;refine(zKD.out _).mono ?_;rintro e w7 ⟨rfl,hb7⟩;have hB7:Below wr.heap.size wr w7:=HBW.out.trans (((pu (tl _ _)).trans hb7).mono HBW.out.size);obtain⟨p1,p2⟩:=HMc.out w7 hB7)
      | (go_at_call_of 45 (Value.int .i64 a);refine(HA.out _ (HTr.out _ hB7)).mono ?_;rintro e w8 ⟨rfl,hb8⟩;have hB8:Below wr.heap.size wr w8:=hB7.trans (hb8.mono hB7.size);obtain⟨p1,p2⟩:=HMc.out w8 hB8)
      | (go_at_call_of 45 (Value.int .i64 b);refine(HBb.out _ (HTr.out _ hB8)).mono ?_;rintro e w9 ⟨rfl,hb9⟩;have hB9:Below wr.heap.size wr w9:=hB8.trans (hb9.mono hB8.size);obtain⟨p1,p2⟩:=HMc.out w9 hB9;have n9:w9.heap.size≠g:=by have:=zY p1;omega))
     all_goals
      have HB9:=zA hB9;clear hB9 hB8 hB7;go_wp2_with fail
      go_meet
      exact⟨by rw[HI3.out];exact zA (Bz w9 _ [[110,117,109],iw,s1,[46,46],s2,[59]] rfl),zA (HB9.out.alloc HB9.out.size _)⟩
    ·have k4:¬(i:Int)<3:=by omega
     have HI3:Hid (il=[[102,108,97,103],iw,[59]]):=HIi.out.trans (tj k3);go_wp2_with fail
     go_meet
     exact⟨by rw[HI3.out];exact zA (Bz w5 _ [[102,108,97,103],iw,[59]] rfl),zA (HB5.out.alloc HSz5.out _)⟩
   case rest =>
    obtain⟨HI7,HB7⟩:=hcut;obtain⟨la,lc,rfl,-⟩:=HI7.out;have HS7:=zA (HS.out.below HB7.out);have hsz7:=HS7.out.bel.size
    go_wp2_with (at_builtin;refine wpList_append_own _ rfl _ _ 57 rfl w.heap.size 70 i0 _ 1 24 Tryz.underlying57 hi0 hz0 hz1 hz2 rfl (by decide) _ _ _ rfl (HS7.out.own.alloc _) ⟨wc.heap.size,0,none⟩ 1 1 [.slice la il.length lc] rfl rfl ?c1k1 ?c1k2 ?c1k3 ?c1k4 ?c1k5 ?_)
    try (case c1k1=>exact zM _ _ _ _ rfl)
    try (case c1k2=>first|rfl|(intro u hu;simp at hu;rcases hu with rfl;rfl))
    try (case c1k3=>unfold maxLen;omega)
    try (case c1k4=>omega)
    try (case c1k5=>first|omega|(simp;omega))
    intro v6 w6 zJR zJQ _;have HS6:Hid (XJ w w6 v6 (L0++[il]) (vs++[.slice la il.length lc])):=HS7.out.app (fe (tg _) _) (HI7.out.below (fe (tg _) _)) zJQ zJR;clear zJR zJQ;have Z:Hid (XJ w w6 v6 ((List.range (i+1)).map (gE M)) (vs++[.slice la il.length lc])):=by unfold Hid;rw[HE.out];exact HS6.out
    clear HS6 HS7 HS;go_wp2_with fail
    go_roundw
    case rel=>exact⟨i+1,_,by omega,by go_num,Z⟩
    case measure=>simp[intOf];omega
  ·have c9:¬(i:Int)<5:=by omega
   obtain⟨L5,hL5⟩:∃L5,L5=(List.range 5).map (gE M):=⟨_,rfl⟩
   have HS5:Hid (XJ w wr (.slice oa i oc) L5 vs):=by
    have h1:=HS.out;rw[show ((List.range i).map (gE M)).length=i by simp]at h1;unfold Hid;rw[hL5,show (5:Nat)=i by omega];exact h1
   have hl5:L5.length<=5:=by rw[hL5];simp
   rw[<-hL5]at HLW;clear HS zJS hi hL5 HIl;obtain⟨RW,hRW⟩:∃RW:Nat->List Bs,RW=fun i=>cO (M.rules.getD i lU) i lo:=⟨_,rfl⟩;have HRW:Hid (∀i,RW i=cO (M.rules.getD i lU) i lo):=fun i=>by rw[hRW]
   rw[<-hRW]at HLW;clear hRW
   have HD6:=zA (fun w' (hb:Below w.heap.size w w')=>(show ∃ra rc,w'.cell? ⟨g,6,none⟩=some (.slice ra M.rules.length rc) by
    obtain⟨ra,_,rc,_,_,-,h2,-⟩:=(HMv.out w' hb).mem;exact⟨ra,rc,h2.cells.2.2.1⟩))
   generalize hnn:M.rules.length=n at *;have HNn:=zA hnn;clear hnn;go_wp2_with fail
   go_loopw [5,8] (fun ov iv wr=>∃(k:Nat) (vs:List Value),k<=n/\iv=.int .i64 (k:Int)/\Hid (XJ w wr ov (L5++(List.range k).map RW) vs)) (fun _ iv _=>n-(intOf iv).toNat)
   case atStart=>exact⟨0,vs,p7 _,rfl,by rw[show L5++(List.range 0).map RW=L5 from ms _];exact HS5⟩
   case round =>
    clear HS5;obtain⟨k,vs2,hk,rfl,HS⟩:=hrel;obtain⟨oa2,oc2,rfl⟩:=zO HS.out.own;by_cases hltk:k<n
    ·have kk:(k:Int)<(n:Int):=by omega
     have hkr:k<M.rules.length:=by rw[HNn.out];exact hltk
     obtain⟨gr,rc,pa,pc,qa,qc,d6,⟨e0,e1,e2,e3⟩,hcp,hcq⟩:=(HMv.out wr HS.out.bel).rule hkr;rw[HNn.out]at d6;have zK4:=HOr.out (M.rules.getD k lU) (by simp[List.getD,hkr]);have HRk:=zA (HRW.out k);have HE:=zA (nY RW k);generalize M.rules.getD k lU=r at *;obtain⟨h,wh,ps,ts⟩:=r;simp only at e0 e1 e2 e3 hcp hcq;have HRu:=zA (jt wr h k wh lo pa qa pc qc ps ts (xJ M.heads h) zK4.head (by omega) zK4.parts zK4.tests (fun d hd=>by have:=eX hd;have:=zK4.head;simp only at this;omega) hcp hcq (HTb.out wr HS.out.bel));have hp4:ps.length<=4:=zK4.parts.2.1;have ht6:ts.length<=6:=zK4.tests.2.1;have zJV:(L5++(List.range k).map RW).length<=20:=by rw[tq,me,List.length_range];omega
     generalize hL0:L5++(List.range k).map RW=L0 at *;have HL0:=zA hL0;clear hL0;generalize cO ⟨h,wh,ps,ts⟩ k lo=rl at *;clear zK4 hcp hcq hkr;go_wp2_with fail
     refine HRu.out.mono ?_;rintro e w7 ⟨v7,rfl,ho7,hb7⟩;obtain⟨la,lc,rfl,hlv⟩:=uM ho7;have HI7:Hid (Uk w7 (.slice la rl.length lc) rl):=⟨la,lc,rfl,hlv⟩;have HS7:=zA (HS.out.below hb7);have hsz7:=HS7.out.bel.size;clear ho7 hb7 hlv e0 e1 e2 e3 d6 HRu
     go_wp2_with (at_builtin;refine wpList_append_own _ rfl _ _ 57 rfl w.heap.size 70 i0 _ 1 24 Tryz.underlying57 hi0 hz0 hz1 hz2 rfl (by decide) _ _ _ rfl (HS7.out.own.alloc _) ⟨w7.heap.size,0,none⟩ 1 1 [.slice la rl.length lc] rfl rfl ?c2k1 ?c2k2 ?c2k3 ?c2k4 ?c2k5 ?_)
     try (case c2k1=>exact zM _ _ _ _ rfl)
     try (case c2k2=>first|rfl|(intro u hu;simp at hu;rcases hu with rfl;rfl))
     try (case c2k3=>unfold maxLen;omega)
     try (case c2k4=>omega)
     try (case c2k5=>first|omega|(simp;omega))
     intro v6 w6 zJR zJQ _;have HS6:Hid (XJ w w6 v6 (L0++[rl]) (vs2++[.slice la rl.length lc])):=HS7.out.app (fe (tg _) _) (HI7.out.below (fe (tg _) _)) zJQ zJR;clear zJR zJQ;have Z:Hid (XJ w w6 v6 (L5++(List.range (k+1)).map RW) (vs2++[.slice la rl.length lc])):=by unfold Hid;rw[HE.out,HRk.out,<-pj,HL0.out];exact HS6.out
     clear HS6 HS7 HS;go_wp2_with fail
     go_roundw
     case rel=>exact⟨k+1,_,by omega,by go_num,Z⟩
     case measure=>simp[intOf];omega
    ·obtain rfl:n=k:=by omega
     have kk:¬(n:Int)<(n:Int):=by omega
     obtain⟨ra,rc,d6⟩:=HD6.out wr HS.out.bel;obtain⟨LB,hLB⟩:∃LB,LB=L5++(List.range n).map RW:=⟨_,rfl⟩;have hlB:LB.length<=13:=by rw[hLB,tq,me,List.length_range];omega
     have HS2:Hid (XJ w wr (.slice oa2 (L5.length+n) oc2) LB vs2):=by
      have h1:=HS.out;rw[show (L5++(List.range n).map RW).length=L5.length+n by simp,<-hLB]at h1;exact h1
     rw[<-hLB]at HLW;clear hLB HRW;clear HS hltk hk;obtain⟨FA,hFA⟩:∃FA:Nat->List (List Bs),FA=fun m=>(List.range m).flatMap fun i=>tU M i n:=⟨_,rfl⟩;have HFs:Hid (∀m,FA (m+1)=FA m++tU M m n):=fun m=>by rw[hFA];exact QH M n m
     have HFl:Hid (∀m,(FA m).length<=n*m):=fun m=>by rw[hFA];exact V0 M n m
     have HF0:Hid (FA 0=[]):=by unfold Hid;rw[hFA];rfl
     have HTL:Hid (TL=LB++FA n):=by unfold Hid;rw[HLW.out,hFA]
     clear hFA HLW;go_wp2_with fail
     go_loopw [5,10] (fun ov iv wr=>∃(m:Nat) (vs:List Value),m<=n/\iv=.int .i64 (m:Int)/\Hid (XJ w wr ov (LB++FA m) vs)) (fun _ iv _=>n-(intOf iv).toNat)
     case atStart=>exact⟨0,vs2,p7 _,rfl,by rw[HF0.out,ms];exact HS2⟩
     case round =>
      clear HS2 d6;obtain⟨m,vs3,hm,rfl,HS⟩:=hrel;obtain⟨oa3,oc3,rfl⟩:=zO HS.out.own;obtain⟨ra,rc,d6⟩:=HD6.out wr HS.out.bel;by_cases hltm:m<n
      ·have mm:(m:Int)<(n:Int):=by omega
       have hm8:m<8:=by omega
       have HFm:=zA (HFs.out m);have hflm:=HFl.out m;have hbig:n*m<=64:=p8 (Nat.mul_le_mul hn8 (pb hm8)) (by decide);have HO0:Hid (tU M m 0=[]):=rfl;have HOs:=zA (QG M m);have HOl:=zA (Vz M m);have hlC:(LB++FA m).length<=77:=by rw[tq];omega
       generalize hLC:LB++FA m=LC at *;have HLC:=zA hLC;clear hLC;go_wp2_with fail
       go_loopw [5,11] (fun ov iv wr=>∃(j:Nat) (vs:List Value),j<=n/\iv=.int .i64 (j:Int)/\Hid (XJ w wr ov (LC++tU M m j) vs)) (fun _ iv _=>n-(intOf iv).toNat)
       case atStart=>exact⟨0,vs3,p7 _,rfl,by rw[HO0.out,ms];exact HS⟩
       case round =>
        clear HS d6;obtain⟨j,vs4,hj,rfl,HS⟩:=hrel;obtain⟨oa4,oc4,rfl⟩:=zO HS.out.own;obtain⟨ra,rc,d6⟩:=HD6.out wr HS.out.bel;by_cases hltj:j<n
        ·have jj:(j:Int)<(n:Int):=by omega
         have hj8:j<8:=by omega
         have m8:(m:Int)<8:=by omega
         have j8:(j:Int)<8:=by omega
         have do9:wr.cell? ⟨g,7+m*8+j,none⟩=some (.bool (M.over m j)):=by
          obtain⟨_,_,_,_,_,-,h2,-⟩:=(HMv.out wr HS.out.bel).mem;exact h2.cells.2.2.2.1 m j hm8 hj8
         have HOj:=zA (HOs.out j);have hoj:=HOl.out j;have hlD:(LC++tU M m j).length<=90:=by rw[tq];omega
         have HEq:Hid (LC++tU M m (j+1)=(LC++tU M m j)++if M.over m j=true then [ZJ m j] else []):=by unfold Hid;rw[HOj.out,pj]
         generalize LC++tU M m j=LD at *;cases hov:M.over m j
         ·rw[hov]at do9 HEq
          have Z:Hid (XJ w wr (.slice oa4 LD.length oc4) (LC++tU M m (j+1)) vs4):=by
           have e:LC++tU M m (j+1)=LD:=HEq.out.trans (by simp);unfold Hid;rw[e];exact HS.out
          clear hov;go_wp2_with fail
          go_roundw
          case rel=>exact⟨j+1,_,by omega,by go_num,Z⟩
          case measure=>simp[intOf];omega
         ·rw[hov]at do9 HEq
          clear hov;have HN1:=zA (fun w'=>lG w' 114 m (by omega));have HN2:=zA (fun w'=>lG w' 114 j (by omega));rw[show ((114:UInt8).toNat:Int)=114 from rfl]at HN1 HN2;have HOv:Hid (ZJ m j=[[111,118,101,114],xL 114 m,xL 114 j,[59]]):=rfl;generalize ZJ m j=ol at *;generalize xL 114 m=n1 at *;generalize xL 114 j=n2 at *;go_wp2_with fail
          refine(HN1.out _).mono ?_;rintro e w5 ⟨rfl,hb5⟩;have HB5:=zA hb5;clear hb5;go_wp2_with fail
          refine(HN2.out _).mono ?_;rintro e w7 ⟨rfl,hb7⟩;have HB7:Hid (Below wr.heap.size wr w7):=HB5.out.trans (hb7.mono HB5.out.size);have HI8:Hid (Uk (w7.alloc (.cells #[.string ⟨#[111,118,101,114]⟩,.string ⟨n1.toArray⟩,.string ⟨n2.toArray⟩,.string ⟨#[59]⟩] 9)) (.slice (some ⟨w7.heap.size,0,none⟩) 4 4) ol):=by unfold Hid;rw[HOv.out];exact Bz w7 _ [[111,118,101,114],n1,n2,[59]] rfl
          have HS8:=zA (HS.out.below (HB7.out.alloc HB7.out.size (.cells #[.string ⟨#[111,118,101,114]⟩,.string ⟨n1.toArray⟩,.string ⟨n2.toArray⟩,.string ⟨#[59]⟩] 9)));have hsz8:=HS8.out.bel.size;have hs8:(w7.alloc (.cells #[.string ⟨#[111,118,101,114]⟩,.string ⟨n1.toArray⟩,.string ⟨n2.toArray⟩,.string ⟨#[59]⟩] 9)).heap.size=w7.heap.size+1:=by simp
          clear hb7
          go_upto_region 22 with fail
          generalize w7.alloc (.cells #[.string ⟨#[111,118,101,114]⟩,.string ⟨n1.toArray⟩,.string ⟨n2.toArray⟩,.string ⟨#[59]⟩] 9)=w8 at *;generalize w7.heap.size=g8 at *;clear hs8
          go_wp2_with (at_builtin;refine wpList_append_own _ rfl _ _ 57 rfl w.heap.size 70 i0 _ 1 24 Tryz.underlying57 hi0 hz0 hz1 hz2 rfl (by decide) _ _ _ rfl (HS8.out.own.alloc _) ⟨w8.heap.size,0,none⟩ 1 1 [.slice (some ⟨g8,0,none⟩) 4 4] rfl rfl ?c3k1 ?c3k2 ?c3k3 ?c3k4 ?c3k5 ?_)
          try (case c3k1=>exact zM _ _ _ _ rfl)
          try (case c3k2=>first|rfl|(intro u hu;simp at hu;rcases hu with rfl;rfl))
          try (case c3k3=>unfold maxLen;omega)
          try (case c3k4=>omega)
          try (case c3k5=>first|omega|(simp;omega))
          intro v6 w6 zJR zJQ _;have HS6:Hid (XJ w w6 v6 (LD++[ol]) (vs4++[.slice (some ⟨g8,0,none⟩) 4 4])):=HS8.out.app (fe (tg _) _) (HI8.out.below (fe (tg _) _)) zJQ zJR;clear zJR zJQ
          have Z:Hid (XJ w w6 v6 (LC++tU M m (j+1)) (vs4++[.slice (some ⟨g8,0,none⟩) 4 4])):=by
           have e:LC++tU M m (j+1)=LD++[ol]:=HEq.out.trans (by simp);unfold Hid;rw[e];exact HS6.out
          clear HS6 HS8 HS;go_wp2_with fail
          go_roundw
          case rel=>exact⟨j+1,_,by omega,by go_num,Z⟩
          case measure=>simp[intOf];omega
        ·have jj:¬(j:Int)<(n:Int):=by omega
         have Z:Hid (XJ w wr (.slice oa4 (LC++tU M m j).length oc4) (LB++FA (m+1)) vs4):=by
          unfold Hid;rw[HFm.out,<-pj,HLC.out,show n=j by omega];exact HS.out
         go_wp2_with fail
         go_roundw
         case rel=>exact⟨m+1,_,by omega,by go_num,Z⟩
         case measure=>simp[intOf];omega
      ·have mm:¬(m:Int)<(n:Int):=by omega
       have Z:Hid (XJ w wr (.slice oa3 (LB++FA m).length oc3) TL vs3):=by
        have h1:=HS.out;unfold Hid;rw[HTL.out,show n=m by omega];exact h1
       generalize (LB++FA m).length=zl at *;clear HS;go_wp2_with fail
       go_ret
       first|exact⟨_,vs3,rfl,Z.out⟩|exact⟨_,rfl,vs3,Z.out⟩
structure zB3(L:List (List Bs)):Prop where
 few:L.length<=100
 line:∀i,i<L.length->(L.getD i []).length<=100
 word:∀i k,i<L.length->k<(L.getD i []).length->((L.getD i []).getD k []).length<=21
theorem BV(w:World)(a:Option Addr)(c:Nat)(L:List (List Bs))(h:Cj w a L)(hS:zB3 L) :
 Calls Tryz.prog 23 #[.slice a L.length c] w fun e w'=>e=.returned (.string ⟨(Yp L).toArray⟩)/\w'=w:=by
 have HO:=zA h;have HS:=zA hS;have zK8:=hS.few;clear h hS
 go_enter Tryz.func23,Tryz.ntmps23
 go_wp2_with fail
 go_loop [3,4] (fun sv iv=>∃(i:Nat) (s:Bs),i<=L.length/\sv=.string ⟨s.toArray⟩/\iv=.int .i64 i/\s.length<=i*5000/\Hid (s=Yp (L.take i))) (fun _ iv=>L.length-(intOf iv).toNat)
 case atStart=>exact⟨0,[],p7 _,rfl,rfl,by simp,zA rfl⟩
 case round =>
  obtain⟨i,s,hi,rfl,rfl,hs,HE⟩:=hrel;by_cases zJS:i<L.length
  ·obtain⟨g,la,lc,rfl,hc,hws⟩:=HO.out.line i zJS
   have hl20:=HS.out.line i zJS;have HT:Hid (∀k,k<(L.getD i []).length->((L.getD i []).getD k []).length<=21):=fun k hk=>HS.out.word i k zJS hk;have HE2:Hid (Yp (L.take (i+1))=s++dG (L.getD i [])):=by unfold Hid;rw[GV L i zJS,<-HE.out]
   generalize L.getD i []=ws at *;have HW:=zA hws;clear hws HE;go_wp2_with fail
   go_loop [3,5] (fun sv kv=>∃(k:Nat) (t:Bs),k<=ws.length/\sv=.string ⟨t.toArray⟩/\kv=.int .i64 k/\t.length<=i*5000+k*30/\Hid (t=s++GK ws k)) (fun _ kv=>ws.length-(intOf kv).toNat)
   case atStart =>
    refine⟨0,s,p7 _,rfl,rfl,?_,zA (ms s).symm⟩;rw[Nat.zero_mul,mz];exact hs
   case round =>
    obtain⟨k,t,hk,rfl,rfl,ht,HF⟩:=hrel;by_cases hkl:k<ws.length
    ·obtain⟨gl,rfl,hcw⟩:=HW.out k hkl
     have hx:=HT.out k hkl
     have HF2:Hid (s++GK ws (k+1)=(if 0<k/\ws.getD k []≠[59] then t++[32] else t)++ws.getD k []):=by
      unfold Hid;rw[GK,HF.out];split <;> simp
     generalize ws.getD k []=x at *;clear HF;by_cases k0:k=0
     ·subst k0
      have HF3:Hid (s++GK ws (0+1)=t++x):=by have:=HF2.out;rw[tj (by omega)]at this;exact this
      clear HF2;go_wp2_with fail
      go_round
      case rel=>exact⟨0+1,t++x,by omega,by rw[<-X1],by go_num,by simp;omega,zA HF3.out.symm⟩
      case measure=>simp[intOf];omega
     ·have bk:(0:Int)<(k:Int):=by omega
      by_cases k1:x=[59]
      ·have HF3:Hid (s++GK ws (k+1)=t++x):=by have:=HF2.out;rw[tj (fun q=>q.2 k1)]at this;exact this
       have b1:(x==[59])=true:=by simpa using k1
       clear HF2 k1;go_wp2_with fail
       go_round
       case rel=>exact⟨k+1,t++x,by omega,by rw[<-X1],by go_num,by simp;omega,zA HF3.out.symm⟩
       case measure=>simp[intOf];omega
      ·have HF3:Hid (s++GK ws (k+1)=t++[32]++x):=by have:=HF2.out;rw[tr ⟨by omega,k1⟩]at this;exact this
       have b1:(x==[59])=false:=by simpa using k1
       clear HF2 k1;go_wp2_with fail
       go_round
       case rel=>exact⟨k+1,t++[32]++x,by omega,by rw[<-X1,<-X1],by go_num,by simp;omega,zA HF3.out.symm⟩
       case measure=>simp[intOf];omega
    ·obtain rfl:k=ws.length:=by omega
     have HF3:Hid (Yp (L.take (i+1))=t++[10]):=by unfold Hid;rw[HE2.out,HF.out,pj,zDZ]
     clear HF HE2;go_wp2_with fail
     go_round
     case rel=>exact⟨i+1,t++[10],by omega,by rw[<-X1],by go_num,by simp;omega,zA HF3.out.symm⟩
     case measure=>simp[intOf];omega
  ·have HE2:Hid (s=Yp L):=by have:=HE.out;rw[List.take_of_length_le (by omega)]at this;exact this
   clear HE;go_wp2_with fail
   go_ret
   exact⟨congrArg (fun s:Bs=>Ending.returned (.string ⟨s.toArray⟩)) HE2.out,rfl⟩
def Ws(l:List Bs):Prop:=∀x∈l,x.length<=21
theorem Ws.app(ha:Ws a)(hb:Ws b):Ws (a++b):=fun x hx=>by
 rcases ph.1 hx with h|h
 ·exact ha x h
 ·exact hb x h
theorem vC:Ws []:=fun x hx=>by cases hx
theorem yM{a:Bs}{l:List Bs}(ha:a.length<=21)(hl:Ws l):Ws (a::l):=fun x hx=>by
 rcases pf.1 hx with rfl|h
 ·exact ha
 ·exact hl x h
theorem tQ{p:Prop}[Decidable p](ha:Ws a)(hb:Ws b):Ws (if p then a else b):=by split;exact ha;exact hb
theorem Cq{p:Prop}[Decidable p](ha:p->Ws a)(hb:¬p->Ws b):Ws (if p then a else b):=by split <;> rename_i h;exact ha h;exact hb h
theorem Cr{f:Nat->List Bs}{n:Nat}(h:∀i,i<n->Ws (f i)):Ws ((List.range n).flatMap f):=fun x hx=>by
 obtain⟨i,hi,hx'⟩:=bq.1 hx;exact h i (md.1 hi) x hx'
theorem wP{n:Int}(h0:0<=n)(h1:n<=9999):(Lib.itoa n).length<=21:=Lib.itoa_length_le n (by omega) (by omega)
theorem sZ(f:UInt8)(i:Nat):(xL f i).length<=21:=by unfold xL;simp
theorem gB:(yV i).length<=21:=by unfold yV;split <;> exact sZ _ _
theorem uk(k:Nat):(rC k).length<=21:=by
 unfold rC;rcases k with _|_|_|_|_|_|k <;> simp
theorem zEX{t:yF}(h:vU low t):Ws (uS t):=by
 unfold uS;refine tQ (yM (by decide) vC) (tQ (yM (gB _) vC) (tQ (yM (by decide) (yM (sZ _ _) vC)) (Cq (fun h3=>yM (gB _) (yM (uk _) (yM ?_ vC))) (fun _=>yM (gB _) (yM (uk _) (yM (gB _) vC))))));rcases h with h|⟨h,-⟩|⟨h,-⟩|⟨-,-,-,-,n1,n2⟩
 ·omega
 ·omega
 ·omega
 ·exact wP n1 n2
theorem zGB{t:yF}(h:vU low t)(lo:Bool):Ws (xH t lo):=by
 unfold xH;exact(((tQ (yM (by decide) vC) vC).app (tQ (yM (by decide) vC) vC)).app (zEX h)).app (tQ (yM (by decide) vC) vC)
theorem zHM{ts:List yF}(h:pE low ts)(wh lo:Bool):Ws (cP wh ts lo):=by
 unfold cP jW;refine(((tQ (yM (by decide) vC) vC).app (tQ (yM (by decide) vC) vC)).app (Cr fun i hi=>?_)).app (tQ (yM (by decide) vC) vC);refine Ws.app ?_ (zGB (h.2.2 _ (by simp[List.getD,hi])) lo);unfold kU;exact tQ vC (tQ (yM (by decide) vC) (yM (by decide) vC))
theorem zGM{ps:List xF}(h:tM low ps):Ws (cM ps):=by
 unfold cM mA;refine Cr fun i hi=>?_;have hp:=h.2.2 (ps.getD i aV) (by simp[List.getD,hi]);generalize ps.getD i aV=p at *;unfold lI dS qG pO qO;refine(((tQ vC (tQ (yM (by decide) vC) (yM (by decide) vC))).app (Cq (fun hc=>yM ?_ vC) (fun _=>vC))).app (tQ (yM (by decide) vC) vC)).app (tQ (yM (gB _) vC) (tQ (yM (sZ _ _) vC) vC));rcases hp with ⟨-,h1,-,-⟩|⟨h0,h1,-⟩|⟨-,h1,-⟩|⟨h1,-,-⟩
 ·exact wP h1.1 h1.2
 ·rcases hc with hc|hc
  ·exact absurd (hc.symm.trans h0) (by simp)
  ·omega
 ·exact wP h1.1 (by omega)
 ·exact wP h1.1 (by omega)
theorem zGU{H:List Nat}{r:vR}(h:gV H r)(i:Nat)(lo:Bool):Ws (cO r i lo)/\(cO r i lo).length<=100:=by
 have h1:=Vu r.whole r.tests lo h.tests.1 h.tests.2.1;have h2:=Qk r.parts r.parts.length;have h3:=h.parts.2.1;refine⟨?_,?_⟩
 ·have q1:Ws [[114,117,108,101],xL 114 i,[58],xL 99 r.head,[61]]:=yM (by decide) (yM (sZ _ _) (yM (by decide) (yM (sZ _ _) (yM (by decide) vC))))
  unfold cO;exact(((q1.app (zGM h.parts)).app (yM (by decide) vC)).app (zHM h.tests _ _)).app (yM (by decide) vC)
 ·unfold cO cM
  simp only[tq,tz,List.length_nil];omega
theorem qj{M:yB}(h:yH M)(lo:Bool):∀l∈xW M lo,Ws l/\l.length<=100:=fun l hl=>by
 unfold xW at hl;rcases ph.1 hl with hl|hl
 ·rcases ph.1 hl with hl|hl
  ·obtain⟨i,-,rfl⟩:=pd.1 hl
   unfold gE;split
   ·rename_i h3
    have:=h.nums i h3;exact⟨yM (by decide) (yM (gB _) (yM (wP (by omega) (by omega)) (yM (by decide) (yM (wP (by omega) (by omega)) (yM (by decide) vC))))),by simp⟩
   ·exact⟨yM (by decide) (yM (gB _) (yM (by decide) vC)),by simp⟩
  ·obtain⟨i,hi,rfl⟩:=pd.1 hl
   exact zGU (h.rules _ (by simp[List.getD,md.1 hi])) i lo
 ·obtain⟨i,-,hl⟩:=bq.1 hl
  unfold tU at hl;obtain⟨j,-,hl⟩:=bq.1 hl;split at hl
  ·rw[pr.1 hl]
   exact⟨yM (by decide) (yM (sZ _ _) (yM (sZ _ _) (yM (by decide) vC))),by simp[ZJ]⟩
  ·cases hl
theorem lD{α:Type}{l:List α}{i:Nat}(d:α)(h:i<l.length):l.getD i d∈l:=by simp[List.getD,h]
theorem KZ{M:yB}(h:yH M)(lo:Bool):zB3 (xW M lo):=by
 have hl:=qj h lo;have hm:∀i,i<(xW M lo).length->(xW M lo).getD i []∈xW M lo:=fun i hi=>by simp[List.getD,hi]
 refine⟨?_,fun i hi=>(hl _ (hm i hi)).2,fun i k hi hk=>(hl _ (hm i hi)).1 _ (lD [] hk)⟩;have h1:=V0 M M.rules.length M.rules.length;have h2:=h.few;have h3:M.rules.length*M.rules.length<=64:=Nat.mul_le_mul h2 h2;unfold xW;simp only[tq,me,List.length_range];omega
theorem Dj(w:World)(g:Nat)(M:yB)(hM:jI w g M)(hO:yH M)(hT:gU w) :
 Calls Tryz.prog 12 #[.pointer (some ⟨g,0,none⟩)] w fun e w'=>e=.returned (.string ⟨(Yp (xW M false)).toArray⟩)/\Below w.heap.size w w':=by
 have HL:=zA (jw w g M false hM hO hT);have HW:=zA (fun w' a c (h:Cj w' a (xW M false))=>BV w' a c (xW M false) h (KZ hO false));generalize Yp (xW M false)=tx at *;clear hM hO hT
 go_enter Tryz.func12,Tryz.ntmps12
 go_wp2_with fail
 refine HL.out.mono ?_;rintro e w1 ⟨v,vs,rfl,hS⟩;obtain⟨a,c,rfl,hc⟩:=uM hS.own;have HWw:=zA (HW.out w1 a c ⟨vs,hc,hS.ins⟩);have HB:=zA hS.bel;clear hS hc;go_wp2_with fail
 refine HWw.out.mono ?_;rintro e w2 ⟨rfl,hw⟩;obtain rfl:=hw.symm;go_wp2_with fail
 go_ret
 exact⟨rfl,HB.out⟩
def isW(s:Bs):Bool:=(decide (97<=(s.getD 0 0).toNat)&&decide ((s.getD 0 0).toNat<=122)) || (decide (48<=(s.getD 0 0).toNat)&&decide ((s.getD 0 0).toNat<=57))
def zFX(p x g:Bs):Prop:=(g=[]/\¬(isW p=true/\isW x=true))\/g=[32]\/g=[10]\/g=[32,10,32]
def Gw:List Bs->List Bs->Bs
 | g::gs,x::xs=>g++x++Gw gs xs
 | _,_=>[]
theorem Gv(g x:Bs):∀(gs xs:List Bs),gs.length=xs.length->Gw (gs++[g]) (xs++[x])=Gw gs xs++(g++x):=by
 intro gs
 induction gs with
 | nil=>intro xs h;cases xs with|nil=>simp[Gw]|cons _ _=>cases h
 | cons a r ih=>intro xs h;cases xs with
   | nil=>cases h
   | cons b xs=>simp only[my,Gw];rw[ih xs (by simpa using h)];simp
structure Str(ws:List Bs)(s last:Bs)(gs:List Bs):Prop where
 len:gs.length=ws.length
 txt:s=Gw gs ws
 lst:last=([[59]]++ws).getD ws.length []
 gap:∀i,i<ws.length->zFX (([[59]]++ws).getD i []) (ws.getD i []) (gs.getD i [])
 few:s.length<=ws.length*24
theorem Str.snoc{ws:List Bs}{s last g x:Bs}{gs:List Bs}(h:Str ws s last gs)(hg:zFX last x g)(hx:x.length<=21):Str (ws++[x]) (s++(g++x)) x (gs++[g]):=by
 have hl:=h.len;refine⟨by simp[hl],by rw[Gv _ _ _ _ hl,<-h.txt],by simp[List.getD],fun i hi=>?_,?_⟩
 ·by_cases zJS:i<ws.length
  ·have:=h.gap i zJS
   have e1:([[59]]++(ws++[x])).getD i []=([[59]]++ws).getD i []:=by
    rw[<-pj,ma,ma,po (by simp;omega)]
   have e2:(ws++[x]).getD i []=ws.getD i []:=by rw[ma,ma,po zJS]
   have e3:(gs++[g]).getD i []=gs.getD i []:=by rw[ma,ma,po (by omega)]
   rw[e1,e2,e3];exact this
  ·obtain rfl:i=ws.length:=by simp at hi;omega
   have e1:([[59]]++(ws++[x])).getD ws.length []=last:=by
    rw[h.lst,<-pj,ma,ma,po (by simp)]
   have e2:(ws++[x]).getD ws.length []=x:=by simp[List.getD]
   have e3:(gs++[g]).getD ws.length []=g:=by rw[<-hl];simp[List.getD]
   rw[e1,e2,e3];exact hg
 ·have h1:=h.few
  have h2:g.length<=3:=by rcases hg with ⟨rfl,-⟩|rfl|rfl|rfl <;> simp
  simp only[tq,tz,List.length_nil];omega
end Go.Proofs.YtnbpdffdnphbeabGreatDoor
