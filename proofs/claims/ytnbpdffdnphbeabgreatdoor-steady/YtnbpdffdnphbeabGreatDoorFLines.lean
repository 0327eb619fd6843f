import Derived.Test.YtnbpdffdnphbeabGreatDoorFSumW
import Derived.Test.YtnbpdffdnphbeabGreatDoorFBuild
import Derived.Lib.ItoaLen
open Go.Proofs.Tryz
set_option maxHeartbeats 3000000
set_option maxRecDepth 100000
namespace Go.Proofs.YtnbpdffdnphbeabGreatDoor
open Go.RowKit
variable{a b:List Bs}{low:List Nat}{w:World}(M:yO)(i:Nat)
def oA:vR:=⟨0,false,[],[]⟩
def nS(M:yO)(i:Nat):List Bs:=if i<3 then [[110,117,109],xC i,Lib.itoa (M.lo i),[46,46],Lib.itoa (M.hi i),[59]] else [[102,108,97,103],xC i,[59]]
def Xa(i j:Nat):List Bs:=[[111,118,101,114],xU 114 i,xU 114 j,[59]]
def pF(M:yO)(i j:Nat):List (List Bs):=(List.range j).flatMap λk=>if M.over i k=true then [Xa i k] else []
def xY(M:yO)(lo:Bool):List (List Bs):=(List.range 5).map (nS M)++(List.range M.rules.length).map (λi=>dU (M.rules.getD i oA) i lo)++(List.range M.rules.length).flatMap λi=>pF M i M.rules.length
theorem bF.below{w':World}{g:Nat}{M:yO}(h:bF w g M)(hb:Below w.heap.size w w'):bF w' g M:=by
 obtain⟨ra,ha,rc,hc,xs,h1,h2,h3,h4,h5⟩:=h.mem;exact⟨ra,ha,rc,hc,xs,h1,h2.below hb,h3.below hb,λx hx=>(h4 x hx).below hb,h5.below hb⟩
theorem ue:(prog.info? 70).map (λi=>(i.zero,i.size,i.bytes))=some (some (.slice none 0 0),1,24):=by kernel_rfl
structure Jp(w wx:World)(v:Value)(L:List (List Bs))(vs:List Value):Prop where
 own:wx.ownsRow w.heap.size 70 1 v L.length vs
 ins:pB wx vs L
 af:Below w.heap.size w wx
theorem Jp.below{wx w':World}{v:Value}{L:List (List Bs)}{vs:List Value}(h:Jp w wx v L vs)(hb:Below wx.heap.size wx w'):Jp w w' v L vs:=⟨kV h.own hb,h.ins.below hb,h.af.trans (hb.mono h.af.size)⟩
theorem Jp.app{wx wz w9:World}{v v9 lv:Value}{L:List (List Bs)}{vs:List Value}{l:List Bs}(h:Jp w wx v L vs)(hz:Below wx.heap.size wx wz)(hl:BX wz lv l)(hg:wz.grownBy w9 v.ownBlock)(b5:w9.ownsRow w.heap.size 70 1 v9 (L.length+1) (vs++[lv])):Jp w w9 v9 (L++[l]) (vs++[lv]):=by
 have hZ:=h.below hz;refine⟨by rw[tm];exact b5,pB.snoc (hl.grown hZ.own hg) (hZ.ins.grown hZ.own hg),hZ.af.grown hg hZ.af.size (zS hZ.own)⟩
theorem Dy(w:World)(cs:Array Value)(ws:List Bs)(h:cs.toList=xG ws):BX (w.alloc (.cells cs 9)) (.slice (some ⟨w.heap.size,0,none⟩) ws.length ws.length) ws :=
 ⟨_,_,rfl,.inr ⟨w.heap.size,cs,_,rfl,zF _ _,λj _=>by rw[<-h,da]⟩⟩
theorem bF.rule{g:Nat}{M:yO}(h:bF w g M){i:Nat}(hi:i<M.rules.length):∃gr rc pa pc qa qc,w.cell? ⟨g,6,none⟩=some (.slice (some ⟨gr,0,none⟩) M.rules.length rc)/\(w.cell? ⟨gr,i*4,none⟩=some (.int .i64 ((M.rules.getD i oA).head:Int))/\w.cell? ⟨gr,i*4+1,none⟩=some (.bool (M.rules.getD i oA).whole)/\w.cell? ⟨gr,i*4+2,none⟩=some (.slice pa (M.rules.getD i oA).parts.length pc)/\w.cell? ⟨gr,i*4+3,none⟩=some (.slice qa (M.rules.getD i oA).tests.length qc))/\xX w 89 pa ((M.rules.getD i oA).parts.flatMap rM)/\xX w 87 qa ((M.rules.getD i oA).tests.flatMap nV):=by
 obtain⟨ra,ha,rc,hc,xs,h1,h2,h3,h4,-⟩:=h.mem;have hl:i<xs.length:=by rw[<-h1,pt]at hi;exact hi
 have he:(xs.getD i (oA,.slice none 0 0,.slice none 0 0)).1=M.rules.getD i oA:=by rw[<-h1];simp[List.getD,hl]
 have hm:xs.getD i (oA,.slice none 0 0,.slice none 0 0)∈xs:=by simp[List.getD,hl]
 have hv:=h4 _ hm;have hf:=λr hr=>zV rh 4 (λ_=>rfl) (oA,Value.slice none 0 0,Value.slice none 0 0) xs i r hl hr;generalize xs.getD i (oA,.slice none 0 0,.slice none 0 0)=x at *;obtain⟨x1,x2,x3⟩:=x;simp only at he;subst he;obtain⟨pa,pc,e1,q1⟩:=hv.parts;obtain⟨qa,qc,e2,q2⟩:=hv.tests;simp only at e1 e2 q1 q2;subst e1 e2;obtain⟨gr,e0,c0⟩:=h3.ay.at ((hf 0 (by decide)).trans rfl);subst e0
 have tt:∀(r:Nat) (u:Value),r<4->(rh (M.rules.getD i oA,.slice pa (M.rules.getD i oA).parts.length pc,.slice qa (M.rules.getD i oA).tests.length qc))[r]? = some u->w.cell? ⟨gr,i*4+r,none⟩=some u:=λr u hr hu=>by
  obtain⟨g',e',c'⟩:=h3.ay.at ((hf r hr).trans hu);obtain rfl:gr=g':=by simpa using e'
  exact c'
 exact⟨gr,rc,pa,pc,qa,qc,h2.cells.2.2.1,⟨c0,tt 1 _ (by decide) rfl,tt 2 _ (by decide) rfl,tt 3 _ (by decide) rfl⟩,q1,q2⟩
theorem Z5{H:List Nat}{h d:Nat}(hd:d∈xP H h):d<h:=by
 unfold xP at hd;exact me.1 (mu.1 hd).1
theorem Kj(j:Nat):pF M i (j+1)=pF M i j++if M.over i j=true then [Xa i j] else []:=by unfold pF;rw[bf,lk];simp
theorem Bf:∀j,(pF M i j).length<=j:=by
 intro j
 induction j with
 | zero=>simp[pF]
 | succ j ih=>rw[Kj,tm];have:((if M.over i j=true then [Xa i j] else []):List (List Bs)).length<=1:=by split <;> simp
              omega
theorem Kk(n i:Nat):((List.range (i+1)).flatMap λi=>pF M i n)=((List.range i).flatMap λi=>pF M i n)++pF M i n:=by rw[bf,lk];simp
theorem Bg(n:Nat):∀i,((List.range i).flatMap λi=>pF M i n).length<=n*i:=by
 intro i
 induction i with
 | zero=>simp
 | succ i ih=>rw[Kk,tm];have:=Bf M i n;rw[Nat.mul_succ];omega
theorem sH{α:Type}(f:Nat->α)(i:Nat):(List.range (i+1)).map f=(List.range i).map f++[f i]:=by rw[bf,bj];rfl
theorem RC(w:World)(g:Nat)(M:yO)(lo:Bool)(hM:bF w g M)(hO:yR M)(hT:eG w) :
 Calls prog 21 #[.pointer (some ⟨g,0,none⟩),.bool lo] w λe w'=>∃v vs,e=.returned v/\Jp w w' v (xY M lo) vs:=by
 obtain⟨i0,ai,hz0,hz1,aq⟩:=du ue;have bo:=zA (λw' (hb:Below w.heap.size w w')=>hT.below hb);have ae:=zA (λw' (hb:Below w.heap.size w w')=>hM.below hb);have cW:=zA hO.au;have cD:=hO.aj;have HOr:=zA hO.rules;have aR:Hid (xY M lo=(List.range 5).map (nS M)++(List.range M.rules.length).map (λi=>dU (M.rules.getD i oA) i lo)++(List.range M.rules.length).flatMap λi=>pF M i M.rules.length):=rfl;have bz:Hid (∀i,nS M i=if i<3 then [[110,117,109],xC i,Lib.itoa (M.lo i),[46,46],Lib.itoa (M.hi i),[59]] else [[102,108,97,103],xC i,[59]]):=λ_=>rfl;generalize xY M lo=TL at *;clear hM hO hT
 go_enter func21,ntmps21
 go_wp2_with fail
 go_loopw [5,6] (λov iv wr=>∃(i:Nat) (vs:List Value),i<=5/\iv=.int .i64 (i:Int)/\Hid (Jp w wr ov ((List.range i).map (nS M)) vs)) (λ_ iv _=>5-(intOf iv).toNat)
 case atStart=>exact⟨0,[],p8,rfl,zA ⟨ly _ _ _ _,trivial,tl _ _⟩⟩
 case round =>
  obtain⟨i,vs,hi,rfl,HS⟩:=hrel;obtain⟨oa,oc,rfl⟩:=zO HS.out.own;by_cases aG:i<5
  ·have ii:(i:Int)<5:=by omega
   have bU:=zA (λw'=>fG w' i aG);have bP:=zA (bz.out i);have HE:=zA (sH (nS M) i);generalize xC i=iw at *;generalize nS M i=il at *;have b4:((List.range i).map (nS M)).length<=5:=(by simp;omega);generalize (List.range i).map (nS M)=L0 at *;have ck:=HS.out.af.size;go_wp2_with fail
   refine(bU.out _).mono ?_;rintro e w5 ⟨rfl,aJ⟩;have aS:=zA aJ;have aQ:=zA aJ.size;clear aJ
   go_upto_if 21 with fail
   go_cut [7] from 13 to 42 (λv7 wx=>Hid (BX wx v7 il)/\Hid (Below wr.heap.size wr wx))
   case first =>
    by_cases k3:i<3
    ·have k4:(i:Int)<3:=by omega
     have bQ:Hid (il=[[110,117,109],iw,Lib.itoa (M.lo i),[46,46],Lib.itoa (M.hi i),[59]]):=bP.out.trans (tr k3);have b3:=cW.out i k3
     have ag:=zA (λw' (hb:Below wr.heap.size wr w')=>(show w'.cell? ⟨g,i,none⟩=some (.int .i64 (M.lo i))/\w'.cell? ⟨g,3+i,none⟩=some (.int .i64 (M.hi i)) by
      obtain⟨_,_,_,_,_,-,h2,-⟩:=(ae.out w' (HS.out.af.trans (hb.mono HS.out.af.size))).mem;exact⟨h2.cells.1 i k3,h2.cells.2.1 i k3⟩))
     have HA:=zA (λw' ht=>Xy w' (M.lo i) (by omega) (by omega) ht);have cg:=zA (λw' ht=>Xy w' (M.hi i) (by omega) (by omega) ht);have bn:=zA (λw' (hb:Below wr.heap.size wr w')=>bo.out w' (HS.out.af.trans (hb.mono HS.out.af.size)));have bT:Hid (Below wr.heap.size wr (w5.alloc (.cells #[.string ⟨#[102,108,97,103]⟩,.string ⟨iw.toArray⟩,.string ⟨#[59]⟩] 9))):=aS.out.alloc aQ.out _;generalize Lib.itoa (M.lo i)=s1 at *;generalize Lib.itoa (M.hi i)=s2 at *;generalize M.lo i=a at *;generalize M.hi i=b at *;clear b3 k3 bP
     go_upto_region 7 with fail
     generalize w5.alloc (.cells #[.string ⟨#[102,108,97,103]⟩,.string ⟨iw.toArray⟩,.string ⟨#[59]⟩] 9)=W at *;obtain⟨p1,p2⟩:=ag.out W bT.out;have cl:=yJ p1
     go_region_held3 (λw'=>w'.cell? ⟨g,i,none⟩=some (.int .i64 a)/\w'.cell? ⟨g,3+i,none⟩=some (.int .i64 b)) (go_keep) (first
      | (go_at_call 44;refine(bU.out _).mono ?_;rintro e w7 ⟨rfl,aH⟩;have aP:Below wr.heap.size wr w7:=bT.out.trans (((md (tl _ _)).trans aH).mono bT.out.size);obtain⟨p1,p2⟩:=ag.out w7 aP)
      | (go_at_call_of 45 (Value.int .i64 a);refine(HA.out _ (bn.out _ aP)).mono ?_;rintro e w8 ⟨rfl,cM⟩;have aO:Below wr.heap.size wr w8:=aP.trans (cM.mono aP.size);obtain⟨p1,p2⟩:=ag.out w8 aO)
      | (go_at_call_of 45 (Value.int .i64 b);refine(cg.out _ (bn.out _ aO)).mono ?_;rintro e w9 ⟨rfl,cK⟩;have a6:Below wr.heap.size wr w9:=aO.trans (cK.mono aO.size);obtain⟨p1,p2⟩:=ag.out w9 a6;have n9:w9.heap.size≠g:=by have:=yJ p1;omega))
     all_goals
      have b2:=zA a6;clear a6 aO aP;go_wp2_with fail
      go_meet
      exact⟨by rw[bQ.out];exact zA (Dy w9 _ [[110,117,109],iw,s1,[46,46],s2,[59]] rfl),zA (b2.out.alloc b2.out.size _)⟩
    ·have k4:¬(i:Int)<3:=by omega
     have bQ:Hid (il=[[102,108,97,103],iw,[59]]):=bP.out.trans (tj k3);go_wp2_with fail
     go_meet
     exact⟨by rw[bQ.out];exact zA (Dy w5 _ [[102,108,97,103],iw,[59]] rfl),zA (aS.out.alloc aQ.out _)⟩
   case rest =>
    obtain⟨ah,ao⟩:=hcut;obtain⟨la,lc,rfl,-⟩:=ah.out;have aA:=zA (HS.out.below ao.out);have ar:=aA.out.af.size
    go_wp2_with (at_builtin;refine wpList_append_own _ rfl _ _ 57 rfl w.heap.size 70 i0 _ 1 24 underlying57 ai hz0 hz1 aq rfl (by decide) _ _ _ rfl (aA.out.own.alloc _) ⟨wc.heap.size,0,none⟩ 1 1 [.slice la il.length lc] rfl rfl ?bO ?bN ?bM ?bL ?bK ?_)
    try (case bO=>exact zM _ _ _ _ rfl)
    try (case bN=>first|rfl|(intro u hu;simp at hu;rcases hu with rfl;rfl))
    try (case bM=>unfold maxLen;omega)
    try (case bL=>omega)
    try (case bK=>first|omega|(simp;omega))
    intro v6 w6 aB aC _;have aD:Hid (Jp w w6 v6 (L0++[il]) (vs++[.slice la il.length lc])):=aA.out.app (fk (tg _) _) (ah.out.below (fk (tg _) _)) aC aB;clear aB aC;have Z:Hid (Jp w w6 v6 ((List.range (i+1)).map (nS M)) (vs++[.slice la il.length lc])):=by unfold Hid;rw[HE.out];exact aD.out
    clear aD aA HS;go_wp2_with fail
    go_roundw
    case rel=>exact⟨i+1,_,by omega,by go_num,Z⟩
    case measure=>simp[intOf];omega
  ·have c9:¬(i:Int)<5:=by omega
   obtain⟨L5,aY⟩:∃L5,L5=(List.range 5).map (nS M):=⟨_,rfl⟩
   have bp:Hid (Jp w wr (.slice oa i oc) L5 vs):=by
    have h1:=HS.out;rw[show ((List.range i).map (nS M)).length=i by simp]at h1;unfold Hid;rw[aY,show (5:Nat)=i by omega];exact h1
   have cu:L5.length<=5:=(by rw[aY];simp);rw[<-aY]at aR;clear HS aG hi aY bz;obtain⟨RW,az⟩:∃RW:Nat->List Bs,RW=λi=>dU (M.rules.getD i oA) i lo:=⟨_,rfl⟩;have bt:Hid (∀i,RW i=dU (M.rules.getD i oA) i lo):=λi=>by rw[az]
   rw[<-az]at aR;clear az
   have bS:=zA (λw' (hb:Below w.heap.size w w')=>(show ∃ra rc,w'.cell? ⟨g,6,none⟩=some (.slice ra M.rules.length rc) by
    obtain⟨ra,_,rc,_,_,-,h2,-⟩:=(ae.out w' hb).mem;exact⟨ra,rc,h2.cells.2.2.1⟩))
   generalize bZ:M.rules.length=n at *;have bu:=zA bZ;clear bZ;go_wp2_with fail
   go_loopw [5,8] (λov iv wr=>∃(k:Nat) (vs:List Value),k<=n/\iv=.int .i64 (k:Int)/\Hid (Jp w wr ov (L5++(List.range k).map RW) vs)) (λ_ iv _=>n-(intOf iv).toNat)
   case atStart=>exact⟨0,vs,p8,rfl,by rw[show L5++(List.range 0).map RW=L5 from mt _];exact bp⟩
   case round =>
    clear bp;obtain⟨k,aV,hk,rfl,HS⟩:=hrel;obtain⟨b9,b7,rfl⟩:=zO HS.out.own;by_cases aM:k<n
    ·have kk:(k:Int)<(n:Int):=by omega
     have av:k<M.rules.length:=(by rw[bu.out];exact aM);obtain⟨gr,rc,pa,pc,qa,qc,d6,⟨e0,e1,e2,e3⟩,ax,aw⟩:=(ae.out wr HS.out.af).rule av;rw[bu.out]at d6;have aF:=HOr.out (M.rules.getD k oA) (by simp[List.getD,av]);have cP:=zA (bt.out k);have HE:=zA (sH RW k);generalize M.rules.getD k oA=r at *;obtain⟨h,wh,ps,ts⟩:=r;simp only at e0 e1 e2 e3 ax aw;have br:=zA (RE wr h k wh lo pa qa pc qc ps ts (xP M.aa h) aF.head (by omega) aF.parts aF.tests (λd hd=>by have:=Z5 hd;have:=aF.head;simp only at this;omega) ax aw (bo.out wr HS.out.af));have cn:ps.length<=4:=aF.parts.2.1;have cm:ts.length<=6:=aF.tests.2.1;have b4:(L5++(List.range k).map RW).length<=20:=(by rw[tm,pt,nl];omega);generalize bl:L5++(List.range k).map RW=L0 at *;have cY:=zA bl;clear bl;generalize dU ⟨h,wh,ps,ts⟩ k lo=rl at *;clear aF ax aw av;go_wp2_with fail
     refine br.out.mono ?_;rintro e w7 ⟨v7,rfl,bY,aH⟩;obtain⟨la,lc,rfl,bb⟩:=uT bY;have ah:Hid (BX w7 (.slice la rl.length lc) rl):=⟨la,lc,rfl,bb⟩;have aA:=zA (HS.out.below aH);have ar:=aA.out.af.size;clear bY aH bb e0 e1 e2 e3 d6 br
     go_wp2_with (at_builtin;refine wpList_append_own _ rfl _ _ 57 rfl w.heap.size 70 i0 _ 1 24 underlying57 ai hz0 hz1 aq rfl (by decide) _ _ _ rfl (aA.out.own.alloc _) ⟨w7.heap.size,0,none⟩ 1 1 [.slice la rl.length lc] rfl rfl ?bJ ?bI ?bH ?bG ?bE ?_)
     try (case bJ=>exact zM _ _ _ _ rfl)
     try (case bI=>first|rfl|(intro u hu;simp at hu;rcases hu with rfl;rfl))
     try (case bH=>unfold maxLen;omega)
     try (case bG=>omega)
     try (case bE=>first|omega|(simp;omega))
     intro v6 w6 aB aC _;have aD:Hid (Jp w w6 v6 (L0++[rl]) (aV++[.slice la rl.length lc])):=aA.out.app (fk (tg _) _) (ah.out.below (fk (tg _) _)) aC aB;clear aB aC;have Z:Hid (Jp w w6 v6 (L5++(List.range (k+1)).map RW) (aV++[.slice la rl.length lc])):=by unfold Hid;rw[HE.out,cP.out,<-po,cY.out];exact aD.out
     clear aD aA HS;go_wp2_with fail
     go_roundw
     case rel=>exact⟨k+1,_,by omega,by go_num,Z⟩
     case measure=>simp[intOf];omega
    ·obtain rfl:n=k:=by omega
     have kk:¬(n:Int)<(n:Int):=(by omega);obtain⟨ra,rc,d6⟩:=bS.out wr HS.out.af;obtain⟨LB,aX⟩:∃LB,LB=L5++(List.range n).map RW:=⟨_,rfl⟩;have ct:LB.length<=13:=by rw[aX,tm,pt,nl];omega
     have bq:Hid (Jp w wr (.slice b9 (L5.length+n) b7) LB aV):=by
      have h1:=HS.out;rw[show (L5++(List.range n).map RW).length=L5.length+n by simp,<-aX]at h1;exact h1
     rw[<-aX]at aR;clear aX bt;clear HS aM hk;obtain⟨FA,aN⟩:∃FA:Nat->List (List Bs),FA=λm=>(List.range m).flatMap λi=>pF M i n:=⟨_,rfl⟩;have cb:Hid (∀m,FA (m+1)=FA m++pF M m n):=λm=>by rw[aN];exact Kk M n m
     have cd:Hid (∀m,(FA m).length<=n*m):=λm=>by rw[aN];exact Bg M n m
     have cf:Hid (FA 0=[]):=(by unfold Hid;rw[aN];rfl);have cO:Hid (TL=LB++FA n):=(by unfold Hid;rw[aR.out,aN]);clear aN aR;go_wp2_with fail
     go_loopw [5,10] (λov iv wr=>∃(m:Nat) (vs:List Value),m<=n/\iv=.int .i64 (m:Int)/\Hid (Jp w wr ov (LB++FA m) vs)) (λ_ iv _=>n-(intOf iv).toNat)
     case atStart=>exact⟨0,aV,p8,rfl,by rw[cf.out,mt];exact bq⟩
     case round =>
      clear bq d6;obtain⟨m,aU,hm,rfl,HS⟩:=hrel;obtain⟨b8,b6,rfl⟩:=zO HS.out.own;obtain⟨ra,rc,d6⟩:=bS.out wr HS.out.af;by_cases cE:m<n
      ·have mm:(m:Int)<(n:Int):=by omega
       have ba:m<8:=(by omega);have cc:=zA (cb.out m);have cI:=cd.out m;have cJ:n*m<=64:=tu (Nat.mul_le_mul cD (p7 ba)) (by decide);have cV:Hid (pF M m 0=[]):=rfl;have cR:=zA (Kj M m);have cS:=zA (Bf M m);have cr:(LB++FA m).length<=77:=(by rw[tm];omega);generalize bh:LB++FA m=LC at *;have cX:=zA bh;clear bh;go_wp2_with fail
       go_loopw [5,11] (λov iv wr=>∃(j:Nat) (vs:List Value),j<=n/\iv=.int .i64 (j:Int)/\Hid (Jp w wr ov (LC++pF M m j) vs)) (λ_ iv _=>n-(intOf iv).toNat)
       case atStart=>exact⟨0,aU,p8,rfl,by rw[cV.out,mt];exact HS⟩
       case round =>
        clear HS d6;obtain⟨j,aT,hj,rfl,HS⟩:=hrel;obtain⟨bW,bV,rfl⟩:=zO HS.out.own;obtain⟨ra,rc,d6⟩:=bS.out wr HS.out.af;by_cases cF:j<n
        ·have jj:(j:Int)<(n:Int):=by omega
         have cH:j<8:=(by omega);have m8:(m:Int)<8:=(by omega);have j8:(j:Int)<8:=by omega
         have bm:wr.cell? ⟨g,7+m*8+j,none⟩=some (.bool (M.over m j)):=by
          obtain⟨_,_,_,_,_,-,h2,-⟩:=(ae.out wr HS.out.af).mem;exact h2.cells.2.2.2.1 m j ba cH
         have cU:=zA (cR.out j);have cp:=cS.out j;have cq:(LC++pF M m j).length<=90:=(by rw[tm];omega);have HEq:Hid (LC++pF M m (j+1)=(LC++pF M m j)++if M.over m j=true then [Xa m j] else []):=(by unfold Hid;rw[cU.out,po]);generalize LC++pF M m j=LD at *;cases aW:M.over m j
         ·rw[aW]at bm HEq
          have Z:Hid (Jp w wr (.slice bW LD.length bV) (LC++pF M m (j+1)) aT):=by
           have e:LC++pF M m (j+1)=LD:=HEq.out.trans (by simp);unfold Hid;rw[e];exact HS.out
          clear aW;go_wp2_with fail
          go_roundw
          case rel=>exact⟨j+1,_,by omega,by go_num,Z⟩
          case measure=>simp[intOf];omega
         ·rw[aW]at bm HEq
          clear aW;have bx:=zA (λw'=>bR w' 114 m (by omega));have bw:=zA (λw'=>bR w' 114 j (by omega));rw[show ((114:UInt8).toNat:Int)=114 from rfl]at bx bw;have cQ:Hid (Xa m j=[[111,118,101,114],xU 114 m,xU 114 j,[59]]):=rfl;generalize Xa m j=ol at *;generalize xU 114 m=n1 at *;generalize xU 114 j=n2 at *;go_wp2_with fail
          refine(bx.out _).mono ?_;rintro e w5 ⟨rfl,aJ⟩;have aS:=zA aJ;clear aJ;go_wp2_with fail
          refine(bw.out _).mono ?_;rintro e w7 ⟨rfl,aH⟩;have ao:Hid (Below wr.heap.size wr w7):=aS.out.trans (aH.mono aS.out.size);have cZ:Hid (BX (w7.alloc (.cells #[.string ⟨#[111,118,101,114]⟩,.string ⟨n1.toArray⟩,.string ⟨n2.toArray⟩,.string ⟨#[59]⟩] 9)) (.slice (some ⟨w7.heap.size,0,none⟩) 4 4) ol):=by unfold Hid;rw[cQ.out];exact Dy w7 _ [[111,118,101,114],n1,n2,[59]] rfl
          have aZ:=zA (HS.out.below (ao.out.alloc ao.out.size (.cells #[.string ⟨#[111,118,101,114]⟩,.string ⟨n1.toArray⟩,.string ⟨n2.toArray⟩,.string ⟨#[59]⟩] 9)));have cB:=aZ.out.af.size;have cC:(w7.alloc (.cells #[.string ⟨#[111,118,101,114]⟩,.string ⟨n1.toArray⟩,.string ⟨n2.toArray⟩,.string ⟨#[59]⟩] 9)).heap.size=w7.heap.size+1:=(by simp);clear aH
          go_upto_region 22 with fail
          generalize w7.alloc (.cells #[.string ⟨#[111,118,101,114]⟩,.string ⟨n1.toArray⟩,.string ⟨n2.toArray⟩,.string ⟨#[59]⟩] 9)=w8 at *;generalize w7.heap.size=g8 at *;clear cC
          go_wp2_with (at_builtin;refine wpList_append_own _ rfl _ _ 57 rfl w.heap.size 70 i0 _ 1 24 underlying57 ai hz0 hz1 aq rfl (by decide) _ _ _ rfl (aZ.out.own.alloc _) ⟨w8.heap.size,0,none⟩ 1 1 [.slice (some ⟨g8,0,none⟩) 4 4] rfl rfl ?bC ?bB ?bA ?a8 ?a7 ?_)
          try (case bC=>exact zM _ _ _ _ rfl)
          try (case bB=>first|rfl|(intro u hu;simp at hu;rcases hu with rfl;rfl))
          try (case bA=>unfold maxLen;omega)
          try (case a8=>omega)
          try (case a7=>first|omega|(simp;omega))
          intro v6 w6 aB aC _;have aD:Hid (Jp w w6 v6 (LD++[ol]) (aT++[.slice (some ⟨g8,0,none⟩) 4 4])):=aZ.out.app (fk (tg _) _) (cZ.out.below (fk (tg _) _)) aC aB;clear aB aC
          have Z:Hid (Jp w w6 v6 (LC++pF M m (j+1)) (aT++[.slice (some ⟨g8,0,none⟩) 4 4])):=by
           have e:LC++pF M m (j+1)=LD++[ol]:=HEq.out.trans (by simp);unfold Hid;rw[e];exact aD.out
          clear aD aZ HS;go_wp2_with fail
          go_roundw
          case rel=>exact⟨j+1,_,by omega,by go_num,Z⟩
          case measure=>simp[intOf];omega
        ·have jj:¬(j:Int)<(n:Int):=by omega
         have Z:Hid (Jp w wr (.slice bW (LC++pF M m j).length bV) (LB++FA (m+1)) aT):=by
          unfold Hid;rw[cc.out,<-po,cX.out,show n=j by omega];exact HS.out
         go_wp2_with fail
         go_roundw
         case rel=>exact⟨m+1,_,by omega,by go_num,Z⟩
         case measure=>simp[intOf];omega
      ·have mm:¬(m:Int)<(n:Int):=by omega
       have Z:Hid (Jp w wr (.slice b8 (LB++FA m).length b6) TL aU):=by
        have h1:=HS.out;unfold Hid;rw[cO.out,show n=m by omega];exact h1
       generalize (LB++FA m).length=zl at *;clear HS;go_wp2_with fail
       go_ret
       first|exact⟨_,aU,rfl,Z.out⟩|exact⟨_,rfl,aU,Z.out⟩
structure zFT(L:List (List Bs)):Prop where
 aj:L.length<=100
 line:∀i,i<L.length->(L.getD i []).length<=100
 word:∀i k,i<L.length->k<(L.getD i []).length->((L.getD i []).getD k []).length<=21
theorem DW(w:World)(a:Option Addr)(c:Nat)(L:List (List Bs))(h:EI w a L)(hS:zFT L) :
 Calls prog 23 #[.slice a L.length c] w λe w'=>e=.returned (.string ⟨(X1 L).toArray⟩)/\w'=w:=by
 have HO:=zA h;have HS:=zA hS;have cj:=hS.aj;clear h hS
 go_enter func23,ntmps23
 go_wp2_with fail
 go_loop [3,4] (λsv iv=>∃(i:Nat) (s:Bs),i<=L.length/\sv=.string ⟨s.toArray⟩/\iv=.int .i64 i/\s.length<=i*5000/\Hid (s=X1 (L.take i))) (λ_ iv=>L.length-(intOf iv).toNat)
 case atStart=>exact⟨0,[],p8,rfl,rfl,by simp,zA rfl⟩
 case round =>
  obtain⟨i,s,hi,rfl,rfl,hs,HE⟩:=hrel;by_cases aG:i<L.length
  ·obtain⟨g,la,lc,rfl,hc,bX⟩:=HO.out.line i aG
   have cG:=HS.out.line i aG;have HT:Hid (∀k,k<(L.getD i []).length->((L.getD i []).getD k []).length<=21):=λk hk=>HS.out.word i k aG hk;have ak:Hid (X1 (L.take (i+1))=s++gO (L.getD i [])):=(by unfold Hid;rw[jx L i aG,<-HE.out]);generalize L.getD i []=ws at *;have HW:=zA bX;clear bX HE;go_wp2_with fail
   go_loop [3,5] (λsv kv=>∃(k:Nat) (t:Bs),k<=ws.length/\sv=.string ⟨t.toArray⟩/\kv=.int .i64 k/\t.length<=i*5000+k*30/\Hid (t=s++ji ws k)) (λ_ kv=>ws.length-(intOf kv).toNat)
   case atStart =>
    refine⟨0,s,p8,rfl,rfl,?_,zA (mt s).symm⟩;rw[fa,lh];exact hs
   case round =>
    obtain⟨k,t,hk,rfl,rfl,ht,HF⟩:=hrel;by_cases bc:k<ws.length
    ·obtain⟨gl,rfl,cv⟩:=HW.out k bc
     have hx:=HT.out k bc
     have aK:Hid (s++ji ws (k+1)=(if 0<k/\ws.getD k []≠[59] then t++[32] else t)++ws.getD k []):=by
      unfold Hid;rw[ji,HF.out];split <;> simp
     generalize ws.getD k []=x at *;clear HF;by_cases k0:k=0
     ·subst k0
      have aI:Hid (s++ji ws (0+1)=t++x):=(by have:=aK.out;rw[i6]at this;exact this);clear aK;go_wp2_with fail
      go_round
      case rel=>exact⟨0+1,t++x,by omega,by rw[<-QQ],by go_num,by simp;omega,zA aI.out.symm⟩
      case measure=>simp[intOf];omega
     ·have bk:(0:Int)<(k:Int):=by omega
      by_cases k1:x=[59]
      ·have aI:Hid (s++ji ws (k+1)=t++x):=by have:=aK.out;rw[tj (λq=>q.2 k1)]at this;exact this
       have b1:(x==[59])=true:=(by simpa using k1);clear aK k1;go_wp2_with fail
       go_round
       case rel=>exact⟨k+1,t++x,by omega,by rw[<-QQ],by go_num,by simp;omega,zA aI.out.symm⟩
       case measure=>simp[intOf];omega
      ·have aI:Hid (s++ji ws (k+1)=t++[32]++x):=by have:=aK.out;rw[tr ⟨by omega,k1⟩]at this;exact this
       have b1:(x==[59])=false:=(by simpa using k1);clear aK k1;go_wp2_with fail
       go_round
       case rel=>exact⟨k+1,t++[32]++x,by omega,by rw[<-QQ,<-QQ],by go_num,by simp;omega,zA aI.out.symm⟩
       case measure=>simp[intOf];omega
    ·obtain rfl:k=ws.length:=by omega
     have aI:Hid (X1 (L.take (i+1))=t++[10]):=(by unfold Hid;rw[ak.out,HF.out,po,N4]);clear HF ak;go_wp2_with fail
     go_round
     case rel=>exact⟨i+1,t++[10],by omega,by rw[<-QQ],by go_num,by simp;omega,zA aI.out.symm⟩
     case measure=>simp[intOf];omega
  ·have ak:Hid (s=X1 L):=by have:=HE.out;rw[f8 (by omega)]at this;exact this
   clear HE;go_wp2_with fail
   go_ret
   exact⟨gk (λs:Bs=>Ending.returned (.string ⟨s.toArray⟩)) ak.out,rfl⟩
def Ws(l:List Bs):Prop:=∀x∈l,x.length<=21
theorem Ws.app(ha:Ws a)(hb:Ws b):Ws (a++b):=λx hx=>by
 rcases pj.1 hx with h|h
 ·exact ha x h
 ·exact hb x h
theorem vM:Ws []:=λx hx=>by cases hx
theorem xA{a:Bs}{l:List Bs}(ha:a.length<=21)(hl:Ws l):Ws (a::l):=λx hx=>by
 rcases pi.1 hx with rfl|h
 ·exact ha
 ·exact hl x h
theorem pM{p:Prop}[Decidable p](ha:Ws a)(hb:Ws b):Ws (if p then a else b):=by split;exact ha;exact hb
theorem Ft{p:Prop}[Decidable p](ha:p->Ws a)(hb:¬p->Ws b):Ws (if p then a else b):=by split <;> rename_i h;exact ha h;exact hb h
theorem Fu{f:Nat->List Bs}{n:Nat}(h:∀i,i<n->Ws (f i)):Ws ((List.range n).flatMap f):=λx hx=>by
 obtain⟨i,hi,cA⟩:=bg.1 hx;exact h i (me.1 hi) x cA
theorem Yk{n:Int}(h0:0<=n:=by omega)(h1:n<=9999:=by omega):(Lib.itoa n).length<=21:=Lib.itoa_length_le n (by omega) (by omega)
theorem iQ(f:UInt8)(i:Nat):(xU f i).length<=21:=by unfold xU;simp
theorem oN:(xC i).length<=21:=by unfold xC;split <;> exact iQ _ _
theorem Iq(k:Nat):(aL k).length<=21:=by
 unfold aL;rcases k with _|_|_|_|_|_|k <;> simp
theorem NW{t:yH}(h:vO low t):Ws (uZ t):=by
 unfold uZ;refine pM (xA (by decide) vM) (pM (xA (oN _) vM) (pM (xA (by decide) (xA (iQ _ _) vM)) (Ft (λh3=>xA (oN _) (xA (Iq _) (xA ?_ vM))) (λ_=>xA (oN _) (xA (Iq _) (xA (oN _) vM))))));rcases h with h|⟨h,-⟩|⟨h,-⟩|⟨-,-,-,-,n1,n2⟩
 ·omega
 ·omega
 ·omega
 ·exact Yk n1 n2
theorem M7{t:yH}(h:vO low t)(lo:Bool):Ws (xM t lo):=by
 unfold xM;exact(((pM (xA (by decide) vM) vM).app (pM (xA (by decide) vM) vM)).app (NW h)).app (pM (xA (by decide) vM) vM)
theorem ML{ts:List yH}(h:pG low ts)(wh lo:Bool):Ws (cL wh ts lo):=by
 unfold cL tM;refine(((pM (xA (by decide) vM) vM).app (pM (xA (by decide) vM) vM)).app (Fu λi hi=>?_)).app (pM (xA (by decide) vM) vM);refine Ws.app ?_ (M7 (h.2.2 _ (by simp[List.getD,hi])) lo);unfold jL;exact pM vM (pM (xA (by decide) vM) (xA (by decide) vM))
theorem Mv{ps:List xJ}(h:tP low ps):Ws (cT ps):=by
 unfold cT mL;refine Fu λi hi=>?_;have hp:=h.2.2 (ps.getD i eX) (by simp[List.getD,hi]);generalize ps.getD i eX=p at *;unfold bD fT qR pW kC;refine(((pM vM (pM (xA (by decide) vM) (xA (by decide) vM))).app (Ft (λhc=>xA ?_ vM) (λ_=>vM))).app (pM (xA (by decide) vM) vM)).app (pM (xA (oN _) vM) (pM (xA (iQ _ _) vM) vM));rcases hp with ⟨-,h1,-,-⟩|⟨h0,h1,-⟩|⟨-,h1,-⟩|⟨h1,-,-⟩
 ·exact Yk h1.1 h1.2
 ·rcases hc with hc|hc
  ·exact x' (hc.symm.trans h0) (by simp)
  ·omega
 ·exact Yk h1.1
 ·exact Yk h1.1
theorem I1{H:List Nat}{r:vR}(h:oX H r)(i:Nat)(lo:Bool):Ws (dU r i lo)/\(dU r i lo).length<=100:=by
 have h1:=Ba r.whole r.tests lo h.tests.1 h.tests.2.1;have h2:=JJ r.parts r.parts.length;have h3:=h.parts.2.1;refine⟨?_,?_⟩
 ·have q1:Ws [[114,117,108,101],xU 114 i,[58],xU 99 r.head,[61]]:=xA (by decide) (xA (iQ _ _) (xA (by decide) (xA (iQ _ _) (xA (by decide) vM))))
  unfold dU;exact(((q1.app (Mv h.parts)).app (xA (by decide) vM)).app (ML h.tests _ _)).app (xA (by decide) vM)
 ·unfold dU cT
  simp only[tm,pb,ge];omega
theorem Rq{M:yO}(h:yR M)(lo:Bool):∀l∈xY M lo,Ws l/\l.length<=100:=λl hl=>by
 unfold xY at hl;rcases pj.1 hl with hl|hl
 ·rcases pj.1 hl with hl|hl
  ·obtain⟨i,-,rfl⟩:=pd.1 hl
   unfold nS;split
   ·rename_i h3
    have:=h.au i h3;exact⟨xA (by decide) (xA (oN _) (xA (Yk) (xA (by decide) (xA (Yk) (xA (by decide) vM))))),by simp⟩
   ·exact⟨xA (by decide) (xA (oN _) (xA (by decide) vM)),by simp⟩
  ·obtain⟨i,hi,rfl⟩:=pd.1 hl
   exact I1 (h.rules _ (by simp[List.getD,me.1 hi])) i lo
 ·obtain⟨i,-,hl⟩:=bg.1 hl
  unfold pF at hl;obtain⟨j,-,hl⟩:=bg.1 hl;split at hl
  ·rw[pr.1 hl]
   exact⟨xA (by decide) (xA (iQ _ _) (xA (iQ _ _) (xA (by decide) vM))),by simp[Xa]⟩
  ·cases hl
theorem pS{α:Type}{l:List α}{i:Nat}(d:α)(h:i<l.length):l.getD i d∈l:=by simp[List.getD,h]
theorem UE{M:yO}(h:yR M)(lo:Bool):zFT (xY M lo):=by
 have hl:=Rq h lo;have hm:∀i,i<(xY M lo).length->(xY M lo).getD i []∈xY M lo:=λi hi=>by simp[List.getD,hi]
 refine⟨?_,λi hi=>(hl _ (hm i hi)).2,λi k hi hk=>(hl _ (hm i hi)).1 _ (pS [] hk)⟩;have h1:=Bg M M.rules.length M.rules.length;have h2:=h.aj;have h3:M.rules.length*M.rules.length<=64:=Nat.mul_le_mul h2 h2;unfold xY;simp only[tm,pt,nl];omega
theorem Nb(w:World)(g:Nat)(M:yO)(hM:bF w g M)(hO:yR M)(hT:eG w) :
 Calls prog 12 #[.pointer (some ⟨g,0,none⟩)] w λe w'=>e=.returned (.string ⟨(X1 (xY M false)).toArray⟩)/\Below w.heap.size w w':=by
 have HL:=zA (RC w g M false hM hO hT);have HW:=zA (λw' a c (h:EI w' a (xY M false))=>DW w' a c (xY M false) h (UE hO false));generalize X1 (xY M false)=tx at *;clear hM hO hT
 go_enter func12,ntmps12
 go_wp2_with fail
 refine HL.out.mono ?_;rintro e w1 ⟨v,vs,rfl,hS⟩;obtain⟨a,c,rfl,hc⟩:=uT hS.own;have cN:=zA (HW.out w1 a c ⟨vs,hc,hS.ins⟩);have HB:=zA hS.af;clear hS hc;go_wp2_with fail
 refine cN.out.mono ?_;rintro e w2 ⟨rfl,hw⟩;obtain rfl:=hw.symm;go_wp2_with fail
 go_ret
 exact⟨rfl,HB.out⟩
def wj(s:Bs):Bool:=(decide (97<=(s.getD 0 0).toNat)&&decide ((s.getD 0 0).toNat<=122)) || (decide (48<=(s.getD 0 0).toNat)&&decide ((s.getD 0 0).toNat<=57))
end Go.Proofs.YtnbpdffdnphbeabGreatDoor
