import Derived.Test.YtnbpdffdnphbeaaGreatDoorBLines
set_option maxHeartbeats 2000000
namespace Go.Proofs.YtnbpdffdnphbeaaGreatDoor
open Go.RowKit
variable{g B' R B:Nat}{w' w:World}
theorem bQ(P:List PT)(s:St):s.1<=(zI P s).2.1:=fP _ _
theorem wN(P:List PT)(s:St):s.1<=(yM P s).2.1:=fP _ _
theorem qT(P:List PT)(t:Bs)(s:St):s.1<=(zU P t s).1:=fP _ _
theorem BY(P:List PT)(n:Nat):∀m s ps,s.1<=(dI P n m s ps).2.1:=by
 induction n with
 | zero=>intro m s ps;exact t9 _
 | succ n ih =>
   intro m s ps;have h1:=X3 P m s;have h2:=xN P [45] (qL P m s).2;rw[dI];split
   ·exact tx h1 (tx h2 (ih _ _ _))
   ·have h3:=xN P [43] (zC P [45] (qL P m s).2).2
    split
    ·exact tx h1 (tx h2 (tx h3 (ih _ _ _)))
    ·exact tx h1 (tx h2 h3)
theorem XN(P:List PT)(item:GS->Int × GS)(tok:Bs)(kind:Int)(hit:∀q,q.s.1<=(item q).2.s.1)(k:Nat):∀l q,q.s.1<=(mY P item tok kind k l q).2.s.1:=by
 induction k with
 | zero=>intro l q;exact t9 _
 | succ k ih =>
   intro l q;have h1:=xN P tok q.s;rw[mY];split
   ·exact h1
   ·have h3:=ih ((item (q.to (zC P tok q.s).2)).2.nd.length:Nat) ((item (q.to (zC P tok q.s).2)).2.add ⟨kind,l,(item (q.to (zC P tok q.s).2)).1,[],[],[],0⟩)
    exact tx h1 (tx (hit (q.to (zC P tok q.s).2)) h3)
theorem Yl(P:List PT)(fact:GS->Int->Int × GS)(hf:∀q d,q.s.1<=(fact q d).2.s.1)(q:GS)(d:Int):q.s.1<=(mO P fact q d).2.s.1 :=
 tx (hf q d) (XN P _ _ _ (fun q=>hf q d) _ _ _)
theorem JH(P:List PT)(fact:GS->Int->Int × GS)(hf:∀q d,q.s.1<=(fact q d).2.s.1)(q:GS)(d:Int):q.s.1<=(aY P fact q d).2.s.1 :=
 tx (Yl P fact hf q d) (XN P _ _ _ (fun q=>Yl P fact hf q d) _ _ _)
theorem Ca(P:List PT)(n:Nat):∀q d,q.s.1<=(xF P n q d).2.s.1:=by
 induction n with
 | zero=>intro q d;exact t9 _
 | succ n ih =>
   intro q d;have h1:=xN P yY q.s;rw[xF];split
   ·exact tx h1 (ih (q.to (zC P yY q.s).2) (d+1))
   ·have h2:=xN P yQ (zC P yY q.s).2
    split
    ·exact tx h1 (tx h2 (tx (JH P _ ih (q.to (zC P yQ (zC P yY q.s).2).2) (d+1)) (qT P _ _)))
    ·exact tx h1 (tx h2 (iB P _))
theorem V3(P:List PT)(s:St):s.1<=(vY P s).2.s.1:=JH P _ (Ca P P.length) ⟨s,[],0,0⟩ 0
theorem eC(P:List PT)(s:St):s.1<=(jO P s).2.1 :=
 tx (bQ P s) (tx (wN P _) (tx (qT P _ _) (tx (wN P _) (qT P _ _))))
theorem rW(P:List PT)(s:St):s.1<=(tN P s).2.1:=tx (bQ P s) (qT P _ _)
theorem rV(P:List PT)(s:St):s.1<=(kT P s).2.1:=tx (bQ P s) (tx (bQ P _) (qT P _ _))
theorem rU(P:List PT)(s:St):s.1<=(pK P s).2.1 :=
 tx (bQ P s) (tx (qT P _ _) (tx (bQ P _) (tx (qT P _ _) (tx (BY P _ _ _ _) (tx (qT P _ _) (tx (V3 P _) (qT P _ _)))))))
theorem Ux{P:List PT}{t:Bs}{s:St}(h:s.2=true):(zU P t s).2=true:=by simp[zU,bJ,h]
theorem Y2{P:List PT}{s:St}(h:s.2=true):(zI P s).2.2=true:=by simp[zI,kP,h]
theorem Ge(P:List PT)(s:St):s.1<(uH P s).2.1\/(uH P s).2.2=true:=by
 unfold uH;split
 ·rename_i h;left;have h1:=qU h;have h2:=eC P (zC P [110,117,109] s).2;omega
 ·have m0:=xN P [110,117,109] s
  split
  ·rename_i h;left;have h1:=qU h;have h2:=rW P (zC P [102,108,97,103] (zC P [110,117,109] s).2).2;omega
  ·have m1:=xN P [102,108,97,103] (zC P [110,117,109] s).2
   split
   ·rename_i h;left;have h1:=qU h;have h2:=rU P (zC P [114,117,108,101] (zC P [102,108,97,103] (zC P [110,117,109] s).2).2).2;omega
   ·have m2:=xN P [114,117,108,101] (zC P [102,108,97,103] (zC P [110,117,109] s).2).2
    generalize (zC P [114,117,108,101] (zC P [102,108,97,103] (zC P [110,117,109] s).2).2).2=s3 at *;have m3:=rV P (zU P [111,118,101,114] s3);cases hb:bJ P [111,118,101,114] s3.1 s3.2
    ·right
     have hf:(zU P [111,118,101,114] s3).2=true:=by simp[zU,hb]
     exact Ux (Y2 (Y2 hf))
    ·left
     have:(zU P [111,118,101,114] s3).1=s3.1+1:=by simp[zU,hb,JK]
     omega
theorem BZ(P:List PT)(s:St):s.1<=(uH P s).2.1:=by
 unfold uH;have m0:=xN P [110,117,109] s;split
 ·exact tx m0 (eC P _)
 ·have m1:=xN P [102,108,97,103] (zC P [110,117,109] s).2
  split
  ·exact tx m0 (tx m1 (rW P _))
  ·have m2:=xN P [114,117,108,101] (zC P [102,108,97,103] (zC P [110,117,109] s).2).2
   split
   ·exact tx m0 (tx m1 (tx m2 (rU P _)))
   ·exact tx m0 (tx m1 (tx m2 (tx (qT P _ _) (rV P _))))
def pZ(P:List PT):Nat->St->List zF->List zF × St
 | 0,s,acc=>(acc,s)
 | n+1,s,acc =>
   match s.2 with
   | true=>(acc,s)
   | false=>if (yW P s.1).k=0 then (acc,s) else pZ P n (uH P s).2 (acc++[(uH P s).1])
def wD(P:List PT)(s:St):Nat:=2*(P.length-s.1)+(match s.2 with|true=>0|false=>1)
theorem QY{P:List PT}{s:St}(h:s.2=false)(ha:s.1<P.length):wD P (uH P s).2<wD P s:=by
 have h1:=Ge P s;have h2:=BZ P s;unfold wD;rw[h];rcases h1 with h1|h1
 ·split <;> omega
 ·rw[h1];simp only;omega
abbrev LX:=zF × (Value × Value)
variable{ls:List LX}
def eE(x:LX):List Value:=[.int .i64 x.1.kind,.string ⟨x.1.name.toArray⟩,.int .i64 x.1.low,.int .i64 x.1.high,.string ⟨x.1.conc.toArray⟩,x.2.1,x.2.2,.int .i64 x.1.root,.int .i64 x.1.tests,.int .i64 x.1.dep,.string ⟨x.1.lower.toArray⟩]
def bA(ls:List LX):List Value:=ls.flatMap eE
theorem CR(ls:List LX)(x:LX):bA (ls++[x])=bA ls++eE x:=by simp[bA]
def qH(w:World)(B:Nat)(ls:List LX):Prop:=∀x∈ls,tL w B x.2.1 x.2.2 x.1
def KW(w:World)(B:Nat)(v:Value)(ls:List LX):Prop:=w.ownsRow B 234 11 v ls.length (bA ls)/\qH w B ls
theorem zA1:(Tryz.prog.info? 234).map (fun i=>(i.zero,i.size,i.bytes))=some (some (.agg #[.int .i64 0,.string ⟨#[]⟩,.int .i64 0,.int .i64 0,.string ⟨#[]⟩,.slice none 0 0,.slice none 0 0,.int .i64 0,.int .i64 0,.int .i64 0,.string ⟨#[]⟩]),11,144):=by kernel_rfl
theorem qH.keeps(h:qH w B ls)(hk:zB w.heap.size R w w')(hR:R<B):qH w' B ls :=
 fun x hx=>⟨uQ (h x hx).1 hk hR,uQ (h x hx).2 hk hR⟩
theorem qH.alloc(h:qH w B ls)(o:Obj):qH (w.alloc o) B ls :=
 fun x hx=>⟨(h x hx).1.alloc _,(h x hx).2.alloc _⟩
theorem X4{e e':TypeId}{size size':Nat}{v v':Value}{n n':Nat}{xs xs':List Value}(h:w.ownsRow B e size v n xs)(hl:w.ownsRow B' e' size' v' n' xs')(zIH:e≠e')(hg:w.grownBy w' v'.ownBlock):w'.ownsRow B e size v n xs:=by
 refine⟨h.1,?_⟩;rcases h.2 with h1|⟨g,cap,yW,h1,h2,h3,r⟩
 ·exact .inl h1
 ·refine .inr ⟨g,cap,yW,h1,h2,?_,r⟩
  have zI6:g<w.heap.size:=by
   rcases po g w.heap.size with h|h
   ·exact h
   ·rw[pj h]at h3;cases h3
  rw[hg.block g zI6 ?_];· exact h3
  intro hE;rcases hl.2 with ⟨k1,_⟩|⟨g',cap',cur',k1,_,k3,_⟩
  ·rw[k1]at hE;simp[Value.ownBlock]at hE
  ·rw[k1]at hE
   simp[Value.ownBlock]at hE;subst hE;rw[h3]at k3;simp at k3;exact zIH k3.2
theorem qH.grown{size':Nat}{v':Value}{n':Nat}{xs':List Value}(h:qH w B ls)(hl:w.ownsRow B' 234 size' v' n' xs')(hg:w.grownBy w' v'.ownBlock):qH w' B ls :=
 fun x hx=>⟨X4 (h x hx).1 hl (by decide) hg,X4 (h x hx).2 hl (by decide) hg⟩
def Z9(l:Bs):List PT:=(yR l 0).map (fun t=>⟨vU t.2,t.2,pY t.2,t.1⟩)++[⟨0,[],0,l.length⟩]
theorem YM(l:Bs):(Z9 l).length=(yR l 0).length+1:=by simp[Z9]
theorem vk(l:Bs):∀i,i<(Z9 l).length->(yW (Z9 l) i).k≠0->i+1<(Z9 l).length:=by
 intro i hi hk;rw[YM]at hi ⊢;rcases po i (yR l 0).length with h|h
 ·omega
 ·exfalso
  have e:i=(yR l 0).length:=by omega
  apply hk
  unfold yW Z9;subst e;simp[List.getD]
def gK(ps:List PT):List Value:=ps.flatMap (fun x=>[.int .i64 x.k,.string ⟨x.s.toArray⟩,.int .i64 x.v,.int .i64 x.p])
theorem GQ(l:Bs):Yz (yR l 0)++KD l.length=gK (Z9 l):=by
 simp only[Yz,gK,Z9,f9,List.flatMap_map];rfl
theorem CO(ps:List PT):∀i,i<ps.length ->
 (gK ps)[i*4]? = some (.int .i64 (yW ps i).k)/\(gK ps)[i*4+1]? = some (.string ⟨(yW ps i).s.toArray⟩)/\(gK ps)[i*4+2]? = some (.int .i64 (yW ps i).v)/\(gK ps)[i*4+3]? = some (.int .i64 (yW ps i).p):=by
 induction ps with
 | nil=>intro i h;simp at h
 | cons t r ih =>
   intro i h;have e:gK (t::r)=[.int .i64 t.k,.string ⟨t.s.toArray⟩,.int .i64 t.v,.int .i64 t.p]++gK r:=by simp[gK]
   cases i with
   | zero=>rw[e];simp[yW]
   | succ i =>
     have hi:=ih i (by simpa using h);have hc:yW (t::r) (i+1)=yW r i:=by simp[yW]
     rw[e,hc];refine⟨?_,?_,?_,?_⟩
     ·rw[pf (by simp;omega),show (i+1)*4-[Value.int .i64 t.k,.string ⟨t.s.toArray⟩,.int .i64 t.v,.int .i64 t.p].length=i*4 by simp;omega];exact hi.1
     ·rw[pf (by simp;omega),show (i+1)*4+1-[Value.int .i64 t.k,.string ⟨t.s.toArray⟩,.int .i64 t.v,.int .i64 t.p].length=i*4+1 by simp;omega];exact hi.2.1
     ·rw[pf (by simp;omega),show (i+1)*4+2-[Value.int .i64 t.k,.string ⟨t.s.toArray⟩,.int .i64 t.v,.int .i64 t.p].length=i*4+2 by simp;omega];exact hi.2.2.1
     ·rw[pf (by simp;omega),show (i+1)*4+3-[Value.int .i64 t.k,.string ⟨t.s.toArray⟩,.int .i64 t.v,.int .i64 t.p].length=i*4+3 by simp;omega];exact hi.2.2.2
theorem xB{yW:Array Value}{e:TypeId}{fz:Nat × Nat}{k n:Nat}{xs:List Value}{u:Value}
 (hb:w.heap[g]? = some (.cells yW e fz)) (ht:yW.toList.take n=xs) (hx:xs[k]? = some u):w.cell? ⟨g,k,none⟩=some u:=by
 have h1:yW.toList[k]? = some u:=by
  rw[<-ht,bv]at hx;split at hx
  ·exact hx
  ·cases hx
 simp[World.cell?,hb];simpa using h1
theorem Gg{base:Nat}{v:Value}{ps:List PT}(h:w.ownsRow base 237 4 v ps.length (gK ps))(h0:0<ps.length) :
 ∃g cap,v=.slice (some ⟨g,0,none⟩) ps.length cap/\base<=g/\g<w.heap.size/\ps.length<=cap/\cap<=maxLen/\yx w g ps:=by
 rcases h.2 with ⟨_,h2⟩|⟨g,cap,c,h1,h2,h3,h4,h5,h6,h7⟩
 ·omega
 ·refine⟨g,cap,h1,h2,?_,h4,h5,fun i hi=>?_⟩
  ·rcases po g w.heap.size with h|h
   ·exact h
   ·rw[pj h]at h3;cases h3
  ·obtain⟨a,b,c',d⟩:=CO ps i hi
   exact⟨xB h3 h7 a,xB h3 h7 b,xB h3 h7 c',xB h3 h7 d⟩
def fD(lv:Value)(err place:Int):Value:=.agg #[lv,.int .i64 err,.int .i64 place]
def xZ(l:Bs):List zF × St:=pZ (Z9 l) (2*(Z9 l).length+1) (0,false) []
def Q6(w w':World)(l:Bs)(e:Ending):Prop :=
 match (xZ l).2.2 with
 | true=>e=.returned (fD (.slice none 0 0) 2 (yW (Z9 l) (xZ l).2.1).p)
 | false=>∃lv ls,e=.returned (fD lv 0 0)/\ls.map Prod.fst=(xZ l).1/\KW w' w.heap.size lv ls
def rP(P:List PT)(R:Nat)(w:World):Nat:=2*(P.length-uw w R)+(match w.cell? ⟨R,2,none⟩ with|some (.bool true)=>0|_=>1)
theorem yO.readMeas{cap:Nat}{P:List PT}{s:St}(h:vK w R g cap P s):rP P R w=wD P s:=by
 unfold rP wD;rw[yO.rdAt h,h.cells.2.2];cases s.2 <;> rfl
theorem qH.base(h:qH w B ls)(hb:B'<=B):qH w B' ls:=fun x hx=>⟨xC (h x hx).1 hb,xC (h x hx).2 hb⟩
theorem qH.set{b o:Nat}{u:Value}(h:qH w B ls)(hb:b<B):qH (w.setCell ⟨b,o,none⟩ u) B ls:=fun x hx=>⟨xA (h x hx).1 hb,xA (h x hx).2 hb⟩
theorem tL.base{sv nv:Value}{x:zF}(h:tL w B sv nv x)(hb:B'<=B):tL w B' sv nv x:=⟨xC h.1 hb,xC h.2 hb⟩
theorem QU(l:Bs)(w:World)(hmax:l.length<=maxLen)(hl:4000<l.length) :
 Calls Tryz.prog 60 #[.string ⟨l.toArray⟩] w fun e w'=>e=.returned (fD (.slice none 0 0) 1 0)/\Below w.heap.size w w':=by
 unfold maxLen at hmax
 go_enter Tryz.func60,Tryz.ntmps60
 go_wp2_with fail
 refine ph (v:=fD (.slice none 0 0) 1 0) (by simp[results,Tryz.results60,go_sem,fD]) rfl ⟨rfl,?_⟩;exact ge (t9 _) _
theorem Yu(P:List PT)(n:Nat)(s:St)(acc:List zF)(h:s.2=true\/(yW P s.1).k=0):pZ P n s acc=(acc,s):=by
 cases n with
 | zero=>rfl
 | succ n =>
   rw[pZ];cases hs:s.2
   ·rcases h with h|h
    ·rw[hs]at h;cases h
    ·simp only[h,if_true]
   ·rfl
theorem zB.below(h:zB B R w w')(h1:B'<=B)(h2:B'<=R):Below B' w w':=⟨h.os,h.tape,h.output,h.size,fun k hk=>h.block k (by omega) (by omega)⟩
theorem yO.start{cap:Nat}{P:List PT}(htok:yx w g P)(hg:g<w.heap.size)(h0:0<P.length)(hc:P.length<=cap)(hm:cap<=maxLen)(h4:P.length<=4001)(he:∀i,i<P.length->(yW P i).k≠0->i+1<P.length) :
 vK (w.alloc (tW g cap P 0 false)) w.heap.size g cap P (0,false):=by
 refine⟨zM _ _,?_,by omega,by simp;omega,h0,hc,hm,h4,he⟩;intro i hi;have hb:∀o,(w.alloc (tW g cap P 0 false)).cell? ⟨g,o,none⟩=w.cell? ⟨g,o,none⟩:=fun o=>l7 (w:=w) (mq _ _ _ hg);rw[hb,hb,hb,hb];exact htok i hi
theorem Z8(l:Bs)(w:World)(hl:l.length<=4000) :
 Calls Tryz.prog 60 #[.string ⟨l.toArray⟩] w fun e w'=>Q6 w w' l e/\Below w.heap.size w w':=by
 obtain⟨i0,hi0,hz0,hz1,hz2⟩:=dp zA1;have HRead:=zA (fun w=>zB5 l w hl);have hcount:=kY l 0;have HPl:=zA (YM l);have hP0:0<(Z9 l).length:=by rw[YM];omega
 have hP1:(Z9 l).length<=4001:=by rw[YM];omega
 have HEk:=zA (vk l);have HFl:=zA (GQ l);have HRB:Hid (xZ l=pZ (Z9 l) (2*(Z9 l).length+1) (0,false) []):=rfl;have HRI:Hid (∀w' e,Q6 w w' l e=(match (xZ l).2.2 with|true=>e=.returned (fD (.slice none 0 0) 2 (yW (Z9 l) (xZ l).2.1).p)|false=>∃lv ls,e=.returned (fD lv 0 0)/\ls.map Prod.fst=(xZ l).1/\KW w' w.heap.size lv ls)):=fun _ _=>rfl;generalize xZ l=F at *;have HCt:=zA hcount;generalize hPP:Z9 l=P at *;have HPP:=zA hPP;clear hcount hPP;have hl2:¬(4000:Int)<(l.length:Int):=by omega
 have HI0:=zA hi0;have HZ0:=zA hz0;have HZ1:=zA hz1;have HZ2:=zA hz2;have HP0:=zA hP0;have HP1:=zA hP1;clear hi0 hz0 hz1 hz2 hl hP0 hP1
 go_enter Tryz.func60,Tryz.ntmps60
 go_wp2_with fail
 refine(HRead.out _).mono ?_;rintro e w1 ⟨tv,rfl,zI9,hbel1⟩;rw[HFl.out,show (yR l 0).length+1=P.length from HPl.out.symm]at zI9;obtain⟨g,cap,rfl,hg0,hg1,hcap,hcm,htok⟩:=Gg zI9 HP0.out;have hs1:=hbel1.size
 have b1:w1.heap[w.heap.size]? = some (.cells #[.slice none 0 0,.int .i64 0,.int .i64 0] 151 (0,0)):=by
  rw[hbel1.block w.heap.size (by simp)];exact zM _ _
 have HB1:Hid (Below w.heap.size w w1):=(ge (t9 _) _).trans (hbel1.mono (by simp));have HTok:=zA htok;have hsz1:w.heap.size<w1.heap.size:=by simp at hs1;omega
 clear zI9 hbel1 hs1 htok HRead HFl HPl;obtain⟨R,hR⟩:∃R,w1.heap.size=R:=⟨_,rfl⟩
 have hc0:vK ((w1.alloc (tW g cap P 0 false)).alloc (.cells #[] 234)) R g cap P (0,false):=by
  rw[<-hR];exact yO.alloc (yO.start HTok.out hg1 HP0.out hcap hcm HP1.out HEk.out) _
 have hrow0:((w1.alloc (tW g cap P 0 false)).alloc (.cells #[] 234)).ownsRow (R+1) 234 11 (.slice (some ⟨R+1,0,none⟩) 0 0) 0 (bA []) :=
  ⟨rfl,.inr ⟨R+1,0,#[],rfl,t9 _,by
   have h1:=zM (w1.alloc (tW g cap P 0 false)) (.cells #[] 234);rw[show (w1.alloc (tW g cap P 0 false)).heap.size=R+1 by simp;exact hR]at h1;exact h1,t9 _,by simp[maxLen],rfl,rfl⟩⟩
 have hbel0:Below R w1 ((w1.alloc (tW g cap P 0 false)).alloc (.cells #[] 234)):=(ge (Nat.le_of_eq hR.symm) _).alloc (by simp;omega) _;have HC0:=zA hc0;have HO0:=zA hrow0;have HBe0:=zA hbel0;have HRs:=zA hR;have hgR:g<R:=by omega
 have hwR:w.heap.size<R:=by omega
 clear hc0 hrow0 hbel0 HTok;go_wp2_with fail
 clear hR hg1 hsz1
 go_loopw [4] (fun lv wr=>∃(n:Nat) (s:St) (ls:List LX),wr.ownsRow (R+1) 234 11 lv ls.length (bA ls)/\Hid (vK wr R g cap P s)/\Hid (qH wr (R+1) ls)/\Hid (Below R w1 wr)/\Hid (ls.length+wD P s<=2*P.length+1/\wD P s<=n/\pZ P n s (ls.map Prod.fst)=F)) (fun _ wr=>rP P R wr)
 case atStart=>exact⟨2*P.length+1,(0,false),[],HO0.out,HC0,zA (fun x hx=>by cases hx),HBe0,zA ⟨by show 0+(2*(P.length-0)+1)<=_;omega,by show 2*(P.length-0)+1<=_;omega,HRB.out.symm⟩⟩
 case round =>
  obtain⟨n,s,ls,zI8,HC,HA,HBe,HH⟩:=hrel;clear HC0 HO0 HBe0 HRB;obtain⟨c0,c1,c2⟩:=HC.out.cells;have zJ8:=HC.out.at';cases hf:s.2
  ·rw[hf]at c2
   by_cases hk:(yW P s.1).k=0
   ·have hE:F=(ls.map Prod.fst,s):=by rw[<-HH.out.2.2];exact Yu P n s _ (.inr hk)
    have HE:=zA hE;have HS2:=zA hf;have HF2:Hid (F.2.2=false):=by unfold Hid;rw[hE];exact hf
    have HK:=zA hk;have bz:wr.heap[w.heap.size]? = some (.cells #[.slice none 0 0,.int .i64 0,.int .i64 0] 151 (0,0)):=by rw[HBe.out.block w.heap.size hwR];exact b1
    have cz:=fun j=>fg _ _ j _ _ _ bz;have fz:∀o,wr.frozen? ⟨w.heap.size,o,none⟩=false:=fun o=>by simp[World.frozen?,bz]
    have HFin:Hid (Below w.heap.size w wr):=HB1.out.trans (HBe.out.mono (p8 hwR));clear hE hf hk HH b1;go_wp2_with fail
    refine(iF R g cap P _ s 0 HC.out).mono ?_;rintro e w2 ⟨rfl,hc2,hk2⟩;rw[show ((yW P s.1).k==0)=true by rw[HK.out];rfl];have zIB:=uQ zI8 hk2 (mh R);have HA2:=zA (HA.out.keeps hk2 (mh R));have zI6:=hk2.size;have b2:w2.heap[w.heap.size]? = some (.cells #[.slice none 0 0,.int .i64 0,.int .i64 0] 151 (0,0)):=yC bz hk2 (by omega);have cz2:=fun j=>fg _ _ j _ _ _ b2;have fz2:∀o,w2.frozen? ⟨w.heap.size,o,none⟩=false:=fun o=>by simp[World.frozen?,b2]
    have HB2:Hid (Below w.heap.size w w2):=HFin.out.trans (hk2.below (tx (p8 hwR) (p8 HC.out.rlt)) (p8 hwR));have d2:w2.cell? ⟨R,2,none⟩=some (.bool false):=by have h9:=hc2.cells.2.2;rw[HS2.out]at h9;exact h9
    have HC2:=zA hc2;obtain⟨la,ln,lc,rfl⟩:=pM zIB;have HO2:=zA zIB;clear zI8 zIB hc2 hk2 HC HA HBe c0 c1 c2 cz fz bz;go_wp2_with fail
    refine ph (v:=fD (.slice la ln lc) 0 0) (by simp (maxDischargeDepth:=8) [results,Tryz.results60,go_sem,fD,cz2]) rfl ⟨?_,((HB2.out.setCell (t9 _) _).setCell (t9 _) _).setCell (t9 _) _⟩;rw[HRI.out,HF2.out];refine⟨_,ls,rfl,by rw[HE.out],xC (b:=R+1) ?_ (by omega),qH.base (B:=R+1) ?_ (by omega)⟩
    ·repeat (with_reducible refine xA ?_ (by omega))
     exact HO2.out
    ·repeat (with_reducible refine qH.set ?_ (by omega))
     exact HA2.out
   ·obtain⟨hh1,hh2,hh3⟩:=HH.out
    obtain⟨n,rfl⟩:∃k,n=k+1:=by
     refine⟨n-1,?_⟩;have h9:1<=wD P s:=by unfold wD;rw[hf];simp only;omega
     omega
    rw[pZ,hf]at hh3;simp only[tg hk]at hh3;have htg:=QY hf zJ8;have HM:Hid (rP P R wr=wD P s):=yO.readMeas HC.out;have HK:Hid (((yW P s.1).k==0)=false):=by unfold Hid;simpa using hk
    have HE:=zA hh3;have hls:ls.length<=10000:=by have h9:=HP1.out;omega
    have HL1:=zA hh1;have HN1:=zA hh2;have HRl:=HC.out.rlt;clear hh1 hh2 hh3 HH hk hf;go_wp2_with fail
    refine(iF R g cap P _ s 0 HC.out).mono ?_;rintro e w2 ⟨rfl,hc2,hk2⟩;rw[HK.out];have zIB:=uQ zI8 hk2 (mh R);have HA2:=zA (HA.out.keeps hk2 (mh R));have HBe2:Hid (Below R w1 w2):=HBe.out.trans (hk2.below (p8 HRl) (t9 R));have HC2:=zA hc2;have HR2:=hc2.rlt;clear zI8 hc2 hk2 HA HBe c0 c1 c2 HC HK;go_wp2_with fail
    refine(zG8 w2 R g cap P s HC2.out).mono ?_;rintro e w3 ⟨sv,nv,rfl,hlr,hc3,hk3⟩;have zID:=uQ zIB hk3 (mh R);have HA3:=zA (HA2.out.keeps hk3 (mh R));have HBe3:Hid (Below R w1 w3):=HBe2.out.trans (hk3.below (p8 HR2) (t9 R));have HLR:Hid (tL w3 (R+1) sv nv (uH P s).1):=hlr.base HR2;have HC3:=zA hc3;have HR3:=hc3.rlt;obtain⟨sva,svn,svc,rfl⟩:=pM hlr.1;obtain⟨nva,nvn,nvc,rfl⟩:=pM hlr.2;have HOB:=zA (zQ zID);generalize uH P s=pl at *;obtain⟨x,s2⟩:=pl;simp only at HC3 HLR HE htg;have hx:eE (x,(Value.slice sva svn svc,Value.slice nva nvn nvc))=[.int .i64 x.kind,.string ⟨x.name.toArray⟩,.int .i64 x.low,.int .i64 x.high,.string ⟨x.conc.toArray⟩,.slice sva svn svc,.slice nva nvn nvc,.int .i64 x.root,.int .i64 x.tests,.int .i64 x.dep,.string ⟨x.lower.toArray⟩]:=rfl;have HX:=zA hx;clear zIB hc3 hk3 hlr HA2 HBe2 HC2 hx;unfold qA;have hi0:=HI0.out;have hz0:=HZ0.out;have hz1:=HZ1.out;have hz2:=HZ2.out
    go_wp2_with (at_builtin;refine wpList_append_own _ rfl _ _ 149 rfl (R+1) 234 i0 _ 11 144 Tryz.underlying149 hi0 hz0 hz1 hz2 rfl (by decide) _ _ _ rfl ((zID.alloc _).alloc _) ⟨w3.heap.size+1,0,none⟩ 1 1 (eE (x,(Value.slice sva svn svc,Value.slice nva nvn nvc))) rfl rfl ?c1 ?c2 ?c3 ?c4 ?c5 ?_)
    case c1=>rw[HX.out];exact uT _ _ _ _ rfl (by simp)
    case c2=>rw[HX.out];intro u hu;simp at hu;rcases hu with rfl|rfl|rfl|rfl|rfl|rfl|rfl|rfl|rfl|rfl|rfl <;> rfl
    case c3=>unfold maxLen;omega
    case c4=>omega
    case c5=>simp;omega
    intro v' w4 zIX zI7 _
    have hc4:vK w4 R g cap P s2:=yO.grown (yO.alloc (yO.alloc HC3.out _) _) zI7
     (fun e=>by have h1:=(HOB.out R e).1;omega) (fun e=>by have h1:=(HOB.out g e).1;omega)
    have ha4:qH w4 (R+1) (ls++[(x,(Value.slice sva svn svc,Value.slice nva nvn nvc))]):=by
     refine qH.grown (B':=R+1) (fun y hy=>?_) ((zID.alloc _).alloc _) zI7;rcases pt.1 hy with hy|hy
     ·exact((HA3.out.alloc _).alloc _) y hy
     ·rw[pu.1 hy]
      exact⟨(HLR.out.1.alloc _).alloc _,(HLR.out.2.alloc _).alloc _⟩
    have HBe4:Hid (Below R w1 w4):=((HBe3.out.alloc (by omega) _).alloc (by simp;omega) _).grown zI7 (by simp;omega) (fun k hk=>by have h1:=(HOB.out k hk).1;omega);have HC4:=zA hc4;have HA4:=zA ha4;have hown4':w4.ownsRow (R+1) 234 11 v' (ls++[(x,(Value.slice sva svn svc,Value.slice nva nvn nvc))]).length (bA (ls++[(x,(Value.slice sva svn svc,Value.slice nva nvn nvc))])):=by rw[CR,tq];exact zIX
    have HT4:Hid (rP P R w4=wD P s2):=yO.readMeas hc4;clear zID zIX zI7 HOB hc4 ha4 HC3 HA3 HBe3 HLR hi0 hz0 hz1 hz2;go_wp2_with fail
    go_roundw
    case rel=>exact⟨n,s2,_,hown4',HC4,HA4,HBe4,zA ⟨by have h1:=HL1.out;rw[tq,pd];omega,by have h1:=HN1.out;omega,by rw[List.map_append];exact HE.out⟩⟩
    case measure=>rw[HM.out,HT4.out];exact htg
  ·have hE:F=(ls.map Prod.fst,s):=by rw[<-HH.out.2.2];exact Yu P n s _ (.inl hf)
   have HE:=zA hE;have HF2:Hid (F.2.2=true):=by unfold Hid;rw[hE];exact hf
   have HF1:Hid (F.2.1=s.1):=by unfold Hid;rw[hE]
   rw[hf]at c2;have bz:wr.heap[w.heap.size]? = some (.cells #[.slice none 0 0,.int .i64 0,.int .i64 0] 151 (0,0)):=by rw[HBe.out.block w.heap.size hwR];exact b1
   have cz:=fun j=>fg _ _ j _ _ _ bz;have fz:∀o,wr.frozen? ⟨w.heap.size,o,none⟩=false:=fun o=>by simp[World.frozen?,bz]
   have HFin:Hid (Below w.heap.size w wr):=HB1.out.trans (HBe.out.mono (p8 hwR));obtain⟨_,_,_,t3⟩:=HC.out.tok s.1 zJ8;have i1:(0:Int)<=(s.1:Int):=by omega
   have i2:(s.1:Int)<(P.length:Int):=by omega
   generalize hcu:(yW P s.1).p=pp at *;have HCu:=zA hcu;clear hE hf HH b1 hcu zI8 HA HBe;go_wp2_with fail
   refine ph (v:=fD (.slice none 0 0) 2 pp) (by simp (maxDischargeDepth:=8) [results,Tryz.results60,go_sem,fD,cz]) rfl ⟨?_,((HFin.out.setCell (t9 _) _).setCell (t9 _) _).setCell (t9 _) _⟩;rw[HRI.out,HF2.out,HF1.out,HCu.out]
end Go.Proofs.YtnbpdffdnphbeaaGreatDoor
