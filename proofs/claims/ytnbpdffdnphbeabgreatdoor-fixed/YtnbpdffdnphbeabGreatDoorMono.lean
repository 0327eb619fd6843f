import Derived.Test.YtnbpdffdnphbeabGreatDoorBLines
set_option maxHeartbeats 2000000
namespace Go.Proofs.YtnbpdffdnphbeabGreatDoor
open Go.RowKit
variable{g B' R B:Nat}{w' w:World}
theorem pJ(P:List PT)(s:St):s.1<=(zG P s).2.1:=bH _ _
theorem rC(P:List PT)(s:St):s.1<=(yB P s).2.1:=bH _ _
theorem qH(P:List PT)(t:Bs)(s:St):s.1<=(zO P t s).1:=bH _ _
theorem Kp(P:List PT)(n:Nat):∀m s ps,s.1<=(mD P n m s ps).2.1:=by
 induction n with
 | zero=>intro m s ps;exact j1 _
 | succ n ih =>
   intro m s ps;have h1:=wZ P m s;have h2:=xM P [45] (uL P m s).2;rw[mD];split
   ·exact tr h1 (tr h2 (ih _ _ _))
   ·have h3:=xM P [43] (zD P [45] (uL P m s).2).2
    split
    ·exact tr h1 (tr h2 (tr h3 (ih _ _ _)))
    ·exact tr h1 (tr h2 h3)
theorem Zp(P:List PT)(item:GS->Int × GS)(tok:Bs)(kind:Int)(hit:∀q,q.s.1<=(item q).2.s.1)(k:Nat):∀l q,q.s.1<=(pB P item tok kind k l q).2.s.1:=by
 induction k with
 | zero=>intro l q;exact j1 _
 | succ k ih =>
   intro l q;have h1:=xM P tok q.s;rw[pB];split
   ·exact h1
   ·have h3:=ih ((item (q.to (zD P tok q.s).2)).2.nd.length:Nat) ((item (q.to (zD P tok q.s).2)).2.add ⟨kind,l,(item (q.to (zD P tok q.s).2)).1,[],[],[],0⟩)
    exact tr h1 (tr (hit (q.to (zD P tok q.s).2)) h3)
theorem eC(P:List PT)(fact:GS->Int->Int × GS)(hf:∀q d,q.s.1<=(fact q d).2.s.1)(q:GS)(d:Int):q.s.1<=(lN P fact q d).2.s.1 :=
 tr (hf q d) (Zp P _ _ _ (fun q=>hf q d) _ _ _)
theorem YY(P:List PT)(fact:GS->Int->Int × GS)(hf:∀q d,q.s.1<=(fact q d).2.s.1)(q:GS)(d:Int):q.s.1<=(aT P fact q d).2.s.1 :=
 tr (eC P fact hf q d) (Zp P _ _ _ (fun q=>eC P fact hf q d) _ _ _)
theorem Kr(P:List PT)(n:Nat):∀q d,q.s.1<=(yU P n q d).2.s.1:=by
 induction n with
 | zero=>intro q d;exact j1 _
 | succ n ih =>
   intro q d;have h1:=xM P xR q.s;rw[yU];split
   ·exact tr h1 (ih (q.to (zD P xR q.s).2) (d+1))
   ·have h2:=xM P xQ (zD P xR q.s).2
    split
    ·exact tr h1 (tr h2 (tr (YY P _ ih (q.to (zD P xQ (zD P xR q.s).2).2) (d+1)) (qH P _ _)))
    ·exact tr h1 (tr h2 (wY P _))
theorem Qw(P:List PT)(s:St):s.1<=(uM P s).2.s.1:=YY P _ (Kr P P.length) ⟨s,[],0,0⟩ 0
theorem nV(P:List PT)(s:St):s.1<=(lQ P s).2.1 :=
 tr (pJ P s) (tr (rC P _) (tr (qH P _ _) (tr (rC P _) (qH P _ _))))
theorem fN(P:List PT)(s:St):s.1<=(pK P s).2.1:=tr (pJ P s) (qH P _ _)
theorem fM(P:List PT)(s:St):s.1<=(pI P s).2.1:=tr (pJ P s) (tr (pJ P _) (qH P _ _))
theorem fL(P:List PT)(s:St):s.1<=(kZ P s).2.1 :=
 tr (pJ P s) (tr (qH P _ _) (tr (pJ P _) (tr (qH P _ _) (tr (Kp P _ _ _ _) (tr (qH P _ _) (tr (Qw P _) (qH P _ _)))))))
theorem Jo{P:List PT}{t:Bs}{s:St}(h:s.2=true):(zO P t s).2=true:=by simp[zO,jE,h]
theorem eL{P:List PT}{s:St}(h:s.2=true):(zG P s).2.2=true:=by simp[zG,uZ,h]
theorem Bj(P:List PT)(s:St):s.1<(vN P s).2.1\/(vN P s).2.2=true:=by
 unfold vN;split
 ·rename_i h;left;have h1:=qI h;have h2:=nV P (zD P [110,117,109] s).2;omega
 ·have m0:=xM P [110,117,109] s
  split
  ·rename_i h;left;have h1:=qI h;have h2:=fN P (zD P [102,108,97,103] (zD P [110,117,109] s).2).2;omega
  ·have m1:=xM P [102,108,97,103] (zD P [110,117,109] s).2
   split
   ·rename_i h;left;have h1:=qI h;have h2:=fL P (zD P [114,117,108,101] (zD P [102,108,97,103] (zD P [110,117,109] s).2).2).2;omega
   ·have m2:=xM P [114,117,108,101] (zD P [102,108,97,103] (zD P [110,117,109] s).2).2
    generalize (zD P [114,117,108,101] (zD P [102,108,97,103] (zD P [110,117,109] s).2).2).2=s3 at *;have m3:=fM P (zO P [111,118,101,114] s3);cases hb:jE P [111,118,101,114] s3.1 s3.2
    ·right
     have hf:(zO P [111,118,101,114] s3).2=true:=by simp[zO,hb]
     exact Jo (eL (eL hf))
    ·left
     have:(zO P [111,118,101,114] s3).1=s3.1+1:=by simp[zO,hb,J4]
     omega
theorem Kq(P:List PT)(s:St):s.1<=(vN P s).2.1:=by
 unfold vN;have m0:=xM P [110,117,109] s;split
 ·exact tr m0 (nV P _)
 ·have m1:=xM P [102,108,97,103] (zD P [110,117,109] s).2
  split
  ·exact tr m0 (tr m1 (fN P _))
  ·have m2:=xM P [114,117,108,101] (zD P [102,108,97,103] (zD P [110,117,109] s).2).2
   split
   ·exact tr m0 (tr m1 (tr m2 (fL P _)))
   ·exact tr m0 (tr m1 (tr m2 (tr (qH P _ _) (fM P _))))
def cB(P:List PT):Nat->St->List zE->List zE × St
 | 0,s,acc=>(acc,s)
 | n+1,s,acc =>
   match s.2 with
   | true=>(acc,s)
   | false=>if (yJ P s.1).k=0 then (acc,s) else cB P n (vN P s).2 (acc++[(vN P s).1])
def wG(P:List PT)(s:St):Nat:=2*(P.length-s.1)+(match s.2 with|true=>0|false=>1)
theorem UN{P:List PT}{s:St}(h:s.2=false)(ha:s.1<P.length):wG P (vN P s).2<wG P s:=by
 have h1:=Bj P s;have h2:=Kq P s;unfold wG;rw[h];rcases h1 with h1|h1
 ·split <;> omega
 ·rw[h1];simp only;omega
abbrev LX:=zE × (Value × Value)
variable{ls:List LX}
def nX(x:LX):List Value:=[.int .i64 x.1.kind,.string ⟨x.1.name.toArray⟩,.int .i64 x.1.low,.int .i64 x.1.high,.string ⟨x.1.conc.toArray⟩,x.2.1,x.2.2,.int .i64 x.1.root,.int .i64 x.1.tests,.int .i64 x.1.dep,.string ⟨x.1.lower.toArray⟩]
def tS(ls:List LX):List Value:=ls.flatMap nX
theorem Vi(ls:List LX)(x:LX):tS (ls++[x])=tS ls++nX x:=by simp[tS]
def vW(w:World)(B:Nat)(ls:List LX):Prop:=∀x∈ls,qX w B x.2.1 x.2.2 x.1
def XT(w:World)(B:Nat)(v:Value)(ls:List LX):Prop:=w.ownsRow B 184 11 v ls.length (tS ls)/\vW w B ls
theorem Fr:(Tryz.prog.info? 184).map (fun i=>(i.zero,i.size,i.bytes))=some (some (.agg #[.int .i64 0,.string ⟨#[]⟩,.int .i64 0,.int .i64 0,.string ⟨#[]⟩,.slice none 0 0,.slice none 0 0,.int .i64 0,.int .i64 0,.int .i64 0,.string ⟨#[]⟩]),11,144):=by kernel_rfl
theorem vW.keeps(h:vW w B ls)(hk:zB w.heap.size R w w')(hR:R<B):vW w' B ls :=
 fun x hx=>⟨vO (h x hx).1 hk hR,vO (h x hx).2 hk hR⟩
theorem vW.alloc(h:vW w B ls)(o:Obj):vW (w.alloc o) B ls :=
 fun x hx=>⟨(h x hx).1.alloc _,(h x hx).2.alloc _⟩
theorem oK{e e':TypeId}{size size':Nat}{v v':Value}{n n':Nat}{xs xs':List Value}(h:w.ownsRow B e size v n xs)(hl:w.ownsRow B' e' size' v' n' xs')(zEB:e≠e')(hg:w.grownBy w' v'.ownBlock):w'.ownsRow B e size v n xs:=by
 refine⟨h.1,?_⟩;rcases h.2 with h1|⟨g,cap,yJ,h1,h2,h3,r⟩
 ·exact .inl h1
 ·refine .inr ⟨g,cap,yJ,h1,h2,?_,r⟩
  have zE9:g<w.heap.size:=by
   rcases pf g w.heap.size with h|h
   ·exact h
   ·rw[pb h]at h3;cases h3
  rw[hg.block g zE9 ?_];· exact h3
  intro hE;rcases hl.2 with ⟨k1,_⟩|⟨g',cap',cur',k1,_,k3,_⟩
  ·rw[k1]at hE;simp[Value.ownBlock]at hE
  ·rw[k1]at hE
   simp[Value.ownBlock]at hE;subst hE;rw[h3]at k3;simp at k3;exact zEB k3.2
theorem vW.grown{size':Nat}{v':Value}{n':Nat}{xs':List Value}(h:vW w B ls)(hl:w.ownsRow B' 184 size' v' n' xs')(hg:w.grownBy w' v'.ownBlock):vW w' B ls :=
 fun x hx=>⟨oK (h x hx).1 hl (by decide) hg,oK (h x hx).2 hl (by decide) hg⟩
def mM(l:Bs):List PT:=(vC l 0).map (fun t=>⟨yC t.2,t.2,qM t.2,t.1⟩)++[⟨0,[],0,l.length⟩]
theorem pU(l:Bs):(mM l).length=(vC l 0).length+1:=by simp[mM]
theorem CL(l:Bs):∀i,i<(mM l).length->(yJ (mM l) i).k≠0->i+1<(mM l).length:=by
 intro i hi hk;rw[pU]at hi ⊢;rcases pf i (vC l 0).length with h|h
 ·omega
 ·exfalso
  have e:i=(vC l 0).length:=by omega
  apply hk
  unfold yJ mM;subst e;simp[List.getD]
def cE(ps:List PT):List Value:=ps.flatMap (fun x=>[.int .i64 x.k,.string ⟨x.s.toArray⟩,.int .i64 x.v,.int .i64 x.p])
theorem YN(l:Bs):eK (vC l 0)++XD l.length=cE (mM l):=by
 simp only[eK,cE,mM,bh,List.flatMap_map];rfl
theorem Vf(ps:List PT):∀i,i<ps.length ->
 (cE ps)[i*4]? = some (.int .i64 (yJ ps i).k)/\(cE ps)[i*4+1]? = some (.string ⟨(yJ ps i).s.toArray⟩)/\(cE ps)[i*4+2]? = some (.int .i64 (yJ ps i).v)/\(cE ps)[i*4+3]? = some (.int .i64 (yJ ps i).p):=by
 induction ps with
 | nil=>intro i h;simp at h
 | cons t r ih =>
   intro i h;have e:cE (t::r)=[.int .i64 t.k,.string ⟨t.s.toArray⟩,.int .i64 t.v,.int .i64 t.p]++cE r:=by simp[cE]
   cases i with
   | zero=>rw[e];simp[yJ]
   | succ i =>
     have hi:=ih i (by simpa using h);have hc:yJ (t::r) (i+1)=yJ r i:=by simp[yJ]
     rw[e,hc];refine⟨?_,?_,?_,?_⟩
     ·rw[ma (by simp;omega),show (i+1)*4-[Value.int .i64 t.k,.string ⟨t.s.toArray⟩,.int .i64 t.v,.int .i64 t.p].length=i*4 by simp;omega];exact hi.1
     ·rw[ma (by simp;omega),show (i+1)*4+1-[Value.int .i64 t.k,.string ⟨t.s.toArray⟩,.int .i64 t.v,.int .i64 t.p].length=i*4+1 by simp;omega];exact hi.2.1
     ·rw[ma (by simp;omega),show (i+1)*4+2-[Value.int .i64 t.k,.string ⟨t.s.toArray⟩,.int .i64 t.v,.int .i64 t.p].length=i*4+2 by simp;omega];exact hi.2.2.1
     ·rw[ma (by simp;omega),show (i+1)*4+3-[Value.int .i64 t.k,.string ⟨t.s.toArray⟩,.int .i64 t.v,.int .i64 t.p].length=i*4+3 by simp;omega];exact hi.2.2.2
theorem xF{yJ:Array Value}{e:TypeId}{fz:Nat × Nat}{k n:Nat}{xs:List Value}{u:Value}
 (hb:w.heap[g]? = some (.cells yJ e fz)) (ht:yJ.toList.take n=xs) (hx:xs[k]? = some u):w.cell? ⟨g,k,none⟩=some u:=by
 have h1:yJ.toList[k]? = some u:=by
  rw[<-ht,ct]at hx;split at hx
  ·exact hx
  ·cases hx
 simp[World.cell?,hb];simpa using h1
theorem Y6{base:Nat}{v:Value}{ps:List PT}(h:w.ownsRow base 187 4 v ps.length (cE ps))(h0:0<ps.length) :
 ∃g cap,v=.slice (some ⟨g,0,none⟩) ps.length cap/\base<=g/\g<w.heap.size/\ps.length<=cap/\cap<=maxLen/\iF w g ps:=by
 rcases h.2 with ⟨_,h2⟩|⟨g,cap,c,h1,h2,h3,h4,h5,h6,h7⟩
 ·omega
 ·refine⟨g,cap,h1,h2,?_,h4,h5,fun i hi=>?_⟩
  ·rcases pf g w.heap.size with h|h
   ·exact h
   ·rw[pb h]at h3;cases h3
  ·obtain⟨a,b,c',d⟩:=Vf ps i hi
   exact⟨xF h3 h7 a,xF h3 h7 b,xF h3 h7 c',xF h3 h7 d⟩
def nU(lv:Value)(err place:Int):Value:=.agg #[lv,.int .i64 err,.int .i64 place]
def qN(l:Bs):List zE × St:=cB (mM l) (2*(mM l).length+1) (0,false) []
def XO(w w':World)(l:Bs)(e:Ending):Prop :=
 match (qN l).2.2 with
 | true=>e=.returned (nU (.slice none 0 0) 2 (yJ (mM l) (qN l).2.1).p)
 | false=>∃lv ls,e=.returned (nU lv 0 0)/\ls.map Prod.fst=(qN l).1/\XT w' w.heap.size lv ls
def fI(P:List PT)(R:Nat)(w:World):Nat:=2*(P.length-Dt w R)+(match w.cell? ⟨R,2,none⟩ with|some (.bool true)=>0|_=>1)
theorem yA.readMeas{cap:Nat}{P:List PT}{s:St}(h:xN w R g cap P s):fI P R w=wG P s:=by
 unfold fI wG;rw[yA.rdAt h,h.cells.2.2];cases s.2 <;> rfl
theorem vW.base(h:vW w B ls)(hb:B'<=B):vW w B' ls:=fun x hx=>⟨xH (h x hx).1 hb,xH (h x hx).2 hb⟩
theorem vW.set{b o:Nat}{u:Value}(h:vW w B ls)(hb:b<B):vW (w.setCell ⟨b,o,none⟩ u) B ls:=fun x hx=>⟨yS (h x hx).1 hb,yS (h x hx).2 hb⟩
theorem qX.base{sv nv:Value}{x:zE}(h:qX w B sv nv x)(hb:B'<=B):qX w B' sv nv x:=⟨xH h.1 hb,xH h.2 hb⟩
theorem eG(P:List PT)(n:Nat)(s:St)(acc:List zE)(h:s.2=true\/(yJ P s.1).k=0):cB P n s acc=(acc,s):=by
 cases n with
 | zero=>rfl
 | succ n =>
   rw[cB];cases hs:s.2
   ·rcases h with h|h
    ·rw[hs]at h;cases h
    ·simp only[h,if_true]
   ·rfl
theorem zB.below(h:zB B R w w')(h1:B'<=B)(h2:B'<=R):Below B' w w':=⟨h.os,h.tape,h.output,h.size,fun k hk=>h.block k (by omega) (by omega)⟩
theorem yA.start{cap:Nat}{P:List PT}(htok:iF w g P)(hg:g<w.heap.size)(h0:0<P.length)(hc:P.length<=cap)(hm:cap<=maxLen)(h4:P.length<=4001)(he:∀i,i<P.length->(yJ P i).k≠0->i+1<P.length) :
 xN (w.alloc (kK g cap P 0 false)) w.heap.size g cap P (0,false):=by
 refine⟨zH _ _,?_,by omega,by simp;omega,h0,hc,hm,h4,he⟩;intro i hi;have hb:∀o,(w.alloc (kK g cap P 0 false)).cell? ⟨g,o,none⟩=w.cell? ⟨g,o,none⟩:=fun o=>World.cell?_of_block (w:=w) (ld _ _ _ hg);rw[hb,hb,hb,hb];exact htok i hi
theorem XW(l:Bs)(w:World)(hl:l.length<=4000) :
 Calls Tryz.prog 55 #[.string ⟨l.toArray⟩] w fun e w'=>XO w w' l e/\Below w.heap.size w w':=by
 obtain⟨i0,hi0,hz0,hz1,hz2⟩:=info_parts Fr;have HRead:=zA (fun w=>J8 l w hl);have hcount:=oH l 0;have HPl:=zA (pU l);have hP0:0<(mM l).length:=by rw[pU];omega
 have hP1:(mM l).length<=4001:=by rw[pU];omega
 have HEk:=zA (CL l);have HFl:=zA (YN l);have HRB:Hid (qN l=cB (mM l) (2*(mM l).length+1) (0,false) []):=rfl;have HRI:Hid (∀w' e,XO w w' l e=(match (qN l).2.2 with|true=>e=.returned (nU (.slice none 0 0) 2 (yJ (mM l) (qN l).2.1).p)|false=>∃lv ls,e=.returned (nU lv 0 0)/\ls.map Prod.fst=(qN l).1/\XT w' w.heap.size lv ls)):=fun _ _=>rfl;generalize qN l=F at *;have HCt:=zA hcount;generalize hPP:mM l=P at *;have HPP:=zA hPP;clear hcount hPP;have hl2:¬(4000:Int)<(l.length:Int):=by omega
 have HI0:=zA hi0;have HZ0:=zA hz0;have HZ1:=zA hz1;have HZ2:=zA hz2;have HP0:=zA hP0;have HP1:=zA hP1;clear hi0 hz0 hz1 hz2 hl hP0 hP1
 go_enter Tryz.func55,Tryz.ntmps55
 go_wp2_with fail
 refine(HRead.out _).mono ?_;rintro e w1 ⟨tv,rfl,zEK,hbel1⟩;rw[HFl.out,show (vC l 0).length+1=P.length from HPl.out.symm]at zEK;obtain⟨g,cap,rfl,hg0,hg1,hcap,hcm,htok⟩:=Y6 zEK HP0.out;have hs1:=hbel1.size
 have b1:w1.heap[w.heap.size]? = some (.cells #[.slice none 0 0,.int .i64 0,.int .i64 0] 143 (0,0)):=by
  rw[hbel1.block w.heap.size (by simp)];exact zH _ _
 have HB1:Hid (Below w.heap.size w w1):=(da (j1 _) _).trans (hbel1.mono (by simp));have HTok:=zA htok;have hsz1:w.heap.size<w1.heap.size:=by simp at hs1;omega
 clear zEK hbel1 hs1 htok HRead HFl HPl;obtain⟨R,hR⟩:∃R,w1.heap.size=R:=⟨_,rfl⟩
 have hc0:xN ((w1.alloc (kK g cap P 0 false)).alloc (.cells #[] 184)) R g cap P (0,false):=by
  rw[<-hR];exact yA.alloc (yA.start HTok.out hg1 HP0.out hcap hcm HP1.out HEk.out) _
 have hrow0:((w1.alloc (kK g cap P 0 false)).alloc (.cells #[] 184)).ownsRow (R+1) 184 11 (.slice (some ⟨R+1,0,none⟩) 0 0) 0 (tS []) :=
  ⟨rfl,.inr ⟨R+1,0,#[],rfl,j1 _,by
   have h1:=zH (w1.alloc (kK g cap P 0 false)) (.cells #[] 184);rw[show (w1.alloc (kK g cap P 0 false)).heap.size=R+1 by simp;exact hR]at h1;exact h1,j1 _,by simp[maxLen],rfl,rfl⟩⟩
 have hbel0:Below R w1 ((w1.alloc (kK g cap P 0 false)).alloc (.cells #[] 184)):=(da (Nat.le_of_eq hR.symm) _).alloc (by simp;omega) _;have HC0:=zA hc0;have HO0:=zA hrow0;have HBe0:=zA hbel0;have HRs:=zA hR;have hgR:g<R:=by omega
 have hwR:w.heap.size<R:=by omega
 clear hc0 hrow0 hbel0 HTok;go_wp2_with fail
 clear hR hg1 hsz1
 go_loopw [4] (fun lv wr=>∃(n:Nat) (s:St) (ls:List LX),wr.ownsRow (R+1) 184 11 lv ls.length (tS ls)/\Hid (xN wr R g cap P s)/\Hid (vW wr (R+1) ls)/\Hid (Below R w1 wr)/\Hid (ls.length+wG P s<=2*P.length+1/\wG P s<=n/\cB P n s (ls.map Prod.fst)=F)) (fun _ wr=>fI P R wr)
 case atStart=>exact⟨2*P.length+1,(0,false),[],HO0.out,HC0,zA (fun x hx=>by cases hx),HBe0,zA ⟨by show 0+(2*(P.length-0)+1)<=_;omega,by show 2*(P.length-0)+1<=_;omega,HRB.out.symm⟩⟩
 case round =>
  obtain⟨n,s,ls,zEA,HC,HA,HBe,HH⟩:=hrel;clear HC0 HO0 HBe0 HRB;obtain⟨c0,c1,c2⟩:=HC.out.cells;have hat:=HC.out.at';cases hf:s.2
  ·rw[hf]at c2
   by_cases hk:(yJ P s.1).k=0
   ·have hE:F=(ls.map Prod.fst,s):=by rw[<-HH.out.2.2];exact eG P n s _ (.inr hk)
    have HE:=zA hE;have HS2:=zA hf;have HF2:Hid (F.2.2=false):=by unfold Hid;rw[hE];exact hf
    have HK:=zA hk;have bz:wr.heap[w.heap.size]? = some (.cells #[.slice none 0 0,.int .i64 0,.int .i64 0] 143 (0,0)):=by rw[HBe.out.block w.heap.size hwR];exact b1
    have cz:=fun j=>cq _ _ j _ _ _ bz;have fz:∀o,wr.frozen? ⟨w.heap.size,o,none⟩=false:=fun o=>by simp[World.frozen?,bz]
    have HFin:Hid (Below w.heap.size w wr):=HB1.out.trans (HBe.out.mono (p6 hwR));clear hE hf hk HH b1;go_wp2_with fail
    refine(oM R g cap P _ s 0 HC.out).mono ?_;rintro e w2 ⟨rfl,hc2,hk2⟩;rw[show ((yJ P s.1).k==0)=true by rw[HK.out];rfl];have zEN:=vO zEA hk2 (mq R);have HA2:=zA (HA.out.keeps hk2 (mq R));have zE9:=hk2.size;have b2:w2.heap[w.heap.size]? = some (.cells #[.slice none 0 0,.int .i64 0,.int .i64 0] 143 (0,0)):=zP bz hk2 (by omega);have cz2:=fun j=>cq _ _ j _ _ _ b2;have fz2:∀o,w2.frozen? ⟨w.heap.size,o,none⟩=false:=fun o=>by simp[World.frozen?,b2]
    have HB2:Hid (Below w.heap.size w w2):=HFin.out.trans (hk2.below (tr (p6 hwR) (p6 HC.out.rlt)) (p6 hwR));have d2:w2.cell? ⟨R,2,none⟩=some (.bool false):=by have h9:=hc2.cells.2.2;rw[HS2.out]at h9;exact h9
    have HC2:=zA hc2;obtain⟨la,ln,lc,rfl⟩:=jA zEN;have HO2:=zA zEN;clear zEA zEN hc2 hk2 HC HA HBe c0 c1 c2 cz fz bz;go_wp2_with fail
    refine p5 (v:=nU (.slice la ln lc) 0 0) (by simp (maxDischargeDepth:=8) [results,Tryz.results55,go_sem,nU,cz2]) rfl ⟨?_,((HB2.out.setCell (j1 _) _).setCell (j1 _) _).setCell (j1 _) _⟩;rw[HRI.out,HF2.out];refine⟨_,ls,rfl,by rw[HE.out],xH (b:=R+1) ?_ (by omega),vW.base (B:=R+1) ?_ (by omega)⟩
    ·repeat (with_reducible refine yS ?_ (by omega))
     exact HO2.out
    ·repeat (with_reducible refine vW.set ?_ (by omega))
     exact HA2.out
   ·obtain⟨hh1,hh2,hh3⟩:=HH.out
    obtain⟨n,rfl⟩:∃k,n=k+1:=by
     refine⟨n-1,?_⟩;have h9:1<=wG P s:=by unfold wG;rw[hf];simp only;omega
     omega
    rw[cB,hf]at hh3;simp only[t7 hk]at hh3;have htg:=UN hf hat;have HM:Hid (fI P R wr=wG P s):=yA.readMeas HC.out;have HK:Hid (((yJ P s.1).k==0)=false):=by unfold Hid;simpa using hk
    have HE:=zA hh3;have hls:ls.length<=10000:=by have h9:=HP1.out;omega
    have HL1:=zA hh1;have HN1:=zA hh2;have HRl:=HC.out.rlt;clear hh1 hh2 hh3 HH hk hf;go_wp2_with fail
    refine(oM R g cap P _ s 0 HC.out).mono ?_;rintro e w2 ⟨rfl,hc2,hk2⟩;rw[HK.out];have zEN:=vO zEA hk2 (mq R);have HA2:=zA (HA.out.keeps hk2 (mq R));have HBe2:Hid (Below R w1 w2):=HBe.out.trans (hk2.below (p6 HRl) (j1 R));have HC2:=zA hc2;have HR2:=hc2.rlt;clear zEA hc2 hk2 HA HBe c0 c1 c2 HC HK;go_wp2_with fail
    refine(zB8 w2 R g cap P s HC2.out).mono ?_;rintro e w3 ⟨sv,nv,rfl,hlr,hc3,hk3⟩;have zER:=vO zEN hk3 (mq R);have HA3:=zA (HA2.out.keeps hk3 (mq R));have HBe3:Hid (Below R w1 w3):=HBe2.out.trans (hk3.below (p6 HR2) (j1 R));have HLR:Hid (qX w3 (R+1) sv nv (vN P s).1):=hlr.base HR2;have HC3:=zA hc3;have HR3:=hc3.rlt;obtain⟨sva,svn,svc,rfl⟩:=jA hlr.1;obtain⟨nva,nvn,nvc,rfl⟩:=jA hlr.2;have HOB:=zA (uG zER);generalize vN P s=pl at *;obtain⟨x,s2⟩:=pl;simp only at HC3 HLR HE htg;have hx:nX (x,(Value.slice sva svn svc,Value.slice nva nvn nvc))=[.int .i64 x.kind,.string ⟨x.name.toArray⟩,.int .i64 x.low,.int .i64 x.high,.string ⟨x.conc.toArray⟩,.slice sva svn svc,.slice nva nvn nvc,.int .i64 x.root,.int .i64 x.tests,.int .i64 x.dep,.string ⟨x.lower.toArray⟩]:=rfl;have HX:=zA hx;clear zEN hc3 hk3 hlr HA2 HBe2 HC2 hx;unfold vS;have hi0:=HI0.out;have hz0:=HZ0.out;have hz1:=HZ1.out;have hz2:=HZ2.out
    go_wp2_with (at_builtin;refine wpList_append_own _ rfl _ _ 141 rfl (R+1) 184 i0 _ 11 144 Tryz.underlying141 hi0 hz0 hz1 hz2 rfl (by decide) _ _ _ rfl ((zER.alloc _).alloc _) ⟨w3.heap.size+1,0,none⟩ 1 1 (nX (x,(Value.slice sva svn svc,Value.slice nva nvn nvc))) rfl rfl ?c1 ?c2 ?c3 ?c4 ?c5 ?_)
    case c1=>rw[HX.out];exact qB _ _ _ _ rfl (by simp)
    case c2=>rw[HX.out];intro u hu;simp at hu;rcases hu with rfl|rfl|rfl|rfl|rfl|rfl|rfl|rfl|rfl|rfl|rfl <;> rfl
    case c3=>unfold maxLen;omega
    case c4=>omega
    case c5=>simp;omega
    intro v' w4 hown4 zEC _
    have hc4:xN w4 R g cap P s2:=yA.grown (yA.alloc (yA.alloc HC3.out _) _) zEC
     (fun e=>by have h1:=(HOB.out R e).1;omega) (fun e=>by have h1:=(HOB.out g e).1;omega)
    have ha4:vW w4 (R+1) (ls++[(x,(Value.slice sva svn svc,Value.slice nva nvn nvc))]):=by
     refine vW.grown (B':=R+1) (fun y hy=>?_) ((zER.alloc _).alloc _) zEC;rcases pt.1 hy with hy|hy
     ·exact((HA3.out.alloc _).alloc _) y hy
     ·rw[po.1 hy]
      exact⟨(HLR.out.1.alloc _).alloc _,(HLR.out.2.alloc _).alloc _⟩
    have HBe4:Hid (Below R w1 w4):=((HBe3.out.alloc (by omega) _).alloc (by simp;omega) _).grown zEC (by simp;omega) (fun k hk=>by have h1:=(HOB.out k hk).1;omega);have HC4:=zA hc4;have HA4:=zA ha4;have hown4':w4.ownsRow (R+1) 184 11 v' (ls++[(x,(Value.slice sva svn svc,Value.slice nva nvn nvc))]).length (tS (ls++[(x,(Value.slice sva svn svc,Value.slice nva nvn nvc))])):=by rw[Vi,tb];exact hown4
    have HT4:Hid (fI P R w4=wG P s2):=yA.readMeas hc4;clear zER hown4 zEC HOB hc4 ha4 HC3 HA3 HBe3 HLR hi0 hz0 hz1 hz2;go_wp2_with fail
    go_roundw
    case rel=>exact⟨n,s2,_,hown4',HC4,HA4,HBe4,zA ⟨by have h1:=HL1.out;rw[tb,pj];omega,by have h1:=HN1.out;omega,by rw[lj];exact HE.out⟩⟩
    case measure=>rw[HM.out,HT4.out];exact htg
  ·have hE:F=(ls.map Prod.fst,s):=by rw[<-HH.out.2.2];exact eG P n s _ (.inl hf)
   have HE:=zA hE;have HF2:Hid (F.2.2=true):=by unfold Hid;rw[hE];exact hf
   have HF1:Hid (F.2.1=s.1):=by unfold Hid;rw[hE]
   rw[hf]at c2;have bz:wr.heap[w.heap.size]? = some (.cells #[.slice none 0 0,.int .i64 0,.int .i64 0] 143 (0,0)):=by rw[HBe.out.block w.heap.size hwR];exact b1
   have cz:=fun j=>cq _ _ j _ _ _ bz;have fz:∀o,wr.frozen? ⟨w.heap.size,o,none⟩=false:=fun o=>by simp[World.frozen?,bz]
   have HFin:Hid (Below w.heap.size w wr):=HB1.out.trans (HBe.out.mono (p6 hwR));obtain⟨_,_,_,t3⟩:=HC.out.tok s.1 hat;have i1:(0:Int)<=(s.1:Int):=by omega
   have i2:(s.1:Int)<(P.length:Int):=by omega
   generalize hcu:(yJ P s.1).p=pp at *;have HCu:=zA hcu;clear hE hf HH b1 hcu zEA HA HBe;go_wp2_with fail
   refine p5 (v:=nU (.slice none 0 0) 2 pp) (by simp (maxDischargeDepth:=8) [results,Tryz.results55,go_sem,nU,cz]) rfl ⟨?_,((HFin.out.setCell (j1 _) _).setCell (j1 _) _).setCell (j1 _) _⟩;rw[HRI.out,HF2.out,HF1.out,HCu.out]
end Go.Proofs.YtnbpdffdnphbeabGreatDoor
