import Derived.Test.YtnbpdffdnphbeabGreatDoorBLines
set_option maxHeartbeats 2000000
namespace Go.Proofs.YtnbpdffdnphbeabGreatDoor
open Go.RowKit
variable{R B g B':Nat}{w' w:World}
theorem mV(P:List PT)(s:St):s.1<=(zG P s).2.1:=cJ _ _
theorem eB(P:List PT)(s:St):s.1<=(yC P s).2.1:=cJ _ _
theorem uV(P:List PT)(t:Bs)(s:St):s.1<=(zP P t s).1:=cJ _ _
theorem UQ(P:List PT)(n:Nat):∀m s ps,s.1<=(jF P n m s ps).2.1:=by
 induction n with
 | zero=>intro m s ps;exact tg _
 | succ n ih =>
   intro m s ps;have h1:=YE P m s;have h2:=xD P [45] (vM P m s).2;rw[jF];split
   ·exact p8 h1 (p8 h2 (ih _ _ _))
   ·have h3:=xD P [43] (zD P [45] (vM P m s).2).2
    split
    ·exact p8 h1 (p8 h2 (p8 h3 (ih _ _ _)))
    ·exact p8 h1 (p8 h2 h3)
theorem YV(P:List PT)(item:GS->Int × GS)(tok:Bs)(kind:Int)(hit:∀q,q.s.1<=(item q).2.s.1)(k:Nat):∀l q,q.s.1<=(kQ P item tok kind k l q).2.s.1:=by
 induction k with
 | zero=>intro l q;exact tg _
 | succ k ih =>
   intro l q;have h1:=xD P tok q.s;rw[kQ];split
   ·exact h1
   ·have h3:=ih ((item (q.to (zD P tok q.s).2)).2.nd.length:Nat) ((item (q.to (zD P tok q.s).2)).2.add ⟨kind,l,(item (q.to (zD P tok q.s).2)).1,[],[],[],0⟩)
    exact p8 h1 (p8 (hit (q.to (zD P tok q.s).2)) h3)
theorem Zq(P:List PT)(fact:GS->Int->Int × GS)(hf:∀q d,q.s.1<=(fact q d).2.s.1)(q:GS)(d:Int):q.s.1<=(qZ P fact q d).2.s.1 :=
 p8 (hf q d) (YV P _ _ _ (fun q=>hf q d) _ _ _)
theorem QU(P:List PT)(fact:GS->Int->Int × GS)(hf:∀q d,q.s.1<=(fact q d).2.s.1)(q:GS)(d:Int):q.s.1<=(bJ P fact q d).2.s.1 :=
 p8 (Zq P fact hf q d) (YV P _ _ _ (fun q=>Zq P fact hf q d) _ _ _)
theorem US(P:List PT)(n:Nat):∀q d,q.s.1<=(yJ P n q d).2.s.1:=by
 induction n with
 | zero=>intro q d;exact tg _
 | succ n ih =>
   intro q d;have h1:=xD P yX q.s;rw[yJ];split
   ·exact p8 h1 (ih (q.to (zD P yX q.s).2) (d+1))
   ·have h2:=xD P yO (zD P yX q.s).2
    split
    ·exact p8 h1 (p8 h2 (p8 (QU P _ ih (q.to (zD P yO (zD P yX q.s).2).2) (d+1)) (uV P _ _)))
    ·exact p8 h1 (p8 h2 (sY P _))
theorem KG(P:List PT)(s:St):s.1<=(vL P s).2.s.1:=QU P _ (US P P.length) ⟨s,[],0,0⟩ 0
theorem sD(P:List PT)(s:St):s.1<=(qU P s).2.1 :=
 p8 (mV P s) (p8 (eB P _) (p8 (uV P _ _) (p8 (eB P _) (uV P _ _))))
theorem nS(P:List PT)(s:St):s.1<=(kM P s).2.1:=p8 (mV P s) (uV P _ _)
theorem nQ(P:List PT)(s:St):s.1<=(qE P s).2.1:=p8 (mV P s) (p8 (mV P _) (uV P _ _))
theorem nP(P:List PT)(s:St):s.1<=(kL P s).2.1 :=
 p8 (mV P s) (p8 (uV P _ _) (p8 (mV P _) (p8 (uV P _ _) (p8 (UQ P _ _ _ _) (p8 (uV P _ _) (p8 (KG P _) (uV P _ _)))))))
theorem V6{P:List PT}{t:Bs}{s:St}(h:s.2=true):(zP P t s).2=true:=by simp[zP,jS,h]
theorem Z9{P:List PT}{s:St}(h:s.2=true):(zG P s).2.2=true:=by simp[zG,uQ,h]
theorem Fl(P:List PT)(s:St):s.1<(vG P s).2.1\/(vG P s).2.2=true:=by
 unfold vG;split
 ·rename_i h;left;have h1:=uW h;have h2:=sD P (zD P [110,117,109] s).2;omega
 ·have m0:=xD P [110,117,109] s
  split
  ·rename_i h;left;have h1:=uW h;have h2:=nS P (zD P [102,108,97,103] (zD P [110,117,109] s).2).2;omega
  ·have m1:=xD P [102,108,97,103] (zD P [110,117,109] s).2
   split
   ·rename_i h;left;have h1:=uW h;have h2:=nP P (zD P [114,117,108,101] (zD P [102,108,97,103] (zD P [110,117,109] s).2).2).2;omega
   ·have m2:=xD P [114,117,108,101] (zD P [102,108,97,103] (zD P [110,117,109] s).2).2
    generalize (zD P [114,117,108,101] (zD P [102,108,97,103] (zD P [110,117,109] s).2).2).2=s3 at *;have m3:=nQ P (zP P [111,118,101,114] s3);cases hb:jS P [111,118,101,114] s3.1 s3.2
    ·right
     have hf:(zP P [111,118,101,114] s3).2=true:=by simp[zP,hb]
     exact V6 (Z9 (Z9 hf))
    ·left
     have:(zP P [111,118,101,114] s3).1=s3.1+1:=by simp[zP,hb,ZN]
     omega
theorem UR(P:List PT)(s:St):s.1<=(vG P s).2.1:=by
 unfold vG;have m0:=xD P [110,117,109] s;split
 ·exact p8 m0 (sD P _)
 ·have m1:=xD P [102,108,97,103] (zD P [110,117,109] s).2
  split
  ·exact p8 m0 (p8 m1 (nS P _))
  ·have m2:=xD P [114,117,108,101] (zD P [102,108,97,103] (zD P [110,117,109] s).2).2
   split
   ·exact p8 m0 (p8 m1 (p8 m2 (nP P _)))
   ·exact p8 m0 (p8 m1 (p8 m2 (p8 (uV P _ _) (nQ P _))))
def jA(P:List PT):Nat->St->List zE->List zE × St
 | 0,s,acc=>(acc,s)
 | n+1,s,acc =>
   match s.2 with
   | true=>(acc,s)
   | false=>if (yT P s.1).k=0 then (acc,s) else jA P n (vG P s).2 (acc++[(vG P s).1])
def aW(P:List PT)(s:St):Nat:=2*(P.length-s.1)+(match s.2 with|true=>0|false=>1)
theorem Qe{P:List PT}{s:St}(h:s.2=false)(ha:s.1<P.length):aW P (vG P s).2<aW P s:=by
 have h1:=Fl P s;have h2:=UR P s;unfold aW;rw[h];rcases h1 with h1|h1
 ·split <;> omega
 ·rw[h1];simp only;omega
abbrev LX:=zE × (Value × Value)
variable{ls:List LX}
def sF(x:LX):List Value:=[.int .i64 x.1.kind,.string ⟨x.1.name.toArray⟩,.int .i64 x.1.low,.int .i64 x.1.high,.string ⟨x.1.conc.toArray⟩,x.2.1,x.2.2,.int .i64 x.1.root,.int .i64 x.1.tests,.int .i64 x.1.dep,.string ⟨x.1.lower.toArray⟩]
def mL(ls:List LX):List Value:=ls.flatMap sF
theorem BP(ls:List LX)(x:LX):mL (ls++[x])=mL ls++sF x:=by simp[mL]
def uK(w:World)(B:Nat)(ls:List LX):Prop:=∀x∈ls,jJ w B x.2.1 x.2.2 x.1
def Kf(w:World)(B:Nat)(v:Value)(ls:List LX):Prop:=w.ownsRow B 184 11 v ls.length (mL ls)/\uK w B ls
theorem kq:(Tryz.prog.info? 184).map (fun i=>(i.zero,i.size,i.bytes))=some (some (.agg #[.int .i64 0,.string ⟨#[]⟩,.int .i64 0,.int .i64 0,.string ⟨#[]⟩,.slice none 0 0,.slice none 0 0,.int .i64 0,.int .i64 0,.int .i64 0,.string ⟨#[]⟩]),11,144):=by kernel_rfl
theorem uK.keeps(h:uK w B ls)(hk:zB w.heap.size R w w')(hR:R<B):uK w' B ls :=
 fun x hx=>⟨vZ (h x hx).1 hk hR,vZ (h x hx).2 hk hR⟩
theorem uK.alloc(h:uK w B ls)(o:Obj):uK (w.alloc o) B ls :=
 fun x hx=>⟨(h x hx).1.alloc _,(h x hx).2.alloc _⟩
theorem YF{e e':TypeId}{size size':Nat}{v v':Value}{n n':Nat}{xs xs':List Value}(h:w.ownsRow B e size v n xs)(hl:w.ownsRow B' e' size' v' n' xs')(zJZ:e≠e')(hg:w.grownBy w' v'.ownBlock):w'.ownsRow B e size v n xs:=by
 refine⟨h.1,?_⟩;rcases h.2 with h1|⟨g,cap,yT,h1,h2,h3,r⟩
 ·exact .inl h1
 ·refine .inr ⟨g,cap,yT,h1,h2,?_,r⟩
  have zJS:g<w.heap.size:=by
   rcases py g w.heap.size with h|h
   ·exact h
   ·rw[pq h]at h3;cases h3
  rw[hg.block g zJS ?_];· exact h3
  intro hE;rcases hl.2 with ⟨k1,_⟩|⟨g',cap',cur',k1,_,k3,_⟩
  ·rw[k1]at hE;simp[Value.ownBlock]at hE
  ·rw[k1]at hE
   simp[Value.ownBlock]at hE;subst hE;rw[h3]at k3;simp at k3;exact zJZ k3.2
theorem uK.grown{size':Nat}{v':Value}{n':Nat}{xs':List Value}(h:uK w B ls)(hl:w.ownsRow B' 184 size' v' n' xs')(hg:w.grownBy w' v'.ownBlock):uK w' B ls :=
 fun x hx=>⟨YF (h x hx).1 hl (by decide) hg,YF (h x hx).2 hl (by decide) hg⟩
def sB(l:Bs):List PT:=(xB l 0).map (fun t=>⟨yA t.2,t.2,qS t.2,t.1⟩)++[⟨0,[],0,l.length⟩]
theorem ZS(l:Bs):(sB l).length=(xB l 0).length+1:=by simp[sB]
theorem zj(l:Bs):∀i,i<(sB l).length->(yT (sB l) i).k≠0->i+1<(sB l).length:=by
 intro i hi hk;rw[ZS]at hi ⊢;rcases py i (xB l 0).length with h|h
 ·omega
 ·exfalso
  have e:i=(xB l 0).length:=by omega
  apply hk
  unfold yT sB;subst e;simp[List.getD]
def dM(ps:List PT):List Value:=ps.flatMap (fun x=>[.int .i64 x.k,.string ⟨x.s.toArray⟩,.int .i64 x.v,.int .i64 x.p])
theorem FX(l:Bs):Z7 (xB l 0)++JQ l.length=dM (sB l):=by
 simp only[Z7,dM,sB,lk,List.flatMap_map];rfl
theorem BM(ps:List PT):∀i,i<ps.length ->
 (dM ps)[i*4]? = some (.int .i64 (yT ps i).k)/\(dM ps)[i*4+1]? = some (.string ⟨(yT ps i).s.toArray⟩)/\(dM ps)[i*4+2]? = some (.int .i64 (yT ps i).v)/\(dM ps)[i*4+3]? = some (.int .i64 (yT ps i).p):=by
 induction ps with
 | nil=>intro i h;simp at h
 | cons t r ih =>
   intro i h;have e:dM (t::r)=[.int .i64 t.k,.string ⟨t.s.toArray⟩,.int .i64 t.v,.int .i64 t.p]++dM r:=by simp[dM]
   cases i with
   | zero=>rw[e];simp[yT]
   | succ i =>
     have hi:=ih i (by simpa using h);have hc:yT (t::r) (i+1)=yT r i:=by simp[yT]
     rw[e,hc];refine⟨?_,?_,?_,?_⟩
     ·rw[mq (by simp;omega),show (i+1)*4-[Value.int .i64 t.k,.string ⟨t.s.toArray⟩,.int .i64 t.v,.int .i64 t.p].length=i*4 by simp;omega];exact hi.1
     ·rw[mq (by simp;omega),show (i+1)*4+1-[Value.int .i64 t.k,.string ⟨t.s.toArray⟩,.int .i64 t.v,.int .i64 t.p].length=i*4+1 by simp;omega];exact hi.2.1
     ·rw[mq (by simp;omega),show (i+1)*4+2-[Value.int .i64 t.k,.string ⟨t.s.toArray⟩,.int .i64 t.v,.int .i64 t.p].length=i*4+2 by simp;omega];exact hi.2.2.1
     ·rw[mq (by simp;omega),show (i+1)*4+3-[Value.int .i64 t.k,.string ⟨t.s.toArray⟩,.int .i64 t.v,.int .i64 t.p].length=i*4+3 by simp;omega];exact hi.2.2.2
theorem xE{yT:Array Value}{e:TypeId}{fz:Nat × Nat}{k n:Nat}{xs:List Value}{u:Value}
 (hb:w.heap[g]? = some (.cells yT e fz)) (ht:yT.toList.take n=xs) (hx:xs[k]? = some u):w.cell? ⟨g,k,none⟩=some u:=by
 have h1:yT.toList[k]? = some u:=by
  rw[<-ht,List.getElem?_take]at hx;split at hx
  ·exact hx
  ·cases hx
 simp[World.cell?,hb];simpa using h1
theorem Fn{base:Nat}{v:Value}{ps:List PT}(h:w.ownsRow base 187 4 v ps.length (dM ps))(h0:0<ps.length) :
 ∃g cap,v=.slice (some ⟨g,0,none⟩) ps.length cap/\base<=g/\g<w.heap.size/\ps.length<=cap/\cap<=maxLen/\G8 w g ps:=by
 rcases h.2 with ⟨_,h2⟩|⟨g,cap,c,h1,h2,h3,h4,h5,h6,h7⟩
 ·omega
 ·refine⟨g,cap,h1,h2,?_,h4,h5,fun i hi=>?_⟩
  ·rcases py g w.heap.size with h|h
   ·exact h
   ·rw[pq h]at h3;cases h3
  ·obtain⟨a,b,c',d⟩:=BM ps i hi
   exact⟨xE h3 h7 a,xE h3 h7 b,xE h3 h7 c',xE h3 h7 d⟩
def sC(lv:Value)(err place:Int):Value:=.agg #[lv,.int .i64 err,.int .i64 place]
def vY(l:Bs):List zE × St:=jA (sB l) (2*(sB l).length+1) (0,false) []
def Kb(w w':World)(l:Bs)(e:Ending):Prop :=
 match (vY l).2.2 with
 | true=>e=.returned (sC (.slice none 0 0) 2 (yT (sB l) (vY l).2.1).p)
 | false=>∃lv ls,e=.returned (sC lv 0 0)/\ls.map Prod.fst=(vY l).1/\Kf w' w.heap.size lv ls
def nM(P:List PT)(R:Nat)(w:World):Nat:=2*(P.length-vj w R)+(match w.cell? ⟨R,2,none⟩ with|some (.bool true)=>0|_=>1)
theorem yG.readMeas{cap:Nat}{P:List PT}{s:St}(h:xX w R g cap P s):nM P R w=aW P s:=by
 unfold nM aW;rw[yG.rdAt h,h.cells.2.2];cases s.2 <;> rfl
theorem uK.base(h:uK w B ls)(hb:B'<=B):uK w B' ls:=fun x hx=>⟨yS (h x hx).1 hb,yS (h x hx).2 hb⟩
theorem uK.set{b o:Nat}{u:Value}(h:uK w B ls)(hb:b<B):uK (w.setCell ⟨b,o,none⟩ u) B ls:=fun x hx=>⟨xA (h x hx).1 hb,xA (h x hx).2 hb⟩
theorem jJ.base{sv nv:Value}{x:zE}(h:jJ w B sv nv x)(hb:B'<=B):jJ w B' sv nv x:=⟨yS h.1 hb,yS h.2 hb⟩
theorem Zw(P:List PT)(n:Nat)(s:St)(acc:List zE)(h:s.2=true\/(yT P s.1).k=0):jA P n s acc=(acc,s):=by
 cases n with
 | zero=>rfl
 | succ n =>
   rw[jA];cases hs:s.2
   ·rcases h with h|h
    ·rw[hs]at h;cases h
    ·simp only[h,if_true]
   ·rfl
theorem zB.below(h:zB B R w w')(h1:B'<=B)(h2:B'<=R):Below B' w w':=⟨h.os,h.tape,h.output,h.size,fun k hk=>h.block k (by omega) (by omega)⟩
theorem yG.start{cap:Nat}{P:List PT}(htok:G8 w g P)(hg:g<w.heap.size)(h0:0<P.length)(hc:P.length<=cap)(hm:cap<=maxLen)(h4:P.length<=4001)(he:∀i,i<P.length->(yT P i).k≠0->i+1<P.length) :
 xX (w.alloc (jX g cap P 0 false)) w.heap.size g cap P (0,false):=by
 refine⟨zH _ _,?_,by omega,by simp;omega,h0,hc,hm,h4,he⟩;intro i hi;have hb:∀o,(w.alloc (jX g cap P 0 false)).cell? ⟨g,o,none⟩=w.cell? ⟨g,o,none⟩:=fun o=>bg (w:=w) (l5 _ _ _ hg);rw[hb,hb,hb,hb];exact htok i hi
theorem Kh(l:Bs)(w:World)(hl:l.length<=4000) :
 Calls Tryz.prog 55 #[.string ⟨l.toArray⟩] w fun e w'=>Kb w w' l e/\Below w.heap.size w w':=by
 obtain⟨i0,hi0,hz0,hz1,hz2⟩:=info_parts kq;have HRead:=zA (fun w=>zB8 l w hl);have hcount:=fP l 0;have HPl:=zA (ZS l);have hP0:0<(sB l).length:=by rw[ZS];omega
 have hP1:(sB l).length<=4001:=by rw[ZS];omega
 have HEk:=zA (zj l);have HFl:=zA (FX l);have HRB:Hid (vY l=jA (sB l) (2*(sB l).length+1) (0,false) []):=rfl;have HRI:Hid (∀w' e,Kb w w' l e=(match (vY l).2.2 with|true=>e=.returned (sC (.slice none 0 0) 2 (yT (sB l) (vY l).2.1).p)|false=>∃lv ls,e=.returned (sC lv 0 0)/\ls.map Prod.fst=(vY l).1/\Kf w' w.heap.size lv ls)):=fun _ _=>rfl;generalize vY l=F at *;have HCt:=zA hcount;generalize hPP:sB l=P at *;have HPP:=zA hPP;clear hcount hPP;have hl2:¬(4000:Int)<(l.length:Int):=by omega
 have HI0:=zA hi0;have HZ0:=zA hz0;have HZ1:=zA hz1;have HZ2:=zA hz2;have HP0:=zA hP0;have HP1:=zA hP1;clear hi0 hz0 hz1 hz2 hl hP0 hP1
 go_enter Tryz.func55,Tryz.ntmps55
 go_wp2_with fail
 refine(HRead.out _).mono ?_;rintro e w1 ⟨tv,rfl,zK0,hbel1⟩;rw[HFl.out,show (xB l 0).length+1=P.length from HPl.out.symm]at zK0;obtain⟨g,cap,rfl,hg0,hg1,hcap,hcm,htok⟩:=Fn zK0 HP0.out;have hs1:=hbel1.size
 have b1:w1.heap[w.heap.size]? = some (.cells #[.slice none 0 0,.int .i64 0,.int .i64 0] 143 (0,0)):=by
  rw[hbel1.block w.heap.size (by simp)];exact zH _ _
 have HB1:Hid (Below w.heap.size w w1):=(fe (tg _) _).trans (hbel1.mono (by simp));have HTok:=zA htok;have hsz1:w.heap.size<w1.heap.size:=by simp at hs1;omega
 clear zK0 hbel1 hs1 htok HRead HFl HPl;obtain⟨R,hR⟩:∃R,w1.heap.size=R:=⟨_,rfl⟩
 have hc0:xX ((w1.alloc (jX g cap P 0 false)).alloc (.cells #[] 184)) R g cap P (0,false):=by
  rw[<-hR];exact yG.alloc (yG.start HTok.out hg1 HP0.out hcap hcm HP1.out HEk.out) _
 have hrow0:((w1.alloc (jX g cap P 0 false)).alloc (.cells #[] 184)).ownsRow (R+1) 184 11 (.slice (some ⟨R+1,0,none⟩) 0 0) 0 (mL []) :=
  ⟨rfl,.inr ⟨R+1,0,#[],rfl,tg _,by
   have h1:=zH (w1.alloc (jX g cap P 0 false)) (.cells #[] 184);rw[show (w1.alloc (jX g cap P 0 false)).heap.size=R+1 by simp;exact hR]at h1;exact h1,tg _,by simp[maxLen],rfl,rfl⟩⟩
 have hbel0:Below R w1 ((w1.alloc (jX g cap P 0 false)).alloc (.cells #[] 184)):=(fe (Nat.le_of_eq hR.symm) _).alloc (by simp;omega) _;have HC0:=zA hc0;have HO0:=zA hrow0;have HBe0:=zA hbel0;have HRs:=zA hR;have hgR:g<R:=by omega
 have hwR:w.heap.size<R:=by omega
 clear hc0 hrow0 hbel0 HTok;go_wp2_with fail
 clear hR hg1 hsz1
 go_loopw [4] (fun lv wr=>∃(n:Nat) (s:St) (ls:List LX),wr.ownsRow (R+1) 184 11 lv ls.length (mL ls)/\Hid (xX wr R g cap P s)/\Hid (uK wr (R+1) ls)/\Hid (Below R w1 wr)/\Hid (ls.length+aW P s<=2*P.length+1/\aW P s<=n/\jA P n s (ls.map Prod.fst)=F)) (fun _ wr=>nM P R wr)
 case atStart=>exact⟨2*P.length+1,(0,false),[],HO0.out,HC0,zA (fun x hx=>by cases hx),HBe0,zA ⟨by show 0+(2*(P.length-0)+1)<=_;omega,by show 2*(P.length-0)+1<=_;omega,HRB.out.symm⟩⟩
 case round =>
  obtain⟨n,s,ls,zJU,HC,HA,HBe,HH⟩:=hrel;clear HC0 HO0 HBe0 HRB;obtain⟨c0,c1,c2⟩:=HC.out.cells;have hat:=HC.out.at';cases hf:s.2
  ·rw[hf]at c2
   by_cases hk:(yT P s.1).k=0
   ·have hE:F=(ls.map Prod.fst,s):=by rw[<-HH.out.2.2];exact Zw P n s _ (.inr hk)
    have HE:=zA hE;have HS2:=zA hf;have HF2:Hid (F.2.2=false):=by unfold Hid;rw[hE];exact hf
    have HK:=zA hk;have bz:wr.heap[w.heap.size]? = some (.cells #[.slice none 0 0,.int .i64 0,.int .i64 0] 143 (0,0)):=by rw[HBe.out.block w.heap.size hwR];exact b1
    have cz:=fun j=>f0 _ _ j _ _ _ bz;have fz:∀o,wr.frozen? ⟨w.heap.size,o,none⟩=false:=fun o=>by simp[World.frozen?,bz]
    have HFin:Hid (Below w.heap.size w wr):=HB1.out.trans (HBe.out.mono (pb hwR));clear hE hf hk HH b1;go_wp2_with fail
    refine(aA R g cap P _ s 0 HC.out).mono ?_;rintro e w2 ⟨rfl,hc2,hk2⟩;rw[show ((yT P s.1).k==0)=true by rw[HK.out];rfl];have hown2:=vZ zJU hk2 (mt R);have HA2:=zA (HA.out.keeps hk2 (mt R));have zJS:=hk2.size;have b2:w2.heap[w.heap.size]? = some (.cells #[.slice none 0 0,.int .i64 0,.int .i64 0] 143 (0,0)):=zW bz hk2 (by omega);have cz2:=fun j=>f0 _ _ j _ _ _ b2;have fz2:∀o,w2.frozen? ⟨w.heap.size,o,none⟩=false:=fun o=>by simp[World.frozen?,b2]
    have HB2:Hid (Below w.heap.size w w2):=HFin.out.trans (hk2.below (p8 (pb hwR) (pb HC.out.rlt)) (pb hwR));have d2:w2.cell? ⟨R,2,none⟩=some (.bool false):=by have h9:=hc2.cells.2.2;rw[HS2.out]at h9;exact h9
    have HC2:=zA hc2;obtain⟨la,ln,lc,rfl⟩:=tJ hown2;have HO2:=zA hown2;clear zJU hown2 hc2 hk2 HC HA HBe c0 c1 c2 cz fz bz;go_wp2_with fail
    refine pm (v:=sC (.slice la ln lc) 0 0) (by simp (maxDischargeDepth:=8) [results,Tryz.results55,go_sem,sC,cz2]) rfl ⟨?_,((HB2.out.setCell (tg _) _).setCell (tg _) _).setCell (tg _) _⟩;rw[HRI.out,HF2.out];refine⟨_,ls,rfl,by rw[HE.out],yS (b:=R+1) ?_ (by omega),uK.base (B:=R+1) ?_ (by omega)⟩
    ·repeat (with_reducible refine xA ?_ (by omega))
     exact HO2.out
    ·repeat (with_reducible refine uK.set ?_ (by omega))
     exact HA2.out
   ·obtain⟨hh1,hh2,hh3⟩:=HH.out
    obtain⟨n,rfl⟩:∃k,n=k+1:=by
     refine⟨n-1,?_⟩;have h9:1<=aW P s:=by unfold aW;rw[hf];simp only;omega
     omega
    rw[jA,hf]at hh3;simp only[tj hk]at hh3;have htg:=Qe hf hat;have HM:Hid (nM P R wr=aW P s):=yG.readMeas HC.out;have HK:Hid (((yT P s.1).k==0)=false):=by unfold Hid;simpa using hk
    have HE:=zA hh3;have hls:ls.length<=10000:=by have h9:=HP1.out;omega
    have HL1:=zA hh1;have HN1:=zA hh2;have HRl:=HC.out.rlt;clear hh1 hh2 hh3 HH hk hf;go_wp2_with fail
    refine(aA R g cap P _ s 0 HC.out).mono ?_;rintro e w2 ⟨rfl,hc2,hk2⟩;rw[HK.out];have hown2:=vZ zJU hk2 (mt R);have HA2:=zA (HA.out.keeps hk2 (mt R));have HBe2:Hid (Below R w1 w2):=HBe.out.trans (hk2.below (pb HRl) (tg R));have HC2:=zA hc2;have HR2:=hc2.rlt;clear zJU hc2 hk2 HA HBe c0 c1 c2 HC HK;go_wp2_with fail
    refine(zHC w2 R g cap P s HC2.out).mono ?_;rintro e w3 ⟨sv,nv,rfl,hlr,hc3,hk3⟩;have zKB:=vZ hown2 hk3 (mt R);have HA3:=zA (HA2.out.keeps hk3 (mt R));have HBe3:Hid (Below R w1 w3):=HBe2.out.trans (hk3.below (pb HR2) (tg R));have HLR:Hid (jJ w3 (R+1) sv nv (vG P s).1):=hlr.base HR2;have HC3:=zA hc3;have HR3:=hc3.rlt;obtain⟨sva,svn,svc,rfl⟩:=tJ hlr.1;obtain⟨nva,nvn,nvc,rfl⟩:=tJ hlr.2;have HOB:=zA (zU zKB);generalize vG P s=pl at *;obtain⟨x,s2⟩:=pl;simp only at HC3 HLR HE htg;have hx:sF (x,(Value.slice sva svn svc,Value.slice nva nvn nvc))=[.int .i64 x.kind,.string ⟨x.name.toArray⟩,.int .i64 x.low,.int .i64 x.high,.string ⟨x.conc.toArray⟩,.slice sva svn svc,.slice nva nvn nvc,.int .i64 x.root,.int .i64 x.tests,.int .i64 x.dep,.string ⟨x.lower.toArray⟩]:=rfl;have HX:=zA hx;clear hown2 hc3 hk3 hlr HA2 HBe2 HC2 hx;unfold uF;have hi0:=HI0.out;have hz0:=HZ0.out;have hz1:=HZ1.out;have hz2:=HZ2.out
    go_wp2_with (at_builtin;refine wpList_append_own _ rfl _ _ 141 rfl (R+1) 184 i0 _ 11 144 Tryz.underlying141 hi0 hz0 hz1 hz2 rfl (by decide) _ _ _ rfl ((zKB.alloc _).alloc _) ⟨w3.heap.size+1,0,none⟩ 1 1 (sF (x,(Value.slice sva svn svc,Value.slice nva nvn nvc))) rfl rfl ?c1 ?c2 ?c3 ?c4 ?c5 ?_)
    case c1=>rw[HX.out];exact jY _ _ _ _ rfl (by simp)
    case c2=>rw[HX.out];intro u hu;simp at hu;rcases hu with rfl|rfl|rfl|rfl|rfl|rfl|rfl|rfl|rfl|rfl|rfl <;> rfl
    case c3=>unfold maxLen;omega
    case c4=>omega
    case c5=>simp;omega
    intro v' w4 hown4 zJT _
    have hc4:xX w4 R g cap P s2:=yG.grown (yG.alloc (yG.alloc HC3.out _) _) zJT
     (fun e=>by have h1:=(HOB.out R e).1;omega) (fun e=>by have h1:=(HOB.out g e).1;omega)
    have ha4:uK w4 (R+1) (ls++[(x,(Value.slice sva svn svc,Value.slice nva nvn nvc))]):=by
     refine uK.grown (B':=R+1) (fun y hy=>?_) ((zKB.alloc _).alloc _) zJT;rcases ph.1 hy with hy|hy
     ·exact((HA3.out.alloc _).alloc _) y hy
     ·rw[pr.1 hy]
      exact⟨(HLR.out.1.alloc _).alloc _,(HLR.out.2.alloc _).alloc _⟩
    have HBe4:Hid (Below R w1 w4):=((HBe3.out.alloc (by omega) _).alloc (by simp;omega) _).grown zJT (by simp;omega) (fun k hk=>by have h1:=(HOB.out k hk).1;omega);have HC4:=zA hc4;have HA4:=zA ha4;have hown4':w4.ownsRow (R+1) 184 11 v' (ls++[(x,(Value.slice sva svn svc,Value.slice nva nvn nvc))]).length (mL (ls++[(x,(Value.slice sva svn svc,Value.slice nva nvn nvc))])):=by rw[BP,tq];exact hown4
    have HT4:Hid (nM P R w4=aW P s2):=yG.readMeas hc4;clear zKB hown4 zJT HOB hc4 ha4 HC3 HA3 HBe3 HLR hi0 hz0 hz1 hz2;go_wp2_with fail
    go_roundw
    case rel=>exact⟨n,s2,_,hown4',HC4,HA4,HBe4,zA ⟨by have h1:=HL1.out;rw[tq,mh];omega,by have h1:=HN1.out;omega,by rw[lj];exact HE.out⟩⟩
    case measure=>rw[HM.out,HT4.out];exact htg
  ·have hE:F=(ls.map Prod.fst,s):=by rw[<-HH.out.2.2];exact Zw P n s _ (.inl hf)
   have HE:=zA hE;have HF2:Hid (F.2.2=true):=by unfold Hid;rw[hE];exact hf
   have HF1:Hid (F.2.1=s.1):=by unfold Hid;rw[hE]
   rw[hf]at c2;have bz:wr.heap[w.heap.size]? = some (.cells #[.slice none 0 0,.int .i64 0,.int .i64 0] 143 (0,0)):=by rw[HBe.out.block w.heap.size hwR];exact b1
   have cz:=fun j=>f0 _ _ j _ _ _ bz;have fz:∀o,wr.frozen? ⟨w.heap.size,o,none⟩=false:=fun o=>by simp[World.frozen?,bz]
   have HFin:Hid (Below w.heap.size w wr):=HB1.out.trans (HBe.out.mono (pb hwR));obtain⟨_,_,_,t3⟩:=HC.out.tok s.1 hat;have i1:(0:Int)<=(s.1:Int):=by omega
   have i2:(s.1:Int)<(P.length:Int):=by omega
   generalize hcu:(yT P s.1).p=pp at *;have HCu:=zA hcu;clear hE hf HH b1 hcu zJU HA HBe;go_wp2_with fail
   refine pm (v:=sC (.slice none 0 0) 2 pp) (by simp (maxDischargeDepth:=8) [results,Tryz.results55,go_sem,sC,cz]) rfl ⟨?_,((HFin.out.setCell (tg _) _).setCell (tg _) _).setCell (tg _) _⟩;rw[HRI.out,HF2.out,HF1.out,HCu.out]
end Go.Proofs.YtnbpdffdnphbeabGreatDoor
