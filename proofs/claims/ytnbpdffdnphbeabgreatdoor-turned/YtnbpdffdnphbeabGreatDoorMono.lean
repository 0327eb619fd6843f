import Derived.Test.YtnbpdffdnphbeabGreatDoorBLines
set_option maxHeartbeats 2000000
namespace Go.Proofs.YtnbpdffdnphbeabGreatDoor
open Go.RowKit
variable{R B' B g:Nat}{w' w:World}
theorem mY(P:List PT)(s:St):s.1<=(zI P s).2.1:=dG _ _
theorem iY(P:List PT)(s:St):s.1<=(yG P s).2.1:=dG _ _
theorem kJ(P:List PT)(t:Bs)(s:St):s.1<=(zU P t s).1:=dG _ _
theorem BI(P:List PT)(n:Nat):∀m s ps,s.1<=(lS P n m s ps).2.1:=by
 induction n with
 | zero=>intro m s ps;exact j1 _
 | succ n ih =>
   intro m s ps;have h1:=Xn P m s;have h2:=xZ P [45] (qD P m s).2;rw[lS];split
   ·exact ty h1 (ty h2 (ih _ _ _))
   ·have h3:=xZ P [43] (zD P [45] (qD P m s).2).2
    split
    ·exact ty h1 (ty h2 (ty h3 (ih _ _ _)))
    ·exact ty h1 (ty h2 h3)
theorem X8(P:List PT)(item:GS->Int × GS)(tok:Bs)(kind:Int)(hit:∀q,q.s.1<=(item q).2.s.1)(k:Nat):∀l q,q.s.1<=(mU P item tok kind k l q).2.s.1:=by
 induction k with
 | zero=>intro l q;exact j1 _
 | succ k ih =>
   intro l q;have h1:=xZ P tok q.s;rw[mU];split
   ·exact h1
   ·have h3:=ih ((item (q.to (zD P tok q.s).2)).2.nd.length:Nat) ((item (q.to (zD P tok q.s).2)).2.add ⟨kind,l,(item (q.to (zD P tok q.s).2)).1,[],[],[],0⟩)
    exact ty h1 (ty (hit (q.to (zD P tok q.s).2)) h3)
theorem Yd(P:List PT)(fact:GS->Int->Int × GS)(hf:∀q d,q.s.1<=(fact q d).2.s.1)(q:GS)(d:Int):q.s.1<=(cG P fact q d).2.s.1 :=
 ty (hf q d) (X8 P _ _ _ (fun q=>hf q d) _ _ _)
theorem JD(P:List PT)(fact:GS->Int->Int × GS)(hf:∀q d,q.s.1<=(fact q d).2.s.1)(q:GS)(d:Int):q.s.1<=(ZT P fact q d).2.s.1 :=
 ty (Yd P fact hf q d) (X8 P _ _ _ (fun q=>Yd P fact hf q d) _ _ _)
theorem BK(P:List PT)(n:Nat):∀q d,q.s.1<=(xB P n q d).2.s.1:=by
 induction n with
 | zero=>intro q d;exact j1 _
 | succ n ih =>
   intro q d;have h1:=xZ P vK q.s;rw[xB];split
   ·exact ty h1 (ih (q.to (zD P vK q.s).2) (d+1))
   ·have h2:=xZ P vO (zD P vK q.s).2
    split
    ·exact ty h1 (ty h2 (ty (JD P _ ih (q.to (zD P vO (zD P vK q.s).2).2) (d+1)) (kJ P _ _)))
    ·exact ty h1 (ty h2 (Xm P _))
theorem Vx(P:List PT)(s:St):s.1<=(qE P s).2.s.1:=JD P _ (BK P P.length) ⟨s,[],0,0⟩ 0
theorem aQ(P:List PT)(s:St):s.1<=(cP P s).2.1 :=
 ty (mY P s) (ty (iY P _) (ty (kJ P _ _) (ty (iY P _) (kJ P _ _))))
theorem oY(P:List PT)(s:St):s.1<=(mZ P s).2.1:=ty (mY P s) (kJ P _ _)
theorem oX(P:List PT)(s:St):s.1<=(mX P s).2.1:=ty (mY P s) (ty (mY P _) (kJ P _ _))
theorem oW(P:List PT)(s:St):s.1<=(tI P s).2.1 :=
 ty (mY P s) (ty (kJ P _ _) (ty (mY P _) (ty (kJ P _ _) (ty (BI P _ _ _ _) (ty (kJ P _ _) (ty (Vx P _) (kJ P _ _)))))))
theorem Un{P:List PT}{t:Bs}{s:St}(h:s.2=true):(zU P t s).2=true:=by simp[zU,tO,h]
theorem Yo{P:List PT}{s:St}(h:s.2=true):(zI P s).2.2=true:=by simp[zI,qU,h]
theorem Gx(P:List PT)(s:St):s.1<(uC P s).2.1\/(uC P s).2.2=true:=by
 unfold uC;split
 ·rename_i h;left;have h1:=kK h;have h2:=aQ P (zD P [110,117,109] s).2;omega
 ·have m0:=xZ P [110,117,109] s
  split
  ·rename_i h;left;have h1:=kK h;have h2:=oY P (zD P [102,108,97,103] (zD P [110,117,109] s).2).2;omega
  ·have m1:=xZ P [102,108,97,103] (zD P [110,117,109] s).2
   split
   ·rename_i h;left;have h1:=kK h;have h2:=oW P (zD P [114,117,108,101] (zD P [102,108,97,103] (zD P [110,117,109] s).2).2).2;omega
   ·have m2:=xZ P [114,117,108,101] (zD P [102,108,97,103] (zD P [110,117,109] s).2).2
    generalize (zD P [114,117,108,101] (zD P [102,108,97,103] (zD P [110,117,109] s).2).2).2=s3 at *;have m3:=oX P (zU P [111,118,101,114] s3);cases hb:tO P [111,118,101,114] s3.1 s3.2
    ·right
     have hf:(zU P [111,118,101,114] s3).2=true:=by simp[zU,hb]
     exact Un (Yo (Yo hf))
    ·left
     have:(zU P [111,118,101,114] s3).1=s3.1+1:=by simp[zU,hb,UC]
     omega
theorem BJ(P:List PT)(s:St):s.1<=(uC P s).2.1:=by
 unfold uC;have m0:=xZ P [110,117,109] s;split
 ·exact ty m0 (aQ P _)
 ·have m1:=xZ P [102,108,97,103] (zD P [110,117,109] s).2
  split
  ·exact ty m0 (ty m1 (oY P _))
  ·have m2:=xZ P [114,117,108,101] (zD P [102,108,97,103] (zD P [110,117,109] s).2).2
   split
   ·exact ty m0 (ty m1 (ty m2 (oW P _)))
   ·exact ty m0 (ty m1 (ty m2 (ty (kJ P _ _) (oX P _))))
def fG(P:List PT):Nat->St->List zE->List zE × St
 | 0,s,acc=>(acc,s)
 | n+1,s,acc =>
   match s.2 with
   | true=>(acc,s)
   | false=>if (yL P s.1).k=0 then (acc,s) else fG P n (uC P s).2 (acc++[(uC P s).1])
def YS(P:List PT)(s:St):Nat:=2*(P.length-s.1)+(match s.2 with|true=>0|false=>1)
theorem FF{P:List PT}{s:St}(h:s.2=false)(ha:s.1<P.length):YS P (uC P s).2<YS P s:=by
 have h1:=Gx P s;have h2:=BJ P s;unfold YS;rw[h];rcases h1 with h1|h1
 ·split <;> omega
 ·rw[h1];simp only;omega
abbrev LX:=zE × (Value × Value)
variable{ls:List LX}
def aT(x:LX):List Value:=[.int .i64 x.1.kind,.string ⟨x.1.name.toArray⟩,.int .i64 x.1.low,.int .i64 x.1.high,.string ⟨x.1.conc.toArray⟩,x.2.1,x.2.2,.int .i64 x.1.root,.int .i64 x.1.tests,.int .i64 x.1.dep,.string ⟨x.1.lower.toArray⟩]
def mG(ls:List LX):List Value:=ls.flatMap aT
theorem C4(ls:List LX)(x:LX):mG (ls++[x])=mG ls++aT x:=by simp[mG]
def uT(w:World)(B:Nat)(ls:List LX):Prop:=∀x∈ls,jF w B x.2.1 x.2.2 x.1
def KJ(w:World)(B:Nat)(v:Value)(ls:List LX):Prop:=w.ownsRow B 184 11 v ls.length (mG ls)/\uT w B ls
theorem zAO:(Tryz.prog.info? 184).map (fun i=>(i.zero,i.size,i.bytes))=some (some (.agg #[.int .i64 0,.string ⟨#[]⟩,.int .i64 0,.int .i64 0,.string ⟨#[]⟩,.slice none 0 0,.slice none 0 0,.int .i64 0,.int .i64 0,.int .i64 0,.string ⟨#[]⟩]),11,144):=by kernel_rfl
theorem uT.keeps(h:uT w B ls)(hk:zC w.heap.size R w w')(hR:R<B):uT w' B ls :=
 fun x hx=>⟨uD (h x hx).1 hk hR,uD (h x hx).2 hk hR⟩
theorem uT.alloc(h:uT w B ls)(o:Obj):uT (w.alloc o) B ls :=
 fun x hx=>⟨(h x hx).1.alloc _,(h x hx).2.alloc _⟩
theorem eN{e e':TypeId}{size size':Nat}{v v':Value}{n n':Nat}{xs xs':List Value}(h:w.ownsRow B e size v n xs)(hl:w.ownsRow B' e' size' v' n' xs')(zLO:e≠e')(hg:w.grownBy w' v'.ownBlock):w'.ownsRow B e size v n xs:=by
 refine⟨h.1,?_⟩;rcases h.2 with h1|⟨g,cap,yL,h1,h2,h3,r⟩
 ·exact .inl h1
 ·refine .inr ⟨g,cap,yL,h1,h2,?_,r⟩
  have zLL:g<w.heap.size:=by
   rcases me g w.heap.size with h|h
   ·exact h
   ·rw[md h]at h3;cases h3
  rw[hg.block g zLL ?_];· exact h3
  intro hE;rcases hl.2 with ⟨k1,_⟩|⟨g',cap',cur',k1,_,k3,_⟩
  ·rw[k1]at hE;simp[Value.ownBlock]at hE
  ·rw[k1]at hE
   simp[Value.ownBlock]at hE;subst hE;rw[h3]at k3;simp at k3;exact zLO k3.2
theorem uT.grown{size':Nat}{v':Value}{n':Nat}{xs':List Value}(h:uT w B ls)(hl:w.ownsRow B' 184 size' v' n' xs')(hg:w.grownBy w' v'.ownBlock):uT w' B ls :=
 fun x hx=>⟨eN (h x hx).1 hl (by decide) hg,eN (h x hx).2 hl (by decide) hg⟩
def lY(l:Bs):List PT:=(vP l 0).map (fun t=>⟨yI t.2,t.2,kQ t.2,t.1⟩)++[⟨0,[],0,l.length⟩]
theorem lK(l:Bs):(lY l).length=(vP l 0).length+1:=by simp[lY]
theorem ur(l:Bs):∀i,i<(lY l).length->(yL (lY l) i).k≠0->i+1<(lY l).length:=by
 intro i hi hk;rw[lK]at hi ⊢;rcases me i (vP l 0).length with h|h
 ·omega
 ·exfalso
  have e:i=(vP l 0).length:=by omega
  apply hk
  unfold yL lY;subst e;simp[List.getD]
def fL(ps:List PT):List Value:=ps.flatMap (fun x=>[.int .i64 x.k,.string ⟨x.s.toArray⟩,.int .i64 x.v,.int .i64 x.p])
theorem J1(l:Bs):Yn (vP l 0)++Ky l.length=fL (lY l):=by
 simp only[Yn,fL,lY,lq,List.flatMap_map];rfl
theorem C1(ps:List PT):∀i,i<ps.length ->
 (fL ps)[i*4]? = some (.int .i64 (yL ps i).k)/\(fL ps)[i*4+1]? = some (.string ⟨(yL ps i).s.toArray⟩)/\(fL ps)[i*4+2]? = some (.int .i64 (yL ps i).v)/\(fL ps)[i*4+3]? = some (.int .i64 (yL ps i).p):=by
 induction ps with
 | nil=>intro i h;simp at h
 | cons t r ih =>
   intro i h;have e:fL (t::r)=[.int .i64 t.k,.string ⟨t.s.toArray⟩,.int .i64 t.v,.int .i64 t.p]++fL r:=by simp[fL]
   cases i with
   | zero=>rw[e];simp[yL]
   | succ i =>
     have hi:=ih i (by simpa using h);have hc:yL (t::r) (i+1)=yL r i:=by simp[yL]
     rw[e,hc];refine⟨?_,?_,?_,?_⟩
     ·rw[li (by simp;omega),show (i+1)*4-[Value.int .i64 t.k,.string ⟨t.s.toArray⟩,.int .i64 t.v,.int .i64 t.p].length=i*4 by simp;omega];exact hi.1
     ·rw[li (by simp;omega),show (i+1)*4+1-[Value.int .i64 t.k,.string ⟨t.s.toArray⟩,.int .i64 t.v,.int .i64 t.p].length=i*4+1 by simp;omega];exact hi.2.1
     ·rw[li (by simp;omega),show (i+1)*4+2-[Value.int .i64 t.k,.string ⟨t.s.toArray⟩,.int .i64 t.v,.int .i64 t.p].length=i*4+2 by simp;omega];exact hi.2.2.1
     ·rw[li (by simp;omega),show (i+1)*4+3-[Value.int .i64 t.k,.string ⟨t.s.toArray⟩,.int .i64 t.v,.int .i64 t.p].length=i*4+3 by simp;omega];exact hi.2.2.2
theorem xP{yL:Array Value}{e:TypeId}{fz:Nat × Nat}{k n:Nat}{xs:List Value}{u:Value}
 (hb:w.heap[g]? = some (.cells yL e fz)) (ht:yL.toList.take n=xs) (hx:xs[k]? = some u):w.cell? ⟨g,k,none⟩=some u:=by
 have h1:yL.toList[k]? = some u:=by
  rw[<-ht,du]at hx;split at hx
  ·exact hx
  ·cases hx
 simp[World.cell?,hb];simpa using h1
theorem Jg{base:Nat}{v:Value}{ps:List PT}(h:w.ownsRow base 187 4 v ps.length (fL ps))(h0:0<ps.length) :
 ∃g cap,v=.slice (some ⟨g,0,none⟩) ps.length cap/\base<=g/\g<w.heap.size/\ps.length<=cap/\cap<=maxLen/\Y3 w g ps:=by
 rcases h.2 with ⟨_,h2⟩|⟨g,cap,c,h1,h2,h3,h4,h5,h6,h7⟩
 ·omega
 ·refine⟨g,cap,h1,h2,?_,h4,h5,fun i hi=>?_⟩
  ·rcases me g w.heap.size with h|h
   ·exact h
   ·rw[md h]at h3;cases h3
  ·obtain⟨a,b,c',d⟩:=C1 ps i hi
   exact⟨xP h3 h7 a,xP h3 h7 b,xP h3 h7 c',xP h3 h7 d⟩
def aP(lv:Value)(err place:Int):Value:=.agg #[lv,.int .i64 err,.int .i64 place]
def kS(l:Bs):List zE × St:=fG (lY l) (2*(lY l).length+1) (0,false) []
def KA(w w':World)(l:Bs)(e:Ending):Prop :=
 match (kS l).2.2 with
 | true=>e=.returned (aP (.slice none 0 0) 2 (yL (lY l) (kS l).2.1).p)
 | false=>∃lv ls,e=.returned (aP lv 0 0)/\ls.map Prod.fst=(kS l).1/\KJ w' w.heap.size lv ls
def oT(P:List PT)(R:Nat)(w:World):Nat:=2*(P.length-j3 w R)+(match w.cell? ⟨R,2,none⟩ with|some (.bool true)=>0|_=>1)
theorem yE.readMeas{cap:Nat}{P:List PT}{s:St}(h:vD w R g cap P s):oT P R w=YS P s:=by
 unfold oT YS;rw[yE.rdAt h,h.cells.2.2];cases s.2 <;> rfl
theorem uT.base(h:uT w B ls)(hb:B'<=B):uT w B' ls:=fun x hx=>⟨yS (h x hx).1 hb,yS (h x hx).2 hb⟩
theorem uT.set{b o:Nat}{u:Value}(h:uT w B ls)(hb:b<B):uT (w.setCell ⟨b,o,none⟩ u) B ls:=fun x hx=>⟨yY (h x hx).1 hb,yY (h x hx).2 hb⟩
theorem jF.base{sv nv:Value}{x:zE}(h:jF w B sv nv x)(hb:B'<=B):jF w B' sv nv x:=⟨yS h.1 hb,yS h.2 hb⟩
theorem Yk(P:List PT)(n:Nat)(s:St)(acc:List zE)(h:s.2=true\/(yL P s.1).k=0):fG P n s acc=(acc,s):=by
 cases n with
 | zero=>rfl
 | succ n =>
   rw[fG];cases hs:s.2
   ·rcases h with h|h
    ·rw[hs]at h;cases h
    ·simp only[h,dw]
   ·rfl
theorem zC.below(h:zC B R w w')(h1:B'<=B)(h2:B'<=R):Below B' w w':=⟨h.os,h.tape,h.output,h.size,fun k hk=>h.block k (by omega) (by omega)⟩
theorem yE.start{cap:Nat}{P:List PT}(htok:Y3 w g P)(hg:g<w.heap.size)(h0:0<P.length)(hc:P.length<=cap)(hm:cap<=maxLen)(h4:P.length<=4001)(he:∀i,i<P.length->(yL P i).k≠0->i+1<P.length) :
 vD (w.alloc (jS g cap P 0 false)) w.heap.size g cap P (0,false):=by
 refine⟨zG _ _,?_,by omega,by simp;omega,h0,hc,hm,h4,he⟩;intro i hi;have hb:∀o,(w.alloc (jS g cap P 0 false)).cell? ⟨g,o,none⟩=w.cell? ⟨g,o,none⟩:=fun o=>bm (w:=w) (l8 _ _ _ hg);rw[hb,hb,hb,hb];exact htok i hi
theorem KN(l:Bs)(w:World)(hl:l.length<=4000) :
 Calls Tryz.prog 55 #[.string ⟨l.toArray⟩] w fun e w'=>KA w w' l e/\Below w.heap.size w w':=by
 obtain⟨i0,hi0,hz0,hz1,hz2⟩:=info_parts zAO;have HRead:=zA (fun w=>UH l w hl);have hcount:=eC l 0;have HPl:=zA (lK l);have hP0:0<(lY l).length:=by rw[lK];omega
 have hP1:(lY l).length<=4001:=by rw[lK];omega
 have HEk:=zA (ur l);have HFl:=zA (J1 l);have HRB:Hid (kS l=fG (lY l) (2*(lY l).length+1) (0,false) []):=rfl;have HRI:Hid (∀w' e,KA w w' l e=(match (kS l).2.2 with|true=>e=.returned (aP (.slice none 0 0) 2 (yL (lY l) (kS l).2.1).p)|false=>∃lv ls,e=.returned (aP lv 0 0)/\ls.map Prod.fst=(kS l).1/\KJ w' w.heap.size lv ls)):=fun _ _=>rfl;generalize kS l=F at *;have HCt:=zA hcount;generalize hPP:lY l=P at *;have HPP:=zA hPP;clear hcount hPP;have hl2:¬(4000:Int)<(l.length:Int):=by omega
 have HI0:=zA hi0;have HZ0:=zA hz0;have HZ1:=zA hz1;have HZ2:=zA hz2;have HP0:=zA hP0;have HP1:=zA hP1;clear hi0 hz0 hz1 hz2 hl hP0 hP1
 go_enter Tryz.func55,Tryz.ntmps55
 go_wp2_with fail
 refine(HRead.out _).mono ?_;rintro e w1 ⟨tv,rfl,zLR,hbel1⟩;rw[HFl.out,show (vP l 0).length+1=P.length from HPl.out.symm]at zLR;obtain⟨g,cap,rfl,hg0,hg1,hcap,hcm,htok⟩:=Jg zLR HP0.out;have hs1:=hbel1.size
 have b1:w1.heap[w.heap.size]? = some (.cells #[.slice none 0 0,.int .i64 0,.int .i64 0] 143 (0,0)):=by
  rw[hbel1.block w.heap.size (by simp)];exact zG _ _
 have HB1:Hid (Below w.heap.size w w1):=(fw (j1 _) _).trans (hbel1.mono (by simp));have HTok:=zA htok;have hsz1:w.heap.size<w1.heap.size:=by simp at hs1;omega
 clear zLR hbel1 hs1 htok HRead HFl HPl;obtain⟨R,hR⟩:∃R,w1.heap.size=R:=⟨_,rfl⟩
 have hc0:vD ((w1.alloc (jS g cap P 0 false)).alloc (.cells #[] 184)) R g cap P (0,false):=by
  rw[<-hR];exact yE.alloc (yE.start HTok.out hg1 HP0.out hcap hcm HP1.out HEk.out) _
 have hrow0:((w1.alloc (jS g cap P 0 false)).alloc (.cells #[] 184)).ownsRow (R+1) 184 11 (.slice (some ⟨R+1,0,none⟩) 0 0) 0 (mG []) :=
  ⟨rfl,.inr ⟨R+1,0,#[],rfl,j1 _,by
   have h1:=zG (w1.alloc (jS g cap P 0 false)) (.cells #[] 184);rw[show (w1.alloc (jS g cap P 0 false)).heap.size=R+1 by simp;exact hR]at h1;exact h1,j1 _,by simp[maxLen],rfl,rfl⟩⟩
 have hbel0:Below R w1 ((w1.alloc (jS g cap P 0 false)).alloc (.cells #[] 184)):=(fw (Nat.le_of_eq hR.symm) _).alloc (by simp;omega) _;have HC0:=zA hc0;have HO0:=zA hrow0;have HBe0:=zA hbel0;have HRs:=zA hR;have hgR:g<R:=by omega
 have hwR:w.heap.size<R:=by omega
 clear hc0 hrow0 hbel0 HTok;go_wp2_with fail
 clear hR hg1 hsz1
 go_loopw [4] (fun lv wr=>∃(n:Nat) (s:St) (ls:List LX),wr.ownsRow (R+1) 184 11 lv ls.length (mG ls)/\Hid (vD wr R g cap P s)/\Hid (uT wr (R+1) ls)/\Hid (Below R w1 wr)/\Hid (ls.length+YS P s<=2*P.length+1/\YS P s<=n/\fG P n s (ls.map Prod.fst)=F)) (fun _ wr=>oT P R wr)
 case atStart=>exact⟨2*P.length+1,(0,false),[],HO0.out,HC0,zA (fun x hx=>by cases hx),HBe0,zA ⟨by show 0+(2*(P.length-0)+1)<=_;omega,by show 2*(P.length-0)+1<=_;omega,HRB.out.symm⟩⟩
 case round =>
  obtain⟨n,s,ls,zLM,HC,HA,HBe,HH⟩:=hrel;clear HC0 HO0 HBe0 HRB;obtain⟨c0,c1,c2⟩:=HC.out.cells;have hat:=HC.out.at';cases hf:s.2
  ·rw[hf]at c2
   by_cases hk:(yL P s.1).k=0
   ·have hE:F=(ls.map Prod.fst,s):=by rw[<-HH.out.2.2];exact Yk P n s _ (.inr hk)
    have HE:=zA hE;have HS2:=zA hf;have HF2:Hid (F.2.2=false):=by unfold Hid;rw[hE];exact hf
    have HK:=zA hk;have bz:wr.heap[w.heap.size]? = some (.cells #[.slice none 0 0,.int .i64 0,.int .i64 0] 143 (0,0)):=by rw[HBe.out.block w.heap.size hwR];exact b1
    have cz:=fun j=>f9 _ _ j _ _ _ bz;have fz:∀o,wr.frozen? ⟨w.heap.size,o,none⟩=false:=fun o=>by simp[World.frozen?,bz]
    have HFin:Hid (Below w.heap.size w wr):=HB1.out.trans (HBe.out.mono (pf hwR));clear hE hf hk HH b1;go_wp2_with fail
    refine(eQ R g cap P _ s 0 HC.out).mono ?_;rintro e w2 ⟨rfl,hc2,hk2⟩;rw[show ((yL P s.1).k==0)=true by rw[HK.out];rfl];have zM0:=uD zLM hk2 (mz R);have HA2:=zA (HA.out.keeps hk2 (mz R));have zLL:=hk2.size;have b2:w2.heap[w.heap.size]? = some (.cells #[.slice none 0 0,.int .i64 0,.int .i64 0] 143 (0,0)):=zY bz hk2 (by omega);have cz2:=fun j=>f9 _ _ j _ _ _ b2;have fz2:∀o,w2.frozen? ⟨w.heap.size,o,none⟩=false:=fun o=>by simp[World.frozen?,b2]
    have HB2:Hid (Below w.heap.size w w2):=HFin.out.trans (hk2.below (ty (pf hwR) (pf HC.out.rlt)) (pf hwR));have d2:w2.cell? ⟨R,2,none⟩=some (.bool false):=by have h9:=hc2.cells.2.2;rw[HS2.out]at h9;exact h9
    have HC2:=zA hc2;obtain⟨la,ln,lc,rfl⟩:=tJ zM0;have HO2:=zA zM0;clear zLM zM0 hc2 hk2 HC HA HBe c0 c1 c2 cz fz bz;go_wp2_with fail
    refine pd (v:=aP (.slice la ln lc) 0 0) (by simp (maxDischargeDepth:=8) [results,Tryz.results55,go_sem,aP,cz2]) rfl ⟨?_,((HB2.out.setCell (j1 _) _).setCell (j1 _) _).setCell (j1 _) _⟩;rw[HRI.out,HF2.out];refine⟨_,ls,rfl,by rw[HE.out],yS (b:=R+1) ?_ (by omega),uT.base (B:=R+1) ?_ (by omega)⟩
    ·repeat (with_reducible refine yY ?_ (by omega))
     exact HO2.out
    ·repeat (with_reducible refine uT.set ?_ (by omega))
     exact HA2.out
   ·obtain⟨hh1,hh2,hh3⟩:=HH.out
    obtain⟨n,rfl⟩:∃k,n=k+1:=by
     refine⟨n-1,?_⟩;have h9:1<=YS P s:=by unfold YS;rw[hf];simp only;omega
     omega
    rw[fG,hf]at hh3;simp only[tb hk]at hh3;have htg:=FF hf hat;have HM:Hid (oT P R wr=YS P s):=yE.readMeas HC.out;have HK:Hid (((yL P s.1).k==0)=false):=by unfold Hid;simpa using hk
    have HE:=zA hh3;have hls:ls.length<=10000:=by have h9:=HP1.out;omega
    have HL1:=zA hh1;have HN1:=zA hh2;have HRl:=HC.out.rlt;clear hh1 hh2 hh3 HH hk hf;go_wp2_with fail
    refine(eQ R g cap P _ s 0 HC.out).mono ?_;rintro e w2 ⟨rfl,hc2,hk2⟩;rw[HK.out];have zM0:=uD zLM hk2 (mz R);have HA2:=zA (HA.out.keeps hk2 (mz R));have HBe2:Hid (Below R w1 w2):=HBe.out.trans (hk2.below (pf HRl) (j1 R));have HC2:=zA hc2;have HR2:=hc2.rlt;clear zLM hc2 hk2 HA HBe c0 c1 c2 HC HK;go_wp2_with fail
    refine(zJ0 w2 R g cap P s HC2.out).mono ?_;rintro e w3 ⟨sv,nv,rfl,hlr,hc3,hk3⟩;have zM2:=uD zM0 hk3 (mz R);have HA3:=zA (HA2.out.keeps hk3 (mz R));have HBe3:Hid (Below R w1 w3):=HBe2.out.trans (hk3.below (pf HR2) (j1 R));have HLR:Hid (jF w3 (R+1) sv nv (uC P s).1):=hlr.base HR2;have HC3:=zA hc3;have HR3:=hc3.rlt;obtain⟨sva,svn,svc,rfl⟩:=tJ hlr.1;obtain⟨nva,nvn,nvc,rfl⟩:=tJ hlr.2;have HOB:=zA (zZ zM2);generalize uC P s=pl at *;obtain⟨x,s2⟩:=pl;simp only at HC3 HLR HE htg;have hx:aT (x,(Value.slice sva svn svc,Value.slice nva nvn nvc))=[.int .i64 x.kind,.string ⟨x.name.toArray⟩,.int .i64 x.low,.int .i64 x.high,.string ⟨x.conc.toArray⟩,.slice sva svn svc,.slice nva nvn nvc,.int .i64 x.root,.int .i64 x.tests,.int .i64 x.dep,.string ⟨x.lower.toArray⟩]:=rfl;have HX:=zA hx;clear zM0 hc3 hk3 hlr HA2 HBe2 HC2 hx;unfold uM;have hi0:=HI0.out;have hz0:=HZ0.out;have hz1:=HZ1.out;have hz2:=HZ2.out
    go_wp2_with (at_builtin;refine wpList_append_own _ rfl _ _ 141 rfl (R+1) 184 i0 _ 11 144 Tryz.underlying141 hi0 hz0 hz1 hz2 rfl (by decide) _ _ _ rfl ((zM2.alloc _).alloc _) ⟨w3.heap.size+1,0,none⟩ 1 1 (aT (x,(Value.slice sva svn svc,Value.slice nva nvn nvc))) rfl rfl ?c1 ?c2 ?c3 ?c4 ?c5 ?_)
    case c1=>rw[HX.out];exact qW _ _ _ _ rfl (by simp)
    case c2=>rw[HX.out];intro u hu;simp at hu;rcases hu with rfl|rfl|rfl|rfl|rfl|rfl|rfl|rfl|rfl|rfl|rfl <;> rfl
    case c3=>unfold maxLen;omega
    case c4=>omega
    case c5=>simp;omega
    intro v' w4 hown4 zLN _
    have hc4:vD w4 R g cap P s2:=yE.grown (yE.alloc (yE.alloc HC3.out _) _) zLN
     (fun e=>by have h1:=(HOB.out R e).1;omega) (fun e=>by have h1:=(HOB.out g e).1;omega)
    have ha4:uT w4 (R+1) (ls++[(x,(Value.slice sva svn svc,Value.slice nva nvn nvc))]):=by
     refine uT.grown (B':=R+1) (fun y hy=>?_) ((zM2.alloc _).alloc _) zLN;rcases pt.1 hy with hy|hy
     ·exact((HA3.out.alloc _).alloc _) y hy
     ·rw[pu.1 hy]
      exact⟨(HLR.out.1.alloc _).alloc _,(HLR.out.2.alloc _).alloc _⟩
    have HBe4:Hid (Below R w1 w4):=((HBe3.out.alloc (by omega) _).alloc (by simp;omega) _).grown zLN (by simp;omega) (fun k hk=>by have h1:=(HOB.out k hk).1;omega);have HC4:=zA hc4;have HA4:=zA ha4;have hown4':w4.ownsRow (R+1) 184 11 v' (ls++[(x,(Value.slice sva svn svc,Value.slice nva nvn nvc))]).length (mG (ls++[(x,(Value.slice sva svn svc,Value.slice nva nvn nvc))])):=by rw[C4,tm];exact hown4
    have HT4:Hid (oT P R w4=YS P s2):=yE.readMeas hc4;clear zM2 hown4 zLN HOB hc4 ha4 HC3 HA3 HBe3 HLR hi0 hz0 hz1 hz2;go_wp2_with fail
    go_roundw
    case rel=>exact⟨n,s2,_,hown4',HC4,HA4,HBe4,zA ⟨by have h1:=HL1.out;rw[tm,mj];omega,by have h1:=HN1.out;omega,by rw[bf];exact HE.out⟩⟩
    case measure=>rw[HM.out,HT4.out];exact htg
  ·have hE:F=(ls.map Prod.fst,s):=by rw[<-HH.out.2.2];exact Yk P n s _ (.inl hf)
   have HE:=zA hE;have HF2:Hid (F.2.2=true):=by unfold Hid;rw[hE];exact hf
   have HF1:Hid (F.2.1=s.1):=by unfold Hid;rw[hE]
   rw[hf]at c2;have bz:wr.heap[w.heap.size]? = some (.cells #[.slice none 0 0,.int .i64 0,.int .i64 0] 143 (0,0)):=by rw[HBe.out.block w.heap.size hwR];exact b1
   have cz:=fun j=>f9 _ _ j _ _ _ bz;have fz:∀o,wr.frozen? ⟨w.heap.size,o,none⟩=false:=fun o=>by simp[World.frozen?,bz]
   have HFin:Hid (Below w.heap.size w wr):=HB1.out.trans (HBe.out.mono (pf hwR));obtain⟨_,_,_,t3⟩:=HC.out.tok s.1 hat;have i1:(0:Int)<=(s.1:Int):=by omega
   have i2:(s.1:Int)<(P.length:Int):=by omega
   generalize hcu:(yL P s.1).p=pp at *;have HCu:=zA hcu;clear hE hf HH b1 hcu zLM HA HBe;go_wp2_with fail
   refine pd (v:=aP (.slice none 0 0) 2 pp) (by simp (maxDischargeDepth:=8) [results,Tryz.results55,go_sem,aP,cz]) rfl ⟨?_,((HFin.out.setCell (j1 _) _).setCell (j1 _) _).setCell (j1 _) _⟩;rw[HRI.out,HF2.out,HF1.out,HCu.out]
end Go.Proofs.YtnbpdffdnphbeabGreatDoor
