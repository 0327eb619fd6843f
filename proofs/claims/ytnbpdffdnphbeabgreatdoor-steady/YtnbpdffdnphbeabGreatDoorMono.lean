import Derived.Test.YtnbpdffdnphbeabGreatDoorBLines
open Go.Proofs.Tryz
set_option maxHeartbeats 2000000
namespace Go.Proofs.YtnbpdffdnphbeabGreatDoor
open Go.RowKit
variable{R g B' B:Nat}{w w':World}
theorem bJ(P:List PT)(s:St):s.1<=(zI P s).2.1:=fK _ _
theorem Zj(P:List PT)(s:St):s.1<=(yI P s).2.1:=fK _ _
theorem qK(P:List PT)(t:Bs)(s:St):s.1<=(zR P t s).1:=fK _ _
theorem CQ(P:List PT)(n:Nat):∀m s ps,s.1<=(tB P n m s ps).2.1:=by
 induction n with
 | zero=>intro m s ps;exact tg _
 | succ n ih =>
   intro m s ps;have h1:=XV P m s;have h2:=xO P [45] (vV P m s).2;rw[tB];split
   ·exact tu h1 (tu h2 (ih _ _ _))
   ·have h3:=xO P [43] (zD P [45] (vV P m s).2).2
    split
    ·exact tu h1 (tu h2 (tu h3 (ih _ _ _)))
    ·exact tu h1 (tu h2 h3)
theorem Qn(P:List PT)(item:GS->Int × GS)(tok:Bs)(kind:Int)(bb:∀q,q.s.1<=(item q).2.s.1)(k:Nat):∀l q,q.s.1<=(jK P item tok kind k l q).2.s.1:=by
 induction k with
 | zero=>intro l q;exact tg _
 | succ k ih =>
   intro l q;have h1:=xO P tok q.s;rw[jK];split
   ·exact h1
   ·have h3:=ih ((item (q.to (zD P tok q.s).2)).2.nd.length:Nat) ((item (q.to (zD P tok q.s).2)).2.add ⟨kind,l,(item (q.to (zD P tok q.s).2)).1,[],[],[],0⟩)
    exact tu h1 (tu (bb (q.to (zD P tok q.s).2)) h3)
theorem YB(P:List PT)(fact:GS->Int->Int × GS)(hf:∀q d,q.s.1<=(fact q d).2.s.1)(q:GS)(d:Int):q.s.1<=(kR P fact q d).2.s.1 :=
 tu (hf q d) (Qn P _ _ _ (λq=>hf q d) _ _ _)
theorem Kw(P:List PT)(fact:GS->Int->Int × GS)(hf:∀q d,q.s.1<=(fact q d).2.s.1)(q:GS)(d:Int):q.s.1<=(dC P fact q d).2.s.1 :=
 tu (YB P fact hf q d) (Qn P _ _ _ (λq=>YB P fact hf q d) _ _ _)
theorem CS(P:List PT)(n:Nat):∀q d,q.s.1<=(yQ P n q d).2.s.1:=by
 induction n with
 | zero=>intro q d;exact tg _
 | succ n ih =>
   intro q d;have h1:=xO P xE q.s;rw[yQ];split
   ·exact tu h1 (ih (q.to (zD P xE q.s).2) (d+1))
   ·have h2:=xO P yS (zD P xE q.s).2
    split
    ·exact tu h1 (tu h2 (tu (Kw P _ ih (q.to (zD P yS (zD P xE q.s).2).2) (d+1)) (qK P _ _)))
    ·exact tu h1 (tu h2 (iP P _))
theorem Ur(P:List PT)(s:St):s.1<=(vU P s).2.s.1:=Kw P _ (CS P P.length) ⟨s,[],0,0⟩ 0
theorem eN(P:List PT)(s:St):s.1<=(kN P s).2.1 :=
 tu (bJ P s) (tu (Zj P _) (tu (qK P _ _) (tu (Zj P _) (qK P _ _))))
theorem rZ(P:List PT)(s:St):s.1<=(jH P s).2.1:=tu (bJ P s) (qK P _ _)
theorem rY(P:List PT)(s:St):s.1<=(kA P s).2.1:=tu (bJ P s) (tu (bJ P _) (qK P _ _))
theorem rX(P:List PT)(s:St):s.1<=(jG P s).2.1 :=
 tu (bJ P s) (tu (qK P _ _) (tu (bJ P _) (tu (qK P _ _) (tu (CQ P _ _ _ _) (tu (qK P _ _) (tu (Ur P _) (qK P _ _)))))))
theorem Bm{P:List PT}{t:Bs}{s:St}(h:s.2=true):(zR P t s).2=true:=by simp[zR,tN,h]
theorem YR{P:List PT}{s:St}(h:s.2=true):(zI P s).2.2=true:=by simp[zI,qH,h]
theorem x8(P:List PT)(s:St):s.1<(vP P s).2.1\/(vP P s).2.2=true:=by
 unfold vP;split
 ·rename_i h;left;have h1:=qL h;have h2:=eN P (zD P [110,117,109] s).2;omega
 ·have m0:=xO P [110,117,109] s
  split
  ·rename_i h;left;have h1:=qL h;have h2:=rZ P (zD P [102,108,97,103] (zD P [110,117,109] s).2).2;omega
  ·have m1:=xO P [102,108,97,103] (zD P [110,117,109] s).2
   split
   ·rename_i h;left;have h1:=qL h;have h2:=rX P (zD P [114,117,108,101] (zD P [102,108,97,103] (zD P [110,117,109] s).2).2).2;omega
   ·have m2:=xO P [114,117,108,101] (zD P [102,108,97,103] (zD P [110,117,109] s).2).2
    generalize (zD P [114,117,108,101] (zD P [102,108,97,103] (zD P [110,117,109] s).2).2).2=s3 at *;have m3:=rY P (zR P [111,118,101,114] s3);cases hb:tN P [111,118,101,114] s3.1 s3.2
    ·right
     have hf:(zR P [111,118,101,114] s3).2=true:=(by simp[zR,hb]);exact Bm (YR (YR hf))
    ·left
     have:(zR P [111,118,101,114] s3).1=s3.1+1:=by simp[zR,hb,Xe]
     omega
theorem CR(P:List PT)(s:St):s.1<=(vP P s).2.1:=by
 unfold vP;have m0:=xO P [110,117,109] s;split
 ·exact tu m0 (eN P _)
 ·have m1:=xO P [102,108,97,103] (zD P [110,117,109] s).2
  split
  ·exact tu m0 (tu m1 (rZ P _))
  ·have m2:=xO P [114,117,108,101] (zD P [102,108,97,103] (zD P [110,117,109] s).2).2
   split
   ·exact tu m0 (tu m1 (tu m2 (rX P _)))
   ·exact tu m0 (tu m1 (tu m2 (tu (qK P _ _) (rY P _))))
def jT(P:List PT):Nat->St->List zE->List zE × St
 | 0,s,acc=>(acc,s)
 | n+1,s,acc =>
   match s.2 with
   | true=>(acc,s)
   | false=>if (yB P s.1).k=0 then (acc,s) else jT P n (vP P s).2 (acc++[(vP P s).1])
def Zb(P:List PT)(s:St):Nat:=2*(P.length-s.1)+(match s.2 with|true=>0|false=>1)
theorem JC{P:List PT}{s:St}(h:s.2=false)(ha:s.1<P.length):Zb P (vP P s).2<Zb P s:=by
 have h1:=x8 P s;have h2:=CR P s;unfold Zb;rw[h];rcases h1 with h1|h1
 ·split <;> omega
 ·rw[h1];simp only;omega
abbrev LX:=zE × (Value × Value)
variable{ls:List LX}
def eT(x:LX):List Value:=[.int .i64 x.1.kind,.string ⟨x.1.name.toArray⟩,.int .i64 x.1.low,.int .i64 x.1.high,.string ⟨x.1.ae.toArray⟩,x.2.1,x.2.2,.int .i64 x.1.root,.int .i64 x.1.tests,.int .i64 x.1.dep,.string ⟨x.1.lower.toArray⟩]
def lJ(ls:List LX):List Value:=ls.flatMap eT
theorem DQ(ls:List LX)(x:LX):lJ (ls++[x])=lJ ls++eT x:=by simp[lJ]
def qD(w:World)(B:Nat)(ls:List LX):Prop:=∀x∈ls,tE w B x.2.1 x.2.2 x.1
def wV(w:World)(B:Nat)(v:Value)(ls:List LX):Prop:=w.ownsRow B 184 11 v ls.length (lJ ls)/\qD w B ls
theorem RZ:(prog.info? 184).map (λi=>(i.zero,i.size,i.bytes))=some (some (.agg #[.int .i64 0,.string ⟨#[]⟩,.int .i64 0,.int .i64 0,.string ⟨#[]⟩,.slice none 0 0,.slice none 0 0,.int .i64 0,.int .i64 0,.int .i64 0,.string ⟨#[]⟩]),11,144):=by kernel_rfl
theorem qD.keeps(h:qD w B ls)(hk:zB w.heap.size R w w')(hR:R<B):qD w' B ls :=
 λx hx=>⟨uK (h x hx).1 hk hR,uK (h x hx).2 hk hR⟩
theorem qD.alloc(h:qD w B ls)(o:Obj):qD (w.alloc o) B ls :=
 λx hx=>⟨(h x hx).1.alloc _,(h x hx).2.alloc _⟩
theorem XW{e e':TypeId}{size aB:Nat}{v v':Value}{n n':Nat}{xs av:List Value}(h:w.ownsRow B e size v n xs)(hl:w.ownsRow B' e' aB v' n' av)(ba:e≠e')(hg:w.grownBy w' v'.ownBlock):w'.ownsRow B e size v n xs:=by
 refine⟨h.1,?_⟩;rcases h.2 with h1|⟨g,cap,yB,h1,h2,h3,r⟩
 ·exact .inl h1
 ·refine .inr ⟨g,cap,yB,h1,h2,?_,r⟩
  have bC:g<w.heap.size:=by
   rcases mc g w.heap.size with h|h
   ·exact h
   ·rw[pw h]at h3;cases h3
  rw[hg.block g bC ?_];· exact h3
  intro hE;rcases hl.2 with ⟨k1,_⟩|⟨g',bh,bg,k1,_,k3,_⟩
  ·rw[k1]at hE;simp[Value.ownBlock]at hE
  ·rw[k1]at hE
   simp[Value.ownBlock]at hE;subst hE;rw[h3]at k3;simp at k3;exact ba k3.2
theorem qD.grown{aB:Nat}{v':Value}{n':Nat}{av:List Value}(h:qD w B ls)(hl:w.ownsRow B' 184 aB v' n' av)(hg:w.grownBy w' v'.ownBlock):qD w' B ls :=
 λx hx=>⟨XW (h x hx).1 hl (by decide) hg,XW (h x hx).2 hl (by decide) hg⟩
def rB(l:Bs):List PT:=(xI l 0).map (λt=>⟨yG t.2,t.2,kM t.2,t.1⟩)++[⟨0,[],0,l.length⟩]
theorem Xi(l:Bs):(rB l).length=(xI l 0).length+1:=by simp[rB]
theorem TA(l:Bs):∀i,i<(rB l).length->(yB (rB l) i).k≠0->i+1<(rB l).length:=by
 intro i hi hk;rw[Xi]at hi ⊢;rcases mc i (xI l 0).length with h|h
 ·omega
 ·exfalso
  have e:i=(xI l 0).length:=by omega
  apply hk
  unfold yB rB;subst e;simp[List.getD]
def gY(ps:List PT):List Value:=ps.flatMap (λx=>[.int .i64 x.k,.string ⟨x.s.toArray⟩,.int .i64 x.v,.int .i64 x.p])
theorem uu(l:Bs):YO (xI l 0)++V1 l.length=gY (rB l):=by
 simp only[YO,gY,rB,lk,List.flatMap_map];rfl
theorem DN(ps:List PT):∀i,i<ps.length ->
 (gY ps)[i*4]? = some (.int .i64 (yB ps i).k)/\(gY ps)[i*4+1]? = some (.string ⟨(yB ps i).s.toArray⟩)/\(gY ps)[i*4+2]? = some (.int .i64 (yB ps i).v)/\(gY ps)[i*4+3]? = some (.int .i64 (yB ps i).p):=by
 induction ps with
 | nil=>intro i h;simp at h
 | cons t r ih =>
   intro i h;have e:gY (t::r)=[.int .i64 t.k,.string ⟨t.s.toArray⟩,.int .i64 t.v,.int .i64 t.p]++gY r:=by simp[gY]
   cases i with
   | zero=>rw[e];simp[yB]
   | succ i =>
     have hi:=ih i (by simpa using h);have hc:yB (t::r) (i+1)=yB r i:=(by simp[yB]);rw[e,hc];refine⟨?_,?_,?_,?_⟩
     ·rw[l8 (by simp;omega),show (i+1)*4-[Value.int .i64 t.k,.string ⟨t.s.toArray⟩,.int .i64 t.v,.int .i64 t.p].length=i*4 by simp;omega];exact hi.1
     ·rw[l8 (by simp;omega),show (i+1)*4+1-[Value.int .i64 t.k,.string ⟨t.s.toArray⟩,.int .i64 t.v,.int .i64 t.p].length=i*4+1 by simp;omega];exact hi.2.1
     ·rw[l8 (by simp;omega),show (i+1)*4+2-[Value.int .i64 t.k,.string ⟨t.s.toArray⟩,.int .i64 t.v,.int .i64 t.p].length=i*4+2 by simp;omega];exact hi.2.2.1
     ·rw[l8 (by simp;omega),show (i+1)*4+3-[Value.int .i64 t.k,.string ⟨t.s.toArray⟩,.int .i64 t.v,.int .i64 t.p].length=i*4+3 by simp;omega];exact hi.2.2.2
theorem xL{yB:Array Value}{e:TypeId}{fz:Nat × Nat}{k n:Nat}{xs:List Value}{u:Value}
 (hb:w.heap[g]? = some (.cells yB e fz)) (ht:yB.toList.take n=xs) (hx:xs[k]? = some u):w.cell? ⟨g,k,none⟩=some u:=by
 have h1:yB.toList[k]? = some u:=by
  rw[<-ht,dw]at hx;split at hx
  ·exact hx
  ·cases hx
 simp[World.cell?,hb];simpa using h1
theorem xd{base:Nat}{v:Value}{ps:List PT}(h:w.ownsRow base 187 4 v ps.length (gY ps))(h0:0<ps.length) :
 ∃g cap,v=.slice (some ⟨g,0,none⟩) ps.length cap/\base<=g/\g<w.heap.size/\ps.length<=cap/\cap<=maxLen/\j7 w g ps:=by
 rcases h.2 with ⟨_,h2⟩|⟨g,cap,c,h1,h2,h3,h4,h5,h6,h7⟩
 ·omega
 ·refine⟨g,cap,h1,h2,?_,h4,h5,λi hi=>?_⟩
  ·rcases mc g w.heap.size with h|h
   ·exact h
   ·rw[pw h]at h3;cases h3
  ·obtain⟨a,b,c',d⟩:=DN ps i hi
   exact⟨xL h3 h7 a,xL h3 h7 b,xL h3 h7 c',xL h3 h7 d⟩
def jE(lv:Value)(err place:Int):Value:=.agg #[lv,.int .i64 err,.int .i64 place]
def yZ(l:Bs):List zE × St:=jT (rB l) (2*(rB l).length+1) (0,false) []
def lP(w w':World)(l:Bs)(e:Ending):Prop :=
 match (yZ l).2.2 with
 | true=>e=.returned (jE (.slice none 0 0) 2 (yB (rB l) (yZ l).2.1).p)
 | false=>∃lv ls,e=.returned (jE lv 0 0)/\ls.map Prod.fst=(yZ l).1/\wV w' w.heap.size lv ls
def rV(P:List PT)(R:Nat)(w:World):Nat:=2*(P.length-A5 w R)+(match w.cell? ⟨R,2,none⟩ with|some (.bool true)=>0|_=>1)
theorem yL.ie{cap:Nat}{P:List PT}{s:St}(h:vI w R g cap P s):rV P R w=Zb P s:=by
 unfold rV Zb;rw[yL.AZ h,h.cells.2.2];cases s.2 <;> rfl
theorem qD.base(h:qD w B ls)(hb:B'<=B):qD w B' ls:=λx hx=>⟨yN (h x hx).1 hb,yN (h x hx).2 hb⟩
theorem qD.set{b o:Nat}{u:Value}(h:qD w B ls)(hb:b<B):qD (w.setCell ⟨b,o,none⟩ u) B ls:=λx hx=>⟨yV (h x hx).1 hb,yV (h x hx).2 hb⟩
theorem tE.base{sv nv:Value}{x:zE}(h:tE w B sv nv x)(hb:B'<=B):tE w B' sv nv x:=⟨yN h.1 hb,yN h.2 hb⟩
theorem bT(l:Bs)(w:World)(bZ:l.length<=maxLen)(hl:4000<l.length) :
 Calls prog 55 #[.string ⟨l.toArray⟩] w λe w'=>e=.returned (jE (.slice none 0 0) 1 0)/\Below w.heap.size w w':=by
 unfold maxLen at bZ
 go_enter func55,ntmps55
 go_wp2_with fail
 refine pe (v:=jE (.slice none 0 0) 1 0) (by simp[results,results55,go_sem,jE]) rfl ⟨rfl,?_⟩;exact fk (tg _) _
theorem YK(P:List PT)(n:Nat)(s:St)(acc:List zE)(h:s.2=true\/(yB P s.1).k=0):jT P n s acc=(acc,s):=by
 cases n with
 | zero=>rfl
 | succ n =>
   rw[jT];cases hs:s.2
   ·rcases h with h|h
    ·rw[hs]at h;cases h
    ·simp only[h,dj]
   ·rfl
theorem zB.below(h:zB B R w w')(h1:B'<=B)(h2:B'<=R):Below B' w w':=⟨h.os,h.tape,h.output,h.size,λk hk=>h.block k (by omega) (by omega)⟩
theorem yL.start{cap:Nat}{P:List PT}(aF:j7 w g P)(hg:g<w.heap.size)(h0:0<P.length)(hc:P.length<=cap)(hm:cap<=maxLen)(h4:P.length<=4001)(he:∀i,i<P.length->(yB P i).k≠0->i+1<P.length) :
 vI (w.alloc (tV g cap P 0 false)) w.heap.size g cap P (0,false):=by
 refine⟨zF _ _,?_,by omega,by simp;omega,h0,hc,hm,h4,he⟩;intro i hi;have hb:∀o,(w.alloc (tV g cap P 0 false)).cell? ⟨g,o,none⟩=w.cell? ⟨g,o,none⟩:=λo=>bq (w:=w) (ld _ _ hg);rw[hb,hb,hb,hb];exact aF i hi
theorem lR(l:Bs)(w:World)(hl:l.length<=4000) :
 Calls prog 55 #[.string ⟨l.toArray⟩] w λe w'=>lP w w' l e/\Below w.heap.size w w':=by
 obtain⟨i0,ai,hz0,hz1,aW⟩:=du RZ;have aI:=zA (λw=>Pb l w hl);have aD:=oE l 0;have bQ:=zA (Xi l);have bM:0<(rB l).length:=by rw[Xi];omega
 have bL:(rB l).length<=4001:=by rw[Xi];omega
 have b3:=zA (TA l);have bV:=zA (uu l);have bO:Hid (yZ l=jT (rB l) (2*(rB l).length+1) (0,false) []):=rfl;have bN:Hid (∀w' e,lP w w' l e=(match (yZ l).2.2 with|true=>e=.returned (jE (.slice none 0 0) 2 (yB (rB l) (yZ l).2.1).p)|false=>∃lv ls,e=.returned (jE lv 0 0)/\ls.map Prod.fst=(yZ l).1/\wV w' w.heap.size lv ls)):=λ_ _=>rfl;generalize yZ l=F at *;have cF:=zA aD;generalize bK:rB l=P at *;have cE:=zA bK;clear aD bK;have b9:¬(4000:Int)<(l.length:Int):=by omega
 have bw:=zA ai;have bm:=zA hz0;have bl:=zA hz1;have bk:=zA aW;have bS:=zA bM;have bR:=zA bL;clear ai hz0 hz1 aW hl bM bL
 go_enter func55,ntmps55
 go_wp2_with fail
 refine(aI.out _).mono ?_;rintro e w1 ⟨tv,rfl,au,aA⟩;rw[bV.out,show (xI l 0).length+1=P.length from bQ.out.symm]at au;obtain⟨g,cap,rfl,hg0,hg1,ax,bc,aF⟩:=xd au bS.out;have hs1:=aA.size
 have b1:w1.heap[w.heap.size]? = some (.cells #[.slice none 0 0,.int .i64 0,.int .i64 0] 143 (0,0)):=by
  rw[aA.block w.heap.size (by simp)];exact zF _ _
 have bX:Hid (Below w.heap.size w w1):=(fk (tg _) _).trans (aA.mono (by simp));have aX:=zA aF;have aw:w.heap.size<w1.heap.size:=by simp at hs1;omega
 clear au aA hs1 aF aI bV bQ;obtain⟨R,hR⟩:∃R,w1.heap.size=R:=⟨_,rfl⟩
 have hc0:vI ((w1.alloc (tV g cap P 0 false)).alloc (.cells #[] 184)) R g cap P (0,false):=by
  rw[<-hR];exact yL.alloc (yL.start aX.out hg1 bS.out ax bc bR.out b3.out) _
 have aG:((w1.alloc (tV g cap P 0 false)).alloc (.cells #[] 184)).ownsRow (R+1) 184 11 (.slice (some ⟨R+1,0,none⟩) 0 0) 0 (lJ []) :=
  ⟨rfl,.inr ⟨R+1,0,#[],rfl,tg _,by
   have h1:=zF (w1.alloc (tV g cap P 0 false)) (.cells #[] 184);rw[show (w1.alloc (tV g cap P 0 false)).heap.size=R+1 by simp;exact hR]at h1;exact h1,tg _,by simp[maxLen],rfl,rfl⟩⟩
 have aH:Below R w1 ((w1.alloc (tV g cap P 0 false)).alloc (.cells #[] 184)):=(fk (Nat.le_of_eq hR.symm) _).alloc (by simp;omega) _;have bW:=zA hc0;have bU:=zA aG;have aa:=zA aH;have cC:=zA hR;have cA:g<R:=by omega
 have aU:w.heap.size<R:=by omega
 clear hc0 aG aH aX;go_wp2_with fail
 clear hR hg1 aw
 go_loopw [4] (λlv wr=>∃(n:Nat) (s:St) (ls:List LX),wr.ownsRow (R+1) 184 11 lv ls.length (lJ ls)/\Hid (vI wr R g cap P s)/\Hid (qD wr (R+1) ls)/\Hid (Below R w1 wr)/\Hid (ls.length+Zb P s<=2*P.length+1/\Zb P s<=n/\jT P n s (ls.map Prod.fst)=F)) (λ_ wr=>rV P R wr)
 case atStart=>exact⟨2*P.length+1,(0,false),[],bU.out,bW,zA (λx hx=>by cases hx),aa,zA ⟨by show 0+(2*(P.length-0)+1)<=_;omega,by show 2*(P.length-0)+1<=_;omega,bO.out.symm⟩⟩
 case round =>
  obtain⟨n,s,ls,aV,HC,HA,aJ,HH⟩:=hrel;clear bW bU aa bO;obtain⟨c0,c1,c2⟩:=HC.out.cells;have bH:=HC.out.at';cases hf:s.2
  ·rw[hf]at c2
   by_cases hk:(yB P s.1).k=0
   ·have hE:F=(ls.map Prod.fst,s):=by rw[<-HH.out.2.2];exact YK P n s _ (.inr hk)
    have HE:=zA hE;have bo:=zA hf;have a6:Hid (F.2.2=false):=(by unfold Hid;rw[hE];exact hf);have HK:=zA hk;have bz:wr.heap[w.heap.size]? = some (.cells #[.slice none 0 0,.int .i64 0,.int .i64 0] 143 (0,0)):=(by rw[aJ.out.block w.heap.size aU];exact b1);have cz:=λj=>pq _ _ j _ _ _ bz;have fz:∀o,wr.frozen? ⟨w.heap.size,o,none⟩=false:=λo=>by simp[World.frozen?,bz]
    have aM:Hid (Below w.heap.size w wr):=bX.out.trans (aJ.out.mono (p7 aU));clear hE hf hk HH b1;go_wp2_with fail
    refine(iR R g cap P _ s 0 HC.out).mono ?_;rintro e w2 ⟨rfl,aL,aC⟩;rw[show ((yB P s.1).k==0)=true by rw[HK.out];rfl];have aN:=uK aV aC (mh R);have ar:=zA (HA.out.keeps aC (mh R));have bC:=aC.size;have b2:w2.heap[w.heap.size]? = some (.cells #[.slice none 0 0,.int .i64 0,.int .i64 0] 143 (0,0)):=zZ bz aC (by omega);have bf:=λj=>pq _ _ j _ _ _ b2;have cB:∀o,w2.frozen? ⟨w.heap.size,o,none⟩=false:=λo=>by simp[World.frozen?,b2]
    have b6:Hid (Below w.heap.size w w2):=aM.out.trans (aC.below (tu (p7 aU) (p7 HC.out.gf)) (p7 aU));have d2:w2.cell? ⟨R,2,none⟩=some (.bool false):=(by have h9:=aL.cells.2.2;rw[bo.out]at h9;exact h9);have a8:=zA aL;obtain⟨la,ln,lc,rfl⟩:=uB aN;have br:=zA aN;clear aV aN aL aC HC HA aJ c0 c1 c2 cz fz bz;go_wp2_with fail
    refine pe (v:=jE (.slice la ln lc) 0 0) (by simp (maxDischargeDepth:=8) [results,results55,go_sem,jE,bf]) rfl ⟨?_,((b6.out.setCell (tg _) _).setCell (tg _) _).setCell (tg _) _⟩;rw[bN.out,a6.out];refine⟨_,ls,rfl,by rw[HE.out],yN (b:=R+1) ?_ (by omega),qD.base (B:=R+1) ?_ (by omega)⟩
    ·repeat (with_reducible refine yV ?_ (by omega))
     exact br.out
    ·repeat (with_reducible refine qD.set ?_ (by omega))
     exact ar.out
   ·obtain⟨bF,bE,ak⟩:=HH.out
    obtain⟨n,rfl⟩:∃k,n=k+1:=by
     refine⟨n-1,?_⟩;have h9:1<=Zb P s:=by unfold Zb;rw[hf];simp only;omega
     omega
    rw[jT,hf]at ak;simp only[tj hk]at ak;have bD:=JC hf bH;have HM:Hid (rV P R wr=Zb P s):=yL.ie HC.out;have HK:Hid (((yB P s.1).k==0)=false):=by unfold Hid;simpa using hk
    have HE:=zA ak;have b8:ls.length<=10000:=(by have h9:=bR.out;omega);have bu:=zA bF;have bt:=zA bE;have bp:=HC.out.gf;clear bF bE ak HH hk hf;go_wp2_with fail
    refine(iR R g cap P _ s 0 HC.out).mono ?_;rintro e w2 ⟨rfl,aL,aC⟩;rw[HK.out];have aN:=uK aV aC (mh R);have ar:=zA (HA.out.keeps aC (mh R));have aZ:Hid (Below R w1 w2):=aJ.out.trans (aC.below (p7 bp) (tg R));have a8:=zA aL;have bP:=aL.gf;clear aV aL aC HA aJ c0 c1 c2 HC HK;go_wp2_with fail
    refine(MV w2 R g cap P s a8.out).mono ?_;rintro e w3 ⟨sv,nv,rfl,ah,az,aj⟩;have af:=uK aN aj (mh R);have bY:=zA (ar.out.keeps aj (mh R));have aY:Hid (Below R w1 w3):=aZ.out.trans (aj.below (p7 bP) (tg R));have aq:Hid (tE w3 (R+1) sv nv (vP P s).1):=ah.base bP;have a7:=zA az;have cD:=az.gf;obtain⟨aQ,aO,aP,rfl⟩:=uB ah.1;obtain⟨aT,aR,aS,rfl⟩:=uB ah.2;have ao:=zA (zW af);generalize vP P s=pl at *;obtain⟨x,s2⟩:=pl;simp only at a7 aq HE bD;have hx:eT (x,(Value.slice aQ aO aP,Value.slice aT aR aS))=[.int .i64 x.kind,.string ⟨x.name.toArray⟩,.int .i64 x.low,.int .i64 x.high,.string ⟨x.ae.toArray⟩,.slice aQ aO aP,.slice aT aR aS,.int .i64 x.root,.int .i64 x.tests,.int .i64 x.dep,.string ⟨x.lower.toArray⟩]:=rfl;have HX:=zA hx;clear aN az aj ah ar aZ a8 hx;unfold uG;have ai:=bw.out;have hz0:=bm.out;have hz1:=bl.out;have aW:=bk.out
    go_wp2_with (at_builtin;refine wpList_append_own _ rfl _ _ 141 rfl (R+1) 184 i0 _ 11 144 underlying141 ai hz0 hz1 aW rfl (by decide) _ _ _ rfl ((af.alloc _).alloc _) ⟨w3.heap.size+1,0,none⟩ 1 1 (eT (x,(Value.slice aQ aO aP,Value.slice aT aR aS))) rfl rfl ?c1 ?c2 ?c3 ?c4 ?c5 ?_)
    case c1=>rw[HX.out];exact tW _ _ _ _ rfl (by simp)
    case c2=>rw[HX.out];intro u hu;simp at hu;rcases hu with rfl|rfl|rfl|rfl|rfl|rfl|rfl|rfl|rfl|rfl|rfl <;> rfl
    case c3=>unfold maxLen;omega
    case c4=>omega
    case c5=>simp;omega
    intro v' w4 bB ag _
    have ay:vI w4 R g cap P s2:=yL.grown (yL.alloc (yL.alloc a7.out _) _) ag
     (λe=>by have h1:=(ao.out R e).1;omega) (λe=>by have h1:=(ao.out g e).1;omega)
    have bI:qD w4 (R+1) (ls++[(x,(Value.slice aQ aO aP,Value.slice aT aR aS))]):=by
     refine qD.grown (B':=R+1) (λy hy=>?_) ((af.alloc _).alloc _) ag;rcases pj.1 hy with hy|hy
     ·exact((bY.out.alloc _).alloc _) y hy
     ·rw[pr.1 hy]
      exact⟨(aq.out.1.alloc _).alloc _,(aq.out.2.alloc _).alloc _⟩
    have bA:Hid (Below R w1 w4):=((aY.out.alloc (by omega) _).alloc (by simp;omega) _).grown ag (by simp;omega) (λk hk=>by have h1:=(ao.out k hk).1;omega);have b5:=zA ay;have b7:=zA bI;have aK:w4.ownsRow (R+1) 184 11 v' (ls++[(x,(Value.slice aQ aO aP,Value.slice aT aR aS))]).length (lJ (ls++[(x,(Value.slice aQ aO aP,Value.slice aT aR aS))])):=(by rw[DQ,tm];exact bB);have bn:Hid (rV P R w4=Zb P s2):=yL.ie ay;clear af bB ag ao ay bI a7 bY aY aq ai hz0 hz1 aW;go_wp2_with fail
    go_roundw
    case rel=>exact⟨n,s2,_,aK,b5,b7,bA,zA ⟨by have h1:=bu.out;rw[tm,pu];omega,by have h1:=bt.out;omega,by rw[bj];exact HE.out⟩⟩
    case measure=>rw[HM.out,bn.out];exact bD
  ·have hE:F=(ls.map Prod.fst,s):=by rw[<-HH.out.2.2];exact YK P n s _ (.inl hf)
   have HE:=zA hE;have a6:Hid (F.2.2=true):=(by unfold Hid;rw[hE];exact hf);have bx:Hid (F.2.1=s.1):=(by unfold Hid;rw[hE]);rw[hf]at c2;have bz:wr.heap[w.heap.size]? = some (.cells #[.slice none 0 0,.int .i64 0,.int .i64 0] 143 (0,0)):=(by rw[aJ.out.block w.heap.size aU];exact b1);have cz:=λj=>pq _ _ j _ _ _ bz;have fz:∀o,wr.frozen? ⟨w.heap.size,o,none⟩=false:=λo=>by simp[World.frozen?,bz]
   have aM:Hid (Below w.heap.size w wr):=bX.out.trans (aJ.out.mono (p7 aU));obtain⟨_,_,_,t3⟩:=HC.out.tok s.1 bH;have i1:(0:Int)<=(s.1:Int):=(by omega);have i2:(s.1:Int)<(P.length:Int):=(by omega);generalize bG:(yB P s.1).p=pp at *;have b4:=zA bG;clear hE hf HH b1 bG aV HA aJ;go_wp2_with fail
   refine pe (v:=jE (.slice none 0 0) 2 pp) (by simp (maxDischargeDepth:=8) [results,results55,go_sem,jE,cz]) rfl ⟨?_,((aM.out.setCell (tg _) _).setCell (tg _) _).setCell (tg _) _⟩;rw[bN.out,a6.out,bx.out,b4.out]
end Go.Proofs.YtnbpdffdnphbeabGreatDoor
