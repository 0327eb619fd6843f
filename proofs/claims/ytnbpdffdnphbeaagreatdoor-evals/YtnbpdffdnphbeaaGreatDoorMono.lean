import Derived.Test.YtnbpdffdnphbeaaGreatDoorBLines
set_option maxHeartbeats 2000000
namespace Go.Proofs.YtnbpdffdnphbeaaGreatDoor
open Go.RowKit
theorem bI(P:List PT)(s:St):s.1<=(zN P s).2.1:=fN _ _
theorem wH(P:List PT)(s:St):s.1<=(yR P s).2.1:=fN _ _
theorem qK(P:List PT)(t:Bs)(s:St):s.1<=(zY P t s).1:=fN _ _
theorem US(P:List PT)(n:Nat):∀m s ps,s.1<=(dE P n m s ps).2.1:=by
 induction n with
 | zero=>intro m s ps;exact Nat.le_refl _
 | succ n ih =>
   intro m s ps;have h1:=Xe P m s;have h2:=xW P [45] (qC P m s).2;rw[dE];split
   ·exact Nat.le_trans h1 (Nat.le_trans h2 (ih _ _ _))
   ·have h3:=xW P [43] (zC P [45] (qC P m s).2).2
    split
    ·exact Nat.le_trans h1 (Nat.le_trans h2 (Nat.le_trans h3 (ih _ _ _)))
    ·exact Nat.le_trans h1 (Nat.le_trans h2 h3)
theorem X0(P:List PT)(item:GS->Int × GS)(tok:Bs)(kind:Int)(hit:∀q,q.s.1<=(item q).2.s.1)(k:Nat):∀l q,q.s.1<=(mV P item tok kind k l q).2.s.1:=by
 induction k with
 | zero=>intro l q;exact Nat.le_refl _
 | succ k ih =>
   intro l q;have h1:=xW P tok q.s;rw[mV];split
   ·exact h1
   ·have h3:=ih ((item (q.to (zC P tok q.s).2)).2.nd.length:Nat) ((item (q.to (zC P tok q.s).2)).2.add ⟨kind,l,(item (q.to (zC P tok q.s).2)).1,[],[],[],0⟩)
    exact Nat.le_trans h1 (Nat.le_trans (hit (q.to (zC P tok q.s).2)) h3)
theorem ZQ(P:List PT)(fact:GS->Int->Int × GS)(hf:∀q d,q.s.1<=(fact q d).2.s.1)(q:GS)(d:Int):q.s.1<=(mI P fact q d).2.s.1 :=
 Nat.le_trans (hf q d) (X0 P _ _ _ (fun q=>hf q d) _ _ _)
theorem Jh(P:List PT)(fact:GS->Int->Int × GS)(hf:∀q d,q.s.1<=(fact q d).2.s.1)(q:GS)(d:Int):q.s.1<=(eG P fact q d).2.s.1 :=
 Nat.le_trans (ZQ P fact hf q d) (X0 P _ _ _ (fun q=>ZQ P fact hf q d) _ _ _)
theorem UU(P:List PT)(n:Nat):∀q d,q.s.1<=(xK P n q d).2.s.1:=by
 induction n with
 | zero=>intro q d;exact Nat.le_refl _
 | succ n ih =>
   intro q d;have h1:=xW P xG q.s;rw[xK];split
   ·exact Nat.le_trans h1 (ih (q.to (zC P xG q.s).2) (d+1))
   ·have h2:=xW P yW (zC P xG q.s).2
    split
    ·exact Nat.le_trans h1 (Nat.le_trans h2 (Nat.le_trans (Jh P _ ih (q.to (zC P yW (zC P xG q.s).2).2) (d+1)) (qK P _ _)))
    ·exact Nat.le_trans h1 (Nat.le_trans h2 (iE P _))
theorem KC(P:List PT)(s:St):s.1<=(vV P s).2.s.1:=Jh P _ (UU P P.length) ⟨s,[],0,0⟩ 0
theorem eL(P:List PT)(s:St):s.1<=(jF P s).2.1 :=
 Nat.le_trans (bI P s) (Nat.le_trans (wH P _) (Nat.le_trans (qK P _ _) (Nat.le_trans (wH P _) (qK P _ _))))
theorem sI(P:List PT)(s:St):s.1<=(tF P s).2.1:=Nat.le_trans (bI P s) (qK P _ _)
theorem sH(P:List PT)(s:St):s.1<=(kI P s).2.1:=Nat.le_trans (bI P s) (Nat.le_trans (bI P _) (qK P _ _))
theorem sG(P:List PT)(s:St):s.1<=(pD P s).2.1 :=
 Nat.le_trans (bI P s) (Nat.le_trans (qK P _ _) (Nat.le_trans (bI P _) (Nat.le_trans (qK P _ _) (Nat.le_trans (US P _ _ _ _) (Nat.le_trans (qK P _ _) (Nat.le_trans (KC P _) (qK P _ _)))))))
theorem V1{P:List PT}{t:Bs}{s:St}(h:s.2=true):(zY P t s).2=true:=by simp[zY,bD,h]
theorem Yd{P:List PT}{s:St}(h:s.2=true):(zN P s).2.2=true:=by simp[zN,qW,h]
theorem DI(P:List PT)(s:St):s.1<(uD P s).2.1\/(uD P s).2.2=true:=by
 unfold uD;split
 ·rename_i h;left;have h1:=qL h;have h2:=eL P (zC P [110,117,109] s).2;omega
 ·have m0:=xW P [110,117,109] s
  split
  ·rename_i h;left;have h1:=qL h;have h2:=sI P (zC P [102,108,97,103] (zC P [110,117,109] s).2).2;omega
  ·have m1:=xW P [102,108,97,103] (zC P [110,117,109] s).2
   split
   ·rename_i h;left;have h1:=qL h;have h2:=sG P (zC P [114,117,108,101] (zC P [102,108,97,103] (zC P [110,117,109] s).2).2).2;omega
   ·have m2:=xW P [114,117,108,101] (zC P [102,108,97,103] (zC P [110,117,109] s).2).2
    generalize (zC P [114,117,108,101] (zC P [102,108,97,103] (zC P [110,117,109] s).2).2).2=s3 at *;have m3:=sH P (zY P [111,118,101,114] s3);cases hb:bD P [111,118,101,114] s3.1 s3.2
    ·right
     have hf:(zY P [111,118,101,114] s3).2=true:=by simp[zY,hb]
     exact V1 (Yd (Yd hf))
    ·left
     have:(zY P [111,118,101,114] s3).1=s3.1+1:=by simp[zY,hb,Jj]
     omega
theorem UT(P:List PT)(s:St):s.1<=(uD P s).2.1:=by
 unfold uD;have m0:=xW P [110,117,109] s;split
 ·exact Nat.le_trans m0 (eL P _)
 ·have m1:=xW P [102,108,97,103] (zC P [110,117,109] s).2
  split
  ·exact Nat.le_trans m0 (Nat.le_trans m1 (sI P _))
  ·have m2:=xW P [114,117,108,101] (zC P [102,108,97,103] (zC P [110,117,109] s).2).2
   split
   ·exact Nat.le_trans m0 (Nat.le_trans m1 (Nat.le_trans m2 (sG P _)))
   ·exact Nat.le_trans m0 (Nat.le_trans m1 (Nat.le_trans m2 (Nat.le_trans (qK P _ _) (sH P _))))
def pS(P:List PT):Nat->St->List zH->List zH × St
 | 0,s,acc=>(acc,s)
 | n+1,s,acc =>
   match s.2 with
   | true=>(acc,s)
   | false=>if (yO P s.1).k=0 then (acc,s) else pS P n (uD P s).2 (acc++[(uD P s).1])
def iZ(P:List PT)(s:St):Nat:=2*(P.length-s.1)+(match s.2 with|true=>0|false=>1)
theorem Q0{P:List PT}{s:St}(h:s.2=false)(ha:s.1<P.length):iZ P (uD P s).2<iZ P s:=by
 have h1:=DI P s;have h2:=UT P s;unfold iZ;rw[h];rcases h1 with h1|h1
 ·split <;> omega
 ·rw[h1];simp only;omega
abbrev LX:=zH × (Value × Value)
def eO(x:LX):List Value:=[.int .i64 x.1.kind,.string ⟨x.1.name.toArray⟩,.int .i64 x.1.low,.int .i64 x.1.high,.string ⟨x.1.conc.toArray⟩,x.2.1,x.2.2,.int .i64 x.1.root,.int .i64 x.1.tests,.int .i64 x.1.dep,.string ⟨x.1.lower.toArray⟩]
def lP(ls:List LX):List Value:=ls.flatMap eO
theorem BN(ls:List LX)(x:LX):lP (ls++[x])=lP ls++eO x:=by simp[lP]
def qA(w:World)(B:Nat)(ls:List LX):Prop:=∀x∈ls,tC w B x.2.1 x.2.2 x.1
def Kh(w:World)(B:Nat)(v:Value)(ls:List LX):Prop:=w.ownsRow B 234 11 v ls.length (lP ls)/\qA w B ls
theorem ui:(Tryz.prog.info? 234).map (fun i=>(i.zero,i.size,i.bytes))=some (some (.agg #[.int .i64 0,.string ⟨#[]⟩,.int .i64 0,.int .i64 0,.string ⟨#[]⟩,.slice none 0 0,.slice none 0 0,.int .i64 0,.int .i64 0,.int .i64 0,.string ⟨#[]⟩]),11,144):=by kernel_rfl
theorem qA.keeps{w w':World}{B R:Nat}{ls:List LX}(h:qA w B ls)(hk:zB w.heap.size R w w')(hR:R<B):qA w' B ls :=
 fun x hx=>⟨uL (h x hx).1 hk hR,uL (h x hx).2 hk hR⟩
theorem qA.alloc{w:World}{B:Nat}{ls:List LX}(h:qA w B ls)(o:Obj):qA (w.alloc o) B ls :=
 fun x hx=>⟨(h x hx).1.alloc _,(h x hx).2.alloc _⟩
theorem iF{w w':World}{B B':Nat}{e e':TypeId}{size size':Nat}{v v':Value}{n n':Nat}{xs xs':List Value}(h:w.ownsRow B e size v n xs)(hl:w.ownsRow B' e' size' v' n' xs')(zG7:e≠e')(hg:w.grownBy w' v'.ownBlock):w'.ownsRow B e size v n xs:=by
 refine⟨h.1,?_⟩;rcases h.2 with h1|⟨g,cap,yO,h1,h2,h3,r⟩
 ·exact .inl h1
 ·refine .inr ⟨g,cap,yO,h1,h2,?_,r⟩
  have zFY:g<w.heap.size:=by
   rcases Nat.lt_or_ge g w.heap.size with h|h
   ·exact h
   ·rw[Array.getElem?_eq_none h]at h3;cases h3
  rw[hg.block g zFY ?_];· exact h3
  intro hE;rcases hl.2 with ⟨k1,_⟩|⟨g',cap',cur',k1,_,k3,_⟩
  ·rw[k1]at hE;simp[Value.ownBlock]at hE
  ·rw[k1]at hE
   simp[Value.ownBlock]at hE;subst hE;rw[h3]at k3;simp at k3;exact zG7 k3.2
theorem qA.grown{w w':World}{B B':Nat}{ls:List LX}{size':Nat}{v':Value}{n':Nat}{xs':List Value}(h:qA w B ls)(hl:w.ownsRow B' 234 size' v' n' xs')(hg:w.grownBy w' v'.ownBlock):qA w' B ls :=
 fun x hx=>⟨iF (h x hx).1 hl (by decide) hg,iF (h x hx).2 hl (by decide) hg⟩
def lW(l:Bs):List PT:=(zP l 0).map (fun t=>⟨vH t.2,t.2,pC t.2,t.1⟩)++[⟨0,[],0,l.length⟩]
theorem bX(l:Bs):(lW l).length=(zP l 0).length+1:=by simp[lW]
theorem ya(s:Bs):vH s≠0:=by
 unfold vH;split
 ·split
  ·decide
  ·split <;> decide
 ·split
  ·split <;> decide
  ·split <;> decide
theorem GO(l:Bs):∀i,i<(lW l).length->(yO (lW l) i).k≠0->i+1<(lW l).length:=by
 intro i hi hk;rw[bX]at hi ⊢;rcases Nat.lt_or_ge i (zP l 0).length with h|h
 ·omega
 ·exfalso
  have e:i=(zP l 0).length:=by omega
  apply hk
  unfold yO lW;subst e;simp[List.getD]
def nF(ps:List PT):List Value:=ps.flatMap (fun x=>[.int .i64 x.k,.string ⟨x.s.toArray⟩,.int .i64 x.v,.int .i64 x.p])
theorem QW(l:Bs):Yb (zP l 0)++JU l.length=nF (lW l):=by
 simp only[Yb,nF,lW,List.flatMap_append,List.flatMap_map];rfl
theorem BK(ps:List PT):∀i,i<ps.length ->
 (nF ps)[i*4]? = some (.int .i64 (yO ps i).k)/\(nF ps)[i*4+1]? = some (.string ⟨(yO ps i).s.toArray⟩)/\(nF ps)[i*4+2]? = some (.int .i64 (yO ps i).v)/\(nF ps)[i*4+3]? = some (.int .i64 (yO ps i).p):=by
 induction ps with
 | nil=>intro i h;simp at h
 | cons t r ih =>
   intro i h;have e:nF (t::r)=[.int .i64 t.k,.string ⟨t.s.toArray⟩,.int .i64 t.v,.int .i64 t.p]++nF r:=by simp[nF]
   cases i with
   | zero=>rw[e];simp[yO]
   | succ i =>
     have hi:=ih i (by simpa using h);have hc:yO (t::r) (i+1)=yO r i:=by simp[yO]
     rw[e,hc];refine⟨?_,?_,?_,?_⟩
     ·rw[List.getElem?_append_right (by simp;omega),show (i+1)*4-[Value.int .i64 t.k,.string ⟨t.s.toArray⟩,.int .i64 t.v,.int .i64 t.p].length=i*4 by simp;omega];exact hi.1
     ·rw[List.getElem?_append_right (by simp;omega),show (i+1)*4+1-[Value.int .i64 t.k,.string ⟨t.s.toArray⟩,.int .i64 t.v,.int .i64 t.p].length=i*4+1 by simp;omega];exact hi.2.1
     ·rw[List.getElem?_append_right (by simp;omega),show (i+1)*4+2-[Value.int .i64 t.k,.string ⟨t.s.toArray⟩,.int .i64 t.v,.int .i64 t.p].length=i*4+2 by simp;omega];exact hi.2.2.1
     ·rw[List.getElem?_append_right (by simp;omega),show (i+1)*4+3-[Value.int .i64 t.k,.string ⟨t.s.toArray⟩,.int .i64 t.v,.int .i64 t.p].length=i*4+3 by simp;omega];exact hi.2.2.2
theorem xQ{w:World}{g:Nat}{yO:Array Value}{e:TypeId}{fz:Nat × Nat}{k n:Nat}{xs:List Value}{u:Value}
 (hb:w.heap[g]? = some (.cells yO e fz)) (ht:yO.toList.take n=xs) (hx:xs[k]? = some u):w.cell? ⟨g,k,none⟩=some u:=by
 have h1:yO.toList[k]? = some u:=by
  rw[<-ht,List.getElem?_take]at hx;split at hx
  ·exact hx
  ·cases hx
 simp[World.cell?,hb];simpa using h1
theorem QF{w:World}{base:Nat}{v:Value}{ps:List PT}(h:w.ownsRow base 237 4 v ps.length (nF ps))(h0:0<ps.length) :
 ∃g cap,v=.slice (some ⟨g,0,none⟩) ps.length cap/\base<=g/\g<w.heap.size/\ps.length<=cap/\cap<=maxLen/\Yy w g ps:=by
 rcases h.2 with ⟨_,h2⟩|⟨g,cap,c,h1,h2,h3,h4,h5,h6,h7⟩
 ·omega
 ·refine⟨g,cap,h1,h2,?_,h4,h5,fun i hi=>?_⟩
  ·rcases Nat.lt_or_ge g w.heap.size with h|h
   ·exact h
   ·rw[Array.getElem?_eq_none h]at h3;cases h3
  ·obtain⟨a,b,c',d⟩:=BK ps i hi
   exact⟨xQ h3 h7 a,xQ h3 h7 b,xQ h3 h7 c',xQ h3 h7 d⟩
def fA(lv:Value)(err place:Int):Value:=.agg #[lv,.int .i64 err,.int .i64 place]
def xS(l:Bs):List zH × St:=pS (lW l) (2*(lW l).length+1) (0,false) []
def XY(w w':World)(l:Bs)(e:Ending):Prop :=
 match (xS l).2.2 with
 | true=>e=.returned (fA (.slice none 0 0) 2 (yO (lW l) (xS l).2.1).p)
 | false=>∃lv ls,e=.returned (fA lv 0 0)/\ls.map Prod.fst=(xS l).1/\Kh w' w.heap.size lv ls
def sB(P:List PT)(R:Nat)(w:World):Nat:=2*(P.length-zw w R)+(match w.cell? ⟨R,2,none⟩ with|some (.bool true)=>0|_=>1)
theorem yK.readMeas{w:World}{R g cap:Nat}{P:List PT}{s:St}(h:vO w R g cap P s):sB P R w=iZ P s:=by
 unfold sB iZ;rw[yK.rdAt h,h.cells.2.2];cases s.2 <;> rfl
theorem qA.base{w:World}{B B':Nat}{ls:List LX}(h:qA w B ls)(hb:B'<=B):qA w B' ls:=fun x hx=>⟨uE (h x hx).1 hb,uE (h x hx).2 hb⟩
theorem qA.set{w:World}{B:Nat}{ls:List LX}{b o:Nat}{u:Value}(h:qA w B ls)(hb:b<B):qA (w.setCell ⟨b,o,none⟩ u) B ls:=fun x hx=>⟨xN (h x hx).1 hb,xN (h x hx).2 hb⟩
theorem tC.base{w:World}{B B':Nat}{sv nv:Value}{x:zH}(h:tC w B sv nv x)(hb:B'<=B):tC w B' sv nv x:=⟨uE h.1 hb,uE h.2 hb⟩
theorem Qw(l:Bs)(w:World)(zGN:l.length<=maxLen)(hl:4000<l.length) :
 Calls Tryz.prog 60 #[.string ⟨l.toArray⟩] w fun e w'=>e=.returned (fA (.slice none 0 0) 1 0)/\Below w.heap.size w w':=by
 unfold maxLen at zGN
 go_enter Tryz.func60,Tryz.ntmps60
 go_wp2_with fail
 refine bodyPost_ret (v:=fA (.slice none 0 0) 1 0) (by simp[results,Tryz.results60,go_sem,fA]) rfl ⟨rfl,?_⟩;exact(Below.refl _ _).alloc (Nat.le_refl _) _
theorem ZW(P:List PT)(n:Nat)(s:St)(acc:List zH)(h:s.2=true\/(yO P s.1).k=0):pS P n s acc=(acc,s):=by
 cases n with
 | zero=>rfl
 | succ n =>
   rw[pS];cases hs:s.2
   ·rcases h with h|h
    ·rw[hs]at h;cases h
    ·simp only[h,if_true]
   ·rfl
theorem zB.below{B B' R:Nat}{w w':World}(h:zB B R w w')(h1:B'<=B)(h2:B'<=R):Below B' w w':=⟨h.os,h.tape,h.output,h.size,fun k hk=>h.block k (by omega) (by omega)⟩
theorem yK.start{w:World}{g cap:Nat}{P:List PT}(htok:Yy w g P)(hg:g<w.heap.size)(h0:0<P.length)(hc:P.length<=cap)(hm:cap<=maxLen)(h4:P.length<=4001)(he:∀i,i<P.length->(yO P i).k≠0->i+1<P.length) :
 vO (w.alloc (tS g cap P 0 false)) w.heap.size g cap P (0,false):=by
 refine⟨zS _ _,?_,by omega,by simp;omega,h0,hc,hm,h4,he⟩;intro i hi;have hb:∀o,(w.alloc (tS g cap P 0 false)).cell? ⟨g,o,none⟩=w.cell? ⟨g,o,none⟩:=fun o=>World.cell?_of_block (w:=w) (Below.heap_alloc _ _ _ hg);rw[hb,hb,hb,hb];exact htok i hi
theorem Zr(l:Bs)(w:World)(hl:l.length<=4000) :
 Calls Tryz.prog 60 #[.string ⟨l.toArray⟩] w fun e w'=>XY w w' l e/\Below w.heap.size w w':=by
 obtain⟨i0,hi0,hz0,hz1,hz2⟩:=info_parts ui;have HRead:=zA (fun w=>VX l w hl);have hcount:=uU l 0;have HPl:=zA (bX l);have hP0:0<(lW l).length:=by rw[bX];omega
 have hP1:(lW l).length<=4001:=by rw[bX];omega
 have HEk:=zA (GO l);have HFl:=zA (QW l);have HRB:Hid (xS l=pS (lW l) (2*(lW l).length+1) (0,false) []):=rfl;have HRI:Hid (∀w' e,XY w w' l e=(match (xS l).2.2 with|true=>e=.returned (fA (.slice none 0 0) 2 (yO (lW l) (xS l).2.1).p)|false=>∃lv ls,e=.returned (fA lv 0 0)/\ls.map Prod.fst=(xS l).1/\Kh w' w.heap.size lv ls)):=fun _ _=>rfl;generalize xS l=F at *;have HCt:=zA hcount;generalize hPP:lW l=P at *;have HPP:=zA hPP;clear hcount hPP;have hl2:¬(4000:Int)<(l.length:Int):=by omega
 have HI0:=zA hi0;have HZ0:=zA hz0;have HZ1:=zA hz1;have HZ2:=zA hz2;have HP0:=zA hP0;have HP1:=zA hP1;clear hi0 hz0 hz1 hz2 hl hP0 hP1
 go_enter Tryz.func60,Tryz.ntmps60
 go_wp2_with fail
 refine(HRead.out _).mono ?_;rintro e w1 ⟨tv,rfl,zG1,hbel1⟩;rw[HFl.out,show (zP l 0).length+1=P.length from HPl.out.symm]at zG1;obtain⟨g,cap,rfl,hg0,hg1,hcap,hcm,htok⟩:=QF zG1 HP0.out;have hs1:=hbel1.size
 have b1:w1.heap[w.heap.size]? = some (.cells #[.slice none 0 0,.int .i64 0,.int .i64 0] 151 (0,0)):=by
  rw[hbel1.block w.heap.size (by simp)];exact zS _ _
 have HB1:Hid (Below w.heap.size w w1):=((Below.refl _ _).alloc (Nat.le_refl _) _).trans (hbel1.mono (by simp));have HTok:=zA htok;have hsz1:w.heap.size<w1.heap.size:=by simp at hs1;omega
 clear zG1 hbel1 hs1 htok HRead HFl HPl;obtain⟨R,hR⟩:∃R,w1.heap.size=R:=⟨_,rfl⟩
 have hc0:vO ((w1.alloc (tS g cap P 0 false)).alloc (.cells #[] 234)) R g cap P (0,false):=by
  rw[<-hR];exact yK.alloc (yK.start HTok.out hg1 HP0.out hcap hcm HP1.out HEk.out) _
 have hrow0:((w1.alloc (tS g cap P 0 false)).alloc (.cells #[] 234)).ownsRow (R+1) 234 11 (.slice (some ⟨R+1,0,none⟩) 0 0) 0 (lP []) :=
  ⟨rfl,.inr ⟨R+1,0,#[],rfl,Nat.le_refl _,by
   have h1:=zS (w1.alloc (tS g cap P 0 false)) (.cells #[] 234);rw[show (w1.alloc (tS g cap P 0 false)).heap.size=R+1 by simp;exact hR]at h1;exact h1,Nat.le_refl _,by simp[maxLen],rfl,rfl⟩⟩
 have hbel0:Below R w1 ((w1.alloc (tS g cap P 0 false)).alloc (.cells #[] 234)):=((Below.refl _ _).alloc (Nat.le_of_eq hR.symm) _).alloc (by simp;omega) _;have HC0:=zA hc0;have HO0:=zA hrow0;have HBe0:=zA hbel0;have HRs:=zA hR;have hgR:g<R:=by omega
 have hwR:w.heap.size<R:=by omega
 clear hc0 hrow0 hbel0 HTok;go_wp2_with fail
 clear hR hg1 hsz1
 go_loopw [4] (fun lv wr=>∃(n:Nat) (s:St) (ls:List LX),wr.ownsRow (R+1) 234 11 lv ls.length (lP ls)/\Hid (vO wr R g cap P s)/\Hid (qA wr (R+1) ls)/\Hid (Below R w1 wr)/\Hid (ls.length+iZ P s<=2*P.length+1/\iZ P s<=n/\pS P n s (ls.map Prod.fst)=F)) (fun _ wr=>sB P R wr)
 case atStart=>exact⟨2*P.length+1,(0,false),[],HO0.out,HC0,zA (fun x hx=>by cases hx),HBe0,zA ⟨by show 0+(2*(P.length-0)+1)<=_;omega,by show 2*(P.length-0)+1<=_;omega,HRB.out.symm⟩⟩
 case round =>
  obtain⟨n,s,ls,zG0,HC,HA,HBe,HH⟩:=hrel;clear HC0 HO0 HBe0 HRB;obtain⟨c0,c1,c2⟩:=HC.out.cells;have hat:=HC.out.at';cases hf:s.2
  ·rw[hf]at c2
   by_cases hk:(yO P s.1).k=0
   ·have hE:F=(ls.map Prod.fst,s):=by rw[<-HH.out.2.2];exact ZW P n s _ (.inr hk)
    have HE:=zA hE;have HS2:=zA hf;have HF2:Hid (F.2.2=false):=by unfold Hid;rw[hE];exact hf
    have HK:=zA hk;have bz:wr.heap[w.heap.size]? = some (.cells #[.slice none 0 0,.int .i64 0,.int .i64 0] 151 (0,0)):=by rw[HBe.out.block w.heap.size hwR];exact b1
    have cz:=fun j=>cell_of_row _ _ j _ _ _ bz;have fz:∀o,wr.frozen? ⟨w.heap.size,o,none⟩=false:=fun o=>by simp[World.frozen?,bz]
    have zGT:Hid (Below w.heap.size w wr):=HB1.out.trans (HBe.out.mono (Nat.le_of_lt hwR));clear hE hf hk HH b1;go_wp2_with fail
    refine(iH R g cap P _ s 0 HC.out).mono ?_;rintro e w2 ⟨rfl,hc2,hk2⟩;rw[show ((yO P s.1).k==0)=true by rw[HK.out];rfl];have zG2:=uL zG0 hk2 (Nat.lt_succ_self R);have HA2:=zA (HA.out.keeps hk2 (Nat.lt_succ_self R));have zFY:=hk2.size;have b2:w2.heap[w.heap.size]? = some (.cells #[.slice none 0 0,.int .i64 0,.int .i64 0] 151 (0,0)):=yC bz hk2 (by omega);have cz2:=fun j=>cell_of_row _ _ j _ _ _ b2;have fz2:∀o,w2.frozen? ⟨w.heap.size,o,none⟩=false:=fun o=>by simp[World.frozen?,b2]
    have HB2:Hid (Below w.heap.size w w2):=zGT.out.trans (hk2.below (Nat.le_trans (Nat.le_of_lt hwR) (Nat.le_of_lt HC.out.rlt)) (Nat.le_of_lt hwR));have d2:w2.cell? ⟨R,2,none⟩=some (.bool false):=by have h9:=hc2.cells.2.2;rw[HS2.out]at h9;exact h9
    have HC2:=zA hc2;obtain⟨la,ln,lc,rfl⟩:=pE zG2;have HO2:=zA zG2;clear zG0 zG2 hc2 hk2 HC HA HBe c0 c1 c2 cz fz bz;go_wp2_with fail
    refine bodyPost_ret (v:=fA (.slice la ln lc) 0 0) (by simp (maxDischargeDepth:=8) [results,Tryz.results60,go_sem,fA,cz2]) rfl ⟨?_,((HB2.out.setCell (Nat.le_refl _) _).setCell (Nat.le_refl _) _).setCell (Nat.le_refl _) _⟩;rw[HRI.out,HF2.out];refine⟨_,ls,rfl,by rw[HE.out],uE (b:=R+1) ?_ (by omega),qA.base (B:=R+1) ?_ (by omega)⟩
    ·repeat (with_reducible refine xN ?_ (by omega))
     exact HO2.out
    ·repeat (with_reducible refine qA.set ?_ (by omega))
     exact HA2.out
   ·obtain⟨hh1,hh2,hh3⟩:=HH.out
    obtain⟨n,rfl⟩:∃k,n=k+1:=by
     refine⟨n-1,?_⟩;have h9:1<=iZ P s:=by unfold iZ;rw[hf];simp only;omega
     omega
    rw[pS,hf]at hh3;simp only[if_neg hk]at hh3;have htg:=Q0 hf hat;have HM:Hid (sB P R wr=iZ P s):=yK.readMeas HC.out;have HK:Hid (((yO P s.1).k==0)=false):=by unfold Hid;simpa using hk
    have HE:=zA hh3;have hls:ls.length<=10000:=by have h9:=HP1.out;omega
    have HL1:=zA hh1;have HN1:=zA hh2;have HRl:=HC.out.rlt;clear hh1 hh2 hh3 HH hk hf;go_wp2_with fail
    refine(iH R g cap P _ s 0 HC.out).mono ?_;rintro e w2 ⟨rfl,hc2,hk2⟩;rw[HK.out];have zG2:=uL zG0 hk2 (Nat.lt_succ_self R);have HA2:=zA (HA.out.keeps hk2 (Nat.lt_succ_self R));have HBe2:Hid (Below R w1 w2):=HBe.out.trans (hk2.below (Nat.le_of_lt HRl) (Nat.le_refl R));have HC2:=zA hc2;have HR2:=hc2.rlt;clear zG0 hc2 hk2 HA HBe c0 c1 c2 HC HK;go_wp2_with fail
    refine(zDX w2 R g cap P s HC2.out).mono ?_;rintro e w3 ⟨sv,nv,rfl,hlr,hc3,hk3⟩;have zG9:=uL zG2 hk3 (Nat.lt_succ_self R);have HA3:=zA (HA2.out.keeps hk3 (Nat.lt_succ_self R));have HBe3:Hid (Below R w1 w3):=HBe2.out.trans (hk3.below (Nat.le_of_lt HR2) (Nat.le_refl R));have HLR:Hid (tC w3 (R+1) sv nv (uD P s).1):=hlr.base HR2;have HC3:=zA hc3;have HR3:=hc3.rlt;obtain⟨sva,svn,svc,rfl⟩:=pE hlr.1;obtain⟨nva,nvn,nvc,rfl⟩:=pE hlr.2;have HOB:=zA (xZ zG9);generalize uD P s=pl at *;obtain⟨x,s2⟩:=pl;simp only at HC3 HLR HE htg;have hx:eO (x,(Value.slice sva svn svc,Value.slice nva nvn nvc))=[.int .i64 x.kind,.string ⟨x.name.toArray⟩,.int .i64 x.low,.int .i64 x.high,.string ⟨x.conc.toArray⟩,.slice sva svn svc,.slice nva nvn nvc,.int .i64 x.root,.int .i64 x.tests,.int .i64 x.dep,.string ⟨x.lower.toArray⟩]:=rfl;have HX:=zA hx;clear zG2 hc3 hk3 hlr HA2 HBe2 HC2 hx;unfold uS;have hi0:=HI0.out;have hz0:=HZ0.out;have hz1:=HZ1.out;have hz2:=HZ2.out
    go_wp2_with (at_builtin;refine wpList_append_own _ rfl _ _ 149 rfl (R+1) 234 i0 _ 11 144 Tryz.underlying149 hi0 hz0 hz1 hz2 rfl (by decide) _ _ _ rfl ((zG9.alloc _).alloc _) ⟨w3.heap.size+1,0,none⟩ 1 1 (eO (x,(Value.slice sva svn svc,Value.slice nva nvn nvc))) rfl rfl ?c1 ?c2 ?c3 ?c4 ?c5 ?_)
    case c1=>rw[HX.out];exact uH _ _ _ _ rfl (by simp)
    case c2=>rw[HX.out];intro u hu;simp at hu;rcases hu with rfl|rfl|rfl|rfl|rfl|rfl|rfl|rfl|rfl|rfl|rfl <;> rfl
    case c3=>unfold maxLen;omega
    case c4=>omega
    case c5=>simp;omega
    intro v' w4 zGO zFZ _
    have hc4:vO w4 R g cap P s2:=yK.grown (yK.alloc (yK.alloc HC3.out _) _) zFZ
     (fun e=>by have h1:=(HOB.out R e).1;omega) (fun e=>by have h1:=(HOB.out g e).1;omega)
    have ha4:qA w4 (R+1) (ls++[(x,(Value.slice sva svn svc,Value.slice nva nvn nvc))]):=by
     refine qA.grown (B':=R+1) (fun y hy=>?_) ((zG9.alloc _).alloc _) zFZ;rcases List.mem_append.1 hy with hy|hy
     ·exact((HA3.out.alloc _).alloc _) y hy
     ·rw[List.mem_singleton.1 hy]
      exact⟨(HLR.out.1.alloc _).alloc _,(HLR.out.2.alloc _).alloc _⟩
    have HBe4:Hid (Below R w1 w4):=((HBe3.out.alloc (by omega) _).alloc (by simp;omega) _).grown zFZ (by simp;omega) (fun k hk=>by have h1:=(HOB.out k hk).1;omega);have HC4:=zA hc4;have HA4:=zA ha4;have hown4':w4.ownsRow (R+1) 234 11 v' (ls++[(x,(Value.slice sva svn svc,Value.slice nva nvn nvc))]).length (lP (ls++[(x,(Value.slice sva svn svc,Value.slice nva nvn nvc))])):=by rw[BN,List.length_append];exact zGO
    have HT4:Hid (sB P R w4=iZ P s2):=yK.readMeas hc4;clear zG9 zGO zFZ HOB hc4 ha4 HC3 HA3 HBe3 HLR hi0 hz0 hz1 hz2;go_wp2_with fail
    go_roundw
    case rel=>exact⟨n,s2,_,hown4',HC4,HA4,HBe4,zA ⟨by have h1:=HL1.out;rw[List.length_append,List.length_singleton];omega,by have h1:=HN1.out;omega,by rw[List.map_append];exact HE.out⟩⟩
    case measure=>rw[HM.out,HT4.out];exact htg
  ·have hE:F=(ls.map Prod.fst,s):=by rw[<-HH.out.2.2];exact ZW P n s _ (.inl hf)
   have HE:=zA hE;have HF2:Hid (F.2.2=true):=by unfold Hid;rw[hE];exact hf
   have HF1:Hid (F.2.1=s.1):=by unfold Hid;rw[hE]
   rw[hf]at c2;have bz:wr.heap[w.heap.size]? = some (.cells #[.slice none 0 0,.int .i64 0,.int .i64 0] 151 (0,0)):=by rw[HBe.out.block w.heap.size hwR];exact b1
   have cz:=fun j=>cell_of_row _ _ j _ _ _ bz;have fz:∀o,wr.frozen? ⟨w.heap.size,o,none⟩=false:=fun o=>by simp[World.frozen?,bz]
   have zGT:Hid (Below w.heap.size w wr):=HB1.out.trans (HBe.out.mono (Nat.le_of_lt hwR));obtain⟨_,_,_,t3⟩:=HC.out.tok s.1 hat;have i1:(0:Int)<=(s.1:Int):=by omega
   have i2:(s.1:Int)<(P.length:Int):=by omega
   generalize hcu:(yO P s.1).p=pp at *;have HCu:=zA hcu;clear hE hf HH b1 hcu zG0 HA HBe;go_wp2_with fail
   refine bodyPost_ret (v:=fA (.slice none 0 0) 2 pp) (by simp (maxDischargeDepth:=8) [results,Tryz.results60,go_sem,fA,cz]) rfl ⟨?_,((zGT.out.setCell (Nat.le_refl _) _).setCell (Nat.le_refl _) _).setCell (Nat.le_refl _) _⟩;rw[HRI.out,HF2.out,HF1.out,HCu.out]
end Go.Proofs.YtnbpdffdnphbeaaGreatDoor
