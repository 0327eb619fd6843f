import Derived.Test.YtnbpdffdnphbeabGreatDoorBLines
set_option maxHeartbeats 2000000
namespace Go.Proofs.YtnbpdffdnphbeabGreatDoor
open Go.RowKit
variable{B' B R g:Nat}{w' w:World}
theorem mW(P:List PT)(s:St):s.1<=(zI P s).2.1:=dH _ _
theorem eX(P:List PT)(s:St):s.1<=(yG P s).2.1:=dH _ _
theorem kF(P:List PT)(t:Bs)(s:St):s.1<=(zW P t s).1:=dH _ _
theorem Bu(P:List PT)(n:Nat):∀m s ps,s.1<=(lS P n m s ps).2.1:=by
 induction n with
 | zero=>intro m s ps;exact j1 _
 | succ n ih =>
   intro m s ps;have h1:=YT P m s;have h2:=xV P [45] (qC P m s).2;rw[lS];split
   ·exact p8 h1 (p8 h2 (ih _ _ _))
   ·have h3:=xV P [43] (zD P [45] (qC P m s).2).2
    split
    ·exact p8 h1 (p8 h2 (p8 h3 (ih _ _ _)))
    ·exact p8 h1 (p8 h2 h3)
theorem Xo(P:List PT)(item:GS->Int × GS)(tok:Bs)(kind:Int)(hit:∀q,q.s.1<=(item q).2.s.1)(k:Nat):∀l q,q.s.1<=(mS P item tok kind k l q).2.s.1:=by
 induction k with
 | zero=>intro l q;exact j1 _
 | succ k ih =>
   intro l q;have h1:=xV P tok q.s;rw[mS];split
   ·exact h1
   ·have h3:=ih ((item (q.to (zD P tok q.s).2)).2.nd.length:Nat) ((item (q.to (zD P tok q.s).2)).2.add ⟨kind,l,(item (q.to (zD P tok q.s).2)).1,[],[],[],0⟩)
    exact p8 h1 (p8 (hit (q.to (zD P tok q.s).2)) h3)
theorem ZI(P:List PT)(fact:GS->Int->Int × GS)(hf:∀q d,q.s.1<=(fact q d).2.s.1)(q:GS)(d:Int):q.s.1<=(cJ P fact q d).2.s.1 :=
 p8 (hf q d) (Xo P _ _ _ (fun q=>hf q d) _ _ _)
theorem Jo(P:List PT)(fact:GS->Int->Int × GS)(hf:∀q d,q.s.1<=(fact q d).2.s.1)(q:GS)(d:Int):q.s.1<=(Z8 P fact q d).2.s.1 :=
 p8 (ZI P fact hf q d) (Xo P _ _ _ (fun q=>ZI P fact hf q d) _ _ _)
theorem Bw(P:List PT)(n:Nat):∀q d,q.s.1<=(xA P n q d).2.s.1:=by
 induction n with
 | zero=>intro q d;exact j1 _
 | succ n ih =>
   intro q d;have h1:=xV P vG q.s;rw[xA];split
   ·exact p8 h1 (ih (q.to (zD P vG q.s).2) (d+1))
   ·have h2:=xV P vK (zD P vG q.s).2
    split
    ·exact p8 h1 (p8 h2 (p8 (Jo P _ ih (q.to (zD P vK (zD P vG q.s).2).2) (d+1)) (kF P _ _)))
    ·exact p8 h1 (p8 h2 (YS P _))
theorem Vb(P:List PT)(s:St):s.1<=(qD P s).2.s.1:=Jo P _ (Bw P P.length) ⟨s,[],0,0⟩ 0
theorem sW(P:List PT)(s:St):s.1<=(cR P s).2.1 :=
 p8 (mW P s) (p8 (eX P _) (p8 (kF P _ _) (p8 (eX P _) (kF P _ _))))
theorem oL(P:List PT)(s:St):s.1<=(mX P s).2.1:=p8 (mW P s) (kF P _ _)
theorem oK(P:List PT)(s:St):s.1<=(mV P s).2.1:=p8 (mW P s) (p8 (mW P _) (kF P _ _))
theorem oJ(P:List PT)(s:St):s.1<=(jZ P s).2.1 :=
 p8 (mW P s) (p8 (kF P _ _) (p8 (mW P _) (p8 (kF P _ _) (p8 (Bu P _ _ _ _) (p8 (kF P _ _) (p8 (Vb P _) (kF P _ _)))))))
theorem VS{P:List PT}{t:Bs}{s:St}(h:s.2=true):(zW P t s).2=true:=by simp[zW,tF,h]
theorem ZU{P:List PT}{s:St}(h:s.2=true):(zI P s).2.2=true:=by simp[zI,qR,h]
theorem FJ(P:List PT)(s:St):s.1<(uA P s).2.1\/(uA P s).2.2=true:=by
 unfold uA;split
 ·rename_i h;left;have h1:=kG h;have h2:=sW P (zD P [110,117,109] s).2;omega
 ·have m0:=xV P [110,117,109] s
  split
  ·rename_i h;left;have h1:=kG h;have h2:=oL P (zD P [102,108,97,103] (zD P [110,117,109] s).2).2;omega
  ·have m1:=xV P [102,108,97,103] (zD P [110,117,109] s).2
   split
   ·rename_i h;left;have h1:=kG h;have h2:=oJ P (zD P [114,117,108,101] (zD P [102,108,97,103] (zD P [110,117,109] s).2).2).2;omega
   ·have m2:=xV P [114,117,108,101] (zD P [102,108,97,103] (zD P [110,117,109] s).2).2
    generalize (zD P [114,117,108,101] (zD P [102,108,97,103] (zD P [110,117,109] s).2).2).2=s3 at *;have m3:=oK P (zW P [111,118,101,114] s3);cases hb:tF P [111,118,101,114] s3.1 s3.2
    ·right
     have hf:(zW P [111,118,101,114] s3).2=true:=by simp[zW,hb]
     exact VS (ZU (ZU hf))
    ·left
     have:(zW P [111,118,101,114] s3).1=s3.1+1:=by simp[zW,hb,Us]
     omega
theorem Bv(P:List PT)(s:St):s.1<=(uA P s).2.1:=by
 unfold uA;have m0:=xV P [110,117,109] s;split
 ·exact p8 m0 (sW P _)
 ·have m1:=xV P [102,108,97,103] (zD P [110,117,109] s).2
  split
  ·exact p8 m0 (p8 m1 (oL P _))
  ·have m2:=xV P [114,117,108,101] (zD P [102,108,97,103] (zD P [110,117,109] s).2).2
   split
   ·exact p8 m0 (p8 m1 (p8 m2 (oJ P _)))
   ·exact p8 m0 (p8 m1 (p8 m2 (p8 (kF P _ _) (oK P _))))
def fG(P:List PT):Nat->St->List zE->List zE × St
 | 0,s,acc=>(acc,s)
 | n+1,s,acc =>
   match s.2 with
   | true=>(acc,s)
   | false=>if (yK P s.1).k=0 then (acc,s) else fG P n (uA P s).2 (acc++[(uA P s).1])
def YB(P:List PT)(s:St):Nat:=2*(P.length-s.1)+(match s.2 with|true=>0|false=>1)
theorem Fe{P:List PT}{s:St}(h:s.2=false)(ha:s.1<P.length):YB P (uA P s).2<YB P s:=by
 have h1:=FJ P s;have h2:=Bv P s;unfold YB;rw[h];rcases h1 with h1|h1
 ·split <;> omega
 ·rw[h1];simp only;omega
abbrev LX:=zE × (Value × Value)
variable{ls:List LX}
def aA(x:LX):List Value:=[.int .i64 x.1.kind,.string ⟨x.1.name.toArray⟩,.int .i64 x.1.low,.int .i64 x.1.high,.string ⟨x.1.conc.toArray⟩,x.2.1,x.2.2,.int .i64 x.1.root,.int .i64 x.1.tests,.int .i64 x.1.dep,.string ⟨x.1.lower.toArray⟩]
def mC(ls:List LX):List Value:=ls.flatMap aA
theorem Ci(ls:List LX)(x:LX):mC (ls++[x])=mC ls++aA x:=by simp[mC]
def uP(w:World)(B:Nat)(ls:List LX):Prop:=∀x∈ls,kZ w B x.2.1 x.2.2 x.1
def Kt(w:World)(B:Nat)(v:Value)(ls:List LX):Prop:=w.ownsRow B 184 11 v ls.length (mC ls)/\uP w B ls
theorem jp:(Tryz.prog.info? 184).map (fun i=>(i.zero,i.size,i.bytes))=some (some (.agg #[.int .i64 0,.string ⟨#[]⟩,.int .i64 0,.int .i64 0,.string ⟨#[]⟩,.slice none 0 0,.slice none 0 0,.int .i64 0,.int .i64 0,.int .i64 0,.string ⟨#[]⟩]),11,144):=by kernel_rfl
theorem uP.keeps(h:uP w B ls)(hk:zC w.heap.size R w w')(hR:R<B):uP w' B ls :=
 fun x hx=>⟨uB (h x hx).1 hk hR,uB (h x hx).2 hk hR⟩
theorem uP.alloc(h:uP w B ls)(o:Obj):uP (w.alloc o) B ls :=
 fun x hx=>⟨(h x hx).1.alloc _,(h x hx).2.alloc _⟩
theorem aQ{e e':TypeId}{size size':Nat}{v v':Value}{n n':Nat}{xs xs':List Value}(h:w.ownsRow B e size v n xs)(hl:w.ownsRow B' e' size' v' n' xs')(zL4:e≠e')(hg:w.grownBy w' v'.ownBlock):w'.ownsRow B e size v n xs:=by
 refine⟨h.1,?_⟩;rcases h.2 with h1|⟨g,cap,yK,h1,h2,h3,r⟩
 ·exact .inl h1
 ·refine .inr ⟨g,cap,yK,h1,h2,?_,r⟩
  have zKZ:g<w.heap.size:=by
   rcases md g w.heap.size with h|h
   ·exact h
   ·rw[mc h]at h3;cases h3
  rw[hg.block g zKZ ?_];· exact h3
  intro hE;rcases hl.2 with ⟨k1,_⟩|⟨g',cap',cur',k1,_,k3,_⟩
  ·rw[k1]at hE;simp[Value.ownBlock]at hE
  ·rw[k1]at hE
   simp[Value.ownBlock]at hE;subst hE;rw[h3]at k3;simp at k3;exact zL4 k3.2
theorem uP.grown{size':Nat}{v':Value}{n':Nat}{xs':List Value}(h:uP w B ls)(hl:w.ownsRow B' 184 size' v' n' xs')(hg:w.grownBy w' v'.ownBlock):uP w' B ls :=
 fun x hx=>⟨aQ (h x hx).1 hl (by decide) hg,aQ (h x hx).2 hl (by decide) hg⟩
def bB(l:Bs):List PT:=(vM l 0).map (fun t=>⟨yJ t.2,t.2,kL t.2,t.1⟩)++[⟨0,[],0,l.length⟩]
theorem lH(l:Bs):(bB l).length=(vM l 0).length+1:=by simp[bB]
theorem x5(l:Bs):∀i,i<(bB l).length->(yK (bB l) i).k≠0->i+1<(bB l).length:=by
 intro i hi hk;rw[lH]at hi ⊢;rcases md i (vM l 0).length with h|h
 ·omega
 ·exfalso
  have e:i=(vM l 0).length:=by omega
  apply hk
  unfold yK bB;subst e;simp[List.getD]
def fL(ps:List PT):List Value:=ps.flatMap (fun x=>[.int .i64 x.k,.string ⟨x.s.toArray⟩,.int .i64 x.v,.int .i64 x.p])
theorem Jf(l:Bs):ZT (vM l 0)++Ka l.length=fL (bB l):=by
 simp only[ZT,fL,bB,lu,List.flatMap_map];rfl
theorem Cf(ps:List PT):∀i,i<ps.length ->
 (fL ps)[i*4]? = some (.int .i64 (yK ps i).k)/\(fL ps)[i*4+1]? = some (.string ⟨(yK ps i).s.toArray⟩)/\(fL ps)[i*4+2]? = some (.int .i64 (yK ps i).v)/\(fL ps)[i*4+3]? = some (.int .i64 (yK ps i).p):=by
 induction ps with
 | nil=>intro i h;simp at h
 | cons t r ih =>
   intro i h;have e:fL (t::r)=[.int .i64 t.k,.string ⟨t.s.toArray⟩,.int .i64 t.v,.int .i64 t.p]++fL r:=by simp[fL]
   cases i with
   | zero=>rw[e];simp[yK]
   | succ i =>
     have hi:=ih i (by simpa using h);have hc:yK (t::r) (i+1)=yK r i:=by simp[yK]
     rw[e,hc];refine⟨?_,?_,?_,?_⟩
     ·rw[lj (by simp;omega),show (i+1)*4-[Value.int .i64 t.k,.string ⟨t.s.toArray⟩,.int .i64 t.v,.int .i64 t.p].length=i*4 by simp;omega];exact hi.1
     ·rw[lj (by simp;omega),show (i+1)*4+1-[Value.int .i64 t.k,.string ⟨t.s.toArray⟩,.int .i64 t.v,.int .i64 t.p].length=i*4+1 by simp;omega];exact hi.2.1
     ·rw[lj (by simp;omega),show (i+1)*4+2-[Value.int .i64 t.k,.string ⟨t.s.toArray⟩,.int .i64 t.v,.int .i64 t.p].length=i*4+2 by simp;omega];exact hi.2.2.1
     ·rw[lj (by simp;omega),show (i+1)*4+3-[Value.int .i64 t.k,.string ⟨t.s.toArray⟩,.int .i64 t.v,.int .i64 t.p].length=i*4+3 by simp;omega];exact hi.2.2.2
theorem xO{yK:Array Value}{e:TypeId}{fz:Nat × Nat}{k n:Nat}{xs:List Value}{u:Value}
 (hb:w.heap[g]? = some (.cells yK e fz)) (ht:yK.toList.take n=xs) (hx:xs[k]? = some u):w.cell? ⟨g,k,none⟩=some u:=by
 have h1:yK.toList[k]? = some u:=by
  rw[<-ht,df]at hx;split at hx
  ·exact hx
  ·cases hx
 simp[World.cell?,hb];simpa using h1
theorem QH{base:Nat}{v:Value}{ps:List PT}(h:w.ownsRow base 187 4 v ps.length (fL ps))(h0:0<ps.length) :
 ∃g cap,v=.slice (some ⟨g,0,none⟩) ps.length cap/\base<=g/\g<w.heap.size/\ps.length<=cap/\cap<=maxLen/\Yh w g ps:=by
 rcases h.2 with ⟨_,h2⟩|⟨g,cap,c,h1,h2,h3,h4,h5,h6,h7⟩
 ·omega
 ·refine⟨g,cap,h1,h2,?_,h4,h5,fun i hi=>?_⟩
  ·rcases md g w.heap.size with h|h
   ·exact h
   ·rw[mc h]at h3;cases h3
  ·obtain⟨a,b,c',d⟩:=Cf ps i hi
   exact⟨xO h3 h7 a,xO h3 h7 b,xO h3 h7 c',xO h3 h7 d⟩
def sV(lv:Value)(err place:Int):Value:=.agg #[lv,.int .i64 err,.int .i64 place]
def kM(l:Bs):List zE × St:=fG (bB l) (2*(bB l).length+1) (0,false) []
def Km(w w':World)(l:Bs)(e:Ending):Prop :=
 match (kM l).2.2 with
 | true=>e=.returned (sV (.slice none 0 0) 2 (yK (bB l) (kM l).2.1).p)
 | false=>∃lv ls,e=.returned (sV lv 0 0)/\ls.map Prod.fst=(kM l).1/\Kt w' w.heap.size lv ls
def oG(P:List PT)(R:Nat)(w:World):Nat:=2*(P.length-uo w R)+(match w.cell? ⟨R,2,none⟩ with|some (.bool true)=>0|_=>1)
theorem yE.readMeas{cap:Nat}{P:List PT}{s:St}(h:xX w R g cap P s):oG P R w=YB P s:=by
 unfold oG YB;rw[yE.rdAt h,h.cells.2.2];cases s.2 <;> rfl
theorem uP.base(h:uP w B ls)(hb:B'<=B):uP w B' ls:=fun x hx=>⟨yT (h x hx).1 hb,yT (h x hx).2 hb⟩
theorem uP.set{b o:Nat}{u:Value}(h:uP w B ls)(hb:b<B):uP (w.setCell ⟨b,o,none⟩ u) B ls:=fun x hx=>⟨yW (h x hx).1 hb,yW (h x hx).2 hb⟩
theorem kZ.base{sv nv:Value}{x:zE}(h:kZ w B sv nv x)(hb:B'<=B):kZ w B' sv nv x:=⟨yT h.1 hb,yT h.2 hb⟩
theorem ZP(P:List PT)(n:Nat)(s:St)(acc:List zE)(h:s.2=true\/(yK P s.1).k=0):fG P n s acc=(acc,s):=by
 cases n with
 | zero=>rfl
 | succ n =>
   rw[fG];cases hs:s.2
   ·rcases h with h|h
    ·rw[hs]at h;cases h
    ·simp only[h,dt]
   ·rfl
theorem zC.below(h:zC B R w w')(h1:B'<=B)(h2:B'<=R):Below B' w w':=⟨h.os,h.tape,h.output,h.size,fun k hk=>h.block k (by omega) (by omega)⟩
theorem yE.start{cap:Nat}{P:List PT}(htok:Yh w g P)(hg:g<w.heap.size)(h0:0<P.length)(hc:P.length<=cap)(hm:cap<=maxLen)(h4:P.length<=4001)(he:∀i,i<P.length->(yK P i).k≠0->i+1<P.length) :
 xX (w.alloc (jJ g cap P 0 false)) w.heap.size g cap P (0,false):=by
 refine⟨zG _ _,?_,by omega,by simp;omega,h0,hc,hm,h4,he⟩;intro i hi;have hb:∀o,(w.alloc (jJ g cap P 0 false)).cell? ⟨g,o,none⟩=w.cell? ⟨g,o,none⟩:=fun o=>bm (w:=w) (li _ _ _ hg);rw[hb,hb,hb,hb];exact htok i hi
theorem Kw(l:Bs)(w:World)(hl:l.length<=4000) :
 Calls Tryz.prog 55 #[.string ⟨l.toArray⟩] w fun e w'=>Km w w' l e/\Below w.heap.size w w':=by
 obtain⟨i0,hi0,hz0,hz1,hz2⟩:=info_parts jp;have HRead:=zA (fun w=>Uw l w hl);have hcount:=aJ l 0;have HPl:=zA (lH l);have hP0:0<(bB l).length:=by rw[lH];omega
 have hP1:(bB l).length<=4001:=by rw[lH];omega
 have HEk:=zA (x5 l);have HFl:=zA (Jf l);have HRB:Hid (kM l=fG (bB l) (2*(bB l).length+1) (0,false) []):=rfl;have HRI:Hid (∀w' e,Km w w' l e=(match (kM l).2.2 with|true=>e=.returned (sV (.slice none 0 0) 2 (yK (bB l) (kM l).2.1).p)|false=>∃lv ls,e=.returned (sV lv 0 0)/\ls.map Prod.fst=(kM l).1/\Kt w' w.heap.size lv ls)):=fun _ _=>rfl;generalize kM l=F at *;have HCt:=zA hcount;generalize hPP:bB l=P at *;have HPP:=zA hPP;clear hcount hPP;have hl2:¬(4000:Int)<(l.length:Int):=by omega
 have HI0:=zA hi0;have HZ0:=zA hz0;have HZ1:=zA hz1;have HZ2:=zA hz2;have HP0:=zA hP0;have HP1:=zA hP1;clear hi0 hz0 hz1 hz2 hl hP0 hP1
 go_enter Tryz.func55,Tryz.ntmps55
 go_wp2_with fail
 refine(HRead.out _).mono ?_;rintro e w1 ⟨tv,rfl,zL5,hbel1⟩;rw[HFl.out,show (vM l 0).length+1=P.length from HPl.out.symm]at zL5;obtain⟨g,cap,rfl,hg0,hg1,hcap,hcm,htok⟩:=QH zL5 HP0.out;have hs1:=hbel1.size
 have b1:w1.heap[w.heap.size]? = some (.cells #[.slice none 0 0,.int .i64 0,.int .i64 0] 143 (0,0)):=by
  rw[hbel1.block w.heap.size (by simp)];exact zG _ _
 have HB1:Hid (Below w.heap.size w w1):=(gb (j1 _) _).trans (hbel1.mono (by simp));have HTok:=zA htok;have hsz1:w.heap.size<w1.heap.size:=by simp at hs1;omega
 clear zL5 hbel1 hs1 htok HRead HFl HPl;obtain⟨R,hR⟩:∃R,w1.heap.size=R:=⟨_,rfl⟩
 have hc0:xX ((w1.alloc (jJ g cap P 0 false)).alloc (.cells #[] 184)) R g cap P (0,false):=by
  rw[<-hR];exact yE.alloc (yE.start HTok.out hg1 HP0.out hcap hcm HP1.out HEk.out) _
 have hrow0:((w1.alloc (jJ g cap P 0 false)).alloc (.cells #[] 184)).ownsRow (R+1) 184 11 (.slice (some ⟨R+1,0,none⟩) 0 0) 0 (mC []) :=
  ⟨rfl,.inr ⟨R+1,0,#[],rfl,j1 _,by
   have h1:=zG (w1.alloc (jJ g cap P 0 false)) (.cells #[] 184);rw[show (w1.alloc (jJ g cap P 0 false)).heap.size=R+1 by simp;exact hR]at h1;exact h1,j1 _,by simp[maxLen],rfl,rfl⟩⟩
 have hbel0:Below R w1 ((w1.alloc (jJ g cap P 0 false)).alloc (.cells #[] 184)):=(gb (Nat.le_of_eq hR.symm) _).alloc (by simp;omega) _;have HC0:=zA hc0;have HO0:=zA hrow0;have HBe0:=zA hbel0;have HRs:=zA hR;have hgR:g<R:=by omega
 have hwR:w.heap.size<R:=by omega
 clear hc0 hrow0 hbel0 HTok;go_wp2_with fail
 clear hR hg1 hsz1
 go_loopw [4] (fun lv wr=>∃(n:Nat) (s:St) (ls:List LX),wr.ownsRow (R+1) 184 11 lv ls.length (mC ls)/\Hid (xX wr R g cap P s)/\Hid (uP wr (R+1) ls)/\Hid (Below R w1 wr)/\Hid (ls.length+YB P s<=2*P.length+1/\YB P s<=n/\fG P n s (ls.map Prod.fst)=F)) (fun _ wr=>oG P R wr)
 case atStart=>exact⟨2*P.length+1,(0,false),[],HO0.out,HC0,zA (fun x hx=>by cases hx),HBe0,zA ⟨by show 0+(2*(P.length-0)+1)<=_;omega,by show 2*(P.length-0)+1<=_;omega,HRB.out.symm⟩⟩
 case round =>
  obtain⟨n,s,ls,zL1,HC,HA,HBe,HH⟩:=hrel;clear HC0 HO0 HBe0 HRB;obtain⟨c0,c1,c2⟩:=HC.out.cells;have hat:=HC.out.at';cases hf:s.2
  ·rw[hf]at c2
   by_cases hk:(yK P s.1).k=0
   ·have hE:F=(ls.map Prod.fst,s):=by rw[<-HH.out.2.2];exact ZP P n s _ (.inr hk)
    have HE:=zA hE;have HS2:=zA hf;have HF2:Hid (F.2.2=false):=by unfold Hid;rw[hE];exact hf
    have HK:=zA hk;have bz:wr.heap[w.heap.size]? = some (.cells #[.slice none 0 0,.int .i64 0,.int .i64 0] 143 (0,0)):=by rw[HBe.out.block w.heap.size hwR];exact b1
    have cz:=fun j=>fd _ _ j _ _ _ bz;have fz:∀o,wr.frozen? ⟨w.heap.size,o,none⟩=false:=fun o=>by simp[World.frozen?,bz]
    have HFin:Hid (Below w.heap.size w wr):=HB1.out.trans (HBe.out.mono (ph hwR));clear hE hf hk HH b1;go_wp2_with fail
    refine(aS R g cap P _ s 0 HC.out).mono ?_;rintro e w2 ⟨rfl,hc2,hk2⟩;rw[show ((yK P s.1).k==0)=true by rw[HK.out];rfl];have zLG:=uB zL1 hk2 (l8 R);have HA2:=zA (HA.out.keeps hk2 (l8 R));have zKZ:=hk2.size;have b2:w2.heap[w.heap.size]? = some (.cells #[.slice none 0 0,.int .i64 0,.int .i64 0] 143 (0,0)):=zY bz hk2 (by omega);have cz2:=fun j=>fd _ _ j _ _ _ b2;have fz2:∀o,w2.frozen? ⟨w.heap.size,o,none⟩=false:=fun o=>by simp[World.frozen?,b2]
    have HB2:Hid (Below w.heap.size w w2):=HFin.out.trans (hk2.below (p8 (ph hwR) (ph HC.out.rlt)) (ph hwR));have d2:w2.cell? ⟨R,2,none⟩=some (.bool false):=by have h9:=hc2.cells.2.2;rw[HS2.out]at h9;exact h9
    have HC2:=zA hc2;obtain⟨la,ln,lc,rfl⟩:=tB zLG;have HO2:=zA zLG;clear zL1 zLG hc2 hk2 HC HA HBe c0 c1 c2 cz fz bz;go_wp2_with fail
    refine pe (v:=sV (.slice la ln lc) 0 0) (by simp (maxDischargeDepth:=8) [results,Tryz.results55,go_sem,sV,cz2]) rfl ⟨?_,((HB2.out.setCell (j1 _) _).setCell (j1 _) _).setCell (j1 _) _⟩;rw[HRI.out,HF2.out];refine⟨_,ls,rfl,by rw[HE.out],yT (b:=R+1) ?_ (by omega),uP.base (B:=R+1) ?_ (by omega)⟩
    ·repeat (with_reducible refine yW ?_ (by omega))
     exact HO2.out
    ·repeat (with_reducible refine uP.set ?_ (by omega))
     exact HA2.out
   ·obtain⟨hh1,hh2,hh3⟩:=HH.out
    obtain⟨n,rfl⟩:∃k,n=k+1:=by
     refine⟨n-1,?_⟩;have h9:1<=YB P s:=by unfold YB;rw[hf];simp only;omega
     omega
    rw[fG,hf]at hh3;simp only[tb hk]at hh3;have htg:=Fe hf hat;have HM:Hid (oG P R wr=YB P s):=yE.readMeas HC.out;have HK:Hid (((yK P s.1).k==0)=false):=by unfold Hid;simpa using hk
    have HE:=zA hh3;have hls:ls.length<=10000:=by have h9:=HP1.out;omega
    have HL1:=zA hh1;have HN1:=zA hh2;have HRl:=HC.out.rlt;clear hh1 hh2 hh3 HH hk hf;go_wp2_with fail
    refine(aS R g cap P _ s 0 HC.out).mono ?_;rintro e w2 ⟨rfl,hc2,hk2⟩;rw[HK.out];have zLG:=uB zL1 hk2 (l8 R);have HA2:=zA (HA.out.keeps hk2 (l8 R));have HBe2:Hid (Below R w1 w2):=HBe.out.trans (hk2.below (ph HRl) (j1 R));have HC2:=zA hc2;have HR2:=hc2.rlt;clear zL1 hc2 hk2 HA HBe c0 c1 c2 HC HK;go_wp2_with fail
    refine(zI9 w2 R g cap P s HC2.out).mono ?_;rintro e w3 ⟨sv,nv,rfl,hlr,hc3,hk3⟩;have zLK:=uB zLG hk3 (l8 R);have HA3:=zA (HA2.out.keeps hk3 (l8 R));have HBe3:Hid (Below R w1 w3):=HBe2.out.trans (hk3.below (ph HR2) (j1 R));have HLR:Hid (kZ w3 (R+1) sv nv (uA P s).1):=hlr.base HR2;have HC3:=zA hc3;have HR3:=hc3.rlt;obtain⟨sva,svn,svc,rfl⟩:=tB hlr.1;obtain⟨nva,nvn,nvc,rfl⟩:=tB hlr.2;have HOB:=zA (zZ zLK);generalize uA P s=pl at *;obtain⟨x,s2⟩:=pl;simp only at HC3 HLR HE htg;have hx:aA (x,(Value.slice sva svn svc,Value.slice nva nvn nvc))=[.int .i64 x.kind,.string ⟨x.name.toArray⟩,.int .i64 x.low,.int .i64 x.high,.string ⟨x.conc.toArray⟩,.slice sva svn svc,.slice nva nvn nvc,.int .i64 x.root,.int .i64 x.tests,.int .i64 x.dep,.string ⟨x.lower.toArray⟩]:=rfl;have HX:=zA hx;clear zLG hc3 hk3 hlr HA2 HBe2 HC2 hx;unfold uJ;have hi0:=HI0.out;have hz0:=HZ0.out;have hz1:=HZ1.out;have hz2:=HZ2.out
    go_wp2_with (at_builtin;refine wpList_append_own _ rfl _ _ 141 rfl (R+1) 184 i0 _ 11 144 Tryz.underlying141 hi0 hz0 hz1 hz2 rfl (by decide) _ _ _ rfl ((zLK.alloc _).alloc _) ⟨w3.heap.size+1,0,none⟩ 1 1 (aA (x,(Value.slice sva svn svc,Value.slice nva nvn nvc))) rfl rfl ?c1 ?c2 ?c3 ?c4 ?c5 ?_)
    case c1=>rw[HX.out];exact qT _ _ _ _ rfl (by simp)
    case c2=>rw[HX.out];intro u hu;simp at hu;rcases hu with rfl|rfl|rfl|rfl|rfl|rfl|rfl|rfl|rfl|rfl|rfl <;> rfl
    case c3=>unfold maxLen;omega
    case c4=>omega
    case c5=>simp;omega
    intro v' w4 hown4 zL2 _
    have hc4:xX w4 R g cap P s2:=yE.grown (yE.alloc (yE.alloc HC3.out _) _) zL2
     (fun e=>by have h1:=(HOB.out R e).1;omega) (fun e=>by have h1:=(HOB.out g e).1;omega)
    have ha4:uP w4 (R+1) (ls++[(x,(Value.slice sva svn svc,Value.slice nva nvn nvc))]):=by
     refine uP.grown (B':=R+1) (fun y hy=>?_) ((zLK.alloc _).alloc _) zL2;rcases pu.1 hy with hy|hy
     ·exact((HA3.out.alloc _).alloc _) y hy
     ·rw[pr.1 hy]
      exact⟨(HLR.out.1.alloc _).alloc _,(HLR.out.2.alloc _).alloc _⟩
    have HBe4:Hid (Below R w1 w4):=((HBe3.out.alloc (by omega) _).alloc (by simp;omega) _).grown zL2 (by simp;omega) (fun k hk=>by have h1:=(HOB.out k hk).1;omega);have HC4:=zA hc4;have HA4:=zA ha4;have hown4':w4.ownsRow (R+1) 184 11 v' (ls++[(x,(Value.slice sva svn svc,Value.slice nva nvn nvc))]).length (mC (ls++[(x,(Value.slice sva svn svc,Value.slice nva nvn nvc))])):=by rw[Ci,tm];exact hown4
    have HT4:Hid (oG P R w4=YB P s2):=yE.readMeas hc4;clear zLK hown4 zL2 HOB hc4 ha4 HC3 HA3 HBe3 HLR hi0 hz0 hz1 hz2;go_wp2_with fail
    go_roundw
    case rel=>exact⟨n,s2,_,hown4',HC4,HA4,HBe4,zA ⟨by have h1:=HL1.out;rw[tm,mh];omega,by have h1:=HN1.out;omega,by rw[bi];exact HE.out⟩⟩
    case measure=>rw[HM.out,HT4.out];exact htg
  ·have hE:F=(ls.map Prod.fst,s):=by rw[<-HH.out.2.2];exact ZP P n s _ (.inl hf)
   have HE:=zA hE;have HF2:Hid (F.2.2=true):=by unfold Hid;rw[hE];exact hf
   have HF1:Hid (F.2.1=s.1):=by unfold Hid;rw[hE]
   rw[hf]at c2;have bz:wr.heap[w.heap.size]? = some (.cells #[.slice none 0 0,.int .i64 0,.int .i64 0] 143 (0,0)):=by rw[HBe.out.block w.heap.size hwR];exact b1
   have cz:=fun j=>fd _ _ j _ _ _ bz;have fz:∀o,wr.frozen? ⟨w.heap.size,o,none⟩=false:=fun o=>by simp[World.frozen?,bz]
   have HFin:Hid (Below w.heap.size w wr):=HB1.out.trans (HBe.out.mono (ph hwR));obtain⟨_,_,_,t3⟩:=HC.out.tok s.1 hat;have i1:(0:Int)<=(s.1:Int):=by omega
   have i2:(s.1:Int)<(P.length:Int):=by omega
   generalize hcu:(yK P s.1).p=pp at *;have HCu:=zA hcu;clear hE hf HH b1 hcu zL1 HA HBe;go_wp2_with fail
   refine pe (v:=sV (.slice none 0 0) 2 pp) (by simp (maxDischargeDepth:=8) [results,Tryz.results55,go_sem,sV,cz]) rfl ⟨?_,((HFin.out.setCell (j1 _) _).setCell (j1 _) _).setCell (j1 _) _⟩;rw[HRI.out,HF2.out,HF1.out,HCu.out]
end Go.Proofs.YtnbpdffdnphbeabGreatDoor
