import Derived.Test.YtnbpdffdnphbeaaGreatDoorDHolds
import Derived.Test.YtnbpdffdnphbeaaGreatDoorDRead
namespace Go.Proofs.YtnbpdffdnphbeaaGreatDoor
structure G7 where
 has:Bs->Bool
 inp:Bs->Int
def Gh(x:Int)(m:Bs)(y:Int):Bool:=if x<y then decide (m=[60]\/m=[60,61]\/m=[33,61]) else if x=y then decide (m=[60,61]\/m=[61]\/m=[62,61]) else decide (m=[62]\/m=[62,61]\/m=[33,61])
abbrev cI(l:List Bool)(a:Int):Bool:=decide (0<=a)&&(decide (a<l.length)&&l.getD a.toNat false)
def Qo(E:G7)(hs:List Bool)(x:yB):Bool :=
 if x.kind=1 then cI hs x.left || cI hs x.right else if x.kind=2 then cI hs x.left&&cI hs x.right else if x.kind=3 then !cI hs x.left
 else if x.kind=4 then true else if x.kind=5 then E.has x.name else if x.kind=6 then decide (E.inp x.name=1)
 else if x.kind=7 then Gh (E.inp x.name) x.mark (if x.other=[] then x.num else E.inp x.other) else false
def JQ(E:G7):List yB->List Bool->List Bool
 | [],hs=>hs
 | x::r,hs=>JQ E r (hs++[Qo E hs x])
def eQ(E:G7)(N:List yB):List Bool:=JQ E N []
theorem JP(E:G7)(N:List yB):∀hs,∃t,JQ E N hs=hs++t/\t.length=N.length:=by
 induction N with
 | nil=>intro hs;exact⟨[],by simp[JQ],rfl⟩
 | cons x r ih =>
   intro hs;obtain⟨t,h1,h2⟩:=ih (hs++[Qo E hs x]);exact⟨Qo E hs x::t,by rw[JQ,h1];simp,by simp[h2]⟩
theorem YC(E:G7)(N:List yB):(eQ E N).length=N.length:=by
 obtain⟨t,h1,h2⟩:=JP E N [];unfold eQ;rw[h1];simpa using h2
theorem CX(E:G7)(N M:List yB):∀hs,JQ E (N++M) hs=JQ E M (JQ E N hs):=by
 induction N with
 | nil=>intro hs;rfl
 | cons x r ih=>intro hs;rw[List.cons_append,JQ,ih,JQ]
theorem YD(E:G7)(N:List yB)(a:Nat)(ha:a<N.length):(eQ E N).getD a false=Qo E (eQ E (N.take a)) (qX N a):=by
 have e:N=N.take a++qX N a::N.drop (a+1):=by
  unfold qX;rw[List.getD,List.getElem?_eq_getElem ha,Option.getD_some,<-List.drop_eq_getElem_cons ha,List.take_append_drop]
 have hl:(eQ E (N.take a)).length=a:=by rw[YC,List.length_take];omega
 unfold eQ
 conv=>lhs;rw[e,CX,JQ]
 obtain⟨t,h1,_⟩:=JP E (N.drop (a+1)) (JQ E (N.take a) []++[Qo E (JQ E (N.take a) []) (qX N a)]);have hl2:(JQ E (N.take a) []).length=a:=hl;rw[h1,List.append_assoc,List.getD,List.getElem?_append_right (by omega),hl2,Nat.sub_self];rfl
theorem un(E:G7)(N:List yB)(a c:Nat)(hc:c<a)(ha:a<=N.length):(eQ E (N.take a)).getD c false=(eQ E N).getD c false:=by
 conv=>rhs;rw[<-List.take_append_drop a N]
 unfold eQ;rw[CX];obtain⟨t,h1,_⟩:=JP E (N.drop a) (JQ E (N.take a) []);have hl:(JQ E (N.take a) []).length=a:=by have:=YC E (N.take a);unfold eQ at this;rw[this,List.length_take];omega
 rw[h1,List.getD,List.getD,List.getElem?_append_left (by omega)]
theorem sQ(E:G7)(N:List yB)(a:Nat)(c:Int)(h0:0<=c)(hc:c<a)(ha:a<=N.length):cI (eQ E (N.take a)) c=(eQ E N).getD c.toNat false:=by
 unfold cI;rw[decide_eq_true h0,YC,List.length_take,decide_eq_true (show c<((min a N.length:Nat):Int) by omega),Bool.true_and,Bool.true_and,un E N a c.toNat (by omega) ha]
def Dh(names:List Bs)(vs:List Int)(E:G7)(x:yB):Prop :=
 (x.kind=5->Vo vs (zM names x.name)/\decide (Yi vs (zM names x.name)=1)=E.has x.name) /\
 (x.kind=6->Vo vs (zM names x.name)/\Yi vs (zM names x.name)=E.inp x.name) /\
 (x.kind=7->Vo vs (zM names x.name)/\Yi vs (zM names x.name)=E.inp x.name/\(x.other≠[]->Vo vs (zM names x.other)/\Yi vs (zM names x.other)=E.inp x.other))
theorem qh{m:Bs}(hm:m∈kS)(x y:Int):rO x m y=Gh x m y:=by
 unfold rO Gh;have h1:∀m∈kS,xR zF7 m=decide (m=[60]\/m=[60,61]\/m=[33,61]):=by decide
 have h2:∀m∈kS,xR zF9 m=decide (m=[60,61]\/m=[61]\/m=[62,61]):=by decide
 have h3:∀m∈kS,xR zF8 m=decide (m=[62]\/m=[62,61]\/m=[33,61]):=by decide
 rw[h1 m hm,h2 m hm,h3 m hm]
def iQ(vs:List Int)(l:List tD)(v:Bool):Prop:=∀st rest,(eK vs rest (st++[v])->eK vs (l++rest) st)/\eB vs (l++rest) st=eB vs rest (st++[v])
theorem iQ.one{vs:List Int}{s:tD}{v:Bool}(h:∀st,U5 vs s st/\qU vs s st=st++[v]):iQ vs [s] v:=fun st rest=>by
 obtain⟨h1,h2⟩:=h st;exact⟨fun h3=>⟨h1,by rw[h2];exact h3⟩,by show eB vs rest (qU vs s st)=_;rw[h2]⟩
theorem iQ.neg{vs:List Int}{l:List tD}{v:Bool}(h:iQ vs l v):iQ vs (l++[⟨4,0,0,[],0⟩]) (!v):=fun st rest=>by
 have h1:=h st (⟨4,0,0,[],0⟩::rest);have e:qU vs ⟨4,0,0,[],0⟩ (st++[v])=st++[!v]:=by simp[qU]
 rw[List.append_assoc];refine⟨fun h3=>h1.1 ⟨⟨by simp,by simp,by simp,by simp,by simp,by simp⟩,by rw[e];exact h3⟩,?_⟩;show eB vs (l++⟨4,0,0,[],0⟩::rest) st=_;rw[h1.2,eB,e]
theorem iQ.bin{vs:List Int}{l r:List tD}{v x:Bool}{kd:Int}(hk:kd=5\/kd=6)(h:iQ vs l v)(h':iQ vs r x):iQ vs (l++r++[⟨kd,0,0,[],0⟩]) (if kd=5 then v&&x else v || x):=fun st rest=>by
 have h1:=h st (r++⟨kd,0,0,[],0⟩::rest);have h2:=h' (st++[v]) (⟨kd,0,0,[],0⟩::rest)
 have e:qU vs ⟨kd,0,0,[],0⟩ (st++[v]++[x])=st++[if kd=5 then v&&x else v || x]:=by
  rcases hk with rfl|rfl <;> simp[qU]
 rw[List.append_assoc,List.append_assoc];refine⟨fun h3=>h1.1 (h2.1 ⟨⟨by rcases hk with rfl|rfl <;> simp,by rcases hk with rfl|rfl <;> simp,by rcases hk with rfl|rfl <;> simp,by rcases hk with rfl|rfl <;> simp,by rcases hk with rfl|rfl <;> simp,by simp⟩,by rw[e];exact h3⟩),?_⟩;show eB vs (l++(r++⟨kd,0,0,[],0⟩::rest)) st=_;rw[h1.2,h2.2,eB,e]
theorem zDL{names:List Bs}{vs:List Int}{E:G7}{k:Nat}{u:zJ}{x:Bs × Int}{N:List yB}{a:Int}(h:Gr k u x N a)(hN:∀y∈N,Dh names vs E y)(n:Nat)(hn:u.length<n):uI n u=true/\iQ vs (uG names n u) ((eQ E N).getD a.toNat false):=by
 have nmem:∀ {N:List yB} {a:Int},0<=a->a<N.length->qX N a.toNat∈N:=fun {N a} h0 h1=>by
  unfold qX;simp[List.getD,show a.toNat<N.length by omega]
 refine Gr.ind (R:=fun _ u _ N a=>(∀y∈N,Dh names vs E y)->∀n,u.length<n->uI n u=true/\iQ vs (uG names n u) ((eQ E N).getD a.toNat false)) ?_ ?_ ?_ ?_ ?_ h hN n hn
 ·intro k u N a h hT hN n hn
  obtain⟨n,rfl⟩:∃m,n=m+1:=⟨n-1,by omega⟩;have e1:yN u vK = -1:=tP vK (.inl rfl) u h.2 0 0 (-1);have e2:yN u yL = -1:=tP yL (.inr rfl) u h.2 0 0 (-1)
  have hp:tT (cA u 0):=by
   obtain⟨h1,h2⟩:=h
   cases u with
   | nil=>exact absurd rfl h1
   | cons t r=>exact h2 t (List.mem_cons_self ..)
  have hl:0<u.length:=List.length_pos_iff.2 h.1;obtain⟨h0,zFY,hk4,-,hTT⟩:=hT;have hE:=hN _ (nmem h0 zFY);have hv:(eQ E N).getD a.toNat false=Qo E (eQ E (N.take a.toNat)) (qX N a.toNat):=YD E N a.toNat (by omega);rw[hv,uI,uG,e1,e2,if_neg (by omega),if_neg (by omega),if_neg hp.2.2.2.2.2,if_neg hp.2.2.2.1,if_neg (by omega),if_neg (by omega),if_neg hp.2.2.2.2.2,if_neg hp.2.2.2.1];generalize qX N a.toNat=y at *;rcases hTT with ⟨k4,t,rfl,c1⟩|⟨k5,t,s,rfl,c1,c2,nm⟩|⟨k6,t,rfl,c1,nm⟩|⟨k7,t,m,s,rfl,c1,nm,hm,mk,ho⟩
  ·refine⟨?_,iQ.one fun st=>?_⟩
   ·have:cA [t] 0≠Yr:=by show zX t.2≠_;rw[c1];decide
    simp[this]
   ·have e:bJ names [t]=⟨0,0,0,[],0⟩:=by unfold bJ;rw[if_pos (show cA [t] 0=Fx from c1)]
    have e3:Qo E (eQ E (N.take a.toNat)) y=true:=by unfold Qo;rw[k4];rfl
    rw[e,e3];exact⟨⟨by simp,by simp,by simp,by simp,by simp,by simp⟩,by simp[qU,eJ]⟩
  ·obtain⟨j1,j2⟩:=hE.1 k5
   refine⟨by simp,iQ.one fun st=>?_⟩
   have e:bJ names [t,s]=⟨1,zM names y.name,0,[],0⟩:=by
    unfold bJ;rw[if_neg (by show ¬zX t.2=_;rw[c1];decide),if_pos (show cA [t,s] 0=Yr from c1),nm];rfl
   have e3:Qo E (eQ E (N.take a.toNat)) y=E.has y.name:=by unfold Qo;rw[k5];rfl
   rw[e,e3,<-j2];exact⟨⟨by simp,fun _=>j1,by simp,by simp,by simp,by simp⟩,by simp[qU,eJ]⟩
  ·obtain⟨j1,j2⟩:=hE.2.1 k6
   have nh:cA [t] 0≠Yr:=by show zX t.2≠_;rw[c1];decide
   refine⟨by simp[nh],iQ.one fun st=>?_⟩
   have e:bJ names [t]=⟨1,zM names y.name,0,[],0⟩:=by
    unfold bJ;rw[if_neg (by show ¬zX t.2=_;rw[c1];decide),if_neg nh,if_neg (by simp),nm];rfl
   have e3:Qo E (eQ E (N.take a.toNat)) y=decide (E.inp y.name=1):=by unfold Qo;rw[k6];rfl
   rw[e,e3,<-j2];exact⟨⟨by simp,fun _=>j1,by simp,by simp,by simp,by simp⟩,by simp[qU,eJ]⟩
  ·obtain⟨j1,j2,j3⟩:=hE.2.2 k7
   have nh:cA [t,m,s] 0≠Yr:=by show zX t.2≠_;rw[c1];decide
   have na:¬cA [t,m,s] 0=Fx:=by show ¬zX t.2=_;rw[c1];decide
   refine⟨by simp,iQ.one fun st=>?_⟩;rcases ho with ⟨cs,ho,zGU⟩|⟨cs,ho,zG7⟩
   ·have e:bJ names [t,m,s]=⟨2,zM names y.name,0,y.mark,y.num⟩:=by
     unfold bJ;rw[if_neg na,if_neg nh,if_pos (show [t,m,s].length=3 from rfl),if_pos (show cA [t,m,s] 2=zV from cs),nm,mk,zGU];rfl
    have e3:Qo E (eQ E (N.take a.toNat)) y=Gh (E.inp y.name) y.mark y.num:=by unfold Qo;rw[k7,ho];rfl
    rw[e,e3,<-j2,<-qh (by rw[mk];exact hm)];exact⟨⟨by simp,by simp,fun _=>j1,by simp,by simp,by simp⟩,by simp[qU,eJ]⟩
   ·have hne':y.other≠[]:=by rw[ho];exact zG7
    obtain⟨j4,j5⟩:=j3 hne'
    have e:bJ names [t,m,s]=⟨3,zM names y.name,zM names y.other,y.mark,0⟩:=by
     unfold bJ;rw[if_neg na,if_neg nh,if_pos (show [t,m,s].length=3 from rfl),if_neg (show ¬cA [t,m,s] 2=zV by show ¬zX s.2=_;rw[cs];decide),nm,mk,ho];rfl
    have e3:Qo E (eQ E (N.take a.toNat)) y=Gh (E.inp y.name) y.mark (E.inp y.other):=by unfold Qo;rw[k7,if_neg hne'];rfl
    rw[e,e3,<-j2,<-j5,<-qh (by rw[mk];exact hm)];exact⟨⟨by simp,by simp,by simp,fun _=>⟨j1,j4⟩,by simp,by simp⟩,by simp[qU,eJ]⟩
 ·intro k t u x N a h1 h2 h3 ih hN n hn
  obtain⟨n,rfl⟩:∃m,n=m+1:=⟨n-1,by omega⟩;have hW:Gr 0 (t::u) (J8 x) N a:=cJ.neg _ _ _ _ _ _ h1 h2 h3;have e1:yN (t::u) vK = -1:=hW.out0 vK (.inl rfl) 0 (-1);have e2:yN (t::u) yL = -1:=hW.out0 yL (.inr rfl) 0 (-1);have hc:cA (t::u) 0=xG:=h1;obtain⟨i1,i2⟩:=ih hN n (by simp at hn;omega);obtain⟨h0,zFY,hk3,hll⟩:=h2;have hb:=h3.bound
  have hv:(eQ E N).getD a.toNat false = !(eQ E N).getD (lf N a).toNat false:=by
   rw[YD E N a.toNat (by omega)];unfold Qo;rw[hk3,<-sQ E N a.toNat (lf N a) hb.1 (by omega) (by omega)];rfl
  rw[hv,uI,uG,e1,e2,if_neg (by omega),if_neg (by omega),if_pos hc,if_neg (by omega),if_neg (by omega),if_pos hc];simp only[List.drop_succ_cons,List.drop_zero,List.length_cons];exact⟨by simp[i1],i2.neg⟩
 ·intro k o u c x N a h1 h2 h3 ih hN n hn
  obtain⟨n,rfl⟩:∃m,n=m+1:=⟨n-1,by omega⟩;have e1:yN (o::(u++[c])) vK = -1:=nJ vK (.inl rfl) h1 h2 h3 0 (-1);have e2:yN (o::(u++[c])) yL = -1:=nJ yL (.inr rfl) h1 h2 h3 0 (-1);have hc:cA (o::(u++[c])) 0=yW:=h1;have hc':¬cA (o::(u++[c])) 0=xG:=by rw[hc];decide
  have hp:=h3.pos;obtain⟨i1,i2⟩:=ih hN n (by simp at hn;omega);rw[uI,uG,e1,e2,if_neg (by omega),if_neg (by omega),if_neg hc',if_pos hc,if_neg (by omega),if_neg (by omega),if_neg hc',if_pos hc];have e3:((o::(u++[c])).drop 1).take ((o::(u++[c])).length-2)=u:=by simp
  rw[e3,i1];exact⟨by simp;omega,i2⟩
 ·intro k u t v x y N a h1 h2 h3 h4 h5 ihu ihv hN n hn
  obtain⟨n,rfl⟩:∃m,n=m+1:=⟨n-1,by omega⟩;have hW:Gr 1 (u++t::v) (Ch x y) N a:=cJ.and _ _ _ _ _ _ _ _ (Nat.le_refl _) h2 h3 h4 h5;have e1:yN (u++t::v) vK = -1:=hW.out1 (Nat.le_refl _) 0 (-1)
  have e2:yN (u++t::v) yL=u.length:=by
   unfold yN;rw[kL,h4.op,uX,h2,dJ,if_pos ⟨rfl,rfl⟩,h5.out0 yL (.inr rfl)];omega
  have hl:(u++t::v).length=u.length+1+v.length:=by simp;omega
  obtain⟨i1,i2⟩:=ihu hN n (by omega);obtain⟨j1,j2⟩:=ihv hN n (by omega);have t1:(u++t::v).take u.length=u:=by simp
  have t2:(u++t::v).drop (u.length+1)=v:=by simp
  obtain⟨h0,zFY,hk2,hll,hrr⟩:=h3;have hb:=h4.bound;have hb':=h5.bound
  have hv:(eQ E N).getD a.toNat false=((eQ E N).getD (lf N a).toNat false&&(eQ E N).getD (rg N a).toNat false):=by
   rw[YD E N a.toNat (by omega)];unfold Qo;rw[hk2,<-sQ E N a.toNat (lf N a) hb.1 (by omega) (by omega),<-sQ E N a.toNat (rg N a) hb'.1 (by omega) (by omega)];rfl
  rw[hv,uI,uG,e1,e2,if_neg (by omega),if_pos (Int.natCast_nonneg _),if_neg (by omega),if_pos (Int.natCast_nonneg _),Int.toNat_natCast,t1,t2,i1,j1];exact⟨rfl,i2.bin (.inl rfl) j2⟩
 ·intro k u t v x y N a h1 h2 h3 h4 h5 ihu ihv hN n hn
  obtain⟨n,rfl⟩:∃m,n=m+1:=⟨n-1,by omega⟩
  have e2:yN (u++t::v) vK=u.length:=by
   unfold yN;rw[kL,h4.op,uX,h2,iG,if_pos ⟨rfl,rfl⟩,h5.out1 (Nat.le_refl _)];omega
  have hl:(u++t::v).length=u.length+1+v.length:=by simp;omega
  obtain⟨i1,i2⟩:=ihu hN n (by omega);obtain⟨j1,j2⟩:=ihv hN n (by omega);have t1:(u++t::v).take u.length=u:=by simp
  have t2:(u++t::v).drop (u.length+1)=v:=by simp
  obtain⟨h0,zFY,hk1,hll,hrr⟩:=h3;have hb:=h4.bound;have hb':=h5.bound
  have hv:(eQ E N).getD a.toNat false=((eQ E N).getD (lf N a).toNat false || (eQ E N).getD (rg N a).toNat false):=by
   rw[YD E N a.toNat (by omega)];unfold Qo;rw[hk1,<-sQ E N a.toNat (lf N a) hb.1 (by omega) (by omega),<-sQ E N a.toNat (rg N a) hb'.1 (by omega) (by omega)];rfl
  rw[hv,uI,uG,e2,if_pos (Int.natCast_nonneg _),if_pos (Int.natCast_nonneg _),Int.toNat_natCast,t1,t2,i1,j1];exact⟨rfl,i2.bin (.inr rfl) j2⟩
theorem zBE{k:Nat}{u:zJ}{x:Bs × Int}{N:List yB}{a:Int}(h:Gr k u x N a)(n:Nat)(hn:u.length<n):uI n u=true:=by
 refine Gr.ind (R:=fun _ u _ _ _=>∀n,u.length<n->uI n u=true) ?_ ?_ ?_ ?_ ?_ h n hn
 ·intro k u N a h hT n hn
  obtain⟨n,rfl⟩:∃m,n=m+1:=⟨n-1,by omega⟩;have e1:yN u vK = -1:=tP vK (.inl rfl) u h.2 0 0 (-1);have e2:yN u yL = -1:=tP yL (.inr rfl) u h.2 0 0 (-1)
  have hp:tT (cA u 0):=by
   obtain⟨h1,h2⟩:=h
   cases u with
   | nil=>exact absurd rfl h1
   | cons t r=>exact h2 t (List.mem_cons_self ..)
  have hl:0<u.length:=List.length_pos_iff.2 h.1;obtain⟨-,-,-,-,hTT⟩:=hT;rw[uI,e1,e2,if_neg (by omega),if_neg (by omega),if_neg hp.2.2.2.2.2,if_neg hp.2.2.2.1];rcases hTT with ⟨k4,t,rfl,c1⟩|⟨k5,t,s,rfl,c1,c2,nm⟩|⟨k6,t,rfl,c1,nm⟩|⟨k7,t,m,s,rfl,c1,nm,hm,mk,ho⟩
  ·have:cA [t] 0≠Yr:=by show zX t.2≠_;rw[c1];decide
   simp[this]
  ·simp
  ·have:cA [t] 0≠Yr:=by show zX t.2≠_;rw[c1];decide
   simp[this]
  ·simp
 ·intro k t u x N a h1 h2 h3 ih n hn
  obtain⟨n,rfl⟩:∃m,n=m+1:=⟨n-1,by omega⟩;have hW:Gr 0 (t::u) (J8 x) N a:=cJ.neg _ _ _ _ _ _ h1 h2 h3;have e1:yN (t::u) vK = -1:=hW.out0 vK (.inl rfl) 0 (-1);have e2:yN (t::u) yL = -1:=hW.out0 yL (.inr rfl) 0 (-1);have hc:cA (t::u) 0=xG:=h1;have i1:=ih n (by simp at hn;omega);rw[uI,e1,e2,if_neg (by omega),if_neg (by omega),if_pos hc];simp[i1]
 ·intro k o u c x N a h1 h2 h3 ih n hn
  obtain⟨n,rfl⟩:∃m,n=m+1:=⟨n-1,by omega⟩;have e1:yN (o::(u++[c])) vK = -1:=nJ vK (.inl rfl) h1 h2 h3 0 (-1);have e2:yN (o::(u++[c])) yL = -1:=nJ yL (.inr rfl) h1 h2 h3 0 (-1);have hc:cA (o::(u++[c])) 0=yW:=h1;have hc':¬cA (o::(u++[c])) 0=xG:=by rw[hc];decide
  have hp:=h3.pos;have i1:=ih n (by simp at hn;omega);rw[uI,e1,e2,if_neg (by omega),if_neg (by omega),if_neg hc',if_pos hc];have e3:((o::(u++[c])).drop 1).take ((o::(u++[c])).length-2)=u:=by simp
  rw[e3,i1];simp;omega
 ·intro k u t v x y N a h1 h2 h3 h4 h5 ihu ihv n hn
  obtain⟨n,rfl⟩:∃m,n=m+1:=⟨n-1,by omega⟩;have hW:Gr 1 (u++t::v) (Ch x y) N a:=cJ.and _ _ _ _ _ _ _ _ (Nat.le_refl _) h2 h3 h4 h5;have e1:yN (u++t::v) vK = -1:=hW.out1 (Nat.le_refl _) 0 (-1)
  have e2:yN (u++t::v) yL=u.length:=by
   unfold yN;rw[kL,h4.op,uX,h2,dJ,if_pos ⟨rfl,rfl⟩,h5.out0 yL (.inr rfl)];omega
  have hl:(u++t::v).length=u.length+1+v.length:=by simp;omega
  have i1:=ihu n (by omega);have j1:=ihv n (by omega);have t1:(u++t::v).take u.length=u:=by simp
  have t2:(u++t::v).drop (u.length+1)=v:=by simp
  rw[uI,e1,e2,if_neg (by omega),if_pos (Int.natCast_nonneg _),Int.toNat_natCast,t1,t2,i1,j1];rfl
 ·intro k u t v x y N a h1 h2 h3 h4 h5 ihu ihv n hn
  obtain⟨n,rfl⟩:∃m,n=m+1:=⟨n-1,by omega⟩
  have e2:yN (u++t::v) vK=u.length:=by
   unfold yN;rw[kL,h4.op,uX,h2,iG,if_pos ⟨rfl,rfl⟩,h5.out1 (Nat.le_refl _)];omega
  have hl:(u++t::v).length=u.length+1+v.length:=by simp;omega
  have i1:=ihu n (by omega);have j1:=ihv n (by omega);have t1:(u++t::v).take u.length=u:=by simp
  have t2:(u++t::v).drop (u.length+1)=v:=by simp
  rw[uI,e2,if_pos (Int.natCast_nonneg _),Int.toNat_natCast,t1,t2,i1,j1];rfl
def Qg(m:Bool):Int:=if m then -1 else 1
def vB(names:List Bs)(x:xC):qE:=if x.name=[] then ⟨-1,Qg x.minus*x.num⟩ else if x.starred then ⟨zM names x.name,Qg x.minus*x.num⟩ else ⟨zM names x.name,Qg x.minus⟩
theorem cB{ts v:zJ}{i:Nat}(h:ts.drop i=v)(j:Nat):cA ts (i+j)=cA v j/\tA ts (i+j)=tA v j:=by
 subst h;unfold cA tA;simp[List.getD]
theorem C7{names:List Bs}{ts v:zJ}{i:Nat}{sg:Int}{acc:List qE}{x:xC}{v1 r:zJ}(h:ts.drop i=v)(hv:v=v1++r)(hp:Jm x v1)(hs:sg=Qg x.minus)(hi:i=0\/cA ts (i-1)≠[42]) :
 sF names ts (ts.length-i) i sg acc=sF names ts (ts.length-(i+v1.length)) (i+v1.length) sg (acc++[vB names x]):=by
 have hl:i+v1.length<=ts.length/\0<v1.length:=by
  have h1:=congrArg List.length h;rw[hv,List.length_drop,List.length_append]at h1;have h2:0<v1.length:=by rcases hp with ⟨a,b,c,rfl,_⟩|⟨a,rfl,_⟩|⟨a,rfl,_⟩ <;> simp
  omega
 subst hv;rcases hp with ⟨a,b,c,rfl,c1,c2,c3,zG7,zGD,hnu,hnm⟩|⟨a,rfl,c1,zGD,hnu,hnm⟩|⟨a,rfl,c1,zG7,zGD,hnu,hnm⟩
 ·have e0:cA ts i=zV/\tA ts i=a.2:=by have:=cB h 0;simp only[Nat.add_zero]at this;exact⟨this.1.trans c1,this.2⟩
  have e1:cA ts (i+1)=[42]:=(cB h 1).1.trans c2;have e2:cA ts (i+2)=yP/\tA ts (i+2)=c.2:=⟨(cB h 2).1.trans c3,(cB h 2).2⟩;simp only[List.length_cons,List.length_nil]at hl ⊢;rw[bH names ts i sg acc (by omega)];have s0:uB names ts i sg acc=(sg,acc++[⟨-1,sg*xH 0 a.2⟩]):=by unfold uB;rw[e0.1,e0.2,if_neg (by decide),if_neg (by decide),if_pos rfl]
  rw[s0,bH names ts (i+1) _ _ (by omega)];have s1:uB names ts (i+1) sg (acc++[⟨-1,sg*xH 0 a.2⟩])=(sg,acc++[⟨zM names c.2,sg*xH 0 a.2⟩]):=by unfold uB;rw[e1,if_neg (by decide),if_neg (by decide),if_neg (by decide),if_pos rfl,e2.2];simp
  rw[s1,bH names ts (i+1+1) _ _ (by omega)]
  have s2:uB names ts (i+1+1) sg (acc++[⟨zM names c.2,sg*xH 0 a.2⟩])=(sg,acc++[⟨zM names c.2,sg*xH 0 a.2⟩]):=by
   unfold uB;rw[show i+1+1=i+2 by omega,e2.1,if_neg (by decide),if_neg (by decide),if_neg (by decide),if_neg (by decide),if_pos rfl,if_neg (by rintro(h1|h1);omega;exact h1 (by rw[show i+2-1=i+1 by omega];exact e1))]
  rw[s2];have ed:vB names x=⟨zM names c.2,sg*xH 0 a.2⟩:=by unfold vB;rw[hnm,if_neg zG7,zGD,if_pos rfl,hnu,hs]
  rw[ed]
 ·have e0:cA ts i=zV/\tA ts i=a.2:=by have:=cB h 0;simp only[Nat.add_zero]at this;exact⟨this.1.trans c1,this.2⟩
  simp only[List.length_cons,List.length_nil]at hl ⊢;rw[bH names ts i sg acc (by omega)];have s0:uB names ts i sg acc=(sg,acc++[⟨-1,sg*xH 0 a.2⟩]):=by unfold uB;rw[e0.1,e0.2,if_neg (by decide),if_neg (by decide),if_pos rfl]
  have ed:vB names x=⟨-1,sg*xH 0 a.2⟩:=by unfold vB;rw[hnm,if_pos rfl,hnu,hs]
  rw[s0,ed]
 ·have e0:cA ts i=yP/\tA ts i=a.2:=by have:=cB h 0;simp only[Nat.add_zero]at this;exact⟨this.1.trans c1,this.2⟩
  simp only[List.length_cons,List.length_nil]at hl ⊢;rw[bH names ts i sg acc (by omega)];have s0:uB names ts i sg acc=(sg,acc++[⟨zM names a.2,sg⟩]):=by unfold uB;rw[e0.1,e0.2,if_neg (by decide),if_neg (by decide),if_neg (by decide),if_neg (by decide),if_pos rfl,if_pos hi]
  have ed:vB names x=⟨zM names a.2,sg⟩:=by unfold vB;rw[hnm,if_neg zG7,zGD,hs];rfl
  rw[s0,ed]
theorem zAB{names:List Bs}{ts:zJ}(S:List xC):∀ {m:Bool} {v:zJ} {i:Nat} {sg:Int} {acc:List qE},ts.drop i=v->VU m S v->sg=Qg m->(i=0\/cA ts (i-1)≠[42]) ->
 sF names ts (ts.length-i) i sg acc=acc++S.map (vB names):=by
 induction S with
 | nil=>intro m v i sg acc _ h;exact h.elim
 | cons x r ih =>
   intro m v i sg acc h hS hs hi;obtain⟨hm,hS⟩:=hS;rcases hS with ⟨rfl,hp⟩|⟨v1,t,v2,rfl,hp,hr⟩
   ·rw[C7 (r:=[]) h (by simp) hp (by rw[hm];exact hs) hi]
    have hl:=congrArg List.length h;rw[List.length_drop]at hl;have h2:0<v.length:=by rcases hp with ⟨a,b,c,rfl,_⟩|⟨a,rfl,_⟩|⟨a,rfl,_⟩ <;> simp
    rw[show ts.length-(i+v.length)=0 by omega,sF];rfl
   ·rw[C7 (r:=t::v2) h rfl hp (by rw[hm];exact hs) hi]
    have hl:=congrArg List.length h;rw[List.length_drop,List.length_append,List.length_cons]at hl
    have ht:cA ts (i+v1.length)=zX t.2:=by
     rw[(cB h v1.length).1];unfold cA tA;rw[List.getD,List.getElem?_append_right (Nat.le_refl _),Nat.sub_self];rfl
    have hd:ts.drop (i+v1.length+1)=v2:=by
     rw[show i+v1.length+1=i+(v1.length+1) by omega,<-List.drop_drop,h];simp
    rw[bH names ts (i+v1.length) _ _ (by omega)];rcases hr with ⟨c,hr⟩|⟨c,hr⟩
    ·have s0:uB names ts (i+v1.length) sg (acc++[vB names x])=(-1,acc++[vB names x]):=by unfold uB;rw[ht,c,if_neg (by decide),if_pos rfl]
     rw[s0];refine(ih hd hr (show (-1:Int)=Qg true from rfl) (.inr (by rw[Nat.add_sub_cancel,ht,c];decide))).trans (by simp)
    ·have s0:uB names ts (i+v1.length) sg (acc++[vB names x])=(1,acc++[vB names x]):=by unfold uB;rw[ht,c,if_pos rfl]
     rw[s0];refine(ih hd hr (show (1:Int)=Qg false from rfl) (.inr (by rw[Nat.add_sub_cancel,ht,c];decide))).trans (by simp)
theorem KB{names:List Bs}{v:zJ}{S:List xC}(h:VU false S v):oJ names v=S.map (vB names):=by
 unfold oJ;have:=zAB (names:=names) (ts:=v) S (i:=0) (acc:=[]) (sg:=1) rfl h rfl (.inl rfl);simpa using this
theorem Uz{x:xC}{v1:zJ}(hp:Jm x v1){ts:zJ}(hT:fO ts){i:Nat}{r:zJ}(h:ts.drop i=v1++r):∀j,j<v1.length->(cA ts (i+j)=[42]->0<j/\cA ts (i+j-1)=zV/\i+j+1<ts.length)/\(cA ts (i+j)=zV->0<=xH 0 (tA ts (i+j))/\xH 0 (tA ts (i+j))<=9999):=by
 have hl:=congrArg List.length h;rw[List.length_drop,List.length_append]at hl;intro j hj;refine⟨fun hc=>?_,fun hc=>(Xk (hT.at' (by omega)) hc).1⟩;rw[(cB h j).1]at hc;rcases hp with ⟨a,b,c,rfl,c1,c2,c3,zG7,zGD,hnu,hnm⟩|⟨a,rfl,c1,zGD,hnu,hnm⟩|⟨a,rfl,c1,zG7,zGD,hnu,hnm⟩
 ·simp only[List.length_cons,List.length_nil]at hj hl
  have:j=0\/j=1\/j=2:=by omega
  rcases this with rfl|rfl|rfl
  ·exact absurd (show zX a.2=[42] from hc) (by rw[c1];decide)
  ·have e:=(cB h 0).1
   rw[Nat.add_zero]at e;exact⟨by decide,by rw[Nat.add_sub_cancel,e];exact c1,by omega⟩
  ·exact absurd (show zX c.2=[42] from hc) (by rw[c3];decide)
 ·simp only[List.length_cons,List.length_nil]at hj
  obtain rfl:j=0:=by omega
  exact absurd (show zX a.2=[42] from hc) (by rw[c1];decide)
 ·simp only[List.length_cons,List.length_nil]at hj
  obtain rfl:j=0:=by omega
  exact absurd (show zX a.2=[42] from hc) (by rw[c1];decide)
theorem Dv{ts:zJ}(hT:fO ts)(S:List xC):∀ {m:Bool} {v:zJ} {i:Nat},ts.drop i=v->VU m S v->∀k,i<=k->k<ts.length->(cA ts k=[42]->0<k/\cA ts (k-1)=zV/\k+1<ts.length)/\(cA ts k=zV->0<=xH 0 (tA ts k)/\xH 0 (tA ts k)<=9999):=by
 induction S with
 | nil=>intro m v i _ h;exact h.elim
 | cons x r ih =>
   intro m v i h hS k hk hkl;obtain⟨-,hS⟩:=hS
   have fin:∀ {v1 rr:zJ},v=v1++rr->Jm x v1->k<i+v1.length->(cA ts k=[42]->0<k/\cA ts (k-1)=zV/\k+1<ts.length)/\(cA ts k=zV->0<=xH 0 (tA ts k)/\xH 0 (tA ts k)<=9999):=fun {v1 rr} hv hp hkk=>by
    subst hv;have:=Uz hp hT h (k-i) (by omega);rw[show i+(k-i)=k by omega]at this;exact⟨fun hc=>⟨by have:=(this.1 hc).1;omega,(this.1 hc).2⟩,this.2⟩
   have hl:=congrArg List.length h;rw[List.length_drop]at hl;rcases hS with ⟨rfl,hp⟩|⟨v1,t,v2,rfl,hp,hr⟩
   ·exact fin (v1:=v) (rr:=[]) (by simp) hp (by omega)
   ·rcases Nat.lt_or_ge k (i+v1.length) with h1|h1
    ·exact fin rfl hp h1
    ·have ht:cA ts (i+v1.length)=zX t.2:=by
      rw[(cB h v1.length).1];unfold cA tA;rw[List.getD,List.getElem?_append_right (Nat.le_refl _),Nat.sub_self];rfl
     have hd:ts.drop (i+v1.length+1)=v2:=by
      rw[show i+v1.length+1=i+(v1.length+1) by omega,<-List.drop_drop,h];simp
     rcases Nat.lt_or_ge k (i+v1.length+1) with h2|h2
     ·obtain rfl:k=i+v1.length:=by omega
      rw[ht];rcases hr with ⟨c,_⟩|⟨c,_⟩ <;> (rw[c];exact⟨fun e=>absurd e (by decide),fun e=>absurd e (by decide)⟩)
     ·rcases hr with ⟨c,hr⟩|⟨c,hr⟩
      ·exact ih hd hr k h2 hkl
      ·exact ih hd hr k h2 hkl
theorem GL{ts:zJ}(h:fO ts)(a b:Nat):fO ((ts.drop a).take b):=fun t ht=>h t (List.mem_of_mem_drop (List.mem_of_mem_take ht))
theorem zFI{x:zH}{u:zJ}(h:LT x u)(hk:cA u 0=zW):zFS u:=by
 obtain⟨w,hr⟩:=h.rule hk;have hw:=hr.wAt;have e:(u.drop 5).take (w-5)=(u.take w).drop 5:=by rw[List.drop_take]
 refine⟨by rw[hr.wB,hw],by rw[hw];exact hr.wlo,by rw[hw];exact hr.whi,?_,?_⟩
 ·rw[hw]
  have hT:=GL h.toks 5 (w-5);have hS:=hr.sums;rw[<-e]at hS;have:=fun k hk'=>Dv hT x.sum (i:=0) rfl hS k (Nat.zero_le _) hk';exact⟨fun i hi=>(this i hi).1,fun i hi=>(this i hi).2⟩
 ·rw[hw]
  obtain⟨k,y,hg⟩:=hr.gr;exact zBE hg _ (by rw[List.length_drop];omega)
end Go.Proofs.YtnbpdffdnphbeaaGreatDoor
