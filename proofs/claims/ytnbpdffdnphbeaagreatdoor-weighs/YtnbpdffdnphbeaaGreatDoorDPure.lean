import Derived.Test.YtnbpdffdnphbeaaGreatDoorDHolds
import Derived.Test.YtnbpdffdnphbeaaGreatDoorDRead
namespace Go.Proofs.YtnbpdffdnphbeaaGreatDoor
structure G8 where
 has:Bs->Bool
 inp:Bs->Int
def Gk(x:Int)(m:Bs)(y:Int):Bool:=if x<y then decide (m=[60]\/m=[60,61]\/m=[33,61]) else if x=y then decide (m=[60,61]\/m=[61]\/m=[62,61]) else decide (m=[62]\/m=[62,61]\/m=[33,61])
abbrev cI(l:List Bool)(a:Int):Bool:=decide (0<=a)&&(decide (a<l.length)&&l.getD a.toNat false)
def Qo(E:G8)(hs:List Bool)(x:yB):Bool :=
 if x.kind=1 then cI hs x.left || cI hs x.right else if x.kind=2 then cI hs x.left&&cI hs x.right else if x.kind=3 then !cI hs x.left
 else if x.kind=4 then true else if x.kind=5 then E.has x.name else if x.kind=6 then decide (E.inp x.name=1)
 else if x.kind=7 then Gk (E.inp x.name) x.mark (if x.other=[] then x.num else E.inp x.other) else false
def JR(E:G8):List yB->List Bool->List Bool
 | [],hs=>hs
 | x::r,hs=>JR E r (hs++[Qo E hs x])
def eM(E:G8)(N:List yB):List Bool:=JR E N []
theorem JQ(E:G8)(N:List yB):∀hs,∃t,JR E N hs=hs++t/\t.length=N.length:=by
 induction N with
 | nil=>intro hs;exact⟨[],by simp[JR],rfl⟩
 | cons x r ih =>
   intro hs;obtain⟨t,h1,h2⟩:=ih (hs++[Qo E hs x]);exact⟨Qo E hs x::t,by rw[JR,h1];simp,by simp[h2]⟩
theorem YD(E:G8)(N:List yB):(eM E N).length=N.length:=by
 obtain⟨t,h1,h2⟩:=JQ E N [];unfold eM;rw[h1];simpa using h2
theorem CY(E:G8)(N M:List yB):∀hs,JR E (N++M) hs=JR E M (JR E N hs):=by
 induction N with
 | nil=>intro hs;rfl
 | cons x r ih=>intro hs;rw[List.cons_append,JR,ih,JR]
theorem YE(E:G8)(N:List yB)(a:Nat)(ha:a<N.length):(eM E N).getD a false=Qo E (eM E (N.take a)) (qX N a):=by
 have e:N=N.take a++qX N a::N.drop (a+1):=by
  unfold qX;rw[List.getD,List.getElem?_eq_getElem ha,Option.getD_some,<-List.drop_eq_getElem_cons ha,List.take_append_drop]
 have hl:(eM E (N.take a)).length=a:=by rw[YD,List.length_take];omega
 unfold eM
 conv=>lhs;rw[e,CY,JR]
 obtain⟨t,h1,_⟩:=JQ E (N.drop (a+1)) (JR E (N.take a) []++[Qo E (JR E (N.take a) []) (qX N a)]);have hl2:(JR E (N.take a) []).length=a:=hl;rw[h1,List.append_assoc,List.getD,List.getElem?_append_right (by omega),hl2,Nat.sub_self];rfl
theorem uo(E:G8)(N:List yB)(a c:Nat)(hc:c<a)(ha:a<=N.length):(eM E (N.take a)).getD c false=(eM E N).getD c false:=by
 conv=>rhs;rw[<-List.take_append_drop a N]
 unfold eM;rw[CY];obtain⟨t,h1,_⟩:=JQ E (N.drop a) (JR E (N.take a) []);have hl:(JR E (N.take a) []).length=a:=by have:=YD E (N.take a);unfold eM at this;rw[this,List.length_take];omega
 rw[h1,List.getD,List.getD,List.getElem?_append_left (by omega)]
theorem sO(E:G8)(N:List yB)(a:Nat)(c:Int)(h0:0<=c)(hc:c<a)(ha:a<=N.length):cI (eM E (N.take a)) c=(eM E N).getD c.toNat false:=by
 unfold cI;rw[decide_eq_true h0,YD,List.length_take,decide_eq_true (show c<((min a N.length:Nat):Int) by omega),Bool.true_and,Bool.true_and,uo E N a c.toNat (by omega) ha]
def Di(names:List Bs)(vs:List Int)(E:G8)(x:yB):Prop :=
 (x.kind=5->Vp vs (zM names x.name)/\decide (Yj vs (zM names x.name)=1)=E.has x.name) /\
 (x.kind=6->Vp vs (zM names x.name)/\Yj vs (zM names x.name)=E.inp x.name) /\
 (x.kind=7->Vp vs (zM names x.name)/\Yj vs (zM names x.name)=E.inp x.name/\(x.other≠[]->Vp vs (zM names x.other)/\Yj vs (zM names x.other)=E.inp x.other))
theorem qi{m:Bs}(hm:m∈kS)(x y:Int):rL x m y=Gk x m y:=by
 unfold rL Gk;have h1:∀m∈kS,xR zF7 m=decide (m=[60]\/m=[60,61]\/m=[33,61]):=by decide
 have h2:∀m∈kS,xR zF9 m=decide (m=[60,61]\/m=[61]\/m=[62,61]):=by decide
 have h3:∀m∈kS,xR zF8 m=decide (m=[62]\/m=[62,61]\/m=[33,61]):=by decide
 rw[h1 m hm,h2 m hm,h3 m hm]
def iO(vs:List Int)(l:List tD)(v:Bool):Prop:=∀st rest,(eI vs rest (st++[v])->eI vs (l++rest) st)/\aZ vs (l++rest) st=aZ vs rest (st++[v])
theorem iO.one{vs:List Int}{s:tD}{v:Bool}(h:∀st,U7 vs s st/\qU vs s st=st++[v]):iO vs [s] v:=fun st rest=>by
 obtain⟨h1,h2⟩:=h st;exact⟨fun h3=>⟨h1,by rw[h2];exact h3⟩,by show aZ vs rest (qU vs s st)=_;rw[h2]⟩
theorem iO.neg{vs:List Int}{l:List tD}{v:Bool}(h:iO vs l v):iO vs (l++[⟨4,0,0,[],0⟩]) (!v):=fun st rest=>by
 have h1:=h st (⟨4,0,0,[],0⟩::rest);have e:qU vs ⟨4,0,0,[],0⟩ (st++[v])=st++[!v]:=by simp[qU]
 rw[List.append_assoc];refine⟨fun h3=>h1.1 ⟨⟨by simp,by simp,by simp,by simp,by simp,by simp⟩,by rw[e];exact h3⟩,?_⟩;show aZ vs (l++⟨4,0,0,[],0⟩::rest) st=_;rw[h1.2,aZ,e]
theorem iO.bin{vs:List Int}{l r:List tD}{v x:Bool}{kd:Int}(hk:kd=5\/kd=6)(h:iO vs l v)(h':iO vs r x):iO vs (l++r++[⟨kd,0,0,[],0⟩]) (if kd=5 then v&&x else v || x):=fun st rest=>by
 have h1:=h st (r++⟨kd,0,0,[],0⟩::rest);have h2:=h' (st++[v]) (⟨kd,0,0,[],0⟩::rest)
 have e:qU vs ⟨kd,0,0,[],0⟩ (st++[v]++[x])=st++[if kd=5 then v&&x else v || x]:=by
  rcases hk with rfl|rfl <;> simp[qU]
 rw[List.append_assoc,List.append_assoc];refine⟨fun h3=>h1.1 (h2.1 ⟨⟨by rcases hk with rfl|rfl <;> simp,by rcases hk with rfl|rfl <;> simp,by rcases hk with rfl|rfl <;> simp,by rcases hk with rfl|rfl <;> simp,by rcases hk with rfl|rfl <;> simp,by simp⟩,by rw[e];exact h3⟩),?_⟩;show aZ vs (l++(r++⟨kd,0,0,[],0⟩::rest)) st=_;rw[h1.2,h2.2,aZ,e]
theorem zDL{names:List Bs}{vs:List Int}{E:G8}{k:Nat}{u:zI}{x:Bs × Int}{N:List yB}{a:Int}(h:Gr k u x N a)(hN:∀y∈N,Di names vs E y)(n:Nat)(hn:u.length<n):uI n u=true/\iO vs (uF names n u) ((eM E N).getD a.toNat false):=by
 have nmem:∀ {N:List yB} {a:Int},0<=a->a<N.length->qX N a.toNat∈N:=fun {N a} h0 h1=>by
  unfold qX;simp[List.getD,show a.toNat<N.length by omega]
 refine Gr.ind (R:=fun _ u _ N a=>(∀y∈N,Di names vs E y)->∀n,u.length<n->uI n u=true/\iO vs (uF names n u) ((eM E N).getD a.toNat false)) ?_ ?_ ?_ ?_ ?_ h hN n hn
 ·intro k u N a h hT hN n hn
  obtain⟨n,rfl⟩:∃m,n=m+1:=⟨n-1,by omega⟩;have e1:yM u vK = -1:=tQ vK (.inl rfl) u h.2 0 0 (-1);have e2:yM u yL = -1:=tQ yL (.inr rfl) u h.2 0 0 (-1)
  have hp:tT (cA u 0):=by
   obtain⟨h1,h2⟩:=h
   cases u with
   | nil=>exact absurd rfl h1
   | cons t r=>exact h2 t (List.mem_cons_self ..)
  have hl:0<u.length:=List.length_pos_iff.2 h.1;obtain⟨h0,zFZ,hk4,-,hTT⟩:=hT;have hE:=hN _ (nmem h0 zFZ);have hv:(eM E N).getD a.toNat false=Qo E (eM E (N.take a.toNat)) (qX N a.toNat):=YE E N a.toNat (by omega);rw[hv,uI,uF,e1,e2,if_neg (by omega),if_neg (by omega),if_neg hp.2.2.2.2.2,if_neg hp.2.2.2.1,if_neg (by omega),if_neg (by omega),if_neg hp.2.2.2.2.2,if_neg hp.2.2.2.1];generalize qX N a.toNat=y at *;rcases hTT with ⟨k4,t,rfl,c1⟩|⟨k5,t,s,rfl,c1,c2,nm⟩|⟨k6,t,rfl,c1,nm⟩|⟨k7,t,m,s,rfl,c1,nm,hm,mk,ho⟩
  ·refine⟨?_,iO.one fun st=>?_⟩
   ·have:cA [t] 0≠Ys:=by show zX t.2≠_;rw[c1];decide
    simp[this]
   ·have e:bJ names [t]=⟨0,0,0,[],0⟩:=by unfold bJ;rw[if_pos (show cA [t] 0=F0 from c1)]
    have e3:Qo E (eM E (N.take a.toNat)) y=true:=by unfold Qo;rw[k4];rfl
    rw[e,e3];exact⟨⟨by simp,by simp,by simp,by simp,by simp,by simp⟩,by simp[qU,eH]⟩
  ·obtain⟨j1,j2⟩:=hE.1 k5
   refine⟨by simp,iO.one fun st=>?_⟩
   have e:bJ names [t,s]=⟨1,zM names y.name,0,[],0⟩:=by
    unfold bJ;rw[if_neg (by show ¬zX t.2=_;rw[c1];decide),if_pos (show cA [t,s] 0=Ys from c1),nm];rfl
   have e3:Qo E (eM E (N.take a.toNat)) y=E.has y.name:=by unfold Qo;rw[k5];rfl
   rw[e,e3,<-j2];exact⟨⟨by simp,fun _=>j1,by simp,by simp,by simp,by simp⟩,by simp[qU,eH]⟩
  ·obtain⟨j1,j2⟩:=hE.2.1 k6
   have nh:cA [t] 0≠Ys:=by show zX t.2≠_;rw[c1];decide
   refine⟨by simp[nh],iO.one fun st=>?_⟩
   have e:bJ names [t]=⟨1,zM names y.name,0,[],0⟩:=by
    unfold bJ;rw[if_neg (by show ¬zX t.2=_;rw[c1];decide),if_neg nh,if_neg (by simp),nm];rfl
   have e3:Qo E (eM E (N.take a.toNat)) y=decide (E.inp y.name=1):=by unfold Qo;rw[k6];rfl
   rw[e,e3,<-j2];exact⟨⟨by simp,fun _=>j1,by simp,by simp,by simp,by simp⟩,by simp[qU,eH]⟩
  ·obtain⟨j1,j2,j3⟩:=hE.2.2 k7
   have nh:cA [t,m,s] 0≠Ys:=by show zX t.2≠_;rw[c1];decide
   have na:¬cA [t,m,s] 0=F0:=by show ¬zX t.2=_;rw[c1];decide
   refine⟨by simp,iO.one fun st=>?_⟩;rcases ho with ⟨cs,ho,zGV⟩|⟨cs,ho,zG8⟩
   ·have e:bJ names [t,m,s]=⟨2,zM names y.name,0,y.mark,y.num⟩:=by
     unfold bJ;rw[if_neg na,if_neg nh,if_pos (show [t,m,s].length=3 from rfl),if_pos (show cA [t,m,s] 2=zV from cs),nm,mk,zGV];rfl
    have e3:Qo E (eM E (N.take a.toNat)) y=Gk (E.inp y.name) y.mark y.num:=by unfold Qo;rw[k7,ho];rfl
    rw[e,e3,<-j2,<-qi (by rw[mk];exact hm)];exact⟨⟨by simp,by simp,fun _=>j1,by simp,by simp,by simp⟩,by simp[qU,eH]⟩
   ·have hne':y.other≠[]:=by rw[ho];exact zG8
    obtain⟨j4,j5⟩:=j3 hne'
    have e:bJ names [t,m,s]=⟨3,zM names y.name,zM names y.other,y.mark,0⟩:=by
     unfold bJ;rw[if_neg na,if_neg nh,if_pos (show [t,m,s].length=3 from rfl),if_neg (show ¬cA [t,m,s] 2=zV by show ¬zX s.2=_;rw[cs];decide),nm,mk,ho];rfl
    have e3:Qo E (eM E (N.take a.toNat)) y=Gk (E.inp y.name) y.mark (E.inp y.other):=by unfold Qo;rw[k7,if_neg hne'];rfl
    rw[e,e3,<-j2,<-j5,<-qi (by rw[mk];exact hm)];exact⟨⟨by simp,by simp,by simp,fun _=>⟨j1,j4⟩,by simp,by simp⟩,by simp[qU,eH]⟩
 ·intro k t u x N a h1 h2 h3 ih hN n hn
  obtain⟨n,rfl⟩:∃m,n=m+1:=⟨n-1,by omega⟩;have hW:Gr 0 (t::u) (J9 x) N a:=cJ.neg _ _ _ _ _ _ h1 h2 h3;have e1:yM (t::u) vK = -1:=hW.out0 vK (.inl rfl) 0 (-1);have e2:yM (t::u) yL = -1:=hW.out0 yL (.inr rfl) 0 (-1);have hc:cA (t::u) 0=xF:=h1;obtain⟨i1,i2⟩:=ih hN n (by simp at hn;omega);obtain⟨h0,zFZ,hk3,hll⟩:=h2;have hb:=h3.bound
  have hv:(eM E N).getD a.toNat false = !(eM E N).getD (lf N a).toNat false:=by
   rw[YE E N a.toNat (by omega)];unfold Qo;rw[hk3,<-sO E N a.toNat (lf N a) hb.1 (by omega) (by omega)];rfl
  rw[hv,uI,uF,e1,e2,if_neg (by omega),if_neg (by omega),if_pos hc,if_neg (by omega),if_neg (by omega),if_pos hc];simp only[List.drop_succ_cons,List.drop_zero,List.length_cons];exact⟨by simp[i1],i2.neg⟩
 ·intro k o u c x N a h1 h2 h3 ih hN n hn
  obtain⟨n,rfl⟩:∃m,n=m+1:=⟨n-1,by omega⟩;have e1:yM (o::(u++[c])) vK = -1:=nH vK (.inl rfl) h1 h2 h3 0 (-1);have e2:yM (o::(u++[c])) yL = -1:=nH yL (.inr rfl) h1 h2 h3 0 (-1);have hc:cA (o::(u++[c])) 0=yU:=h1;have hc':¬cA (o::(u++[c])) 0=xF:=by rw[hc];decide
  have hp:=h3.pos;obtain⟨i1,i2⟩:=ih hN n (by simp at hn;omega);rw[uI,uF,e1,e2,if_neg (by omega),if_neg (by omega),if_neg hc',if_pos hc,if_neg (by omega),if_neg (by omega),if_neg hc',if_pos hc];have e3:((o::(u++[c])).drop 1).take ((o::(u++[c])).length-2)=u:=by simp
  rw[e3,i1];exact⟨by simp;omega,i2⟩
 ·intro k u t v x y N a h1 h2 h3 h4 h5 ihu ihv hN n hn
  obtain⟨n,rfl⟩:∃m,n=m+1:=⟨n-1,by omega⟩;have hW:Gr 1 (u++t::v) (Ci x y) N a:=cJ.and _ _ _ _ _ _ _ _ (Nat.le_refl _) h2 h3 h4 h5;have e1:yM (u++t::v) vK = -1:=hW.out1 (Nat.le_refl _) 0 (-1)
  have e2:yM (u++t::v) yL=u.length:=by
   unfold yM;rw[kL,h4.op,uX,h2,dJ,if_pos ⟨rfl,rfl⟩,h5.out0 yL (.inr rfl)];omega
  have hl:(u++t::v).length=u.length+1+v.length:=by simp;omega
  obtain⟨i1,i2⟩:=ihu hN n (by omega);obtain⟨j1,j2⟩:=ihv hN n (by omega);have t1:(u++t::v).take u.length=u:=by simp
  have t2:(u++t::v).drop (u.length+1)=v:=by simp
  obtain⟨h0,zFZ,hk2,hll,hrr⟩:=h3;have hb:=h4.bound;have hb':=h5.bound
  have hv:(eM E N).getD a.toNat false=((eM E N).getD (lf N a).toNat false&&(eM E N).getD (rg N a).toNat false):=by
   rw[YE E N a.toNat (by omega)];unfold Qo;rw[hk2,<-sO E N a.toNat (lf N a) hb.1 (by omega) (by omega),<-sO E N a.toNat (rg N a) hb'.1 (by omega) (by omega)];rfl
  rw[hv,uI,uF,e1,e2,if_neg (by omega),if_pos (Int.natCast_nonneg _),if_neg (by omega),if_pos (Int.natCast_nonneg _),Int.toNat_natCast,t1,t2,i1,j1];exact⟨rfl,i2.bin (.inl rfl) j2⟩
 ·intro k u t v x y N a h1 h2 h3 h4 h5 ihu ihv hN n hn
  obtain⟨n,rfl⟩:∃m,n=m+1:=⟨n-1,by omega⟩
  have e2:yM (u++t::v) vK=u.length:=by
   unfold yM;rw[kL,h4.op,uX,h2,iE,if_pos ⟨rfl,rfl⟩,h5.out1 (Nat.le_refl _)];omega
  have hl:(u++t::v).length=u.length+1+v.length:=by simp;omega
  obtain⟨i1,i2⟩:=ihu hN n (by omega);obtain⟨j1,j2⟩:=ihv hN n (by omega);have t1:(u++t::v).take u.length=u:=by simp
  have t2:(u++t::v).drop (u.length+1)=v:=by simp
  obtain⟨h0,zFZ,hk1,hll,hrr⟩:=h3;have hb:=h4.bound;have hb':=h5.bound
  have hv:(eM E N).getD a.toNat false=((eM E N).getD (lf N a).toNat false || (eM E N).getD (rg N a).toNat false):=by
   rw[YE E N a.toNat (by omega)];unfold Qo;rw[hk1,<-sO E N a.toNat (lf N a) hb.1 (by omega) (by omega),<-sO E N a.toNat (rg N a) hb'.1 (by omega) (by omega)];rfl
  rw[hv,uI,uF,e2,if_pos (Int.natCast_nonneg _),if_pos (Int.natCast_nonneg _),Int.toNat_natCast,t1,t2,i1,j1];exact⟨rfl,i2.bin (.inr rfl) j2⟩
theorem zBG{k:Nat}{u:zI}{x:Bs × Int}{N:List yB}{a:Int}(h:Gr k u x N a)(n:Nat)(hn:u.length<n):uI n u=true:=by
 refine Gr.ind (R:=fun _ u _ _ _=>∀n,u.length<n->uI n u=true) ?_ ?_ ?_ ?_ ?_ h n hn
 ·intro k u N a h hT n hn
  obtain⟨n,rfl⟩:∃m,n=m+1:=⟨n-1,by omega⟩;have e1:yM u vK = -1:=tQ vK (.inl rfl) u h.2 0 0 (-1);have e2:yM u yL = -1:=tQ yL (.inr rfl) u h.2 0 0 (-1)
  have hp:tT (cA u 0):=by
   obtain⟨h1,h2⟩:=h
   cases u with
   | nil=>exact absurd rfl h1
   | cons t r=>exact h2 t (List.mem_cons_self ..)
  have hl:0<u.length:=List.length_pos_iff.2 h.1;obtain⟨-,-,-,-,hTT⟩:=hT;rw[uI,e1,e2,if_neg (by omega),if_neg (by omega),if_neg hp.2.2.2.2.2,if_neg hp.2.2.2.1];rcases hTT with ⟨k4,t,rfl,c1⟩|⟨k5,t,s,rfl,c1,c2,nm⟩|⟨k6,t,rfl,c1,nm⟩|⟨k7,t,m,s,rfl,c1,nm,hm,mk,ho⟩
  ·have:cA [t] 0≠Ys:=by show zX t.2≠_;rw[c1];decide
   simp[this]
  ·simp
  ·have:cA [t] 0≠Ys:=by show zX t.2≠_;rw[c1];decide
   simp[this]
  ·simp
 ·intro k t u x N a h1 h2 h3 ih n hn
  obtain⟨n,rfl⟩:∃m,n=m+1:=⟨n-1,by omega⟩;have hW:Gr 0 (t::u) (J9 x) N a:=cJ.neg _ _ _ _ _ _ h1 h2 h3;have e1:yM (t::u) vK = -1:=hW.out0 vK (.inl rfl) 0 (-1);have e2:yM (t::u) yL = -1:=hW.out0 yL (.inr rfl) 0 (-1);have hc:cA (t::u) 0=xF:=h1;have i1:=ih n (by simp at hn;omega);rw[uI,e1,e2,if_neg (by omega),if_neg (by omega),if_pos hc];simp[i1]
 ·intro k o u c x N a h1 h2 h3 ih n hn
  obtain⟨n,rfl⟩:∃m,n=m+1:=⟨n-1,by omega⟩;have e1:yM (o::(u++[c])) vK = -1:=nH vK (.inl rfl) h1 h2 h3 0 (-1);have e2:yM (o::(u++[c])) yL = -1:=nH yL (.inr rfl) h1 h2 h3 0 (-1);have hc:cA (o::(u++[c])) 0=yU:=h1;have hc':¬cA (o::(u++[c])) 0=xF:=by rw[hc];decide
  have hp:=h3.pos;have i1:=ih n (by simp at hn;omega);rw[uI,e1,e2,if_neg (by omega),if_neg (by omega),if_neg hc',if_pos hc];have e3:((o::(u++[c])).drop 1).take ((o::(u++[c])).length-2)=u:=by simp
  rw[e3,i1];simp;omega
 ·intro k u t v x y N a h1 h2 h3 h4 h5 ihu ihv n hn
  obtain⟨n,rfl⟩:∃m,n=m+1:=⟨n-1,by omega⟩;have hW:Gr 1 (u++t::v) (Ci x y) N a:=cJ.and _ _ _ _ _ _ _ _ (Nat.le_refl _) h2 h3 h4 h5;have e1:yM (u++t::v) vK = -1:=hW.out1 (Nat.le_refl _) 0 (-1)
  have e2:yM (u++t::v) yL=u.length:=by
   unfold yM;rw[kL,h4.op,uX,h2,dJ,if_pos ⟨rfl,rfl⟩,h5.out0 yL (.inr rfl)];omega
  have hl:(u++t::v).length=u.length+1+v.length:=by simp;omega
  have i1:=ihu n (by omega);have j1:=ihv n (by omega);have t1:(u++t::v).take u.length=u:=by simp
  have t2:(u++t::v).drop (u.length+1)=v:=by simp
  rw[uI,e1,e2,if_neg (by omega),if_pos (Int.natCast_nonneg _),Int.toNat_natCast,t1,t2,i1,j1];rfl
 ·intro k u t v x y N a h1 h2 h3 h4 h5 ihu ihv n hn
  obtain⟨n,rfl⟩:∃m,n=m+1:=⟨n-1,by omega⟩
  have e2:yM (u++t::v) vK=u.length:=by
   unfold yM;rw[kL,h4.op,uX,h2,iE,if_pos ⟨rfl,rfl⟩,h5.out1 (Nat.le_refl _)];omega
  have hl:(u++t::v).length=u.length+1+v.length:=by simp;omega
  have i1:=ihu n (by omega);have j1:=ihv n (by omega);have t1:(u++t::v).take u.length=u:=by simp
  have t2:(u++t::v).drop (u.length+1)=v:=by simp
  rw[uI,e2,if_pos (Int.natCast_nonneg _),Int.toNat_natCast,t1,t2,i1,j1];rfl
def Qh(m:Bool):Int:=if m then -1 else 1
def vB(names:List Bs)(x:xB):qE:=if x.name=[] then ⟨-1,Qh x.minus*x.num⟩ else if x.starred then ⟨zM names x.name,Qh x.minus*x.num⟩ else ⟨zM names x.name,Qh x.minus⟩
theorem cB{ts v:zI}{i:Nat}(h:ts.drop i=v)(j:Nat):cA ts (i+j)=cA v j/\tA ts (i+j)=tA v j:=by
 subst h;unfold cA tA;simp[List.getD]
theorem C8{names:List Bs}{ts v:zI}{i:Nat}{sg:Int}{acc:List qE}{x:xB}{v1 r:zI}(h:ts.drop i=v)(hv:v=v1++r)(hp:Jm x v1)(hs:sg=Qh x.minus)(hi:i=0\/cA ts (i-1)≠[42]) :
 sD names ts (ts.length-i) i sg acc=sD names ts (ts.length-(i+v1.length)) (i+v1.length) sg (acc++[vB names x]):=by
 have hl:i+v1.length<=ts.length/\0<v1.length:=by
  have h1:=congrArg List.length h;rw[hv,List.length_drop,List.length_append]at h1;have h2:0<v1.length:=by rcases hp with ⟨a,b,c,rfl,_⟩|⟨a,rfl,_⟩|⟨a,rfl,_⟩ <;> simp
  omega
 subst hv;rcases hp with ⟨a,b,c,rfl,c1,c2,c3,zG8,zGE,hnu,hnm⟩|⟨a,rfl,c1,zGE,hnu,hnm⟩|⟨a,rfl,c1,zG8,zGE,hnu,hnm⟩
 ·have e0:cA ts i=zV/\tA ts i=a.2:=by have:=cB h 0;simp only[Nat.add_zero]at this;exact⟨this.1.trans c1,this.2⟩
  have e1:cA ts (i+1)=[42]:=(cB h 1).1.trans c2;have e2:cA ts (i+2)=yQ/\tA ts (i+2)=c.2:=⟨(cB h 2).1.trans c3,(cB h 2).2⟩;simp only[List.length_cons,List.length_nil]at hl ⊢;rw[bH names ts i sg acc (by omega)];have s0:uB names ts i sg acc=(sg,acc++[⟨-1,sg*xH 0 a.2⟩]):=by unfold uB;rw[e0.1,e0.2,if_neg (by decide),if_neg (by decide),if_pos rfl]
  rw[s0,bH names ts (i+1) _ _ (by omega)];have s1:uB names ts (i+1) sg (acc++[⟨-1,sg*xH 0 a.2⟩])=(sg,acc++[⟨zM names c.2,sg*xH 0 a.2⟩]):=by unfold uB;rw[e1,if_neg (by decide),if_neg (by decide),if_neg (by decide),if_pos rfl,e2.2];simp
  rw[s1,bH names ts (i+1+1) _ _ (by omega)]
  have s2:uB names ts (i+1+1) sg (acc++[⟨zM names c.2,sg*xH 0 a.2⟩])=(sg,acc++[⟨zM names c.2,sg*xH 0 a.2⟩]):=by
   unfold uB;rw[show i+1+1=i+2 by omega,e2.1,if_neg (by decide),if_neg (by decide),if_neg (by decide),if_neg (by decide),if_pos rfl,if_neg (by rintro(h1|h1);omega;exact h1 (by rw[show i+2-1=i+1 by omega];exact e1))]
  rw[s2];have ed:vB names x=⟨zM names c.2,sg*xH 0 a.2⟩:=by unfold vB;rw[hnm,if_neg zG8,zGE,if_pos rfl,hnu,hs]
  rw[ed]
 ·have e0:cA ts i=zV/\tA ts i=a.2:=by have:=cB h 0;simp only[Nat.add_zero]at this;exact⟨this.1.trans c1,this.2⟩
  simp only[List.length_cons,List.length_nil]at hl ⊢;rw[bH names ts i sg acc (by omega)];have s0:uB names ts i sg acc=(sg,acc++[⟨-1,sg*xH 0 a.2⟩]):=by unfold uB;rw[e0.1,e0.2,if_neg (by decide),if_neg (by decide),if_pos rfl]
  have ed:vB names x=⟨-1,sg*xH 0 a.2⟩:=by unfold vB;rw[hnm,if_pos rfl,hnu,hs]
  rw[s0,ed]
 ·have e0:cA ts i=yQ/\tA ts i=a.2:=by have:=cB h 0;simp only[Nat.add_zero]at this;exact⟨this.1.trans c1,this.2⟩
  simp only[List.length_cons,List.length_nil]at hl ⊢;rw[bH names ts i sg acc (by omega)];have s0:uB names ts i sg acc=(sg,acc++[⟨zM names a.2,sg⟩]):=by unfold uB;rw[e0.1,e0.2,if_neg (by decide),if_neg (by decide),if_neg (by decide),if_neg (by decide),if_pos rfl,if_pos hi]
  have ed:vB names x=⟨zM names a.2,sg⟩:=by unfold vB;rw[hnm,if_neg zG8,zGE,hs];rfl
  rw[s0,ed]
theorem zAD{names:List Bs}{ts:zI}(S:List xB):∀ {m:Bool} {v:zI} {i:Nat} {sg:Int} {acc:List qE},ts.drop i=v->VV m S v->sg=Qh m->(i=0\/cA ts (i-1)≠[42]) ->
 sD names ts (ts.length-i) i sg acc=acc++S.map (vB names):=by
 induction S with
 | nil=>intro m v i sg acc _ h;exact h.elim
 | cons x r ih =>
   intro m v i sg acc h hS hs hi;obtain⟨hm,hS⟩:=hS;rcases hS with ⟨rfl,hp⟩|⟨v1,t,v2,rfl,hp,hr⟩
   ·rw[C8 (r:=[]) h (by simp) hp (by rw[hm];exact hs) hi]
    have hl:=congrArg List.length h;rw[List.length_drop]at hl;have h2:0<v.length:=by rcases hp with ⟨a,b,c,rfl,_⟩|⟨a,rfl,_⟩|⟨a,rfl,_⟩ <;> simp
    rw[show ts.length-(i+v.length)=0 by omega,sD];rfl
   ·rw[C8 (r:=t::v2) h rfl hp (by rw[hm];exact hs) hi]
    have hl:=congrArg List.length h;rw[List.length_drop,List.length_append,List.length_cons]at hl
    have ht:cA ts (i+v1.length)=zX t.2:=by
     rw[(cB h v1.length).1];unfold cA tA;rw[List.getD,List.getElem?_append_right (Nat.le_refl _),Nat.sub_self];rfl
    have hd:ts.drop (i+v1.length+1)=v2:=by
     rw[show i+v1.length+1=i+(v1.length+1) by omega,<-List.drop_drop,h];simp
    rw[bH names ts (i+v1.length) _ _ (by omega)];rcases hr with ⟨c,hr⟩|⟨c,hr⟩
    ·have s0:uB names ts (i+v1.length) sg (acc++[vB names x])=(-1,acc++[vB names x]):=by unfold uB;rw[ht,c,if_neg (by decide),if_pos rfl]
     rw[s0];refine(ih hd hr (show (-1:Int)=Qh true from rfl) (.inr (by rw[Nat.add_sub_cancel,ht,c];decide))).trans (by simp)
    ·have s0:uB names ts (i+v1.length) sg (acc++[vB names x])=(1,acc++[vB names x]):=by unfold uB;rw[ht,c,if_pos rfl]
     rw[s0];refine(ih hd hr (show (1:Int)=Qh false from rfl) (.inr (by rw[Nat.add_sub_cancel,ht,c];decide))).trans (by simp)
theorem KC{names:List Bs}{v:zI}{S:List xB}(h:VV false S v):oI names v=S.map (vB names):=by
 unfold oI;have:=zAD (names:=names) (ts:=v) S (i:=0) (acc:=[]) (sg:=1) rfl h rfl (.inl rfl);simpa using this
theorem U1{x:xB}{v1:zI}(hp:Jm x v1){ts:zI}(hT:fO ts){i:Nat}{r:zI}(h:ts.drop i=v1++r):∀j,j<v1.length->(cA ts (i+j)=[42]->0<j/\cA ts (i+j-1)=zV/\i+j+1<ts.length)/\(cA ts (i+j)=zV->0<=xH 0 (tA ts (i+j))/\xH 0 (tA ts (i+j))<=9999):=by
 have hl:=congrArg List.length h;rw[List.length_drop,List.length_append]at hl;intro j hj;refine⟨fun hc=>?_,fun hc=>(Xl (hT.at' (by omega)) hc).1⟩;rw[(cB h j).1]at hc;rcases hp with ⟨a,b,c,rfl,c1,c2,c3,zG8,zGE,hnu,hnm⟩|⟨a,rfl,c1,zGE,hnu,hnm⟩|⟨a,rfl,c1,zG8,zGE,hnu,hnm⟩
 ·simp only[List.length_cons,List.length_nil]at hj hl
  have:j=0\/j=1\/j=2:=by omega
  rcases this with rfl|rfl|rfl
  ·exact absurd (show zX a.2=[42] from hc) (by rw[c1];decide)
  ·have e:=(cB h 0).1
   rw[Nat.add_zero]at e;exact⟨by decide,by rw[Nat.add_sub_cancel,e];exact c1,by omega⟩
  ·exact absurd (show zX c.2=[42] from hc) (by rw[c3];decide)
 ·simp only[List.length_cons,List.length_nil]at hj
  obtain rfl:j=0:=by omega
  exact absurd (show zX a.2=[42] from hc) (by rw[c1];decide)
 ·simp only[List.length_cons,List.length_nil]at hj
  obtain rfl:j=0:=by omega
  exact absurd (show zX a.2=[42] from hc) (by rw[c1];decide)
theorem Dy{ts:zI}(hT:fO ts)(S:List xB):∀ {m:Bool} {v:zI} {i:Nat},ts.drop i=v->VV m S v->∀k,i<=k->k<ts.length->(cA ts k=[42]->0<k/\cA ts (k-1)=zV/\k+1<ts.length)/\(cA ts k=zV->0<=xH 0 (tA ts k)/\xH 0 (tA ts k)<=9999):=by
 induction S with
 | nil=>intro m v i _ h;exact h.elim
 | cons x r ih =>
   intro m v i h hS k hk hkl;obtain⟨-,hS⟩:=hS
   have fin:∀ {v1 rr:zI},v=v1++rr->Jm x v1->k<i+v1.length->(cA ts k=[42]->0<k/\cA ts (k-1)=zV/\k+1<ts.length)/\(cA ts k=zV->0<=xH 0 (tA ts k)/\xH 0 (tA ts k)<=9999):=fun {v1 rr} hv hp hkk=>by
    subst hv;have:=U1 hp hT h (k-i) (by omega);rw[show i+(k-i)=k by omega]at this;exact⟨fun hc=>⟨by have:=(this.1 hc).1;omega,(this.1 hc).2⟩,this.2⟩
   have hl:=congrArg List.length h;rw[List.length_drop]at hl;rcases hS with ⟨rfl,hp⟩|⟨v1,t,v2,rfl,hp,hr⟩
   ·exact fin (v1:=v) (rr:=[]) (by simp) hp (by omega)
   ·rcases Nat.lt_or_ge k (i+v1.length) with h1|h1
    ·exact fin rfl hp h1
    ·have ht:cA ts (i+v1.length)=zX t.2:=by
      rw[(cB h v1.length).1];unfold cA tA;rw[List.getD,List.getElem?_append_right (Nat.le_refl _),Nat.sub_self];rfl
     have hd:ts.drop (i+v1.length+1)=v2:=by
      rw[show i+v1.length+1=i+(v1.length+1) by omega,<-List.drop_drop,h];simp
     rcases Nat.lt_or_ge k (i+v1.length+1) with h2|h2
     ·obtain rfl:k=i+v1.length:=by omega
      rw[ht];rcases hr with ⟨c,_⟩|⟨c,_⟩ <;> (rw[c];exact⟨fun e=>absurd e (by decide),fun e=>absurd e (by decide)⟩)
     ·rcases hr with ⟨c,hr⟩|⟨c,hr⟩
      ·exact ih hd hr k h2 hkl
      ·exact ih hd hr k h2 hkl
theorem GN{ts:zI}(h:fO ts)(a b:Nat):fO ((ts.drop a).take b):=fun t ht=>h t (List.mem_of_mem_drop (List.mem_of_mem_take ht))
theorem zFJ{x:zH}{u:zI}(h:LT x u)(hk:cA u 0=zW):zFT u:=by
 obtain⟨w,hr⟩:=h.rule hk;have hw:=hr.wAt;have e:(u.drop 5).take (w-5)=(u.take w).drop 5:=by rw[List.drop_take]
 refine⟨by rw[hr.wB,hw],by rw[hw];exact hr.wlo,by rw[hw];exact hr.whi,?_,?_⟩
 ·rw[hw]
  have hT:=GN h.toks 5 (w-5);have hS:=hr.sums;rw[<-e]at hS;have:=fun k hk'=>Dy hT x.sum (i:=0) rfl hS k (Nat.zero_le _) hk';exact⟨fun i hi=>(this i hi).1,fun i hi=>(this i hi).2⟩
 ·rw[hw]
  obtain⟨k,y,hg⟩:=hr.gr;exact zBG hg _ (by rw[List.length_drop];omega)
end Go.Proofs.YtnbpdffdnphbeaaGreatDoor
