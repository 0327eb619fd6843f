import Derived.Test.YtnbpdffdnphbeaaGreatDoorDHolds
import Derived.Test.YtnbpdffdnphbeaaGreatDoorDRead
namespace Go.Proofs.YtnbpdffdnphbeaaGreatDoor
variable{v:Bool}{names:List Bs}{vs:List Int}{i:Nat}{ts u:zG}
structure x9 where
 has:Bs->Bool
 inp:Bs->Int
def zv(x:Int)(m:Bs)(y:Int):Bool:=if x<y then decide (m=[60]\/m=[60,61]\/m=[33,61]) else if x=y then decide (m=[60,61]\/m=[61]\/m=[62,61]) else decide (m=[62]\/m=[62,61]\/m=[33,61])
abbrev pI(l:List Bool)(a:Int):Bool:=decide (0<=a)&&(decide (a<l.length)&&l.getD a.toNat false)
def QL(E:x9)(hs:List Bool)(x:zX):Bool :=
 if x.kind=1 then pI hs x.left || pI hs x.right else if x.kind=2 then pI hs x.left&&pI hs x.right else if x.kind=3 then !pI hs x.left
 else if x.kind=4 then true else if x.kind=5 then E.has x.name else if x.kind=6 then decide (E.inp x.name=1)
 else if x.kind=7 then zv (E.inp x.name) x.mark (if x.other=[] then x.num else E.inp x.other) else false
def KB(E:x9):List zX->List Bool->List Bool
 | [],hs=>hs
 | x::r,hs=>KB E r (hs++[QL E hs x])
def eG(E:x9)(N:List zX):List Bool:=KB E N []
theorem KA(E:x9)(N:List zX):∀hs,∃t,KB E N hs=hs++t/\t.length=N.length:=by
 induction N with
 | nil=>intro hs;exact⟨[],by simp[KB],rfl⟩
 | cons x r ih =>
   intro hs;obtain⟨t,h1,h2⟩:=ih (hs++[QL E hs x]);exact⟨QL E hs x::t,by rw[KB,h1];simp,by simp[h2]⟩
theorem Xb(E:x9)(N:List zX):(eG E N).length=N.length:=by
 obtain⟨t,h1,h2⟩:=KA E N [];unfold eG;rw[h1];simpa using h2
theorem DW(E:x9)(N M:List zX):∀hs,KB E (N++M) hs=KB E M (KB E N hs):=by
 induction N with
 | nil=>intro hs;rfl
 | cons x r ih=>intro hs;rw[bw,KB,ih,KB]
theorem Xc(E:x9)(N:List zX)(a:Nat)(ha:a<N.length):(eG E N).getD a false=QL E (eG E (N.take a)) (kE N a):=by
 have e:N=N.take a++kE N a::N.drop (a+1):=by
  unfold kE;rw[List.getD,pe ha,Option.getD_some,<-pb ha,List.take_append_drop]
 have hl:(eG E (N.take a)).length=a:=by rw[Xb,p9];omega
 unfold eG
 conv=>lhs;rw[e,DW,KB]
 obtain⟨t,h1,_⟩:=KA E (N.drop (a+1)) (KB E (N.take a) []++[QL E (KB E (N.take a) []) (kE N a)]);have hl2:(KB E (N.take a) []).length=a:=hl;rw[h1,mn,List.getD,pf (by omega),hl2,bj];rfl
theorem zA4(E:x9)(N:List zX)(a c:Nat)(hc:c<a)(ha:a<=N.length):(eG E (N.take a)).getD c false=(eG E N).getD c false:=by
 conv=>rhs;rw[<-List.take_append_drop a N]
 unfold eG;rw[DW];obtain⟨t,h1,_⟩:=KA E (N.drop a) (KB E (N.take a) []);have hl:(KB E (N.take a) []).length=a:=by have:=Xb E (N.take a);unfold eG at this;rw[this,p9];omega
 rw[h1,List.getD,List.getD,pw (by omega)]
theorem sI(E:x9)(N:List zX)(a:Nat)(c:Int)(h0:0<=c)(hc:c<a)(ha:a<=N.length):pI (eG E (N.take a)) c=(eG E N).getD c.toNat false:=by
 unfold pI;rw[tm h0,Xb,p9,tm (show c<((min a N.length:Nat):Int) by omega),md,md,zA4 E N a c.toNat (by omega) ha]
def Fm(names:List Bs)(vs:List Int)(E:x9)(x:zX):Prop :=
 (x.kind=5->CC vs (zH names x.name)/\decide (Xf vs (zH names x.name)=1)=E.has x.name) /\
 (x.kind=6->CC vs (zH names x.name)/\Xf vs (zH names x.name)=E.inp x.name) /\
 (x.kind=7->CC vs (zH names x.name)/\Xf vs (zH names x.name)=E.inp x.name/\(x.other≠[]->CC vs (zH names x.other)/\Xf vs (zH names x.other)=E.inp x.other))
theorem zAM{m:Bs}(hm:m∈jC)(x y:Int):dE x m y=zv x m y:=by
 unfold dE zv;have h1:∀m∈jC,xY zHB m=decide (m=[60]\/m=[60,61]\/m=[33,61]):=by decide
 have h2:∀m∈jC,xY zHD m=decide (m=[60,61]\/m=[61]\/m=[62,61]):=by decide
 have h3:∀m∈jC,xY zHC m=decide (m=[62]\/m=[62,61]\/m=[33,61]):=by decide
 rw[h1 m hm,h2 m hm,h3 m hm]
def iW(vs:List Int)(l:List vS)(v:Bool):Prop:=∀st rest,(eB vs rest (st++[v])->eB vs (l++rest) st)/\nB vs (l++rest) st=nB vs rest (st++[v])
theorem iW.one{s:vS}(h:∀st,Bu vs s st/\qS vs s st=st++[v]):iW vs [s] v:=fun st rest=>by
 obtain⟨h1,h2⟩:=h st;exact⟨fun h3=>⟨h1,by rw[h2];exact h3⟩,by show nB vs rest (qS vs s st)=_;rw[h2]⟩
theorem iW.neg{l:List vS}(h:iW vs l v):iW vs (l++[⟨4,0,0,[],0⟩]) (!v):=fun st rest=>by
 have h1:=h st (⟨4,0,0,[],0⟩::rest);have e:qS vs ⟨4,0,0,[],0⟩ (st++[v])=st++[!v]:=by simp[qS]
 rw[mn];refine⟨fun h3=>h1.1 ⟨⟨by simp,by simp,by simp,by simp,by simp,by simp⟩,by rw[e];exact h3⟩,?_⟩;show nB vs (l++⟨4,0,0,[],0⟩::rest) st=_;rw[h1.2,nB,e]
theorem iW.bin{l r:List vS}{x:Bool}{kd:Int}(hk:kd=5\/kd=6)(h:iW vs l v)(h':iW vs r x):iW vs (l++r++[⟨kd,0,0,[],0⟩]) (if kd=5 then v&&x else v || x):=fun st rest=>by
 have h1:=h st (r++⟨kd,0,0,[],0⟩::rest);have h2:=h' (st++[v]) (⟨kd,0,0,[],0⟩::rest)
 have e:qS vs ⟨kd,0,0,[],0⟩ (st++[v]++[x])=st++[if kd=5 then v&&x else v || x]:=by
  rcases hk with rfl|rfl <;> simp[qS]
 rw[mn,mn];refine⟨fun h3=>h1.1 (h2.1 ⟨⟨by rcases hk with rfl|rfl <;> simp,by rcases hk with rfl|rfl <;> simp,by rcases hk with rfl|rfl <;> simp,by rcases hk with rfl|rfl <;> simp,by rcases hk with rfl|rfl <;> simp,by simp⟩,by rw[e];exact h3⟩),?_⟩;show nB vs (l++(r++⟨kd,0,0,[],0⟩::rest)) st=_;rw[h1.2,h2.2,nB,e]
theorem zFQ{E:x9}{k:Nat}{x:Bs × Int}{N:List zX}{a:Int}(h:Gr k u x N a)(hN:∀y∈N,Fm names vs E y)(n:Nat)(hn:u.length<n):uL n u=true/\iW vs (vN names n u) ((eG E N).getD a.toNat false):=by
 have nmem:∀ {N:List zX} {a:Int},0<=a->a<N.length->kE N a.toNat∈N:=fun {N a} h0 h1=>by
  unfold kE;simp[List.getD,show a.toNat<N.length by omega]
 refine Gr.ind (R:=fun _ u _ N a=>(∀y∈N,Fm names vs E y)->∀n,u.length<n->uL n u=true/\iW vs (vN names n u) ((eG E N).getD a.toNat false)) ?_ ?_ ?_ ?_ ?_ h hN n hn
 ·intro k u N a h hT hN n hn
  obtain⟨n,rfl⟩:∃m,n=m+1:=⟨n-1,by omega⟩;have e1:yF u xW = -1:=jM xW (.inl rfl) u h.2 0 0 (-1);have e2:yF u yE = -1:=jM yE (.inr rfl) u h.2 0 0 (-1)
  have hp:tP (cA u 0):=by
   obtain⟨h1,h2⟩:=h
   cases u with
   | nil=>exact absurd rfl h1
   | cons t r=>exact h2 t (mw ..)
  have hl:0<u.length:=ft.2 h.1;obtain⟨h0,zI6,hk4,-,hTT⟩:=hT;have hE:=hN _ (nmem h0 zI6);have hv:(eG E N).getD a.toNat false=QL E (eG E (N.take a.toNat)) (kE N a.toNat):=Xc E N a.toNat (by omega);rw[hv,uL,vN,e1,e2,tg (by omega),tg (by omega),tg hp.2.2.2.2.2,tg hp.2.2.2.1,tg (by omega),tg (by omega),tg hp.2.2.2.2.2,tg hp.2.2.2.1];generalize kE N a.toNat=y at *;rcases hTT with ⟨k4,t,rfl,c1⟩|⟨k5,t,s,rfl,c1,c2,nm⟩|⟨k6,t,rfl,c1,nm⟩|⟨k7,t,m,s,rfl,c1,nm,hm,mk,ho⟩
  ·refine⟨?_,iW.one fun st=>?_⟩
   ·have:cA [t] 0≠iM:=by show zS t.2≠_;rw[c1];decide
    simp[this]
   ·have e:mI names [t]=⟨0,0,0,[],0⟩:=by unfold mI;rw[tl (show cA [t] 0=VV from c1)]
    have e3:QL E (eG E (N.take a.toNat)) y=true:=by unfold QL;rw[k4];rfl
    rw[e,e3];exact⟨⟨by simp,by simp,by simp,by simp,by simp,by simp⟩,by simp[qS,dZ]⟩
  ·obtain⟨j1,j2⟩:=hE.1 k5
   refine⟨by simp,iW.one fun st=>?_⟩
   have e:mI names [t,s]=⟨1,zH names y.name,0,[],0⟩:=by
    unfold mI;rw[tg (by show ¬zS t.2=_;rw[c1];decide),tl (show cA [t,s] 0=iM from c1),nm];rfl
   have e3:QL E (eG E (N.take a.toNat)) y=E.has y.name:=by unfold QL;rw[k5];rfl
   rw[e,e3,<-j2];exact⟨⟨by simp,fun _=>j1,by simp,by simp,by simp,by simp⟩,by simp[qS,dZ]⟩
  ·obtain⟨j1,j2⟩:=hE.2.1 k6
   have nh:cA [t] 0≠iM:=by show zS t.2≠_;rw[c1];decide
   refine⟨by simp[nh],iW.one fun st=>?_⟩
   have e:mI names [t]=⟨1,zH names y.name,0,[],0⟩:=by
    unfold mI;rw[tg (by show ¬zS t.2=_;rw[c1];decide),tg nh,tg (by simp),nm];rfl
   have e3:QL E (eG E (N.take a.toNat)) y=decide (E.inp y.name=1):=by unfold QL;rw[k6];rfl
   rw[e,e3,<-j2];exact⟨⟨by simp,fun _=>j1,by simp,by simp,by simp,by simp⟩,by simp[qS,dZ]⟩
  ·obtain⟨j1,j2,j3⟩:=hE.2.2 k7
   have nh:cA [t,m,s] 0≠iM:=by show zS t.2≠_;rw[c1];decide
   have na:¬cA [t,m,s] 0=VV:=by show ¬zS t.2=_;rw[c1];decide
   refine⟨by simp,iW.one fun st=>?_⟩;rcases ho with ⟨cs,ho,zIY⟩|⟨cs,ho,zIH⟩
   ·have e:mI names [t,m,s]=⟨2,zH names y.name,0,y.mark,y.num⟩:=by
     unfold mI;rw[tg na,tg nh,tl (show [t,m,s].length=3 from rfl),tl (show cA [t,m,s] 2=yB from cs),nm,mk,zIY];rfl
    have e3:QL E (eG E (N.take a.toNat)) y=zv (E.inp y.name) y.mark y.num:=by unfold QL;rw[k7,ho];rfl
    rw[e,e3,<-j2,<-zAM (by rw[mk];exact hm)];exact⟨⟨by simp,by simp,fun _=>j1,by simp,by simp,by simp⟩,by simp[qS,dZ]⟩
   ·have hne':y.other≠[]:=by rw[ho];exact zIH
    obtain⟨j4,j5⟩:=j3 hne'
    have e:mI names [t,m,s]=⟨3,zH names y.name,zH names y.other,y.mark,0⟩:=by
     unfold mI;rw[tg na,tg nh,tl (show [t,m,s].length=3 from rfl),tg (show ¬cA [t,m,s] 2=yB by show ¬zS s.2=_;rw[cs];decide),nm,mk,ho];rfl
    have e3:QL E (eG E (N.take a.toNat)) y=zv (E.inp y.name) y.mark (E.inp y.other):=by unfold QL;rw[k7,tg hne'];rfl
    rw[e,e3,<-j2,<-j5,<-zAM (by rw[mk];exact hm)];exact⟨⟨by simp,by simp,by simp,fun _=>⟨j1,j4⟩,by simp,by simp⟩,by simp[qS,dZ]⟩
 ·intro k t u x N a h1 h2 h3 ih hN n hn
  obtain⟨n,rfl⟩:∃m,n=m+1:=⟨n-1,by omega⟩;have hW:Gr 0 (t::u) (QK x) N a:=bH.neg _ _ _ _ _ _ h1 h2 h3;have e1:yF (t::u) xW = -1:=hW.out0 xW (.inl rfl) 0 (-1);have e2:yF (t::u) yE = -1:=hW.out0 yE (.inr rfl) 0 (-1);have hc:cA (t::u) 0=yY:=h1;obtain⟨i1,i2⟩:=ih hN n (by simp at hn;omega);obtain⟨h0,zI6,hk3,hll⟩:=h2;have hb:=h3.bound
  have hv:(eG E N).getD a.toNat false = !(eG E N).getD (lf N a).toNat false:=by
   rw[Xc E N a.toNat (by omega)];unfold QL;rw[hk3,<-sI E N a.toNat (lf N a) hb.1 (by omega) (by omega)];rfl
  rw[hv,uL,vN,e1,e2,tg (by omega),tg (by omega),tl hc,tg (by omega),tg (by omega),tl hc];simp only[List.drop_succ_cons,List.drop_zero,p7];exact⟨by simp[i1],i2.neg⟩
 ·intro k o u c x N a h1 h2 h3 ih hN n hn
  obtain⟨n,rfl⟩:∃m,n=m+1:=⟨n-1,by omega⟩;have e1:yF (o::(u++[c])) xW = -1:=dG xW (.inl rfl) h1 h2 h3 0 (-1);have e2:yF (o::(u++[c])) yE = -1:=dG yE (.inr rfl) h1 h2 h3 0 (-1);have hc:cA (o::(u++[c])) 0=yQ:=h1;have hc':¬cA (o::(u++[c])) 0=yY:=by rw[hc];decide
  have hp:=h3.pos;obtain⟨i1,i2⟩:=ih hN n (by simp at hn;omega);rw[uL,vN,e1,e2,tg (by omega),tg (by omega),tg hc',tl hc,tg (by omega),tg (by omega),tg hc',tl hc];have e3:((o::(u++[c])).drop 1).take ((o::(u++[c])).length-2)=u:=by simp
  rw[e3,i1];exact⟨by simp;omega,i2⟩
 ·intro k u t v x y N a h1 h2 h3 h4 h5 ihu ihv hN n hn
  obtain⟨n,rfl⟩:∃m,n=m+1:=⟨n-1,by omega⟩;have hW:Gr 1 (u++t::v) (UG x y) N a:=bH.and _ _ _ _ _ _ _ _ (t9 _) h2 h3 h4 h5;have e1:yF (u++t::v) xW = -1:=hW.out1 (t9 _) 0 (-1)
  have e2:yF (u++t::v) yE=u.length:=by
   unfold yF;rw[qW,h4.op,uZ,h2,cF,tl ⟨rfl,rfl⟩,h5.out0 yE (.inr rfl)];omega
  have hl:(u++t::v).length=u.length+1+v.length:=by simp;omega
  obtain⟨i1,i2⟩:=ihu hN n (by omega);obtain⟨j1,j2⟩:=ihv hN n (by omega);have t1:(u++t::v).take u.length=u:=by simp
  have t2:(u++t::v).drop (u.length+1)=v:=by simp
  obtain⟨h0,zI6,hk2,hll,hrr⟩:=h3;have hb:=h4.bound;have hb':=h5.bound
  have hv:(eG E N).getD a.toNat false=((eG E N).getD (lf N a).toNat false&&(eG E N).getD (rg N a).toNat false):=by
   rw[Xc E N a.toNat (by omega)];unfold QL;rw[hk2,<-sI E N a.toNat (lf N a) hb.1 (by omega) (by omega),<-sI E N a.toNat (rg N a) hb'.1 (by omega) (by omega)];rfl
  rw[hv,uL,vN,e1,e2,tg (by omega),tl (Int.natCast_nonneg _),tg (by omega),tl (Int.natCast_nonneg _),Int.toNat_natCast,t1,t2,i1,j1];exact⟨rfl,i2.bin (.inl rfl) j2⟩
 ·intro k u t v x y N a h1 h2 h3 h4 h5 ihu ihv hN n hn
  obtain⟨n,rfl⟩:∃m,n=m+1:=⟨n-1,by omega⟩
  have e2:yF (u++t::v) xW=u.length:=by
   unfold yF;rw[qW,h4.op,uZ,h2,rY,tl ⟨rfl,rfl⟩,h5.out1 (t9 _)];omega
  have hl:(u++t::v).length=u.length+1+v.length:=by simp;omega
  obtain⟨i1,i2⟩:=ihu hN n (by omega);obtain⟨j1,j2⟩:=ihv hN n (by omega);have t1:(u++t::v).take u.length=u:=by simp
  have t2:(u++t::v).drop (u.length+1)=v:=by simp
  obtain⟨h0,zI6,hk1,hll,hrr⟩:=h3;have hb:=h4.bound;have hb':=h5.bound
  have hv:(eG E N).getD a.toNat false=((eG E N).getD (lf N a).toNat false || (eG E N).getD (rg N a).toNat false):=by
   rw[Xc E N a.toNat (by omega)];unfold QL;rw[hk1,<-sI E N a.toNat (lf N a) hb.1 (by omega) (by omega),<-sI E N a.toNat (rg N a) hb'.1 (by omega) (by omega)];rfl
  rw[hv,uL,vN,e2,tl (Int.natCast_nonneg _),tl (Int.natCast_nonneg _),Int.toNat_natCast,t1,t2,i1,j1];exact⟨rfl,i2.bin (.inr rfl) j2⟩
theorem zDQ{k:Nat}{x:Bs × Int}{N:List zX}{a:Int}(h:Gr k u x N a)(n:Nat)(hn:u.length<n):uL n u=true:=by
 refine Gr.ind (R:=fun _ u _ _ _=>∀n,u.length<n->uL n u=true) ?_ ?_ ?_ ?_ ?_ h n hn
 ·intro k u N a h hT n hn
  obtain⟨n,rfl⟩:∃m,n=m+1:=⟨n-1,by omega⟩;have e1:yF u xW = -1:=jM xW (.inl rfl) u h.2 0 0 (-1);have e2:yF u yE = -1:=jM yE (.inr rfl) u h.2 0 0 (-1)
  have hp:tP (cA u 0):=by
   obtain⟨h1,h2⟩:=h
   cases u with
   | nil=>exact absurd rfl h1
   | cons t r=>exact h2 t (mw ..)
  have hl:0<u.length:=ft.2 h.1;obtain⟨-,-,-,-,hTT⟩:=hT;rw[uL,e1,e2,tg (by omega),tg (by omega),tg hp.2.2.2.2.2,tg hp.2.2.2.1];rcases hTT with ⟨k4,t,rfl,c1⟩|⟨k5,t,s,rfl,c1,c2,nm⟩|⟨k6,t,rfl,c1,nm⟩|⟨k7,t,m,s,rfl,c1,nm,hm,mk,ho⟩
  ·have:cA [t] 0≠iM:=by show zS t.2≠_;rw[c1];decide
   simp[this]
  ·simp
  ·have:cA [t] 0≠iM:=by show zS t.2≠_;rw[c1];decide
   simp[this]
  ·simp
 ·intro k t u x N a h1 h2 h3 ih n hn
  obtain⟨n,rfl⟩:∃m,n=m+1:=⟨n-1,by omega⟩;have hW:Gr 0 (t::u) (QK x) N a:=bH.neg _ _ _ _ _ _ h1 h2 h3;have e1:yF (t::u) xW = -1:=hW.out0 xW (.inl rfl) 0 (-1);have e2:yF (t::u) yE = -1:=hW.out0 yE (.inr rfl) 0 (-1);have hc:cA (t::u) 0=yY:=h1;have i1:=ih n (by simp at hn;omega);rw[uL,e1,e2,tg (by omega),tg (by omega),tl hc];simp[i1]
 ·intro k o u c x N a h1 h2 h3 ih n hn
  obtain⟨n,rfl⟩:∃m,n=m+1:=⟨n-1,by omega⟩;have e1:yF (o::(u++[c])) xW = -1:=dG xW (.inl rfl) h1 h2 h3 0 (-1);have e2:yF (o::(u++[c])) yE = -1:=dG yE (.inr rfl) h1 h2 h3 0 (-1);have hc:cA (o::(u++[c])) 0=yQ:=h1;have hc':¬cA (o::(u++[c])) 0=yY:=by rw[hc];decide
  have hp:=h3.pos;have i1:=ih n (by simp at hn;omega);rw[uL,e1,e2,tg (by omega),tg (by omega),tg hc',tl hc];have e3:((o::(u++[c])).drop 1).take ((o::(u++[c])).length-2)=u:=by simp
  rw[e3,i1];simp;omega
 ·intro k u t v x y N a h1 h2 h3 h4 h5 ihu ihv n hn
  obtain⟨n,rfl⟩:∃m,n=m+1:=⟨n-1,by omega⟩;have hW:Gr 1 (u++t::v) (UG x y) N a:=bH.and _ _ _ _ _ _ _ _ (t9 _) h2 h3 h4 h5;have e1:yF (u++t::v) xW = -1:=hW.out1 (t9 _) 0 (-1)
  have e2:yF (u++t::v) yE=u.length:=by
   unfold yF;rw[qW,h4.op,uZ,h2,cF,tl ⟨rfl,rfl⟩,h5.out0 yE (.inr rfl)];omega
  have hl:(u++t::v).length=u.length+1+v.length:=by simp;omega
  have i1:=ihu n (by omega);have j1:=ihv n (by omega);have t1:(u++t::v).take u.length=u:=by simp
  have t2:(u++t::v).drop (u.length+1)=v:=by simp
  rw[uL,e1,e2,tg (by omega),tl (Int.natCast_nonneg _),Int.toNat_natCast,t1,t2,i1,j1];rfl
 ·intro k u t v x y N a h1 h2 h3 h4 h5 ihu ihv n hn
  obtain⟨n,rfl⟩:∃m,n=m+1:=⟨n-1,by omega⟩
  have e2:yF (u++t::v) xW=u.length:=by
   unfold yF;rw[qW,h4.op,uZ,h2,rY,tl ⟨rfl,rfl⟩,h5.out1 (t9 _)];omega
  have hl:(u++t::v).length=u.length+1+v.length:=by simp;omega
  have i1:=ihu n (by omega);have j1:=ihv n (by omega);have t1:(u++t::v).take u.length=u:=by simp
  have t2:(u++t::v).drop (u.length+1)=v:=by simp
  rw[uL,e2,tl (Int.natCast_nonneg _),Int.toNat_natCast,t1,t2,i1,j1];rfl
def Bz(m:Bool):Int:=if m then -1 else 1
def uG(names:List Bs)(x:yZ):kN:=if x.name=[] then ⟨-1,Bz x.minus*x.num⟩ else if x.starred then ⟨zH names x.name,Bz x.minus*x.num⟩ else ⟨zH names x.name,Bz x.minus⟩
theorem cH{v:zG}(h:ts.drop i=v)(j:Nat):cA ts (i+j)=cA v j/\tA ts (i+j)=tA v j:=by
 subst h;unfold cA tA;simp[List.getD]
theorem D2{v:zG}{sg:Int}{acc:List kN}{x:yZ}{v1 r:zG}(h:ts.drop i=v)(hv:v=v1++r)(hp:JN x v1)(hs:sg=Bz x.minus)(hi:i=0\/cA ts (i-1)≠[42]) :
 rT names ts (ts.length-i) i sg acc=rT names ts (ts.length-(i+v1.length)) (i+v1.length) sg (acc++[uG names x]):=by
 have hl:i+v1.length<=ts.length/\0<v1.length:=by
  have h1:=congrArg List.length h;rw[hv,ty,tq]at h1;have h2:0<v1.length:=by rcases hp with ⟨a,b,c,rfl,_⟩|⟨a,rfl,_⟩|⟨a,rfl,_⟩ <;> simp
  omega
 subst hv;rcases hp with ⟨a,b,c,rfl,c1,c2,c3,zIH,zIO,hnu,hnm⟩|⟨a,rfl,c1,zIO,hnu,hnm⟩|⟨a,rfl,c1,zIH,zIO,hnu,hnm⟩
 ·have e0:cA ts i=yB/\tA ts i=a.2:=by have:=cH h 0;simp only[pq]at this;exact⟨this.1.trans c1,this.2⟩
  have e1:cA ts (i+1)=[42]:=(cH h 1).1.trans c2;have e2:cA ts (i+2)=yU/\tA ts (i+2)=c.2:=⟨(cH h 2).1.trans c3,(cH h 2).2⟩;simp only[p7,List.length_nil]at hl ⊢;rw[bP names ts i sg acc (by omega)];have s0:uF names ts i sg acc=(sg,acc++[⟨-1,sg*xD 0 a.2⟩]):=by unfold uF;rw[e0.1,e0.2,tg (by decide),tg (by decide),tl rfl]
  rw[s0,bP names ts (i+1) _ _ (by omega)];have s1:uF names ts (i+1) sg (acc++[⟨-1,sg*xD 0 a.2⟩])=(sg,acc++[⟨zH names c.2,sg*xD 0 a.2⟩]):=by unfold uF;rw[e1,tg (by decide),tg (by decide),tg (by decide),tl rfl,e2.2];simp
  rw[s1,bP names ts (i+1+1) _ _ (by omega)]
  have s2:uF names ts (i+1+1) sg (acc++[⟨zH names c.2,sg*xD 0 a.2⟩])=(sg,acc++[⟨zH names c.2,sg*xD 0 a.2⟩]):=by
   unfold uF;rw[show i+1+1=i+2 by omega,e2.1,tg (by decide),tg (by decide),tg (by decide),tg (by decide),tl rfl,tg (by rintro(h1|h1);omega;exact h1 (by rw[show i+2-1=i+1 by omega];exact e1))]
  rw[s2];have ed:uG names x=⟨zH names c.2,sg*xD 0 a.2⟩:=by unfold uG;rw[hnm,tg zIH,zIO,tl rfl,hnu,hs]
  rw[ed]
 ·have e0:cA ts i=yB/\tA ts i=a.2:=by have:=cH h 0;simp only[pq]at this;exact⟨this.1.trans c1,this.2⟩
  simp only[p7,List.length_nil]at hl ⊢;rw[bP names ts i sg acc (by omega)];have s0:uF names ts i sg acc=(sg,acc++[⟨-1,sg*xD 0 a.2⟩]):=by unfold uF;rw[e0.1,e0.2,tg (by decide),tg (by decide),tl rfl]
  have ed:uG names x=⟨-1,sg*xD 0 a.2⟩:=by unfold uG;rw[hnm,tl rfl,hnu,hs]
  rw[s0,ed]
 ·have e0:cA ts i=yU/\tA ts i=a.2:=by have:=cH h 0;simp only[pq]at this;exact⟨this.1.trans c1,this.2⟩
  simp only[p7,List.length_nil]at hl ⊢;rw[bP names ts i sg acc (by omega)];have s0:uF names ts i sg acc=(sg,acc++[⟨zH names a.2,sg⟩]):=by unfold uF;rw[e0.1,e0.2,tg (by decide),tg (by decide),tg (by decide),tg (by decide),tl rfl,tl hi]
  have ed:uG names x=⟨zH names a.2,sg⟩:=by unfold uG;rw[hnm,tg zIH,zIO,hs];rfl
  rw[s0,ed]
theorem zCK(S:List yZ):∀ {m:Bool} {v:zG} {i:Nat} {sg:Int} {acc:List kN},ts.drop i=v->UM m S v->sg=Bz m->(i=0\/cA ts (i-1)≠[42]) ->
 rT names ts (ts.length-i) i sg acc=acc++S.map (uG names):=by
 induction S with
 | nil=>intro m v i sg acc _ h;exact h.elim
 | cons x r ih =>
   intro m v i sg acc h hS hs hi;obtain⟨hm,hS⟩:=hS;rcases hS with ⟨rfl,hp⟩|⟨v1,t,v2,rfl,hp,hr⟩
   ·rw[D2 (r:=[]) h (by simp) hp (by rw[hm];exact hs) hi]
    have hl:=congrArg List.length h;rw[ty]at hl;have h2:0<v.length:=by rcases hp with ⟨a,b,c,rfl,_⟩|⟨a,rfl,_⟩|⟨a,rfl,_⟩ <;> simp
    rw[show ts.length-(i+v.length)=0 by omega,rT];rfl
   ·rw[D2 (r:=t::v2) h rfl hp (by rw[hm];exact hs) hi]
    have hl:=congrArg List.length h;rw[ty,tq,p7]at hl
    have ht:cA ts (i+v1.length)=zS t.2:=by
     rw[(cH h v1.length).1];unfold cA tA;rw[List.getD,pf (t9 _),bj];rfl
    have hd:ts.drop (i+v1.length+1)=v2:=by
     rw[show i+v1.length+1=i+(v1.length+1) by omega,<-List.drop_drop,h];simp
    rw[bP names ts (i+v1.length) _ _ (by omega)];rcases hr with ⟨c,hr⟩|⟨c,hr⟩
    ·have s0:uF names ts (i+v1.length) sg (acc++[uG names x])=(-1,acc++[uG names x]):=by unfold uF;rw[ht,c,tg (by decide),tl rfl]
     rw[s0];refine(ih hd hr (show (-1:Int)=Bz true from rfl) (.inr (by rw[Nat.add_sub_cancel,ht,c];decide))).trans (by simp)
    ·have s0:uF names ts (i+v1.length) sg (acc++[uG names x])=(1,acc++[uG names x]):=by unfold uF;rw[ht,c,tl rfl]
     rw[s0];refine(ih hd hr (show (1:Int)=Bz false from rfl) (.inr (by rw[Nat.add_sub_cancel,ht,c];decide))).trans (by simp)
theorem qd{v:zG}{S:List yZ}(h:UM false S v):rE names v=S.map (uG names):=by
 unfold rE;have:=zCK (names:=names) (ts:=v) S (i:=0) (acc:=[]) (sg:=1) rfl h rfl (.inl rfl);simpa using this
theorem Bt{x:yZ}{v1:zG}(hp:JN x v1)(hT:fQ ts){r:zG}(h:ts.drop i=v1++r):∀j,j<v1.length->(cA ts (i+j)=[42]->0<j/\cA ts (i+j-1)=yB/\i+j+1<ts.length)/\(cA ts (i+j)=yB->0<=xD 0 (tA ts (i+j))/\xD 0 (tA ts (i+j))<=9999):=by
 have hl:=congrArg List.length h;rw[ty,tq]at hl;intro j hj;refine⟨fun hc=>?_,fun hc=>(X9 (hT.at' (by omega)) hc).1⟩;rw[(cH h j).1]at hc;rcases hp with ⟨a,b,c,rfl,c1,c2,c3,zIH,zIO,hnu,hnm⟩|⟨a,rfl,c1,zIO,hnu,hnm⟩|⟨a,rfl,c1,zIH,zIO,hnu,hnm⟩
 ·simp only[p7,List.length_nil]at hj hl
  have:j=0\/j=1\/j=2:=by omega
  rcases this with rfl|rfl|rfl
  ·exact absurd (show zS a.2=[42] from hc) (by rw[c1];decide)
  ·have e:=(cH h 0).1
   rw[pq]at e;exact⟨by decide,by rw[Nat.add_sub_cancel,e];exact c1,by omega⟩
  ·exact absurd (show zS c.2=[42] from hc) (by rw[c3];decide)
 ·simp only[p7,List.length_nil]at hj
  obtain rfl:j=0:=by omega
  exact absurd (show zS a.2=[42] from hc) (by rw[c1];decide)
 ·simp only[p7,List.length_nil]at hj
  obtain rfl:j=0:=by omega
  exact absurd (show zS a.2=[42] from hc) (by rw[c1];decide)
theorem F8(hT:fQ ts)(S:List yZ):∀ {m:Bool} {v:zG} {i:Nat},ts.drop i=v->UM m S v->∀k,i<=k->k<ts.length->(cA ts k=[42]->0<k/\cA ts (k-1)=yB/\k+1<ts.length)/\(cA ts k=yB->0<=xD 0 (tA ts k)/\xD 0 (tA ts k)<=9999):=by
 induction S with
 | nil=>intro m v i _ h;exact h.elim
 | cons x r ih =>
   intro m v i h hS k hk hkl;obtain⟨-,hS⟩:=hS
   have fin:∀ {v1 rr:zG},v=v1++rr->JN x v1->k<i+v1.length->(cA ts k=[42]->0<k/\cA ts (k-1)=yB/\k+1<ts.length)/\(cA ts k=yB->0<=xD 0 (tA ts k)/\xD 0 (tA ts k)<=9999):=fun {v1 rr} hv hp hkk=>by
    subst hv;have:=Bt hp hT h (k-i) (by omega);rw[show i+(k-i)=k by omega]at this;exact⟨fun hc=>⟨by have:=(this.1 hc).1;omega,(this.1 hc).2⟩,this.2⟩
   have hl:=congrArg List.length h;rw[ty]at hl;rcases hS with ⟨rfl,hp⟩|⟨v1,t,v2,rfl,hp,hr⟩
   ·exact fin (v1:=v) (rr:=[]) (by simp) hp (by omega)
   ·rcases po k (i+v1.length) with h1|h1
    ·exact fin rfl hp h1
    ·have ht:cA ts (i+v1.length)=zS t.2:=by
      rw[(cH h v1.length).1];unfold cA tA;rw[List.getD,pf (t9 _),bj];rfl
     have hd:ts.drop (i+v1.length+1)=v2:=by
      rw[show i+v1.length+1=i+(v1.length+1) by omega,<-List.drop_drop,h];simp
     rcases po k (i+v1.length+1) with h2|h2
     ·obtain rfl:k=i+v1.length:=by omega
      rw[ht];rcases hr with ⟨c,_⟩|⟨c,_⟩ <;> (rw[c];exact⟨fun e=>absurd e (by decide),fun e=>absurd e (by decide)⟩)
     ·rcases hr with ⟨c,hr⟩|⟨c,hr⟩
      ·exact ih hd hr k h2 hkl
      ·exact ih hd hr k h2 hkl
theorem vi(h:fQ ts)(a b:Nat):fQ ((ts.drop a).take b):=fun t ht=>h t (List.mem_of_mem_drop (List.mem_of_mem_take ht))
theorem zHP{x:zF}(h:LT x u)(hk:cA u 0=zR):zB6 u:=by
 obtain⟨w,hr⟩:=h.rule hk;have hw:=hr.wAt;have e:(u.drop 5).take (w-5)=(u.take w).drop 5:=by rw[List.drop_take]
 refine⟨by rw[hr.wB,hw],by rw[hw];exact hr.wlo,by rw[hw];exact hr.whi,?_,?_⟩
 ·rw[hw]
  have hT:=vi h.toks 5 (w-5);have hS:=hr.sums;rw[<-e]at hS;have:=fun k hk'=>F8 hT x.sum (i:=0) rfl hS k (tr _) hk';exact⟨fun i hi=>(this i hi).1,fun i hi=>(this i hi).2⟩
 ·rw[hw]
  obtain⟨k,y,hg⟩:=hr.gr;exact zDQ hg _ (by rw[ty];omega)
end Go.Proofs.YtnbpdffdnphbeaaGreatDoor
