import Derived.Test.YtnbpdffdnphbeaaGreatDoorDHolds
import Derived.Test.YtnbpdffdnphbeaaGreatDoorDRead
namespace Go.Proofs.YtnbpdffdnphbeaaGreatDoor
variable{v:Bool}{names:List Bs}{vs:List Int}{i:Nat}{ts u:zG}
structure x7 where
 has:Bs->Bool
 inp:Bs->Int
def zq(x:Int)(m:Bs)(y:Int):Bool:=if x<y then decide (m=[60]\/m=[60,61]\/m=[33,61]) else if x=y then decide (m=[60,61]\/m=[61]\/m=[62,61]) else decide (m=[62]\/m=[62,61]\/m=[33,61])
abbrev pF(l:List Bool)(a:Int):Bool:=decide (0<=a)&&(decide (a<l.length)&&l.getD a.toNat false)
def QF(E:x7)(hs:List Bool)(x:zX):Bool :=
 if x.kind=1 then pF hs x.left || pF hs x.right else if x.kind=2 then pF hs x.left&&pF hs x.right else if x.kind=3 then !pF hs x.left
 else if x.kind=4 then true else if x.kind=5 then E.has x.name else if x.kind=6 then decide (E.inp x.name=1)
 else if x.kind=7 then zq (E.inp x.name) x.mark (if x.other=[] then x.num else E.inp x.other) else false
def K8(E:x7):List zX->List Bool->List Bool
 | [],hs=>hs
 | x::r,hs=>K8 E r (hs++[QF E hs x])
def eE(E:x7)(N:List zX):List Bool:=K8 E N []
theorem K7(E:x7)(N:List zX):∀hs,∃t,K8 E N hs=hs++t/\t.length=N.length:=by
 induction N with
 | nil=>intro hs;exact⟨[],by simp[K8],rfl⟩
 | cons x r ih =>
   intro hs;obtain⟨t,h1,h2⟩:=ih (hs++[QF E hs x]);exact⟨QF E hs x::t,by rw[K8,h1];simp,by simp[h2]⟩
theorem YV(E:x7)(N:List zX):(eE E N).length=N.length:=by
 obtain⟨t,h1,h2⟩:=K7 E N [];unfold eE;rw[h1];simpa using h2
theorem DR(E:x7)(N M:List zX):∀hs,K8 E (N++M) hs=K8 E M (K8 E N hs):=by
 induction N with
 | nil=>intro hs;rfl
 | cons x r ih=>intro hs;rw[bw,K8,ih,K8]
theorem YW(E:x7)(N:List zX)(a:Nat)(ha:a<N.length):(eE E N).getD a false=QF E (eE E (N.take a)) (qZ N a):=by
 have e:N=N.take a++qZ N a::N.drop (a+1):=by
  unfold qZ;rw[List.getD,pe ha,Option.getD_some,<-pb ha,List.take_append_drop]
 have hl:(eE E (N.take a)).length=a:=by rw[YV,p9];omega
 unfold eE
 conv=>lhs;rw[e,DR,K8]
 obtain⟨t,h1,_⟩:=K7 E (N.drop (a+1)) (K8 E (N.take a) []++[QF E (K8 E (N.take a) []) (qZ N a)]);have hl2:(K8 E (N.take a) []).length=a:=hl;rw[h1,mq,List.getD,pf (by omega),hl2,bj];rfl
theorem zA9(E:x7)(N:List zX)(a c:Nat)(hc:c<a)(ha:a<=N.length):(eE E (N.take a)).getD c false=(eE E N).getD c false:=by
 conv=>rhs;rw[<-List.take_append_drop a N]
 unfold eE;rw[DR];obtain⟨t,h1,_⟩:=K7 E (N.drop a) (K8 E (N.take a) []);have hl:(K8 E (N.take a) []).length=a:=by have:=YV E (N.take a);unfold eE at this;rw[this,p9];omega
 rw[h1,List.getD,List.getD,m6 (by omega)]
theorem sF(E:x7)(N:List zX)(a:Nat)(c:Int)(h0:0<=c)(hc:c<a)(ha:a<=N.length):pF (eE E (N.take a)) c=(eE E N).getD c.toNat false:=by
 unfold pF;rw[tm h0,YV,p9,tm (show c<((min a N.length:Nat):Int) by omega),md,md,zA9 E N a c.toNat (by omega) ha]
def Fg(names:List Bs)(vs:List Int)(E:x7)(x:zX):Prop :=
 (x.kind=5->C2 vs (zH names x.name)/\decide (YZ vs (zH names x.name)=1)=E.has x.name) /\
 (x.kind=6->C2 vs (zH names x.name)/\YZ vs (zH names x.name)=E.inp x.name) /\
 (x.kind=7->C2 vs (zH names x.name)/\YZ vs (zH names x.name)=E.inp x.name/\(x.other≠[]->C2 vs (zH names x.other)/\YZ vs (zH names x.other)=E.inp x.other))
theorem zAS{m:Bs}(hm:m∈jD)(x y:Int):dA x m y=zq x m y:=by
 unfold dA zq;have h1:∀m∈jD,xZ zHI m=decide (m=[60]\/m=[60,61]\/m=[33,61]):=by decide
 have h2:∀m∈jD,xZ zHK m=decide (m=[60,61]\/m=[61]\/m=[62,61]):=by decide
 have h3:∀m∈jD,xZ zHJ m=decide (m=[62]\/m=[62,61]\/m=[33,61]):=by decide
 rw[h1 m hm,h2 m hm,h3 m hm]
def iX(vs:List Int)(l:List vQ)(v:Bool):Prop:=∀st rest,(eA vs rest (st++[v])->eA vs (l++rest) st)/\gX vs (l++rest) st=gX vs rest (st++[v])
theorem iX.one{s:vQ}(h:∀st,Bl vs s st/\qO vs s st=st++[v]):iX vs [s] v:=fun st rest=>by
 obtain⟨h1,h2⟩:=h st;exact⟨fun h3=>⟨h1,by rw[h2];exact h3⟩,by show gX vs rest (qO vs s st)=_;rw[h2]⟩
theorem iX.neg{l:List vQ}(h:iX vs l v):iX vs (l++[⟨4,0,0,[],0⟩]) (!v):=fun st rest=>by
 have h1:=h st (⟨4,0,0,[],0⟩::rest);have e:qO vs ⟨4,0,0,[],0⟩ (st++[v])=st++[!v]:=by simp[qO]
 rw[mq];refine⟨fun h3=>h1.1 ⟨⟨by simp,by simp,by simp,by simp,by simp,by simp⟩,by rw[e];exact h3⟩,?_⟩;show gX vs (l++⟨4,0,0,[],0⟩::rest) st=_;rw[h1.2,gX,e]
theorem iX.bin{l r:List vQ}{x:Bool}{kd:Int}(hk:kd=5\/kd=6)(h:iX vs l v)(h':iX vs r x):iX vs (l++r++[⟨kd,0,0,[],0⟩]) (if kd=5 then v&&x else v || x):=fun st rest=>by
 have h1:=h st (r++⟨kd,0,0,[],0⟩::rest);have h2:=h' (st++[v]) (⟨kd,0,0,[],0⟩::rest)
 have e:qO vs ⟨kd,0,0,[],0⟩ (st++[v]++[x])=st++[if kd=5 then v&&x else v || x]:=by
  rcases hk with rfl|rfl <;> simp[qO]
 rw[mq,mq];refine⟨fun h3=>h1.1 (h2.1 ⟨⟨by rcases hk with rfl|rfl <;> simp,by rcases hk with rfl|rfl <;> simp,by rcases hk with rfl|rfl <;> simp,by rcases hk with rfl|rfl <;> simp,by rcases hk with rfl|rfl <;> simp,by simp⟩,by rw[e];exact h3⟩),?_⟩;show gX vs (l++(r++⟨kd,0,0,[],0⟩::rest)) st=_;rw[h1.2,h2.2,gX,e]
theorem zFW{E:x7}{k:Nat}{x:Bs × Int}{N:List zX}{a:Int}(h:Gr k u x N a)(hN:∀y∈N,Fg names vs E y)(n:Nat)(hn:u.length<n):uH n u=true/\iX vs (vM names n u) ((eE E N).getD a.toNat false):=by
 have nmem:∀ {N:List zX} {a:Int},0<=a->a<N.length->qZ N a.toNat∈N:=fun {N a} h0 h1=>by
  unfold qZ;simp[List.getD,show a.toNat<N.length by omega]
 refine Gr.ind (R:=fun _ u _ N a=>(∀y∈N,Fg names vs E y)->∀n,u.length<n->uH n u=true/\iX vs (vM names n u) ((eE E N).getD a.toNat false)) ?_ ?_ ?_ ?_ ?_ h hN n hn
 ·intro k u N a h hT hN n hn
  obtain⟨n,rfl⟩:∃m,n=m+1:=⟨n-1,by omega⟩;have e1:yF u xX = -1:=jM xX (.inl rfl) u h.2 0 0 (-1);have e2:yF u yE = -1:=jM yE (.inr rfl) u h.2 0 0 (-1)
  have hp:tN (cA u 0):=by
   obtain⟨h1,h2⟩:=h
   cases u with
   | nil=>exact absurd rfl h1
   | cons t r=>exact h2 t (mw ..)
  have hl:0<u.length:=fw.2 h.1;obtain⟨h0,zIB,hk4,-,hTT⟩:=hT;have hE:=hN _ (nmem h0 zIB);have hv:(eE E N).getD a.toNat false=QF E (eE E (N.take a.toNat)) (qZ N a.toNat):=YW E N a.toNat (by omega);rw[hv,uH,vM,e1,e2,tg (by omega),tg (by omega),tg hp.2.2.2.2.2,tg hp.2.2.2.1,tg (by omega),tg (by omega),tg hp.2.2.2.2.2,tg hp.2.2.2.1];generalize qZ N a.toNat=y at *;rcases hTT with ⟨k4,t,rfl,c1⟩|⟨k5,t,s,rfl,c1,c2,nm⟩|⟨k6,t,rfl,c1,nm⟩|⟨k7,t,m,s,rfl,c1,nm,hm,mk,ho⟩
  ·refine⟨?_,iX.one fun st=>?_⟩
   ·have:cA [t] 0≠iO:=by show zR t.2≠_;rw[c1];decide
    simp[this]
   ·have e:mH names [t]=⟨0,0,0,[],0⟩:=by unfold mH;rw[tj (show cA [t] 0=VP from c1)]
    have e3:QF E (eE E (N.take a.toNat)) y=true:=by unfold QF;rw[k4];rfl
    rw[e,e3];exact⟨⟨by simp,by simp,by simp,by simp,by simp,by simp⟩,by simp[qO,dW]⟩
  ·obtain⟨j1,j2⟩:=hE.1 k5
   refine⟨by simp,iX.one fun st=>?_⟩
   have e:mH names [t,s]=⟨1,zH names y.name,0,[],0⟩:=by
    unfold mH;rw[tg (by show ¬zR t.2=_;rw[c1];decide),tj (show cA [t,s] 0=iO from c1),nm];rfl
   have e3:QF E (eE E (N.take a.toNat)) y=E.has y.name:=by unfold QF;rw[k5];rfl
   rw[e,e3,<-j2];exact⟨⟨by simp,fun _=>j1,by simp,by simp,by simp,by simp⟩,by simp[qO,dW]⟩
  ·obtain⟨j1,j2⟩:=hE.2.1 k6
   have nh:cA [t] 0≠iO:=by show zR t.2≠_;rw[c1];decide
   refine⟨by simp[nh],iX.one fun st=>?_⟩
   have e:mH names [t]=⟨1,zH names y.name,0,[],0⟩:=by
    unfold mH;rw[tg (by show ¬zR t.2=_;rw[c1];decide),tg nh,tg (by simp),nm];rfl
   have e3:QF E (eE E (N.take a.toNat)) y=decide (E.inp y.name=1):=by unfold QF;rw[k6];rfl
   rw[e,e3,<-j2];exact⟨⟨by simp,fun _=>j1,by simp,by simp,by simp,by simp⟩,by simp[qO,dW]⟩
  ·obtain⟨j1,j2,j3⟩:=hE.2.2 k7
   have nh:cA [t,m,s] 0≠iO:=by show zR t.2≠_;rw[c1];decide
   have na:¬cA [t,m,s] 0=VP:=by show ¬zR t.2=_;rw[c1];decide
   refine⟨by simp,iX.one fun st=>?_⟩;rcases ho with ⟨cs,ho,zJ5⟩|⟨cs,ho,zIM⟩
   ·have e:mH names [t,m,s]=⟨2,zH names y.name,0,y.mark,y.num⟩:=by
     unfold mH;rw[tg na,tg nh,tj (show [t,m,s].length=3 from rfl),tj (show cA [t,m,s] 2=yA from cs),nm,mk,zJ5];rfl
    have e3:QF E (eE E (N.take a.toNat)) y=zq (E.inp y.name) y.mark y.num:=by unfold QF;rw[k7,ho];rfl
    rw[e,e3,<-j2,<-zAS (by rw[mk];exact hm)];exact⟨⟨by simp,by simp,fun _=>j1,by simp,by simp,by simp⟩,by simp[qO,dW]⟩
   ·have hne':y.other≠[]:=by rw[ho];exact zIM
    obtain⟨j4,j5⟩:=j3 hne'
    have e:mH names [t,m,s]=⟨3,zH names y.name,zH names y.other,y.mark,0⟩:=by
     unfold mH;rw[tg na,tg nh,tj (show [t,m,s].length=3 from rfl),tg (show ¬cA [t,m,s] 2=yA by show ¬zR s.2=_;rw[cs];decide),nm,mk,ho];rfl
    have e3:QF E (eE E (N.take a.toNat)) y=zq (E.inp y.name) y.mark (E.inp y.other):=by unfold QF;rw[k7,tg hne'];rfl
    rw[e,e3,<-j2,<-j5,<-zAS (by rw[mk];exact hm)];exact⟨⟨by simp,by simp,by simp,fun _=>⟨j1,j4⟩,by simp,by simp⟩,by simp[qO,dW]⟩
 ·intro k t u x N a h1 h2 h3 ih hN n hn
  obtain⟨n,rfl⟩:∃m,n=m+1:=⟨n-1,by omega⟩;have hW:Gr 0 (t::u) (QE x) N a:=bH.neg _ _ _ _ _ _ h1 h2 h3;have e1:yF (t::u) xX = -1:=hW.out0 xX (.inl rfl) 0 (-1);have e2:yF (t::u) yE = -1:=hW.out0 yE (.inr rfl) 0 (-1);have hc:cA (t::u) 0=yW:=h1;obtain⟨i1,i2⟩:=ih hN n (by simp at hn;omega);obtain⟨h0,zIB,hk3,hll⟩:=h2;have hb:=h3.bound
  have hv:(eE E N).getD a.toNat false = !(eE E N).getD (lf N a).toNat false:=by
   rw[YW E N a.toNat (by omega)];unfold QF;rw[hk3,<-sF E N a.toNat (lf N a) hb.1 (by omega) (by omega)];rfl
  rw[hv,uH,vM,e1,e2,tg (by omega),tg (by omega),tj hc,tg (by omega),tg (by omega),tj hc];simp only[List.drop_succ_cons,List.drop_zero,p7];exact⟨by simp[i1],i2.neg⟩
 ·intro k o u c x N a h1 h2 h3 ih hN n hn
  obtain⟨n,rfl⟩:∃m,n=m+1:=⟨n-1,by omega⟩;have e1:yF (o::(u++[c])) xX = -1:=dB xX (.inl rfl) h1 h2 h3 0 (-1);have e2:yF (o::(u++[c])) yE = -1:=dB yE (.inr rfl) h1 h2 h3 0 (-1);have hc:cA (o::(u++[c])) 0=yP:=h1;have hc':¬cA (o::(u++[c])) 0=yW:=by rw[hc];decide
  have hp:=h3.pos;obtain⟨i1,i2⟩:=ih hN n (by simp at hn;omega);rw[uH,vM,e1,e2,tg (by omega),tg (by omega),tg hc',tj hc,tg (by omega),tg (by omega),tg hc',tj hc];have e3:((o::(u++[c])).drop 1).take ((o::(u++[c])).length-2)=u:=by simp
  rw[e3,i1];exact⟨by simp;omega,i2⟩
 ·intro k u t v x y N a h1 h2 h3 h4 h5 ihu ihv hN n hn
  obtain⟨n,rfl⟩:∃m,n=m+1:=⟨n-1,by omega⟩;have hW:Gr 1 (u++t::v) (UC x y) N a:=bH.and _ _ _ _ _ _ _ _ (t9 _) h2 h3 h4 h5;have e1:yF (u++t::v) xX = -1:=hW.out1 (t9 _) 0 (-1)
  have e2:yF (u++t::v) yE=u.length:=by
   unfold yF;rw[qS,h4.op,uU,h2,cC,tj ⟨rfl,rfl⟩,h5.out0 yE (.inr rfl)];omega
  have hl:(u++t::v).length=u.length+1+v.length:=by simp;omega
  obtain⟨i1,i2⟩:=ihu hN n (by omega);obtain⟨j1,j2⟩:=ihv hN n (by omega);have t1:(u++t::v).take u.length=u:=by simp
  have t2:(u++t::v).drop (u.length+1)=v:=by simp
  obtain⟨h0,zIB,hk2,hll,hrr⟩:=h3;have hb:=h4.bound;have hb':=h5.bound
  have hv:(eE E N).getD a.toNat false=((eE E N).getD (lf N a).toNat false&&(eE E N).getD (rg N a).toNat false):=by
   rw[YW E N a.toNat (by omega)];unfold QF;rw[hk2,<-sF E N a.toNat (lf N a) hb.1 (by omega) (by omega),<-sF E N a.toNat (rg N a) hb'.1 (by omega) (by omega)];rfl
  rw[hv,uH,vM,e1,e2,tg (by omega),tj (Int.natCast_nonneg _),tg (by omega),tj (Int.natCast_nonneg _),Int.toNat_natCast,t1,t2,i1,j1];exact⟨rfl,i2.bin (.inl rfl) j2⟩
 ·intro k u t v x y N a h1 h2 h3 h4 h5 ihu ihv hN n hn
  obtain⟨n,rfl⟩:∃m,n=m+1:=⟨n-1,by omega⟩
  have e2:yF (u++t::v) xX=u.length:=by
   unfold yF;rw[qS,h4.op,uU,h2,rX,tj ⟨rfl,rfl⟩,h5.out1 (t9 _)];omega
  have hl:(u++t::v).length=u.length+1+v.length:=by simp;omega
  obtain⟨i1,i2⟩:=ihu hN n (by omega);obtain⟨j1,j2⟩:=ihv hN n (by omega);have t1:(u++t::v).take u.length=u:=by simp
  have t2:(u++t::v).drop (u.length+1)=v:=by simp
  obtain⟨h0,zIB,hk1,hll,hrr⟩:=h3;have hb:=h4.bound;have hb':=h5.bound
  have hv:(eE E N).getD a.toNat false=((eE E N).getD (lf N a).toNat false || (eE E N).getD (rg N a).toNat false):=by
   rw[YW E N a.toNat (by omega)];unfold QF;rw[hk1,<-sF E N a.toNat (lf N a) hb.1 (by omega) (by omega),<-sF E N a.toNat (rg N a) hb'.1 (by omega) (by omega)];rfl
  rw[hv,uH,vM,e2,tj (Int.natCast_nonneg _),tj (Int.natCast_nonneg _),Int.toNat_natCast,t1,t2,i1,j1];exact⟨rfl,i2.bin (.inr rfl) j2⟩
theorem zDW{k:Nat}{x:Bs × Int}{N:List zX}{a:Int}(h:Gr k u x N a)(n:Nat)(hn:u.length<n):uH n u=true:=by
 refine Gr.ind (R:=fun _ u _ _ _=>∀n,u.length<n->uH n u=true) ?_ ?_ ?_ ?_ ?_ h n hn
 ·intro k u N a h hT n hn
  obtain⟨n,rfl⟩:∃m,n=m+1:=⟨n-1,by omega⟩;have e1:yF u xX = -1:=jM xX (.inl rfl) u h.2 0 0 (-1);have e2:yF u yE = -1:=jM yE (.inr rfl) u h.2 0 0 (-1)
  have hp:tN (cA u 0):=by
   obtain⟨h1,h2⟩:=h
   cases u with
   | nil=>exact absurd rfl h1
   | cons t r=>exact h2 t (mw ..)
  have hl:0<u.length:=fw.2 h.1;obtain⟨-,-,-,-,hTT⟩:=hT;rw[uH,e1,e2,tg (by omega),tg (by omega),tg hp.2.2.2.2.2,tg hp.2.2.2.1];rcases hTT with ⟨k4,t,rfl,c1⟩|⟨k5,t,s,rfl,c1,c2,nm⟩|⟨k6,t,rfl,c1,nm⟩|⟨k7,t,m,s,rfl,c1,nm,hm,mk,ho⟩
  ·have:cA [t] 0≠iO:=by show zR t.2≠_;rw[c1];decide
   simp[this]
  ·simp
  ·have:cA [t] 0≠iO:=by show zR t.2≠_;rw[c1];decide
   simp[this]
  ·simp
 ·intro k t u x N a h1 h2 h3 ih n hn
  obtain⟨n,rfl⟩:∃m,n=m+1:=⟨n-1,by omega⟩;have hW:Gr 0 (t::u) (QE x) N a:=bH.neg _ _ _ _ _ _ h1 h2 h3;have e1:yF (t::u) xX = -1:=hW.out0 xX (.inl rfl) 0 (-1);have e2:yF (t::u) yE = -1:=hW.out0 yE (.inr rfl) 0 (-1);have hc:cA (t::u) 0=yW:=h1;have i1:=ih n (by simp at hn;omega);rw[uH,e1,e2,tg (by omega),tg (by omega),tj hc];simp[i1]
 ·intro k o u c x N a h1 h2 h3 ih n hn
  obtain⟨n,rfl⟩:∃m,n=m+1:=⟨n-1,by omega⟩;have e1:yF (o::(u++[c])) xX = -1:=dB xX (.inl rfl) h1 h2 h3 0 (-1);have e2:yF (o::(u++[c])) yE = -1:=dB yE (.inr rfl) h1 h2 h3 0 (-1);have hc:cA (o::(u++[c])) 0=yP:=h1;have hc':¬cA (o::(u++[c])) 0=yW:=by rw[hc];decide
  have hp:=h3.pos;have i1:=ih n (by simp at hn;omega);rw[uH,e1,e2,tg (by omega),tg (by omega),tg hc',tj hc];have e3:((o::(u++[c])).drop 1).take ((o::(u++[c])).length-2)=u:=by simp
  rw[e3,i1];simp;omega
 ·intro k u t v x y N a h1 h2 h3 h4 h5 ihu ihv n hn
  obtain⟨n,rfl⟩:∃m,n=m+1:=⟨n-1,by omega⟩;have hW:Gr 1 (u++t::v) (UC x y) N a:=bH.and _ _ _ _ _ _ _ _ (t9 _) h2 h3 h4 h5;have e1:yF (u++t::v) xX = -1:=hW.out1 (t9 _) 0 (-1)
  have e2:yF (u++t::v) yE=u.length:=by
   unfold yF;rw[qS,h4.op,uU,h2,cC,tj ⟨rfl,rfl⟩,h5.out0 yE (.inr rfl)];omega
  have hl:(u++t::v).length=u.length+1+v.length:=by simp;omega
  have i1:=ihu n (by omega);have j1:=ihv n (by omega);have t1:(u++t::v).take u.length=u:=by simp
  have t2:(u++t::v).drop (u.length+1)=v:=by simp
  rw[uH,e1,e2,tg (by omega),tj (Int.natCast_nonneg _),Int.toNat_natCast,t1,t2,i1,j1];rfl
 ·intro k u t v x y N a h1 h2 h3 h4 h5 ihu ihv n hn
  obtain⟨n,rfl⟩:∃m,n=m+1:=⟨n-1,by omega⟩
  have e2:yF (u++t::v) xX=u.length:=by
   unfold yF;rw[qS,h4.op,uU,h2,rX,tj ⟨rfl,rfl⟩,h5.out1 (t9 _)];omega
  have hl:(u++t::v).length=u.length+1+v.length:=by simp;omega
  have i1:=ihu n (by omega);have j1:=ihv n (by omega);have t1:(u++t::v).take u.length=u:=by simp
  have t2:(u++t::v).drop (u.length+1)=v:=by simp
  rw[uH,e2,tj (Int.natCast_nonneg _),Int.toNat_natCast,t1,t2,i1,j1];rfl
def Bq(m:Bool):Int:=if m then -1 else 1
def uE(names:List Bs)(x:yX):kK:=if x.name=[] then ⟨-1,Bq x.minus*x.num⟩ else if x.starred then ⟨zH names x.name,Bq x.minus*x.num⟩ else ⟨zH names x.name,Bq x.minus⟩
theorem cE{v:zG}(h:ts.drop i=v)(j:Nat):cA ts (i+j)=cA v j/\tA ts (i+j)=tA v j:=by
 subst h;unfold cA tA;simp[List.getD]
theorem Dx{v:zG}{sg:Int}{acc:List kK}{x:yX}{v1 r:zG}(h:ts.drop i=v)(hv:v=v1++r)(hp:JJ x v1)(hs:sg=Bq x.minus)(hi:i=0\/cA ts (i-1)≠[42]) :
 rS names ts (ts.length-i) i sg acc=rS names ts (ts.length-(i+v1.length)) (i+v1.length) sg (acc++[uE names x]):=by
 have hl:i+v1.length<=ts.length/\0<v1.length:=by
  have h1:=congrArg List.length h;rw[hv,ty,tq]at h1;have h2:0<v1.length:=by rcases hp with ⟨a,b,c,rfl,_⟩|⟨a,rfl,_⟩|⟨a,rfl,_⟩ <;> simp
  omega
 subst hv;rcases hp with ⟨a,b,c,rfl,c1,c2,c3,zIM,zIU,hnu,hnm⟩|⟨a,rfl,c1,zIU,hnu,hnm⟩|⟨a,rfl,c1,zIM,zIU,hnu,hnm⟩
 ·have e0:cA ts i=yA/\tA ts i=a.2:=by have:=cE h 0;simp only[pq]at this;exact⟨this.1.trans c1,this.2⟩
  have e1:cA ts (i+1)=[42]:=(cE h 1).1.trans c2;have e2:cA ts (i+2)=yT/\tA ts (i+2)=c.2:=⟨(cE h 2).1.trans c3,(cE h 2).2⟩;simp only[p7,List.length_nil]at hl ⊢;rw[bO names ts i sg acc (by omega)];have s0:uD names ts i sg acc=(sg,acc++[⟨-1,sg*xF 0 a.2⟩]):=by unfold uD;rw[e0.1,e0.2,tg (by decide),tg (by decide),tj rfl]
  rw[s0,bO names ts (i+1) _ _ (by omega)];have s1:uD names ts (i+1) sg (acc++[⟨-1,sg*xF 0 a.2⟩])=(sg,acc++[⟨zH names c.2,sg*xF 0 a.2⟩]):=by unfold uD;rw[e1,tg (by decide),tg (by decide),tg (by decide),tj rfl,e2.2];simp
  rw[s1,bO names ts (i+1+1) _ _ (by omega)]
  have s2:uD names ts (i+1+1) sg (acc++[⟨zH names c.2,sg*xF 0 a.2⟩])=(sg,acc++[⟨zH names c.2,sg*xF 0 a.2⟩]):=by
   unfold uD;rw[show i+1+1=i+2 by omega,e2.1,tg (by decide),tg (by decide),tg (by decide),tg (by decide),tj rfl,tg (by rintro(h1|h1);omega;exact h1 (by rw[show i+2-1=i+1 by omega];exact e1))]
  rw[s2];have ed:uE names x=⟨zH names c.2,sg*xF 0 a.2⟩:=by unfold uE;rw[hnm,tg zIM,zIU,tj rfl,hnu,hs]
  rw[ed]
 ·have e0:cA ts i=yA/\tA ts i=a.2:=by have:=cE h 0;simp only[pq]at this;exact⟨this.1.trans c1,this.2⟩
  simp only[p7,List.length_nil]at hl ⊢;rw[bO names ts i sg acc (by omega)];have s0:uD names ts i sg acc=(sg,acc++[⟨-1,sg*xF 0 a.2⟩]):=by unfold uD;rw[e0.1,e0.2,tg (by decide),tg (by decide),tj rfl]
  have ed:uE names x=⟨-1,sg*xF 0 a.2⟩:=by unfold uE;rw[hnm,tj rfl,hnu,hs]
  rw[s0,ed]
 ·have e0:cA ts i=yT/\tA ts i=a.2:=by have:=cE h 0;simp only[pq]at this;exact⟨this.1.trans c1,this.2⟩
  simp only[p7,List.length_nil]at hl ⊢;rw[bO names ts i sg acc (by omega)];have s0:uD names ts i sg acc=(sg,acc++[⟨zH names a.2,sg⟩]):=by unfold uD;rw[e0.1,e0.2,tg (by decide),tg (by decide),tg (by decide),tg (by decide),tj rfl,tj hi]
  have ed:uE names x=⟨zH names a.2,sg⟩:=by unfold uE;rw[hnm,tg zIM,zIU,hs];rfl
  rw[s0,ed]
theorem zCQ(S:List yX):∀ {m:Bool} {v:zG} {i:Nat} {sg:Int} {acc:List kK},ts.drop i=v->UI m S v->sg=Bq m->(i=0\/cA ts (i-1)≠[42]) ->
 rS names ts (ts.length-i) i sg acc=acc++S.map (uE names):=by
 induction S with
 | nil=>intro m v i sg acc _ h;exact h.elim
 | cons x r ih =>
   intro m v i sg acc h hS hs hi;obtain⟨hm,hS⟩:=hS;rcases hS with ⟨rfl,hp⟩|⟨v1,t,v2,rfl,hp,hr⟩
   ·rw[Dx (r:=[]) h (by simp) hp (by rw[hm];exact hs) hi]
    have hl:=congrArg List.length h;rw[ty]at hl;have h2:0<v.length:=by rcases hp with ⟨a,b,c,rfl,_⟩|⟨a,rfl,_⟩|⟨a,rfl,_⟩ <;> simp
    rw[show ts.length-(i+v.length)=0 by omega,rS];rfl
   ·rw[Dx (r:=t::v2) h rfl hp (by rw[hm];exact hs) hi]
    have hl:=congrArg List.length h;rw[ty,tq,p7]at hl
    have ht:cA ts (i+v1.length)=zR t.2:=by
     rw[(cE h v1.length).1];unfold cA tA;rw[List.getD,pf (t9 _),bj];rfl
    have hd:ts.drop (i+v1.length+1)=v2:=by
     rw[show i+v1.length+1=i+(v1.length+1) by omega,<-List.drop_drop,h];simp
    rw[bO names ts (i+v1.length) _ _ (by omega)];rcases hr with ⟨c,hr⟩|⟨c,hr⟩
    ·have s0:uD names ts (i+v1.length) sg (acc++[uE names x])=(-1,acc++[uE names x]):=by unfold uD;rw[ht,c,tg (by decide),tj rfl]
     rw[s0];refine(ih hd hr (show (-1:Int)=Bq true from rfl) (.inr (by rw[Nat.add_sub_cancel,ht,c];decide))).trans (by simp)
    ·have s0:uD names ts (i+v1.length) sg (acc++[uE names x])=(1,acc++[uE names x]):=by unfold uD;rw[ht,c,tj rfl]
     rw[s0];refine(ih hd hr (show (1:Int)=Bq false from rfl) (.inr (by rw[Nat.add_sub_cancel,ht,c];decide))).trans (by simp)
theorem qd{v:zG}{S:List yX}(h:UI false S v):rD names v=S.map (uE names):=by
 unfold rD;have:=zCQ (names:=names) (ts:=v) S (i:=0) (acc:=[]) (sg:=1) rfl h rfl (.inl rfl);simpa using this
theorem Bk{x:yX}{v1:zG}(hp:JJ x v1)(hT:fM ts){r:zG}(h:ts.drop i=v1++r):∀j,j<v1.length->(cA ts (i+j)=[42]->0<j/\cA ts (i+j-1)=yA/\i+j+1<ts.length)/\(cA ts (i+j)=yA->0<=xF 0 (tA ts (i+j))/\xF 0 (tA ts (i+j))<=9999):=by
 have hl:=congrArg List.length h;rw[ty,tq]at hl;intro j hj;refine⟨fun hc=>?_,fun hc=>(X2 (hT.at' (by omega)) hc).1⟩;rw[(cE h j).1]at hc;rcases hp with ⟨a,b,c,rfl,c1,c2,c3,zIM,zIU,hnu,hnm⟩|⟨a,rfl,c1,zIU,hnu,hnm⟩|⟨a,rfl,c1,zIM,zIU,hnu,hnm⟩
 ·simp only[p7,List.length_nil]at hj hl
  have:j=0\/j=1\/j=2:=by omega
  rcases this with rfl|rfl|rfl
  ·exact absurd (show zR a.2=[42] from hc) (by rw[c1];decide)
  ·have e:=(cE h 0).1
   rw[pq]at e;exact⟨by decide,by rw[Nat.add_sub_cancel,e];exact c1,by omega⟩
  ·exact absurd (show zR c.2=[42] from hc) (by rw[c3];decide)
 ·simp only[p7,List.length_nil]at hj
  obtain rfl:j=0:=by omega
  exact absurd (show zR a.2=[42] from hc) (by rw[c1];decide)
 ·simp only[p7,List.length_nil]at hj
  obtain rfl:j=0:=by omega
  exact absurd (show zR a.2=[42] from hc) (by rw[c1];decide)
theorem F4(hT:fM ts)(S:List yX):∀ {m:Bool} {v:zG} {i:Nat},ts.drop i=v->UI m S v->∀k,i<=k->k<ts.length->(cA ts k=[42]->0<k/\cA ts (k-1)=yA/\k+1<ts.length)/\(cA ts k=yA->0<=xF 0 (tA ts k)/\xF 0 (tA ts k)<=9999):=by
 induction S with
 | nil=>intro m v i _ h;exact h.elim
 | cons x r ih =>
   intro m v i h hS k hk hkl;obtain⟨-,hS⟩:=hS
   have fin:∀ {v1 rr:zG},v=v1++rr->JJ x v1->k<i+v1.length->(cA ts k=[42]->0<k/\cA ts (k-1)=yA/\k+1<ts.length)/\(cA ts k=yA->0<=xF 0 (tA ts k)/\xF 0 (tA ts k)<=9999):=fun {v1 rr} hv hp hkk=>by
    subst hv;have:=Bk hp hT h (k-i) (by omega);rw[show i+(k-i)=k by omega]at this;exact⟨fun hc=>⟨by have:=(this.1 hc).1;omega,(this.1 hc).2⟩,this.2⟩
   have hl:=congrArg List.length h;rw[ty]at hl;rcases hS with ⟨rfl,hp⟩|⟨v1,t,v2,rfl,hp,hr⟩
   ·exact fin (v1:=v) (rr:=[]) (by simp) hp (by omega)
   ·rcases po k (i+v1.length) with h1|h1
    ·exact fin rfl hp h1
    ·have ht:cA ts (i+v1.length)=zR t.2:=by
      rw[(cE h v1.length).1];unfold cA tA;rw[List.getD,pf (t9 _),bj];rfl
     have hd:ts.drop (i+v1.length+1)=v2:=by
      rw[show i+v1.length+1=i+(v1.length+1) by omega,<-List.drop_drop,h];simp
     rcases po k (i+v1.length+1) with h2|h2
     ·obtain rfl:k=i+v1.length:=by omega
      rw[ht];rcases hr with ⟨c,_⟩|⟨c,_⟩ <;> (rw[c];exact⟨fun e=>absurd e (by decide),fun e=>absurd e (by decide)⟩)
     ·rcases hr with ⟨c,hr⟩|⟨c,hr⟩
      ·exact ih hd hr k h2 hkl
      ·exact ih hd hr k h2 hkl
theorem vg(h:fM ts)(a b:Nat):fM ((ts.drop a).take b):=fun t ht=>h t (List.mem_of_mem_drop (List.mem_of_mem_take ht))
theorem zHV{x:zF}(h:LT x u)(hk:cA u 0=zQ):zH2 u:=by
 obtain⟨w,hr⟩:=h.rule hk;have hw:=hr.wAt;have e:(u.drop 5).take (w-5)=(u.take w).drop 5:=by rw[List.drop_take]
 refine⟨by rw[hr.wB,hw],by rw[hw];exact hr.wlo,by rw[hw];exact hr.whi,?_,?_⟩
 ·rw[hw]
  have hT:=vg h.toks 5 (w-5);have hS:=hr.sums;rw[<-e]at hS;have:=fun k hk'=>F4 hT x.sum (i:=0) rfl hS k (tr _) hk';exact⟨fun i hi=>(this i hi).1,fun i hi=>(this i hi).2⟩
 ·rw[hw]
  obtain⟨k,y,hg⟩:=hr.gr;exact zDW hg _ (by rw[ty];omega)
end Go.Proofs.YtnbpdffdnphbeaaGreatDoor
