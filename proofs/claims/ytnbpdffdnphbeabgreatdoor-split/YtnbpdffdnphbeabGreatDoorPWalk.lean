import Derived.Test.YtnbpdffdnphbeabGreatDoorCkErr2
namespace Go.Proofs.YtnbpdffdnphbeabGreatDoor
variable(G:List Bool)(n:Nat)
theorem K8:∀g:Nat->Nat,(∀i,i<=n->g i<n)->∃i j,i<j/\j<=n/\g i=g j:=by
 induction n with
 | zero=>intro g h;exact absurd (h 0 (j1 _)) (by omega)
 | succ n ih =>
   intro g h;rcases Classical.em (∃i,i<=n/\g i=g (n+1)) with ⟨i,h1,h2⟩|hno
   ·exact⟨i,n+1,by omega,j1 _,h2⟩
   ·
    have zL4:∀i,i<=n->g i≠g (n+1):=fun i hi e=>hno ⟨i,hi,e⟩;have hlast:=h (n+1) (j1 _)
    obtain⟨i,j,h1,h2,h3⟩:=ih (fun i=>if g i<g (n+1) then g i else g i-1) (fun i hi=>by
     have h4:=h i (by omega);have h5:=zL4 i hi;show (if g i<g (n+1) then g i else g i-1)<n;split <;> omega)
    refine⟨i,j,h1,by omega,?_⟩;have h4:=zL4 i (by omega);have h5:=zL4 j h2;split at h3 <;> split at h3 <;> omega
theorem xY{P:Nat->Prop}:P n->∃m,m<=n/\P m/\∀k,k<m->¬P k:=by
 induction n using Nat.strongRecOn with
 | _ n ih =>
   intro h;rcases Classical.em (∃k,k<n/\P k) with ⟨k,h1,h2⟩|hno
   ·obtain⟨m,h3,h4,h5⟩:=ih k h1 h2
    exact⟨m,by omega,h4,h5⟩
   ·exact⟨n,j1 _,h,fun k hk hp=>hno ⟨k,hk,hp⟩⟩
def sO(p:Nat->Bool)(S:Nat->Nat):Nat->Nat->Nat->Nat
 | 0,_,acc=>acc
 | n+1,k,acc=>sO p S n (k+1) (if p k&&decide (acc<=S k) then S k+1 else acc)
theorem Xf(p:Nat->Bool)(S:Nat->Nat)(m:Nat)(n:Nat):∀k acc,sO p S n k acc<=m ↔ acc<=m/\∀z,k<=z->z<k+n->p z=true->S z+1<=m:=by
 induction n with
 | zero=>intro k acc;rw[sO];exact⟨fun h=>⟨h,fun z h1 h2=>by omega⟩,fun h=>h.1⟩
 | succ n ih =>
   intro k acc;rw[sO,ih];constructor
   ·rintro⟨h1,h2⟩
    refine⟨?_,fun z hz1 hz2 hp=>?_⟩
    ·split at h1
     ·rename_i hc;rw[pq,bq]at hc;omega
     ·exact h1
    ·by_cases hz:z=k
     ·subst hz
      split at h1
      ·exact h1
      ·rename_i hc
       rw[pq,bq]at hc;have:¬acc<=S z:=fun h=>hc ⟨hp,h⟩;omega
     ·exact h2 z (by omega) (by omega) hp
   ·rintro⟨h1,h2⟩
    refine⟨?_,fun z hz1 hz2 hp=>h2 z (by omega) (by omega) hp⟩;split
    ·rename_i hc;rw[pq,bq]at hc;exact h2 k (j1 _) (by omega) hc.1
    ·exact h1
theorem JC{p:Nat->Bool}{S T:Nat->Nat}{n:Nat}(h:∀z,z<n->p z=true->S z<=T z):sO p S n 0 0<=sO p T n 0 0:=by
 rw[Xf];refine⟨p7 _,fun z _ hz hp=>?_⟩;have h2:=((Xf p T _ n 0 0).1 (j1 _)).2 z (p7 _) hz hp;have:=h z (by omega) hp;omega
theorem Vn{p q:Nat->Bool}{S T:Nat->Nat}:∀k acc,(∀z,k<=z->z<k+n->p z=q z/\(p z=true->S z=T z))->sO p S n k acc=sO q T n k acc:=by
 induction n with
 | zero=>intro k acc _;rfl
 | succ n ih =>
   intro k acc h;rw[sO,sO,ih (k+1) _ (fun z h1 h2=>h z (by omega) (by omega))];obtain⟨h1,h2⟩:=h k (j1 _) (by omega);congr 1
   cases hp:p k with
   | false=>rw[hp]at h1;rw[<-h1];rfl
   | true=>rw[h2 hp];rw[hp]at h1;rw[<-h1]
def gQ(G:List Bool):Nat->Nat->Nat
 | 0,_=>0
 | n+1,a=>sO (gA G a) (gQ G n) 8 0 0
theorem QL:∀a,gQ G n a<=n:=by
 induction n with
 | zero=>intro a;exact j1 _
 | succ n ih=>intro a;rw[gQ,Xf];exact⟨p7 _,fun z _ _ _=>by have:=ih z;omega⟩
theorem zEC:∀a,gQ G n a<=gQ G (n+1) a:=by
 induction n with
 | zero=>intro a;exact p7 _
 | succ n ih=>intro a;rw[gQ,gQ];exact JC (fun z _ _=>ih z)
theorem Xl:∀a,gQ G (n+1) a<=n->gQ G n a=gQ G (n+1) a:=by
 induction n with
 | zero=>intro a h;have h2:gQ G 0 a=0:=rfl;omega
 | succ n ih =>
   intro a h;rw[gQ]at h;rw[Xf]at h;rw[gQ,gQ];exact Vn 8 0 0 (fun z h1 h2=>⟨rfl,fun hp=>ih z (by have:=h.2 z h1 h2 hp;omega)⟩)
theorem Vr:∀a,a<8->gQ G n a=n->∃x:Nat->Nat,x 0=a/\(∀i,i<=n->x i<8)/\∀i,i<n->Ke G (x i) (x (i+1)):=by
 induction n with
 | zero=>intro a ha _;exact⟨fun _=>a,rfl,fun _ _=>ha,fun i h=>by omega⟩
 | succ n ih =>
   intro a ha h
   have hz:∃z,z<8/\gA G a z=true/\gQ G n z=n:=by
    rcases Classical.em (∃z,z<8/\gA G a z=true/\gQ G n z=n) with h1|h1
    ·exact h1
    ·exfalso
     have:gQ G (n+1) a<=n:=by
      rw[gQ,Xf];refine⟨p7 _,fun z _ hz hp=>?_⟩;have h2:=QL G n z;have h3:gQ G n z≠n:=fun e=>h1 ⟨z,by omega,hp,e⟩;omega
     omega
   obtain⟨z,hz8,hp,hl⟩:=hz;obtain⟨x,h0,hx8,hx⟩:=ih z hz8 hl;refine⟨fun i=>if i=0 then a else x (i-1),by simp,fun i hi=>?_,fun i hi=>?_⟩
   ·by_cases h:i=0
    ·simp[h,ha]
    ·simp[h];exact hx8 (i-1) (by omega)
   ·by_cases h:i=0
    ·subst h;simp[h0];exact⟨ha,hz8,hp⟩
    ·simp[h]
     have:=hx (i-1) (by omega)
     rwa [show i-1+1=i by omega]at this
theorem Ub{G:List Bool}{x:Nat->Nat}{n:Nat}(hx:∀i,i<n->Ke G (x i) (x (i+1)))(d:Nat):∀i,i+d+1<=n->TC (Ke G) (x i) (x (i+d+1)):=by
 induction d with
 | zero=>intro i h;exact TC.one (hx i (by omega))
 | succ d ih=>intro i h;exact(ih i (by omega)).trans (TC.one (hx (i+d+1) (by omega)))
theorem zI8{G:List Bool}(hl:G.length=64)(hr:qS G=false)(a:Nat)(ha:a<8):gQ G 7 a=gQ G 8 a:=by
 refine Xl G 7 a ?_;show gQ G 8 a<=7;have h8:=QL G 8 a;rcases md (gQ G 8 a) 8 with h|h
 ·omega
 ·exfalso
  obtain⟨x,-,hx8,hx⟩:=Vr G 8 a ha (by omega);obtain⟨i,j,h1,h2,h3⟩:=K8 8 x hx8;have ht:=Ub hx (j-i-1) i (by omega);rw[show i+(j-i-1)+1=j by omega,<-h3]at ht;have:qS G=true:=(Zd hl).2 ⟨x i,hx8 i (by omega),ht⟩;rw[hr]at this;cases this
def dQ(G:List Bool)(a:Nat):Nat:=gQ G 7 a
theorem Du{G:List Bool}(hl:G.length=64)(hr:qS G=false)(a:Nat)(ha:a<8):sO (gA G a) (dQ G) 8 0 0=dQ G a:=by
 unfold dQ;rw[zI8 hl hr a ha];rfl
theorem j7{G:List Bool}(hl:G.length=64)(hr:qS G=false){a b:Nat}(ha:a<8)(hb:b<8)(h:gA G a b=true):dQ G b<dQ G a:=by
 have:=((Xf (gA G a) (dQ G) _ 8 0 0).1 (Nat.le_of_eq (Du hl hr a ha))).2 b (p7 _) (by omega) h;omega
def FD(G:List Bool):Nat->Nat->List Nat->List Nat
 | 0,_,S=>S
 | n+1,a,S=>FD G n (a+1) (S.set a (sO (gA G a) (fun z=>S.getD z 0) 8 0 0))
def YP(G:List Bool):Nat->List Nat->List Nat
 | 0,S=>S
 | n+1,S=>YP G n (FD G 8 0 S)
def tC(G:List Bool):List Nat:=YP G 7 (List.replicate 8 0)
theorem Dg:∀a S,(FD G n a S).length=S.length:=by
 induction n with
 | zero=>intro a S;rfl
 | succ n ih=>intro a S;rw[FD,ih,List.length_set]
theorem ul:∀S,(YP G n S).length=S.length:=by
 induction n with
 | zero=>intro S;rfl
 | succ n ih=>intro S;rw[YP,ih,Dg]
theorem Vy:(tC G).length=8:=by unfold tC;rw[ul];rfl
theorem Zq(S:List Nat)(a v z:Nat)(ha:a<S.length):(S.set a v).getD z 0=if z=a then v else S.getD z 0:=by
 by_cases h:z=a
 ·subst h;simp[List.getD,ha]
 ·simp[List.getD,h,List.getElem?_set_ne (Ne.symm h)]
theorem Bm{G:List Bool}(hl:G.length=64)(hr:qS G=false)(r:Nat)(n:Nat):∀a S,S.length=8->a+n=8->(∀z,z<8->gQ G r z<=S.getD z 0/\S.getD z 0<=dQ G z)->(∀z,z<a->gQ G (r+1) z<=S.getD z 0)->∀z,z<8->gQ G (r+1) z<=(FD G n a S).getD z 0/\(FD G n a S).getD z 0<=dQ G z:=by
 induction n with
 | zero=>intro a S _ ha h1 h2 z hz;rw[FD];exact⟨h2 z (by omega),(h1 z hz).2⟩
 | succ n ih =>
   intro a S hS ha h1 h2;rw[FD]
   have hlo:gQ G (r+1) a<=sO (gA G a) (fun z=>S.getD z 0) 8 0 0:=by
    rw[gQ];exact JC (fun z hz _=>(h1 z hz).1)
   have hhi:sO (gA G a) (fun z=>S.getD z 0) 8 0 0<=dQ G a:=by
    rw[<-Du hl hr a (by omega)];exact JC (fun z hz _=>(h1 z hz).2)
   refine ih (a+1) _ (by rw[List.length_set];exact hS) (by omega) (fun z hz=>?_) (fun z hz=>?_)
   ·rw[Zq S a _ z (by omega)]
    split
    ·rename_i h;subst h;exact⟨p8 (zEC G r z) hlo,hhi⟩
    ·exact h1 z hz
   ·rw[Zq S a _ z (by omega)]
    split
    ·rename_i h;subst h;exact hlo
    ·exact h2 z (by omega)
theorem KX{G:List Bool}(hl:G.length=64)(hr:qS G=false)(n:Nat):∀r S,S.length=8->(∀z,z<8->gQ G r z<=S.getD z 0/\S.getD z 0<=dQ G z)->∀z,z<8->gQ G (r+n) z<=(YP G n S).getD z 0/\(YP G n S).getD z 0<=dQ G z:=by
 induction n with
 | zero=>intro r S _ h z hz;exact h z hz
 | succ n ih =>
   intro r S hS h z hz;rw[YP,show r+(n+1)=(r+1)+n by omega];exact ih (r+1) _ (by rw[Dg];exact hS) (Bm hl hr r 8 0 S hS rfl h (fun z hz=>by omega)) z hz
theorem BI{G:List Bool}(hl:G.length=64)(hr:qS G=false)(z:Nat)(hz:z<8):(tC G).getD z 0=dQ G z:=by
 have:=KX hl hr 7 0 (List.replicate 8 0) rfl (fun z hz=>by
  have e:(List.replicate 8 0).getD z 0=0:=by simp only[List.getD,bt,hz,dt,Option.getD_some]
  rw[e];exact⟨j1 _,p7 _⟩) z hz
 unfold tC;have h2:gQ G (0+7) z=dQ G z:=rfl;omega
theorem qm(p:Nat->Bool)(S:Nat->Nat)(m n k acc:Nat)(ha:acc<=m+1)(h:∀z,k<=z->z<k+n->S z<=m):sO p S n k acc<=m+1:=by
 rw[Xf];exact⟨ha,fun z h1 h2 _=>by have:=h z h1 h2;omega⟩
open Go.RowKit
def jf(L:List Nat):List Value:=L.map fun a=>Value.int .i64 (a:Nat)
theorem tV{w w':World}{B:Nat}{e:TypeId}{size:Nat}{v:Value}{n:Nat}{xs:List Value}(h:w.ownsRow B e size v n xs)(hb:Below w.heap.size w w'):w'.ownsRow B e size v n xs:=by
 refine⟨h.1,?_⟩;rcases h.2 with h1|⟨g,cap,yK,h1,h2,h3,r⟩
 ·exact .inl h1
 ·refine .inr ⟨g,cap,yK,h1,h2,?_,r⟩
  have zKZ:g<w.heap.size:=by
   rcases md g w.heap.size with h|h
   ·exact h
   ·rw[mc h]at h3;cases h3
  rw[hb.block g zKZ];exact h3
end Go.Proofs.YtnbpdffdnphbeabGreatDoor
