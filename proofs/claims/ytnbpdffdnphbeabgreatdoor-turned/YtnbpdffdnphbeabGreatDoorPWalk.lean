import Derived.Test.YtnbpdffdnphbeabGreatDoorCkErr2
namespace Go.Proofs.YtnbpdffdnphbeabGreatDoor
variable(G:List Bool)
theorem KY(n:Nat):∀g:Nat->Nat,(∀i,i<=n->g i<n)->∃i j,i<j/\j<=n/\g i=g j:=by
 induction n with
 | zero=>intro g h;exact absurd (h 0 (j1 _)) (by omega)
 | succ n ih =>
   intro g h;rcases Classical.em (∃i,i<=n/\g i=g (n+1)) with ⟨i,h1,h2⟩|hno
   ·exact⟨i,n+1,by omega,j1 _,h2⟩
   ·
    have zLO:∀i,i<=n->g i≠g (n+1):=fun i hi e=>hno ⟨i,hi,e⟩;have hlast:=h (n+1) (j1 _)
    obtain⟨i,j,h1,h2,h3⟩:=ih (fun i=>if g i<g (n+1) then g i else g i-1) (fun i hi=>by
     have h4:=h i (by omega);have h5:=zLO i hi;show (if g i<g (n+1) then g i else g i-1)<n;split <;> omega)
    refine⟨i,j,h1,by omega,?_⟩;have h4:=zLO i (by omega);have h5:=zLO j h2;split at h3 <;> split at h3 <;> omega
theorem vF{P:Nat->Prop}(n:Nat):P n->∃m,m<=n/\P m/\∀k,k<m->¬P k:=by
 induction n using Nat.strongRecOn with
 | _ n ih =>
   intro h;rcases Classical.em (∃k,k<n/\P k) with ⟨k,h1,h2⟩|hno
   ·obtain⟨m,h3,h4,h5⟩:=ih k h1 h2
    exact⟨m,by omega,h4,h5⟩
   ·exact⟨n,j1 _,h,fun k hk hp=>hno ⟨k,hk,hp⟩⟩
def aI(p:Nat->Bool)(S:Nat->Nat):Nat->Nat->Nat->Nat
 | 0,_,acc=>acc
 | n+1,k,acc=>aI p S n (k+1) (if p k&&decide (acc<=S k) then S k+1 else acc)
theorem Xy(p:Nat->Bool)(S:Nat->Nat)(m:Nat)(n:Nat):∀k acc,aI p S n k acc<=m ↔ acc<=m/\∀z,k<=z->z<k+n->p z=true->S z+1<=m:=by
 induction n with
 | zero=>intro k acc;rw[aI];exact⟨fun h=>⟨h,fun z h1 h2=>by omega⟩,fun h=>h.1⟩
 | succ n ih =>
   intro k acc;rw[aI,ih];constructor
   ·rintro⟨h1,h2⟩
    refine⟨?_,fun z hz1 hz2 hp=>?_⟩
    ·split at h1
     ·rename_i hc;rw[pe,bq]at hc;omega
     ·exact h1
    ·by_cases hz:z=k
     ·subst hz
      split at h1
      ·exact h1
      ·rename_i hc
       rw[pe,bq]at hc;have:¬acc<=S z:=fun h=>hc ⟨hp,h⟩;omega
     ·exact h2 z (by omega) (by omega) hp
   ·rintro⟨h1,h2⟩
    refine⟨?_,fun z hz1 hz2 hp=>h2 z (by omega) (by omega) hp⟩;split
    ·rename_i hc;rw[pe,bq]at hc;exact h2 k (j1 _) (by omega) hc.1
    ·exact h1
theorem Kd{p:Nat->Bool}{S T:Nat->Nat}{n:Nat}(h:∀z,z<n->p z=true->S z<=T z):aI p S n 0 0<=aI p T n 0 0:=by
 rw[Xy];refine⟨tx _,fun z _ hz hp=>?_⟩;have h2:=((Xy p T _ n 0 0).1 (j1 _)).2 z (tx _) hz hp;have:=h z (by omega) hp;omega
theorem VC{p q:Nat->Bool}{S T:Nat->Nat}(n:Nat):∀k acc,(∀z,k<=z->z<k+n->p z=q z/\(p z=true->S z=T z))->aI p S n k acc=aI q T n k acc:=by
 induction n with
 | zero=>intro k acc _;rfl
 | succ n ih =>
   intro k acc h;rw[aI,aI,ih (k+1) _ (fun z h1 h2=>h z (by omega) (by omega))];obtain⟨h1,h2⟩:=h k (j1 _) (by omega);congr 1
   cases hp:p k with
   | false=>rw[hp]at h1;rw[<-h1];rfl
   | true=>rw[h2 hp];rw[hp]at h1;rw[<-h1]
def gU(G:List Bool):Nat->Nat->Nat
 | 0,_=>0
 | n+1,a=>aI (gA G a) (gU G n) 8 0 0
theorem Jj(n:Nat):∀a,gU G n a<=n:=by
 induction n with
 | zero=>intro a;exact j1 _
 | succ n ih=>intro a;rw[gU,Xy];exact⟨tx _,fun z _ _ _=>by have:=ih z;omega⟩
theorem zF1(n:Nat):∀a,gU G n a<=gU G (n+1) a:=by
 induction n with
 | zero=>intro a;exact tx _
 | succ n ih=>intro a;rw[gU,gU];exact Kd (fun z _ _=>ih z)
theorem X5(n:Nat):∀a,gU G (n+1) a<=n->gU G n a=gU G (n+1) a:=by
 induction n with
 | zero=>intro a h;have h2:gU G 0 a=0:=rfl;omega
 | succ n ih =>
   intro a h;rw[gU]at h;rw[Xy]at h;rw[gU,gU];exact VC 8 0 0 (fun z h1 h2=>⟨rfl,fun hp=>ih z (by have:=h.2 z h1 h2 hp;omega)⟩)
theorem VG(n:Nat):∀a,a<8->gU G n a=n->∃x:Nat->Nat,x 0=a/\(∀i,i<=n->x i<8)/\∀i,i<n->Zn G (x i) (x (i+1)):=by
 induction n with
 | zero=>intro a ha _;exact⟨fun _=>a,rfl,fun _ _=>ha,fun i h=>by omega⟩
 | succ n ih =>
   intro a ha h
   have hz:∃z,z<8/\gA G a z=true/\gU G n z=n:=by
    rcases Classical.em (∃z,z<8/\gA G a z=true/\gU G n z=n) with h1|h1
    ·exact h1
    ·exfalso
     have:gU G (n+1) a<=n:=by
      rw[gU,Xy];refine⟨tx _,fun z _ hz hp=>?_⟩;have h2:=Jj G n z;have h3:gU G n z≠n:=fun e=>h1 ⟨z,by omega,hp,e⟩;omega
     omega
   obtain⟨z,hz8,hp,hl⟩:=hz;obtain⟨x,h0,hx8,hx⟩:=ih z hz8 hl;refine⟨fun i=>if i=0 then a else x (i-1),by simp,fun i hi=>?_,fun i hi=>?_⟩
   ·by_cases h:i=0
    ·simp[h,ha]
    ·simp[h];exact hx8 (i-1) (by omega)
   ·by_cases h:i=0
    ·subst h;simp[h0];exact⟨ha,hz8,hp⟩
    ·simp[h]
     have:=hx (i-1) (by omega)
     rwa [show i-1+1=i by omega]at this
theorem Uw{G:List Bool}{x:Nat->Nat}{n:Nat}(hx:∀i,i<n->Zn G (x i) (x (i+1)))(d:Nat):∀i,i+d+1<=n->TC (Zn G) (x i) (x (i+d+1)):=by
 induction d with
 | zero=>intro i h;exact TC.one (hx i (by omega))
 | succ d ih=>intro i h;exact(ih i (by omega)).trans (TC.one (hx (i+d+1) (by omega)))
theorem zIZ{G:List Bool}(hl:G.length=64)(hr:qV G=false)(a:Nat)(ha:a<8):gU G 7 a=gU G 8 a:=by
 refine X5 G 7 a ?_;show gU G 8 a<=7;have h8:=Jj G 8 a;rcases me (gU G 8 a) 8 with h|h
 ·omega
 ·exfalso
  obtain⟨x,-,hx8,hx⟩:=VG G 8 a ha (by omega);obtain⟨i,j,h1,h2,h3⟩:=KY 8 x hx8;have ht:=Uw hx (j-i-1) i (by omega);rw[show i+(j-i-1)+1=j by omega,<-h3]at ht;have:qV G=true:=(Z5 hl).2 ⟨x i,hx8 i (by omega),ht⟩;rw[hr]at this;cases this
def dP(G:List Bool)(a:Nat):Nat:=gU G 7 a
theorem DH{G:List Bool}(hl:G.length=64)(hr:qV G=false)(a:Nat)(ha:a<8):aI (gA G a) (dP G) 8 0 0=dP G a:=by
 unfold dP;rw[zIZ hl hr a ha];rfl
theorem zA7{G:List Bool}(hl:G.length=64)(hr:qV G=false){a b:Nat}(ha:a<8)(hb:b<8)(h:gA G a b=true):dP G b<dP G a:=by
 have:=((Xy (gA G a) (dP G) _ 8 0 0).1 (Nat.le_of_eq (DH hl hr a ha))).2 b (tx _) (by omega) h;omega
def Gp(G:List Bool):Nat->Nat->List Nat->List Nat
 | 0,_,S=>S
 | n+1,a,S=>Gp G n (a+1) (S.set a (aI (gA G a) (fun z=>S.getD z 0) 8 0 0))
def Xj(G:List Bool):Nat->List Nat->List Nat
 | 0,S=>S
 | n+1,S=>Xj G n (Gp G 8 0 S)
def tK(G:List Bool):List Nat:=Xj G 7 (List.replicate 8 0)
theorem D0(n:Nat):∀a S,(Gp G n a S).length=S.length:=by
 induction n with
 | zero=>intro a S;rfl
 | succ n ih=>intro a S;rw[Gp,ih,List.length_set]
theorem kz(n:Nat):∀S,(Xj G n S).length=S.length:=by
 induction n with
 | zero=>intro S;rfl
 | succ n ih=>intro S;rw[Xj,ih,D0]
theorem VM:(tK G).length=8:=by unfold tK;rw[kz];rfl
theorem ZI(S:List Nat)(a v z:Nat)(ha:a<S.length):(S.set a v).getD z 0=if z=a then v else S.getD z 0:=by
 by_cases h:z=a
 ·subst h;simp[List.getD,ha]
 ·simp[List.getD,h,List.getElem?_set_ne (Ne.symm h)]
theorem BA{G:List Bool}(hl:G.length=64)(hr:qV G=false)(r:Nat)(n:Nat):∀a S,S.length=8->a+n=8->(∀z,z<8->gU G r z<=S.getD z 0/\S.getD z 0<=dP G z)->(∀z,z<a->gU G (r+1) z<=S.getD z 0)->∀z,z<8->gU G (r+1) z<=(Gp G n a S).getD z 0/\(Gp G n a S).getD z 0<=dP G z:=by
 induction n with
 | zero=>intro a S _ ha h1 h2 z hz;rw[Gp];exact⟨h2 z (by omega),(h1 z hz).2⟩
 | succ n ih =>
   intro a S hS ha h1 h2;rw[Gp]
   have hlo:gU G (r+1) a<=aI (gA G a) (fun z=>S.getD z 0) 8 0 0:=by
    rw[gU];exact Kd (fun z hz _=>(h1 z hz).1)
   have hhi:aI (gA G a) (fun z=>S.getD z 0) 8 0 0<=dP G a:=by
    rw[<-DH hl hr a (by omega)];exact Kd (fun z hz _=>(h1 z hz).2)
   refine ih (a+1) _ (by rw[List.length_set];exact hS) (by omega) (fun z hz=>?_) (fun z hz=>?_)
   ·rw[ZI S a _ z (by omega)]
    split
    ·rename_i h;subst h;exact⟨ty (zF1 G r z) hlo,hhi⟩
    ·exact h1 z hz
   ·rw[ZI S a _ z (by omega)]
    split
    ·rename_i h;subst h;exact hlo
    ·exact h2 z (by omega)
theorem Vt{G:List Bool}(hl:G.length=64)(hr:qV G=false)(n:Nat):∀r S,S.length=8->(∀z,z<8->gU G r z<=S.getD z 0/\S.getD z 0<=dP G z)->∀z,z<8->gU G (r+n) z<=(Xj G n S).getD z 0/\(Xj G n S).getD z 0<=dP G z:=by
 induction n with
 | zero=>intro r S _ h z hz;exact h z hz
 | succ n ih =>
   intro r S hS h z hz;rw[Xj,show r+(n+1)=(r+1)+n by omega];exact ih (r+1) _ (by rw[D0];exact hS) (BA hl hr r 8 0 S hS rfl h (fun z hz=>by omega)) z hz
theorem Ce{G:List Bool}(hl:G.length=64)(hr:qV G=false)(z:Nat)(hz:z<8):(tK G).getD z 0=dP G z:=by
 have:=Vt hl hr 7 0 (List.replicate 8 0) rfl (fun z hz=>by
  have e:(List.replicate 8 0).getD z 0=0:=by simp only[List.getD,co,hz,dw,Option.getD_some]
  rw[e];exact⟨j1 _,tx _⟩) z hz
 unfold tK;have h2:gU G (0+7) z=dP G z:=rfl;omega
theorem ji(p:Nat->Bool)(S:Nat->Nat)(m n k acc:Nat)(ha:acc<=m+1)(h:∀z,k<=z->z<k+n->S z<=m):aI p S n k acc<=m+1:=by
 rw[Xy];exact⟨ha,fun z h1 h2 _=>by have:=h z h1 h2;omega⟩
open Go.RowKit
def zAE(L:List Nat):List Value:=L.map fun a=>Value.int .i64 (a:Nat)
theorem pB{w w':World}{B:Nat}{e:TypeId}{size:Nat}{v:Value}{n:Nat}{xs:List Value}(h:w.ownsRow B e size v n xs)(hb:Below w.heap.size w w'):w'.ownsRow B e size v n xs:=by
 refine⟨h.1,?_⟩;rcases h.2 with h1|⟨g,cap,yL,h1,h2,h3,r⟩
 ·exact .inl h1
 ·refine .inr ⟨g,cap,yL,h1,h2,?_,r⟩
  have zLL:g<w.heap.size:=by
   rcases me g w.heap.size with h|h
   ·exact h
   ·rw[md h]at h3;cases h3
  rw[hb.block g zLL];exact h3
end Go.Proofs.YtnbpdffdnphbeabGreatDoor
