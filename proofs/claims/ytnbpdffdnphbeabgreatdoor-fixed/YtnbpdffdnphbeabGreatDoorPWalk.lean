import Derived.Test.YtnbpdffdnphbeabGreatDoorCkErr2
namespace Go.Proofs.YtnbpdffdnphbeabGreatDoor
variable(G:List Bool)(n:Nat)
theorem TC.head{M:Nat->Nat->Prop}{a b:Nat}(h:TC M a b):∃z,M a z/\(z=b\/TC M z b):=by
 refine h (fun a b=>∃z,M a z/\(z=b\/TC M z b)) (fun x y h1=>⟨y,h1,.inl rfl⟩) ?_;rintro x y z ⟨u,h1,h2⟩ ⟨v,h3,h4⟩
 have hyz:TC M y z:=by
  rcases h4 with rfl|h4
  ·exact TC.one h3
  ·exact(TC.one h3).trans h4
 refine⟨u,h1,.inr ?_⟩;rcases h2 with rfl|h2
 ·exact hyz
 ·exact h2.trans hyz
theorem Qg:∀g:Nat->Nat,(∀i,i<=n->g i<n)->∃i j,i<j/\j<=n/\g i=g j:=by
 induction n with
 | zero=>intro g h;exact absurd (h 0 (j1 _)) (by omega)
 | succ n ih =>
   intro g h;rcases Classical.em (∃i,i<=n/\g i=g (n+1)) with ⟨i,h1,h2⟩|hno
   ·exact⟨i,n+1,by omega,j1 _,h2⟩
   ·
    have zEB:∀i,i<=n->g i≠g (n+1):=fun i hi e=>hno ⟨i,hi,e⟩;have hlast:=h (n+1) (j1 _)
    obtain⟨i,j,h1,h2,h3⟩:=ih (fun i=>if g i<g (n+1) then g i else g i-1) (fun i hi=>by
     have h4:=h i (by omega);have h5:=zEB i hi;show (if g i<g (n+1) then g i else g i-1)<n;split <;> omega)
    refine⟨i,j,h1,by omega,?_⟩;have h4:=zEB i (by omega);have h5:=zEB j h2;split at h3 <;> split at h3 <;> omega
theorem dX{P:Nat->Prop}:P n->∃m,m<=n/\P m/\∀k,k<m->¬P k:=by
 induction n using Nat.strongRecOn with
 | _ n ih =>
   intro h;rcases Classical.em (∃k,k<n/\P k) with ⟨k,h1,h2⟩|hno
   ·obtain⟨m,h3,h4,h5⟩:=ih k h1 h2
    exact⟨m,by omega,h4,h5⟩
   ·exact⟨n,j1 _,h,fun k hk hp=>hno ⟨k,hk,hp⟩⟩
def nQ(p:Nat->Bool)(S:Nat->Nat):Nat->Nat->Nat->Nat
 | 0,_,acc=>acc
 | n+1,k,acc=>nQ p S n (k+1) (if p k&&decide (acc<=S k) then S k+1 else acc)
theorem Zh(p:Nat->Bool)(S:Nat->Nat)(m:Nat)(n:Nat):∀k acc,nQ p S n k acc<=m ↔ acc<=m/\∀z,k<=z->z<k+n->p z=true->S z+1<=m:=by
 induction n with
 | zero=>intro k acc;rw[nQ];exact⟨fun h=>⟨h,fun z h1 h2=>by omega⟩,fun h=>h.1⟩
 | succ n ih =>
   intro k acc;rw[nQ,ih];constructor
   ·rintro⟨h1,h2⟩
    refine⟨?_,fun z hz1 hz2 hp=>?_⟩
    ·split at h1
     ·rename_i hc;rw[pr,l6]at hc;omega
     ·exact h1
    ·by_cases hz:z=k
     ·subst hz
      split at h1
      ·exact h1
      ·rename_i hc
       rw[pr,l6]at hc;have:¬acc<=S z:=fun h=>hc ⟨hp,h⟩;omega
     ·exact h2 z (by omega) (by omega) hp
   ·rintro⟨h1,h2⟩
    refine⟨?_,fun z hz1 hz2 hp=>h2 z (by omega) (by omega) hp⟩;split
    ·rename_i hc;rw[pr,l6]at hc;exact h2 k (j1 _) (by omega) hc.1
    ·exact h1
theorem Xq{p:Nat->Bool}{S T:Nat->Nat}{n:Nat}(h:∀z,z<n->p z=true->S z<=T z):nQ p S n 0 0<=nQ p T n 0 0:=by
 rw[Zh];refine⟨tq _,fun z _ hz hp=>?_⟩;have h2:=((Zh p T _ n 0 0).1 (j1 _)).2 z (tq _) hz hp;have:=h z (by omega) hp;omega
theorem Q6{p q:Nat->Bool}{S T:Nat->Nat}:∀k acc,(∀z,k<=z->z<k+n->p z=q z/\(p z=true->S z=T z))->nQ p S n k acc=nQ q T n k acc:=by
 induction n with
 | zero=>intro k acc _;rfl
 | succ n ih =>
   intro k acc h;rw[nQ,nQ,ih (k+1) _ (fun z h1 h2=>h z (by omega) (by omega))];obtain⟨h1,h2⟩:=h k (j1 _) (by omega);congr 1
   cases hp:p k with
   | false=>rw[hp]at h1;rw[<-h1];rfl
   | true=>rw[h2 hp];rw[hp]at h1;rw[<-h1]
def cZ(G:List Bool):Nat->Nat->Nat
 | 0,_=>0
 | n+1,a=>nQ (gA G a) (cZ G n) 8 0 0
theorem Y8:∀a,cZ G n a<=n:=by
 induction n with
 | zero=>intro a;exact j1 _
 | succ n ih=>intro a;rw[cZ,Zh];exact⟨tq _,fun z _ _ _=>by have:=ih z;omega⟩
theorem vz:∀a,cZ G n a<=cZ G (n+1) a:=by
 induction n with
 | zero=>intro a;exact tq _
 | succ n ih=>intro a;rw[cZ,cZ];exact Xq (fun z _ _=>ih z)
theorem Zm:∀a,cZ G (n+1) a<=n->cZ G n a=cZ G (n+1) a:=by
 induction n with
 | zero=>intro a h;have h2:cZ G 0 a=0:=rfl;omega
 | succ n ih =>
   intro a h;rw[cZ]at h;rw[Zh]at h;rw[cZ,cZ];exact Q6 8 0 0 (fun z h1 h2=>⟨rfl,fun hp=>ih z (by have:=h.2 z h1 h2 hp;omega)⟩)
theorem QC:∀a,a<8->cZ G n a=n->∃x:Nat->Nat,x 0=a/\(∀i,i<=n->x i<8)/\∀i,i<n->XF G (x i) (x (i+1)):=by
 induction n with
 | zero=>intro a ha _;exact⟨fun _=>a,rfl,fun _ _=>ha,fun i h=>by omega⟩
 | succ n ih =>
   intro a ha h
   have hz:∃z,z<8/\gA G a z=true/\cZ G n z=n:=by
    rcases Classical.em (∃z,z<8/\gA G a z=true/\cZ G n z=n) with h1|h1
    ·exact h1
    ·exfalso
     have:cZ G (n+1) a<=n:=by
      rw[cZ,Zh];refine⟨tq _,fun z _ hz hp=>?_⟩;have h2:=Y8 G n z;have h3:cZ G n z≠n:=fun e=>h1 ⟨z,by omega,hp,e⟩;omega
     omega
   obtain⟨z,hz8,hp,hl⟩:=hz;obtain⟨x,h0,hx8,hx⟩:=ih z hz8 hl;refine⟨fun i=>if i=0 then a else x (i-1),by simp,fun i hi=>?_,fun i hi=>?_⟩
   ·by_cases h:i=0
    ·simp[h,ha]
    ·simp[h];exact hx8 (i-1) (by omega)
   ·by_cases h:i=0
    ·subst h;simp[h0];exact⟨ha,hz8,hp⟩
    ·simp[h]
     have:=hx (i-1) (by omega)
     rwa [show i-1+1=i by omega]at this
theorem Jv{G:List Bool}{x:Nat->Nat}{n:Nat}(hx:∀i,i<n->XF G (x i) (x (i+1)))(d:Nat):∀i,i+d+1<=n->TC (XF G) (x i) (x (i+d+1)):=by
 induction d with
 | zero=>intro i h;exact TC.one (hx i (by omega))
 | succ d ih=>intro i h;exact(ih i (by omega)).trans (TC.one (hx (i+d+1) (by omega)))
theorem zB7{G:List Bool}(hl:G.length=64)(hr:qA G=false)(a:Nat)(ha:a<8):cZ G 7 a=cZ G 8 a:=by
 refine Zm G 7 a ?_;show cZ G 8 a<=7;have h8:=Y8 G 8 a;rcases pf (cZ G 8 a) 8 with h|h
 ·omega
 ·exfalso
  obtain⟨x,-,hx8,hx⟩:=QC G 8 a ha (by omega);obtain⟨i,j,h1,h2,h3⟩:=Qg 8 x hx8;have ht:=Jv hx (j-i-1) i (by omega);rw[show i+(j-i-1)+1=j by omega,<-h3]at ht;have:qA G=true:=(sX hl).2 ⟨x i,hx8 i (by omega),ht⟩;rw[hr]at this;cases this
def bO(G:List Bool)(a:Nat):Nat:=cZ G 7 a
theorem Um{G:List Bool}(hl:G.length=64)(hr:qA G=false)(a:Nat)(ha:a<8):nQ (gA G a) (bO G) 8 0 0=bO G a:=by
 unfold bO;rw[zB7 hl hr a ha];rfl
theorem Fb{G:List Bool}(hl:G.length=64)(hr:qA G=false){a b:Nat}(ha:a<8)(hb:b<8)(h:gA G a b=true):bO G b<bO G a:=by
 have:=((Zh (gA G a) (bO G) _ 8 0 0).1 (Nat.le_of_eq (Um hl hr a ha))).2 b (tq _) (by omega) h;omega
def Be(G:List Bool):Nat->Nat->List Nat->List Nat
 | 0,_,S=>S
 | n+1,a,S=>Be G n (a+1) (S.set a (nQ (gA G a) (fun z=>S.getD z 0) 8 0 0))
def wU(G:List Bool):Nat->List Nat->List Nat
 | 0,S=>S
 | n+1,S=>wU G n (Be G 8 0 S)
def jC(G:List Bool):List Nat:=wU G 7 (List.replicate 8 0)
theorem VW:∀a S,(Be G n a S).length=S.length:=by
 induction n with
 | zero=>intro a S;rfl
 | succ n ih=>intro a S;rw[Be,ih,co]
theorem Dr:∀S,(wU G n S).length=S.length:=by
 induction n with
 | zero=>intro S;rfl
 | succ n ih=>intro S;rw[wU,ih,VW]
theorem QI:(jC G).length=8:=by unfold jC;rw[Dr];rfl
theorem aK(S:List Nat)(a v z:Nat)(ha:a<S.length):(S.set a v).getD z 0=if z=a then v else S.getD z 0:=by
 by_cases h:z=a
 ·subst h;simp[List.getD,ha]
 ·simp[List.getD,h,List.getElem?_set_ne (Ne.symm h)]
theorem Ki{G:List Bool}(hl:G.length=64)(hr:qA G=false)(r:Nat)(n:Nat):∀a S,S.length=8->a+n=8->(∀z,z<8->cZ G r z<=S.getD z 0/\S.getD z 0<=bO G z)->(∀z,z<a->cZ G (r+1) z<=S.getD z 0)->∀z,z<8->cZ G (r+1) z<=(Be G n a S).getD z 0/\(Be G n a S).getD z 0<=bO G z:=by
 induction n with
 | zero=>intro a S _ ha h1 h2 z hz;rw[Be];exact⟨h2 z (by omega),(h1 z hz).2⟩
 | succ n ih =>
   intro a S hS ha h1 h2;rw[Be]
   have hlo:cZ G (r+1) a<=nQ (gA G a) (fun z=>S.getD z 0) 8 0 0:=by
    rw[cZ];exact Xq (fun z hz _=>(h1 z hz).1)
   have hhi:nQ (gA G a) (fun z=>S.getD z 0) 8 0 0<=bO G a:=by
    rw[<-Um hl hr a (by omega)];exact Xq (fun z hz _=>(h1 z hz).2)
   refine ih (a+1) _ (by rw[co];exact hS) (by omega) (fun z hz=>?_) (fun z hz=>?_)
   ·rw[aK S a _ z (by omega)]
    split
    ·rename_i h;subst h;exact⟨tr (vz G r z) hlo,hhi⟩
    ·exact h1 z hz
   ·rw[aK S a _ z (by omega)]
    split
    ·rename_i h;subst h;exact hlo
    ·exact h2 z (by omega)
theorem Qu{G:List Bool}(hl:G.length=64)(hr:qA G=false)(n:Nat):∀r S,S.length=8->(∀z,z<8->cZ G r z<=S.getD z 0/\S.getD z 0<=bO G z)->∀z,z<8->cZ G (r+n) z<=(wU G n S).getD z 0/\(wU G n S).getD z 0<=bO G z:=by
 induction n with
 | zero=>intro r S _ h z hz;exact h z hz
 | succ n ih =>
   intro r S hS h z hz;rw[wU,show r+(n+1)=(r+1)+n by omega];exact ih (r+1) _ (by rw[VW];exact hS) (Ki hl hr r 8 0 S hS rfl h (fun z hz=>by omega)) z hz
theorem KG{G:List Bool}(hl:G.length=64)(hr:qA G=false)(z:Nat)(hz:z<8):(jC G).getD z 0=bO G z:=by
 have:=Qu hl hr 7 0 (List.replicate 8 0) rfl (fun z hz=>by
  have e:(List.replicate 8 0).getD z 0=0:=by simp only[List.getD,bf,hz,if_true,Option.getD_some]
  rw[e];exact⟨j1 _,tq _⟩) z hz
 unfold jC;have h2:cZ G (0+7) z=bO G z:=rfl;omega
theorem DE(p:Nat->Bool)(S:Nat->Nat)(m n k acc:Nat)(ha:acc<=m+1)(h:∀z,k<=z->z<k+n->S z<=m):nQ p S n k acc<=m+1:=by
 rw[Zh];exact⟨ha,fun z h1 h2 _=>by have:=h z h1 h2;omega⟩
open Go.RowKit
def Fh(L:List Nat):List Value:=L.map fun a=>Value.int .i64 (a:Nat)
theorem jV{w w':World}{B:Nat}{e:TypeId}{size:Nat}{v:Value}{n:Nat}{xs:List Value}(h:w.ownsRow B e size v n xs)(hb:Below w.heap.size w w'):w'.ownsRow B e size v n xs:=by
 refine⟨h.1,?_⟩;rcases h.2 with h1|⟨g,cap,yJ,h1,h2,h3,r⟩
 ·exact .inl h1
 ·refine .inr ⟨g,cap,yJ,h1,h2,?_,r⟩
  have zE9:g<w.heap.size:=by
   rcases pf g w.heap.size with h|h
   ·exact h
   ·rw[pb h]at h3;cases h3
  rw[hb.block g zE9];exact h3
structure zCJ(w:World)(a:Option Addr)(L:List Nat):Prop where
 blk:0<L.length->∃g,a=some ⟨g,0,none⟩/\∀i,i<L.length->w.cell? ⟨g,i,none⟩=some (.int .i64 ((L.getD i 0:Nat):Int))
end Go.Proofs.YtnbpdffdnphbeabGreatDoor
