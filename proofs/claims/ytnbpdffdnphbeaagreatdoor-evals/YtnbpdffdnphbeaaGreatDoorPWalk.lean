import Derived.Test.YtnbpdffdnphbeaaGreatDoorCkErr2
namespace Go.Proofs.YtnbpdffdnphbeaaGreatDoor
theorem TC.head{M:Nat->Nat->Prop}{a b:Nat}(h:TC M a b):∃z,M a z/\(z=b\/TC M z b):=by
 refine h (fun a b=>∃z,M a z/\(z=b\/TC M z b)) (fun x y h1=>⟨y,h1,.inl rfl⟩) ?_;rintro x y z ⟨u,h1,h2⟩ ⟨v,h3,h4⟩
 have hyz:TC M y z:=by
  rcases h4 with rfl|h4
  ·exact TC.one h3
  ·exact(TC.one h3).trans h4
 refine⟨u,h1,.inr ?_⟩;rcases h2 with rfl|h2
 ·exact hyz
 ·exact h2.trans hyz
theorem Kr(n:Nat):∀g:Nat->Nat,(∀i,i<=n->g i<n)->∃i j,i<j/\j<=n/\g i=g j:=by
 induction n with
 | zero=>intro g h;exact absurd (h 0 (Nat.le_refl _)) (by omega)
 | succ n ih =>
   intro g h;rcases Classical.em (∃i,i<=n/\g i=g (n+1)) with ⟨i,h1,h2⟩|hno
   ·exact⟨i,n+1,by omega,Nat.le_refl _,h2⟩
   ·
    have zG7:∀i,i<=n->g i≠g (n+1):=fun i hi e=>hno ⟨i,hi,e⟩;have hlast:=h (n+1) (Nat.le_refl _)
    obtain⟨i,j,h1,h2,h3⟩:=ih (fun i=>if g i<g (n+1) then g i else g i-1) (fun i hi=>by
     have h4:=h i (by omega);have h5:=zG7 i hi;show (if g i<g (n+1) then g i else g i-1)<n;split <;> omega)
    refine⟨i,j,h1,by omega,?_⟩;have h4:=zG7 i (by omega);have h5:=zG7 j h2;split at h3 <;> split at h3 <;> omega
def eC(p:Nat->Bool)(S:Nat->Nat):Nat->Nat->Nat->Nat
 | 0,_,acc=>acc
 | n+1,k,acc=>eC p S n (k+1) (if p k&&decide (acc<=S k) then S k+1 else acc)
theorem Xu(p:Nat->Bool)(S:Nat->Nat)(m:Nat)(n:Nat):∀k acc,eC p S n k acc<=m ↔ acc<=m/\∀z,k<=z->z<k+n->p z=true->S z+1<=m:=by
 induction n with
 | zero=>intro k acc;rw[eC];exact⟨fun h=>⟨h,fun z h1 h2=>by omega⟩,fun h=>h.1⟩
 | succ n ih =>
   intro k acc;rw[eC,ih];constructor
   ·rintro⟨h1,h2⟩
    refine⟨?_,fun z hz1 hz2 hp=>?_⟩
    ·split at h1
     ·rename_i hc;rw[Bool.and_eq_true,decide_eq_true_iff]at hc;omega
     ·exact h1
    ·by_cases hz:z=k
     ·subst hz
      split at h1
      ·exact h1
      ·rename_i hc
       rw[Bool.and_eq_true,decide_eq_true_iff]at hc;have:¬acc<=S z:=fun h=>hc ⟨hp,h⟩;omega
     ·exact h2 z (by omega) (by omega) hp
   ·rintro⟨h1,h2⟩
    refine⟨?_,fun z hz1 hz2 hp=>h2 z (by omega) (by omega) hp⟩;split
    ·rename_i hc;rw[Bool.and_eq_true,decide_eq_true_iff]at hc;exact h2 k (Nat.le_refl _) (by omega) hc.1
    ·exact h1
theorem JA{p:Nat->Bool}{S T:Nat->Nat}{n:Nat}(h:∀z,z<n->p z=true->S z<=T z):eC p S n 0 0<=eC p T n 0 0:=by
 rw[Xu];refine⟨Nat.zero_le _,fun z _ hz hp=>?_⟩;have h2:=((Xu p T _ n 0 0).1 (Nat.le_refl _)).2 z (Nat.zero_le _) hz hp;have:=h z (by omega) hp;omega
theorem KL{p q:Nat->Bool}{S T:Nat->Nat}(n:Nat):∀k acc,(∀z,k<=z->z<k+n->p z=q z/\(p z=true->S z=T z))->eC p S n k acc=eC q T n k acc:=by
 induction n with
 | zero=>intro k acc _;rfl
 | succ n ih =>
   intro k acc h;rw[eC,eC,ih (k+1) _ (fun z h1 h2=>h z (by omega) (by omega))];obtain⟨h1,h2⟩:=h k (Nat.le_refl _) (by omega);congr 1
   cases hp:p k with
   | false=>rw[hp]at h1;rw[<-h1];rfl
   | true=>rw[h2 hp];rw[hp]at h1;rw[<-h1]
def oE(G:List Bool):Nat->Nat->Nat
 | 0,_=>0
 | n+1,a=>eC (gA G a) (oE G n) 8 0 0
theorem QP(G:List Bool)(n:Nat):∀a,oE G n a<=n:=by
 induction n with
 | zero=>intro a;exact Nat.le_refl _
 | succ n ih=>intro a;rw[oE,Xu];exact⟨Nat.zero_le _,fun z _ _ _=>by have:=ih z;omega⟩
theorem zAY(G:List Bool)(n:Nat):∀a,oE G n a<=oE G (n+1) a:=by
 induction n with
 | zero=>intro a;exact Nat.zero_le _
 | succ n ih=>intro a;rw[oE,oE];exact JA (fun z _ _=>ih z)
theorem Xz(G:List Bool)(n:Nat):∀a,oE G (n+1) a<=n->oE G n a=oE G (n+1) a:=by
 induction n with
 | zero=>intro a h;have h2:oE G 0 a=0:=rfl;omega
 | succ n ih =>
   intro a h;rw[oE]at h;rw[Xu]at h;rw[oE,oE];exact KL 8 0 0 (fun z h1 h2=>⟨rfl,fun hp=>ih z (by have:=h.2 z h1 h2 hp;omega)⟩)
theorem KQ(G:List Bool)(n:Nat):∀a,a<8->oE G n a=n->∃x:Nat->Nat,x 0=a/\(∀i,i<=n->x i<8)/\∀i,i<n->Qs G (x i) (x (i+1)):=by
 induction n with
 | zero=>intro a ha _;exact⟨fun _=>a,rfl,fun _ _=>ha,fun i h=>by omega⟩
 | succ n ih =>
   intro a ha h
   have hz:∃z,z<8/\gA G a z=true/\oE G n z=n:=by
    rcases Classical.em (∃z,z<8/\gA G a z=true/\oE G n z=n) with h1|h1
    ·exact h1
    ·exfalso
     have:oE G (n+1) a<=n:=by
      rw[oE,Xu];refine⟨Nat.zero_le _,fun z _ hz hp=>?_⟩;have h2:=QP G n z;have h3:oE G n z≠n:=fun e=>h1 ⟨z,by omega,hp,e⟩;omega
     omega
   obtain⟨z,hz8,hp,hl⟩:=hz;obtain⟨x,h0,hx8,hx⟩:=ih z hz8 hl;refine⟨fun i=>if i=0 then a else x (i-1),by simp,fun i hi=>?_,fun i hi=>?_⟩
   ·by_cases h:i=0
    ·simp[h,ha]
    ·simp[h];exact hx8 (i-1) (by omega)
   ·by_cases h:i=0
    ·subst h;simp[h0];exact⟨ha,hz8,hp⟩
    ·simp[h]
     have:=hx (i-1) (by omega)
     rwa [show i-1+1=i by omega]at this
theorem VH{G:List Bool}{x:Nat->Nat}{n:Nat}(hx:∀i,i<n->Qs G (x i) (x (i+1)))(d:Nat):∀i,i+d+1<=n->TC (Qs G) (x i) (x (i+d+1)):=by
 induction d with
 | zero=>intro i h;exact TC.one (hx i (by omega))
 | succ d ih=>intro i h;exact(ih i (by omega)).trans (TC.one (hx (i+d+1) (by omega)))
theorem zDV{G:List Bool}(hl:G.length=64)(hr:kY G=false)(a:Nat)(ha:a<8):oE G 7 a=oE G 8 a:=by
 refine Xz G 7 a ?_;show oE G 8 a<=7;have h8:=QP G 8 a;rcases Nat.lt_or_ge (oE G 8 a) 8 with h|h
 ·omega
 ·exfalso
  obtain⟨x,-,hx8,hx⟩:=KQ G 8 a ha (by omega);obtain⟨i,j,h1,h2,h3⟩:=Kr 8 x hx8;have ht:=VH hx (j-i-1) i (by omega);rw[show i+(j-i-1)+1=j by omega,<-h3]at ht;have:kY G=true:=(Zx hl).2 ⟨x i,hx8 i (by omega),ht⟩;rw[hr]at this;cases this
def fU(G:List Bool)(a:Nat):Nat:=oE G 7 a
theorem CO{G:List Bool}(hl:G.length=64)(hr:kY G=false)(a:Nat)(ha:a<8):eC (gA G a) (fU G) 8 0 0=fU G a:=by
 unfold fU;rw[zDV hl hr a ha];rfl
theorem vf{G:List Bool}(hl:G.length=64)(hr:kY G=false){a b:Nat}(ha:a<8)(hb:b<8)(h:gA G a b=true):fU G b<fU G a:=by
 have:=((Xu (gA G a) (fU G) _ 8 0 0).1 (Nat.le_of_eq (CO hl hr a ha))).2 b (Nat.zero_le _) (by omega) h;omega
def DD(G:List Bool):Nat->Nat->List Nat->List Nat
 | 0,_,S=>S
 | n+1,a,S=>DD G n (a+1) (S.set a (eC (gA G a) (fun z=>S.getD z 0) 8 0 0))
def Xb(G:List Bool):Nat->List Nat->List Nat
 | 0,S=>S
 | n+1,S=>Xb G n (DD G 8 0 S)
def pF(G:List Bool):List Nat:=Xb G 7 (List.replicate 8 0)
theorem C6(G:List Bool)(n:Nat):∀a S,(DD G n a S).length=S.length:=by
 induction n with
 | zero=>intro a S;rfl
 | succ n ih=>intro a S;rw[DD,ih,List.length_set]
theorem zt(G:List Bool)(n:Nat):∀S,(Xb G n S).length=S.length:=by
 induction n with
 | zero=>intro S;rfl
 | succ n ih=>intro S;rw[Xb,ih,C6]
theorem Va(G:List Bool):(pF G).length=8:=by unfold pF;rw[zt];rfl
theorem Z9(S:List Nat)(a v z:Nat)(ha:a<S.length):(S.set a v).getD z 0=if z=a then v else S.getD z 0:=by
 by_cases h:z=a
 ·subst h;simp[List.getD,ha]
 ·simp[List.getD,h,List.getElem?_set_ne (Ne.symm h)]
theorem UM{G:List Bool}(hl:G.length=64)(hr:kY G=false)(r:Nat)(n:Nat):∀a S,S.length=8->a+n=8->(∀z,z<8->oE G r z<=S.getD z 0/\S.getD z 0<=fU G z)->(∀z,z<a->oE G (r+1) z<=S.getD z 0)->∀z,z<8->oE G (r+1) z<=(DD G n a S).getD z 0/\(DD G n a S).getD z 0<=fU G z:=by
 induction n with
 | zero=>intro a S _ ha h1 h2 z hz;rw[DD];exact⟨h2 z (by omega),(h1 z hz).2⟩
 | succ n ih =>
   intro a S hS ha h1 h2;rw[DD]
   have hlo:oE G (r+1) a<=eC (gA G a) (fun z=>S.getD z 0) 8 0 0:=by
    rw[oE];exact JA (fun z hz _=>(h1 z hz).1)
   have hhi:eC (gA G a) (fun z=>S.getD z 0) 8 0 0<=fU G a:=by
    rw[<-CO hl hr a (by omega)];exact JA (fun z hz _=>(h1 z hz).2)
   refine ih (a+1) _ (by rw[List.length_set];exact hS) (by omega) (fun z hz=>?_) (fun z hz=>?_)
   ·rw[Z9 S a _ z (by omega)]
    split
    ·rename_i h;subst h;exact⟨Nat.le_trans (zAY G r z) hlo,hhi⟩
    ·exact h1 z hz
   ·rw[Z9 S a _ z (by omega)]
    split
    ·rename_i h;subst h;exact hlo
    ·exact h2 z (by omega)
theorem K7{G:List Bool}(hl:G.length=64)(hr:kY G=false)(n:Nat):∀r S,S.length=8->(∀z,z<8->oE G r z<=S.getD z 0/\S.getD z 0<=fU G z)->∀z,z<8->oE G (r+n) z<=(Xb G n S).getD z 0/\(Xb G n S).getD z 0<=fU G z:=by
 induction n with
 | zero=>intro r S _ h z hz;exact h z hz
 | succ n ih =>
   intro r S hS h z hz;rw[Xb,show r+(n+1)=(r+1)+n by omega];exact ih (r+1) _ (by rw[C6];exact hS) (UM hl hr r 8 0 S hS rfl h (fun z hz=>by omega)) z hz
theorem Bz{G:List Bool}(hl:G.length=64)(hr:kY G=false)(z:Nat)(hz:z<8):(pF G).getD z 0=fU G z:=by
 have:=K7 hl hr 7 0 (List.replicate 8 0) rfl (fun z hz=>by
  have e:(List.replicate 8 0).getD z 0=0:=by simp only[List.getD,List.getElem?_replicate,hz,if_true,Option.getD_some]
  rw[e];exact⟨Nat.le_refl _,Nat.zero_le _⟩) z hz
 unfold pF;have h2:oE G (0+7) z=fU G z:=rfl;omega
theorem yw(p:Nat->Bool)(S:Nat->Nat)(m n k acc:Nat)(ha:acc<=m+1)(h:∀z,k<=z->z<k+n->S z<=m):eC p S n k acc<=m+1:=by
 rw[Xu];exact⟨ha,fun z h1 h2 _=>by have:=h z h1 h2;omega⟩
open Go.RowKit
def vz(L:List Nat):List Value:=L.map fun a=>Value.int .i64 (a:Nat)
theorem uV{w w':World}{B:Nat}{e:TypeId}{size:Nat}{v:Value}{n:Nat}{xs:List Value}(h:w.ownsRow B e size v n xs)(hb:Below w.heap.size w w'):w'.ownsRow B e size v n xs:=by
 refine⟨h.1,?_⟩;rcases h.2 with h1|⟨g,cap,yO,h1,h2,h3,r⟩
 ·exact .inl h1
 ·refine .inr ⟨g,cap,yO,h1,h2,?_,r⟩
  have zFY:g<w.heap.size:=by
   rcases Nat.lt_or_ge g w.heap.size with h|h
   ·exact h
   ·rw[Array.getElem?_eq_none h]at h3;cases h3
  rw[hb.block g zFY];exact h3
structure zEY(w:World)(a:Option Addr)(L:List Nat):Prop where
 blk:0<L.length->∃g,a=some ⟨g,0,none⟩/\∀i,i<L.length->w.cell? ⟨g,i,none⟩=some (.int .i64 ((L.getD i 0:Nat):Int))
end Go.Proofs.YtnbpdffdnphbeaaGreatDoor
