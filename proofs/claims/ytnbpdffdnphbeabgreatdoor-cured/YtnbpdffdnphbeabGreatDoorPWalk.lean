import Derived.Test.YtnbpdffdnphbeabGreatDoorCkErr2
namespace Go.Proofs.YtnbpdffdnphbeabGreatDoor
variable(G:List Bool)(n:Nat)
theorem TC.head{M:Nat->Nat->Prop}{a b:Nat}(h:TC M a b):∃z,M a z/\(z=b\/TC M z b):=by
 refine h (fun a b=>∃z,M a z/\(z=b\/TC M z b)) (fun x y h1=>⟨y,h1,.inl rfl⟩) ?_;rintro x y z ⟨u,h1,h2⟩ ⟨v,h3,h4⟩
 have hyz:TC M y z:=by
  rcases h4 with rfl|h4
  ·exact TC.one h3
  ·exact(TC.one h3).trans h4
 refine⟨u,h1,.inr ?_⟩;rcases h2 with rfl|h2
 ·exact hyz
 ·exact h2.trans hyz
theorem ze:∀g:Nat->Nat,(∀i,i<=n->g i<n)->∃i j,i<j/\j<=n/\g i=g j:=by
 induction n with
 | zero=>intro g h;exact absurd (h 0 (tg _)) (by omega)
 | succ n ih =>
   intro g h;rcases Classical.em (∃i,i<=n/\g i=g (n+1)) with ⟨i,h1,h2⟩|hno
   ·exact⟨i,n+1,by omega,tg _,h2⟩
   ·
    have zJZ:∀i,i<=n->g i≠g (n+1):=fun i hi e=>hno ⟨i,hi,e⟩;have hlast:=h (n+1) (tg _)
    obtain⟨i,j,h1,h2,h3⟩:=ih (fun i=>if g i<g (n+1) then g i else g i-1) (fun i hi=>by
     have h4:=h i (by omega);have h5:=zJZ i hi;show (if g i<g (n+1) then g i else g i-1)<n;split <;> omega)
    refine⟨i,j,h1,by omega,?_⟩;have h4:=zJZ i (by omega);have h5:=zJZ j h2;split at h3 <;> split at h3 <;> omega
theorem xZ{P:Nat->Prop}:P n->∃m,m<=n/\P m/\∀k,k<m->¬P k:=by
 induction n using Nat.strongRecOn with
 | _ n ih =>
   intro h;rcases Classical.em (∃k,k<n/\P k) with ⟨k,h1,h2⟩|hno
   ·obtain⟨m,h3,h4,h5⟩:=ih k h1 h2
    exact⟨m,by omega,h4,h5⟩
   ·exact⟨n,tg _,h,fun k hk hp=>hno ⟨k,hk,hp⟩⟩
def aD(p:Nat->Bool)(S:Nat->Nat):Nat->Nat->Nat->Nat
 | 0,_,acc=>acc
 | n+1,k,acc=>aD p S n (k+1) (if p k&&decide (acc<=S k) then S k+1 else acc)
theorem Qy(p:Nat->Bool)(S:Nat->Nat)(m:Nat)(n:Nat):∀k acc,aD p S n k acc<=m ↔ acc<=m/\∀z,k<=z->z<k+n->p z=true->S z+1<=m:=by
 induction n with
 | zero=>intro k acc;rw[aD];exact⟨fun h=>⟨h,fun z h1 h2=>by omega⟩,fun h=>h.1⟩
 | succ n ih =>
   intro k acc;rw[aD,ih];constructor
   ·rintro⟨h1,h2⟩
    refine⟨?_,fun z hz1 hz2 hp=>?_⟩
    ·split at h1
     ·rename_i hc;rw[mc,ct]at hc;omega
     ·exact h1
    ·by_cases hz:z=k
     ·subst hz
      split at h1
      ·exact h1
      ·rename_i hc
       rw[mc,ct]at hc;have:¬acc<=S z:=fun h=>hc ⟨hp,h⟩;omega
     ·exact h2 z (by omega) (by omega) hp
   ·rintro⟨h1,h2⟩
    refine⟨?_,fun z hz1 hz2 hp=>h2 z (by omega) (by omega) hp⟩;split
    ·rename_i hc;rw[mc,ct]at hc;exact h2 k (tg _) (by omega) hc.1
    ·exact h1
theorem J3{p:Nat->Bool}{S T:Nat->Nat}{n:Nat}(h:∀z,z<n->p z=true->S z<=T z):aD p S n 0 0<=aD p T n 0 0:=by
 rw[Qy];refine⟨p7 _,fun z _ hz hp=>?_⟩;have h2:=((Qy p T _ n 0 0).1 (tg _)).2 z (p7 _) hz hp;have:=h z (by omega) hp;omega
theorem uh{p q:Nat->Bool}{S T:Nat->Nat}:∀k acc,(∀z,k<=z->z<k+n->p z=q z/\(p z=true->S z=T z))->aD p S n k acc=aD q T n k acc:=by
 induction n with
 | zero=>intro k acc _;rfl
 | succ n ih =>
   intro k acc h;rw[aD,aD,ih (k+1) _ (fun z h1 h2=>h z (by omega) (by omega))];obtain⟨h1,h2⟩:=h k (tg _) (by omega);congr 1
   cases hp:p k with
   | false=>rw[hp]at h1;rw[<-h1];rfl
   | true=>rw[h2 hp];rw[hp]at h1;rw[<-h1]
def rV(G:List Bool):Nat->Nat->Nat
 | 0,_=>0
 | n+1,a=>aD (gA G a) (rV G n) 8 0 0
theorem zFK:∀a,rV G n a<=n:=by
 induction n with
 | zero=>intro a;exact tg _
 | succ n ih=>intro a;rw[rV,Qy];exact⟨p7 _,fun z _ _ _=>by have:=ih z;omega⟩
theorem zDY:∀a,rV G n a<=rV G (n+1) a:=by
 induction n with
 | zero=>intro a;exact p7 _
 | succ n ih=>intro a;rw[rV,rV];exact J3 (fun z _ _=>ih z)
theorem uy:∀a,rV G (n+1) a<=n->rV G n a=rV G (n+1) a:=by
 induction n with
 | zero=>intro a h;have h2:rV G 0 a=0:=rfl;omega
 | succ n ih =>
   intro a h;rw[rV]at h;rw[Qy]at h;rw[rV,rV];exact uh 8 0 0 (fun z h1 h2=>⟨rfl,fun hp=>ih z (by have:=h.2 z h1 h2 hp;omega)⟩)
theorem uz:∀a,a<8->rV G n a=n->∃x:Nat->Nat,x 0=a/\(∀i,i<=n->x i<8)/\∀i,i<n->Kl G (x i) (x (i+1)):=by
 induction n with
 | zero=>intro a ha _;exact⟨fun _=>a,rfl,fun _ _=>ha,fun i h=>by omega⟩
 | succ n ih =>
   intro a ha h
   have hz:∃z,z<8/\gA G a z=true/\rV G n z=n:=by
    rcases Classical.em (∃z,z<8/\gA G a z=true/\rV G n z=n) with h1|h1
    ·exact h1
    ·exfalso
     have:rV G (n+1) a<=n:=by
      rw[rV,Qy];refine⟨p7 _,fun z _ hz hp=>?_⟩;have h2:=zFK G n z;have h3:rV G n z≠n:=fun e=>h1 ⟨z,by omega,hp,e⟩;omega
     omega
   obtain⟨z,hz8,hp,hl⟩:=hz;obtain⟨x,h0,hx8,hx⟩:=ih z hz8 hl;refine⟨fun i=>if i=0 then a else x (i-1),by simp,fun i hi=>?_,fun i hi=>?_⟩
   ·by_cases h:i=0
    ·simp[h,ha]
    ·simp[h];exact hx8 (i-1) (by omega)
   ·by_cases h:i=0
    ·subst h;simp[h0];exact⟨ha,hz8,hp⟩
    ·simp[h]
     have:=hx (i-1) (by omega)
     rwa [show i-1+1=i by omega]at this
theorem zAJ{G:List Bool}{x:Nat->Nat}{n:Nat}(hx:∀i,i<n->Kl G (x i) (x (i+1)))(d:Nat):∀i,i+d+1<=n->TC (Kl G) (x i) (x (i+d+1)):=by
 induction d with
 | zero=>intro i h;exact TC.one (hx i (by omega))
 | succ d ih=>intro i h;exact(ih i (by omega)).trans (TC.one (hx (i+d+1) (by omega)))
theorem zHB{G:List Bool}(hl:G.length=64)(hr:kJ G=false)(a:Nat)(ha:a<8):rV G 7 a=rV G 8 a:=by
 refine uy G 7 a ?_;show rV G 8 a<=7;have h8:=zFK G 8 a;rcases py (rV G 8 a) 8 with h|h
 ·omega
 ·exfalso
  obtain⟨x,-,hx8,hx⟩:=uz G 8 a ha (by omega);obtain⟨i,j,h1,h2,h3⟩:=ze 8 x hx8;have ht:=zAJ hx (j-i-1) i (by omega);rw[show i+(j-i-1)+1=j by omega,<-h3]at ht;have:kJ G=true:=(Qr hl).2 ⟨x i,hx8 i (by omega),ht⟩;rw[hr]at this;cases this
def YX(G:List Bool)(a:Nat):Nat:=rV G 7 a
theorem zE3{G:List Bool}(hl:G.length=64)(hr:kJ G=false)(a:Nat)(ha:a<8):aD (gA G a) (YX G) 8 0 0=YX G a:=by
 unfold YX;rw[zHB hl hr a ha];rfl
def Fd(G:List Bool):Nat->Nat->List Nat->List Nat
 | 0,_,S=>S
 | n+1,a,S=>Fd G n (a+1) (S.set a (aD (gA G a) (fun z=>S.getD z 0) 8 0 0))
def YB(G:List Bool):Nat->List Nat->List Nat
 | 0,S=>S
 | n+1,S=>YB G n (Fd G 8 0 S)
def tL(G:List Bool):List Nat:=YB G 7 (List.replicate 8 0)
theorem CA:∀a S,(Fd G n a S).length=S.length:=by
 induction n with
 | zero=>intro a S;rfl
 | succ n ih=>intro a S;rw[Fd,ih,List.length_set]
theorem vh:∀S,(YB G n S).length=S.length:=by
 induction n with
 | zero=>intro S;rfl
 | succ n ih=>intro S;rw[YB,ih,CA]
theorem Ve:(tL G).length=8:=by unfold tL;rw[vh];rfl
theorem wV(S:List Nat)(a v z:Nat)(ha:a<S.length):(S.set a v).getD z 0=if z=a then v else S.getD z 0:=by
 by_cases h:z=a
 ·subst h;simp[List.getD,ha]
 ·simp[List.getD,h,List.getElem?_set_ne (Ne.symm h)]
theorem UJ{G:List Bool}(hl:G.length=64)(hr:kJ G=false)(r:Nat)(n:Nat):∀a S,S.length=8->a+n=8->(∀z,z<8->rV G r z<=S.getD z 0/\S.getD z 0<=YX G z)->(∀z,z<a->rV G (r+1) z<=S.getD z 0)->∀z,z<8->rV G (r+1) z<=(Fd G n a S).getD z 0/\(Fd G n a S).getD z 0<=YX G z:=by
 induction n with
 | zero=>intro a S _ ha h1 h2 z hz;rw[Fd];exact⟨h2 z (by omega),(h1 z hz).2⟩
 | succ n ih =>
   intro a S hS ha h1 h2;rw[Fd]
   have hlo:rV G (r+1) a<=aD (gA G a) (fun z=>S.getD z 0) 8 0 0:=by
    rw[rV];exact J3 (fun z hz _=>(h1 z hz).1)
   have hhi:aD (gA G a) (fun z=>S.getD z 0) 8 0 0<=YX G a:=by
    rw[<-zE3 hl hr a (by omega)];exact J3 (fun z hz _=>(h1 z hz).2)
   refine ih (a+1) _ (by rw[List.length_set];exact hS) (by omega) (fun z hz=>?_) (fun z hz=>?_)
   ·rw[wV S a _ z (by omega)]
    split
    ·rename_i h;subst h;exact⟨p8 (zDY G r z) hlo,hhi⟩
    ·exact h1 z hz
   ·rw[wV S a _ z (by omega)]
    split
    ·rename_i h;subst h;exact hlo
    ·exact h2 z (by omega)
theorem KB{G:List Bool}(hl:G.length=64)(hr:kJ G=false)(n:Nat):∀r S,S.length=8->(∀z,z<8->rV G r z<=S.getD z 0/\S.getD z 0<=YX G z)->∀z,z<8->rV G (r+n) z<=(YB G n S).getD z 0/\(YB G n S).getD z 0<=YX G z:=by
 induction n with
 | zero=>intro r S _ h z hz;exact h z hz
 | succ n ih =>
   intro r S hS h z hz;rw[YB,show r+(n+1)=(r+1)+n by omega];exact ih (r+1) _ (by rw[CA];exact hS) (UJ hl hr r 8 0 S hS rfl h (fun z hz=>by omega)) z hz
theorem B0{G:List Bool}(hl:G.length=64)(hr:kJ G=false)(z:Nat)(hz:z<8):(tL G).getD z 0=YX G z:=by
 have:=KB hl hr 7 0 (List.replicate 8 0) rfl (fun z hz=>by
  have e:(List.replicate 8 0).getD z 0=0:=by simp only[List.getD,dj,hz,if_true,Option.getD_some]
  rw[e];exact⟨tg _,p7 _⟩) z hz
 unfold tL;have h2:rV G (0+7) z=YX G z:=rfl;omega
theorem ui(p:Nat->Bool)(S:Nat->Nat)(m n k acc:Nat)(ha:acc<=m+1)(h:∀z,k<=z->z<k+n->S z<=m):aD p S n k acc<=m+1:=by
 rw[Qy];exact⟨ha,fun z h1 h2 _=>by have:=h z h1 h2;omega⟩
open Go.RowKit
def qy(L:List Nat):List Value:=L.map fun a=>Value.int .i64 (a:Nat)
theorem pI{w w':World}{B:Nat}{e:TypeId}{size:Nat}{v:Value}{n:Nat}{xs:List Value}(h:w.ownsRow B e size v n xs)(hb:Below w.heap.size w w'):w'.ownsRow B e size v n xs:=by
 refine⟨h.1,?_⟩;rcases h.2 with h1|⟨g,cap,yT,h1,h2,h3,r⟩
 ·exact .inl h1
 ·refine .inr ⟨g,cap,yT,h1,h2,?_,r⟩
  have zJS:g<w.heap.size:=by
   rcases py g w.heap.size with h|h
   ·exact h
   ·rw[pq h]at h3;cases h3
  rw[hb.block g zJS];exact h3
structure zIE(w:World)(a:Option Addr)(L:List Nat):Prop where
 blk:0<L.length->∃g,a=some ⟨g,0,none⟩/\∀i,i<L.length->w.cell? ⟨g,i,none⟩=some (.int .i64 ((L.getD i 0:Nat):Int))
end Go.Proofs.YtnbpdffdnphbeabGreatDoor
