import Derived.Test.YtnbpdffdnphbeaaGreatDoorCkErr2
namespace Go.Proofs.YtnbpdffdnphbeaaGreatDoor
variable(G:List Bool)(n:Nat)
theorem TC.head{M:Nat->Nat->Prop}{a b:Nat}(h:TC M a b):∃z,M a z/\(z=b\/TC M z b):=by
 refine h (fun a b=>∃z,M a z/\(z=b\/TC M z b)) (fun x y h1=>⟨y,h1,.inl rfl⟩) ?_;rintro x y z ⟨u,h1,h2⟩ ⟨v,h3,h4⟩
 have hyz:TC M y z:=by
  rcases h4 with rfl|h4
  ·exact TC.one h3
  ·exact(TC.one h3).trans h4
 refine⟨u,h1,.inr ?_⟩;rcases h2 with rfl|h2
 ·exact hyz
 ·exact h2.trans hyz
theorem vh:∀g:Nat->Nat,(∀i,i<=n->g i<n)->∃i j,i<j/\j<=n/\g i=g j:=by
 induction n with
 | zero=>intro g h;exact absurd (h 0 (t9 _)) (by omega)
 | succ n ih =>
   intro g h;rcases Classical.em (∃i,i<=n/\g i=g (n+1)) with ⟨i,h1,h2⟩|zJ4
   ·exact⟨i,n+1,by omega,t9 _,h2⟩
   ·
    have zIH:∀i,i<=n->g i≠g (n+1):=fun i hi e=>zJ4 ⟨i,hi,e⟩;have hlast:=h (n+1) (t9 _)
    obtain⟨i,j,h1,h2,h3⟩:=ih (fun i=>if g i<g (n+1) then g i else g i-1) (fun i hi=>by
     have h4:=h i (by omega);have h5:=zIH i hi;show (if g i<g (n+1) then g i else g i-1)<n;split <;> omega)
    refine⟨i,j,h1,by omega,?_⟩;have h4:=zIH i (by omega);have h5:=zIH j h2;split at h3 <;> split at h3 <;> omega
theorem vL{P:Nat->Prop}:P n->∃m,m<=n/\P m/\∀k,k<m->¬P k:=by
 induction n using Nat.strongRecOn with
 | _ n ih =>
   intro h;rcases Classical.em (∃k,k<n/\P k) with ⟨k,h1,h2⟩|zJ4
   ·obtain⟨m,h3,h4,h5⟩:=ih k h1 h2
    exact⟨m,by omega,h4,h5⟩
   ·exact⟨n,t9 _,h,fun k hk hp=>zJ4 ⟨k,hk,hp⟩⟩
def iK(p:Nat->Bool)(S:Nat->Nat):Nat->Nat->Nat->Nat
 | 0,_,acc=>acc
 | n+1,k,acc=>iK p S n (k+1) (if p k&&decide (acc<=S k) then S k+1 else acc)
theorem Jt(p:Nat->Bool)(S:Nat->Nat)(m:Nat)(n:Nat):∀k acc,iK p S n k acc<=m ↔ acc<=m/\∀z,k<=z->z<k+n->p z=true->S z+1<=m:=by
 induction n with
 | zero=>intro k acc;rw[iK];exact⟨fun h=>⟨h,fun z h1 h2=>by omega⟩,fun h=>h.1⟩
 | succ n ih =>
   intro k acc;rw[iK,ih];constructor
   ·rintro⟨h1,h2⟩
    refine⟨?_,fun z hz1 hz2 hp=>?_⟩
    ·split at h1
     ·rename_i hc;rw[tz,pr]at hc;omega
     ·exact h1
    ·by_cases hz:z=k
     ·subst hz
      split at h1
      ·exact h1
      ·rename_i hc
       rw[tz,pr]at hc;have:¬acc<=S z:=fun h=>hc ⟨hp,h⟩;omega
     ·exact h2 z (by omega) (by omega) hp
   ·rintro⟨h1,h2⟩
    refine⟨?_,fun z hz1 hz2 hp=>h2 z (by omega) (by omega) hp⟩;split
    ·rename_i hc;rw[tz,pr]at hc;exact h2 k (t9 _) (by omega) hc.1
    ·exact h1
theorem Kt{p:Nat->Bool}{S T:Nat->Nat}{n:Nat}(h:∀z,z<n->p z=true->S z<=T z):iK p S n 0 0<=iK p T n 0 0:=by
 rw[Jt];refine⟨tr _,fun z _ hz hp=>?_⟩;have h2:=((Jt p T _ n 0 0).1 (t9 _)).2 z (tr _) hz hp;have:=h z (by omega) hp;omega
theorem ke{p q:Nat->Bool}{S T:Nat->Nat}:∀k acc,(∀z,k<=z->z<k+n->p z=q z/\(p z=true->S z=T z))->iK p S n k acc=iK q T n k acc:=by
 induction n with
 | zero=>intro k acc _;rfl
 | succ n ih =>
   intro k acc h;rw[iK,iK,ih (k+1) _ (fun z h1 h2=>h z (by omega) (by omega))];obtain⟨h1,h2⟩:=h k (t9 _) (by omega);congr 1
   cases hp:p k with
   | false=>rw[hp]at h1;rw[<-h1];rfl
   | true=>rw[h2 hp];rw[hp]at h1;rw[<-h1]
def aW(G:List Bool):Nat->Nat->Nat
 | 0,_=>0
 | n+1,a=>iK (gA G a) (aW G n) 8 0 0
theorem zEP:∀a,aW G n a<=n:=by
 induction n with
 | zero=>intro a;exact t9 _
 | succ n ih=>intro a;rw[aW,Jt];exact⟨tr _,fun z _ _ _=>by have:=ih z;omega⟩
theorem zD7:∀a,aW G n a<=aW G (n+1) a:=by
 induction n with
 | zero=>intro a;exact tr _
 | succ n ih=>intro a;rw[aW,aW];exact Kt (fun z _ _=>ih z)
theorem j6:∀a,aW G (n+1) a<=n->aW G n a=aW G (n+1) a:=by
 induction n with
 | zero=>intro a h;have h2:aW G 0 a=0:=rfl;omega
 | succ n ih =>
   intro a h;rw[aW]at h;rw[Jt]at h;rw[aW,aW];exact ke 8 0 0 (fun z h1 h2=>⟨rfl,fun hp=>ih z (by have:=h.2 z h1 h2 hp;omega)⟩)
theorem j7:∀a,a<8->aW G n a=n->∃x:Nat->Nat,x 0=a/\(∀i,i<=n->x i<8)/\∀i,i<n->KI G (x i) (x (i+1)):=by
 induction n with
 | zero=>intro a ha _;exact⟨fun _=>a,rfl,fun _ _=>ha,fun i h=>by omega⟩
 | succ n ih =>
   intro a ha h
   have hz:∃z,z<8/\gA G a z=true/\aW G n z=n:=by
    rcases Classical.em (∃z,z<8/\gA G a z=true/\aW G n z=n) with h1|h1
    ·exact h1
    ·exfalso
     have:aW G (n+1) a<=n:=by
      rw[aW,Jt];refine⟨tr _,fun z _ hz hp=>?_⟩;have h2:=zEP G n z;have h3:aW G n z≠n:=fun e=>h1 ⟨z,by omega,hp,e⟩;omega
     omega
   obtain⟨z,hz8,hp,hl⟩:=hz;obtain⟨x,h0,hx8,hx⟩:=ih z hz8 hl;refine⟨fun i=>if i=0 then a else x (i-1),by simp,fun i hi=>?_,fun i hi=>?_⟩
   ·by_cases h:i=0
    ·simp[h,ha]
    ·simp[h];exact hx8 (i-1) (by omega)
   ·by_cases h:i=0
    ·subst h;simp[h0];exact⟨ha,hz8,hp⟩
    ·simp[h]
     have:=hx (i-1) (by omega)
     rwa [show i-1+1=i by omega]at this
theorem zAQ{G:List Bool}{x:Nat->Nat}{n:Nat}(hx:∀i,i<n->KI G (x i) (x (i+1)))(d:Nat):∀i,i+d+1<=n->TC (KI G) (x i) (x (i+d+1)):=by
 induction d with
 | zero=>intro i h;exact TC.one (hx i (by omega))
 | succ d ih=>intro i h;exact(ih i (by omega)).trans (TC.one (hx (i+d+1) (by omega)))
theorem zG7{G:List Bool}(hl:G.length=64)(hr:jY G=false)(a:Nat)(ha:a<8):aW G 7 a=aW G 8 a:=by
 refine j6 G 7 a ?_;show aW G 8 a<=7;have h8:=zEP G 8 a;rcases po (aW G 8 a) 8 with h|h
 ·omega
 ·exfalso
  obtain⟨x,-,hx8,hx⟩:=j7 G 8 a ha (by omega);obtain⟨i,j,h1,h2,h3⟩:=vh 8 x hx8;have ht:=zAQ hx (j-i-1) i (by omega);rw[show i+(j-i-1)+1=j by omega,<-h3]at ht;have:jY G=true:=(Jk hl).2 ⟨x i,hx8 i (by omega),ht⟩;rw[hr]at this;cases this
def XP(G:List Bool)(a:Nat):Nat:=aW G 7 a
theorem zDA{G:List Bool}(hl:G.length=64)(hr:jY G=false)(a:Nat)(ha:a<8):iK (gA G a) (XP G) 8 0 0=XP G a:=by
 unfold XP;rw[zG7 hl hr a ha];rfl
def FU(G:List Bool):Nat->Nat->List Nat->List Nat
 | 0,_,S=>S
 | n+1,a,S=>FU G n (a+1) (S.set a (iK (gA G a) (fun z=>S.getD z 0) 8 0 0))
def X1(G:List Bool):Nat->List Nat->List Nat
 | 0,S=>S
 | n+1,S=>X1 G n (FU G 8 0 S)
def pO(G:List Bool):List Nat:=X1 G 7 (List.replicate 8 0)
theorem D0:∀a S,(FU G n a S).length=S.length:=by
 induction n with
 | zero=>intro a S;rfl
 | succ n ih=>intro a S;rw[FU,ih,List.length_set]
theorem uu:∀S,(X1 G n S).length=S.length:=by
 induction n with
 | zero=>intro S;rfl
 | succ n ih=>intro S;rw[X1,ih,D0]
theorem VS:(pO G).length=8:=by unfold pO;rw[uu];rfl
theorem ZR(S:List Nat)(a v z:Nat)(ha:a<S.length):(S.set a v).getD z 0=if z=a then v else S.getD z 0:=by
 by_cases h:z=a
 ·subst h;simp[List.getD,ha]
 ·simp[List.getD,h,List.getElem?_set_ne (Ne.symm h)]
theorem BQ{G:List Bool}(hl:G.length=64)(hr:jY G=false)(r:Nat)(n:Nat):∀a S,S.length=8->a+n=8->(∀z,z<8->aW G r z<=S.getD z 0/\S.getD z 0<=XP G z)->(∀z,z<a->aW G (r+1) z<=S.getD z 0)->∀z,z<8->aW G (r+1) z<=(FU G n a S).getD z 0/\(FU G n a S).getD z 0<=XP G z:=by
 induction n with
 | zero=>intro a S _ ha h1 h2 z hz;rw[FU];exact⟨h2 z (by omega),(h1 z hz).2⟩
 | succ n ih =>
   intro a S hS ha h1 h2;rw[FU]
   have hlo:aW G (r+1) a<=iK (gA G a) (fun z=>S.getD z 0) 8 0 0:=by
    rw[aW];exact Kt (fun z hz _=>(h1 z hz).1)
   have hhi:iK (gA G a) (fun z=>S.getD z 0) 8 0 0<=XP G a:=by
    rw[<-zDA hl hr a (by omega)];exact Kt (fun z hz _=>(h1 z hz).2)
   refine ih (a+1) _ (by rw[List.length_set];exact hS) (by omega) (fun z hz=>?_) (fun z hz=>?_)
   ·rw[ZR S a _ z (by omega)]
    split
    ·rename_i h;subst h;exact⟨tx (zD7 G r z) hlo,hhi⟩
    ·exact h1 z hz
   ·rw[ZR S a _ z (by omega)]
    split
    ·rename_i h;subst h;exact hlo
    ·exact h2 z (by omega)
theorem Vy{G:List Bool}(hl:G.length=64)(hr:jY G=false)(n:Nat):∀r S,S.length=8->(∀z,z<8->aW G r z<=S.getD z 0/\S.getD z 0<=XP G z)->∀z,z<8->aW G (r+n) z<=(X1 G n S).getD z 0/\(X1 G n S).getD z 0<=XP G z:=by
 induction n with
 | zero=>intro r S _ h z hz;exact h z hz
 | succ n ih =>
   intro r S hS h z hz;rw[X1,show r+(n+1)=(r+1)+n by omega];exact ih (r+1) _ (by rw[D0];exact hS) (BQ hl hr r 8 0 S hS rfl h (fun z hz=>by omega)) z hz
theorem C5{G:List Bool}(hl:G.length=64)(hr:jY G=false)(z:Nat)(hz:z<8):(pO G).getD z 0=XP G z:=by
 have:=Vy hl hr 7 0 (List.replicate 8 0) rfl (fun z hz=>by
  have e:(List.replicate 8 0).getD z 0=0:=by simp only[List.getD,List.getElem?_replicate,hz,if_true,Option.getD_some]
  rw[e];exact⟨t9 _,tr _⟩) z hz
 unfold pO;have h2:aW G (0+7) z=XP G z:=rfl;omega
theorem kf(p:Nat->Bool)(S:Nat->Nat)(m n k acc:Nat)(ha:acc<=m+1)(h:∀z,k<=z->z<k+n->S z<=m):iK p S n k acc<=m+1:=by
 rw[Jt];exact⟨ha,fun z h1 h2 _=>by have:=h z h1 h2;omega⟩
open Go.RowKit
def jt(L:List Nat):List Value:=L.map fun a=>Value.int .i64 (a:Nat)
theorem kI{w w':World}{B:Nat}{e:TypeId}{size:Nat}{v:Value}{n:Nat}{xs:List Value}(h:w.ownsRow B e size v n xs)(hb:Below w.heap.size w w'):w'.ownsRow B e size v n xs:=by
 refine⟨h.1,?_⟩;rcases h.2 with h1|⟨g,cap,yW,h1,h2,h3,r⟩
 ·exact .inl h1
 ·refine .inr ⟨g,cap,yW,h1,h2,?_,r⟩
  have zI6:g<w.heap.size:=by
   rcases po g w.heap.size with h|h
   ·exact h
   ·rw[pj h]at h3;cases h3
  rw[hb.block g zI6];exact h3
structure zH1(w:World)(a:Option Addr)(L:List Nat):Prop where
 blk:0<L.length->∃g,a=some ⟨g,0,none⟩/\∀i,i<L.length->w.cell? ⟨g,i,none⟩=some (.int .i64 ((L.getD i 0:Nat):Int))
end Go.Proofs.YtnbpdffdnphbeaaGreatDoor
