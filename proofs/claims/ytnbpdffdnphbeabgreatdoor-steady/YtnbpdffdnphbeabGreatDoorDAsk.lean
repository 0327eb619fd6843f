import Derived.Test.YtnbpdffdnphbeabGreatDoorDAbove
open Go.Proofs.Tryz
set_option maxHeartbeats 2000000
set_option maxRecDepth 100000
namespace Go.Proofs.YtnbpdffdnphbeabGreatDoor
open Go.RowKit
variable{b:Int}{I:List yA}{ls:List zE}{i:Nat}{s' s:vH}{r l e:xN}{x:zE}
theorem Yh(X:List Int)(h:X≠[]):∃m∈X,∀x∈X,x<=m:=by
 induction X with
 | nil=>exact x' rfl h
 | cons a r ih =>
   by_cases hr:r=[]
   ·subst hr;exact⟨a,by simp,by simp⟩
   ·obtain⟨m,h1,h2⟩:=ih hr
    by_cases hm:a<=m
    ·exact⟨m,by simp[h1],λx hx=>by rcases pi.1 hx with rfl|hx;exact hm;exact h2 x hx⟩
    ·exact⟨a,by simp,λx hx=>by rcases pi.1 hx with rfl|hx;exact bp _;have:=h2 x hx;omega⟩
theorem Mt(L:Int->Int):∀(n:Nat) (X:List Int),X.length<=n->(∀x∈X,L x<=x)->∃g:Int->Int,(∀x∈X,L x<=g x/\g x<=x/\∃y∈X,∃j:Nat,j<X.length/\g x=L y+j)/\∀x∈X,∀y∈X,x<y->g x<g y:=by
 intro n
 induction n with
 | zero =>
   intro X h _;obtain rfl:X=[]:=l5 (by omega);exact⟨id,by simp,by simp⟩
 | succ n ih =>
   intro X h hL;by_cases h0:X=[]
   ·subst h0;exact⟨id,by simp,by simp⟩
   obtain⟨m,hm,ae⟩:=Yh X h0
   have bU:(X.filter λx=>decide (x<m)).length<X.length:=by
    rcases mc (X.filter λx=>decide (x<m)).length X.length with h1|h1
    ·exact h1
    ·have h2:(X.filter λx=>decide (x<m)).length=X.length:=Nat.le_antisymm (f0 _ _) h1
     have:=List.length_filter_eq_length_iff.1 h2 m hm;simp at this
   obtain⟨g,g1,g2⟩:=ih (X.filter λx=>decide (x<m)) (by omega) (λx hx=>hL x (mu.1 hx).1);have aK:∀x∈X,x<m->x∈X.filter λx=>decide (x<m):=λx hx aD=>mu.2 ⟨hx,by simpa using aD⟩;generalize bq:(X.filter λx=>decide (x<m))=X' at *;have aS:∀x∈X',x∈X/\x<m:=λx hx=>by rw[<-bq]at hx;have:=mu.1 hx;exact⟨this.1,by simpa using this.2⟩
   have hv:∃v,L m<=v/\v<=m/\(∃y∈X,∃j:Nat,j<X.length/\v=L y+j)/\∀x∈X',g x<v:=by
    by_cases h1:X'=[]
    ·exact⟨L m,bp _,hL m hm,⟨m,hm,0,by omega,by omega⟩,by simp[h1]⟩
    ·obtain⟨M,hM,br⟩:=Yh (X'.map g) (by simpa using h1)
     obtain⟨z,hz,rfl⟩:=pd.1 hM;obtain⟨z1,z2,y,hy,j,hj,b7⟩:=g1 z hz;have b6:=(aS z hz).2;have hall:∀x∈X',g x<=g z:=λx hx=>br _ (pd.2 ⟨x,hx,rfl⟩);by_cases h2:g z<L m
     ·exact⟨L m,bp _,hL m hm,⟨m,hm,0,by omega,by omega⟩,λx hx=>by have:=hall x hx;omega⟩
     ·exact⟨g z+1,by omega,by omega,⟨y,(aS y hy).1,j+1,by omega,by omega⟩,λx hx=>by have:=hall x hx;omega⟩
   obtain⟨v,v1,v2,v3,v4⟩:=hv;refine⟨λx=>if x<m then g x else v,λx hx=>?_,λx hx y hy aD=>?_⟩
   ·by_cases a7:x<m
    ·simp only[tr a7]
     obtain⟨a,b,y,hy,j,hj,e⟩:=g1 x (aK x hx a7);exact⟨a,b,y,(aS y hy).1,j,by omega,e⟩
    ·obtain rfl:x=m:=by have:=ae x hx;omega
     simp only[tj a7];exact⟨v1,v2,v3⟩
   ·have h3:=ae y hy
    by_cases a6:y<m
    ·simp only[tr a6,tr (show x<m by omega)]
     exact g2 x (aK x hx (by omega)) y (aK y hy a6) aD
    ·simp only[tj a6,tr (show x<m by omega)]
     exact v4 x (aK x hx (by omega))
theorem UK(B:List Int)(x lo:Int)(ak:lo∈B)(hx:lo<=x):∃l,l<=x/\lo<=l/\(∃b∈B,l=b\/l=b+1)/\∀c∈B,(c<=x->c<=l)/\(c<x->c<l):=by
 by_cases hB:x∈B
 ·exact⟨x,bp _,hx,⟨x,hB,.inl rfl⟩,λc _=>⟨id,id⟩⟩
 ·obtain⟨m,hm,ae⟩:=Yh (B.filter λb=>decide (b<=x)) (λh=>by have:lo∈B.filter λb=>decide (b<=x):=mu.2 ⟨ak,by simpa using hx⟩;rw[h]at this;simp at this)
  have h1:=mu.1 hm;have h2:m<=x:=by simpa using h1.2
  have h3:m≠x:=λe=>hB (e ▸ h1.1);have h4:∀c∈B,c<=x->c<=m:=λc hc bk=>ae c (mu.2 ⟨hc,by simpa using bk⟩);exact⟨m+1,by omega,by have:=h4 lo ak hx;omega,⟨m,h1.1,.inr rfl⟩,λc hc=>⟨λh=>by have:=h4 c hc h;omega,λh=>by have:=h4 c hc (by omega);omega⟩⟩
theorem LG(B X:List Int)(ak:∀x∈X,∃lo∈B,lo<=x):∃g:Int->Int,(∀x∈X,g x<=x/\(∃b∈B,∃j:Nat,j<=X.length/\g x=b+j)/\(∀c∈B,(c<=x->c<=g x)/\(x<c ↔ g x<c)/\(x=c ↔ g x=c)))/\∀x∈X,∀y∈X,(x<y ↔ g x<g y)/\(x=y ↔ g x=g y):=by
 have hL:∀x,∃l,x∈X->l<=x/\(∃b∈B,l=b\/l=b+1)/\∀c∈B,(c<=x->c<=l)/\(c<x->c<l):=λx=>by
  rcases Classical.em (x∈X) with hx|hx
  ·obtain⟨lo,h1,h2⟩:=ak x hx
   obtain⟨l,a1,_,a3,a4⟩:=UK B x lo h1 h2;exact⟨l,λ_=>⟨a1,a3,a4⟩⟩
  ·exact⟨0,λh=>x' h hx⟩
 have hf:∃L:Int->Int,∀x,x∈X->L x<=x/\(∃b∈B,L x=b\/L x=b+1)/\∀c∈B,(c<=x->c<=L x)/\(c<x->c<L x):=⟨λx=>Classical.choose (hL x),λx=>Classical.choose_spec (hL x)⟩;obtain⟨L,bI⟩:=hf;obtain⟨g,g1,g2⟩:=Mt L X.length X (tg _) (λx hx=>(bI x hx).1);refine⟨g,λx hx=>?_,λx hx y hy=>?_⟩
 ·obtain⟨a1,a2,y,hy,j,hj,a3⟩:=g1 x hx
  refine⟨a2,?_,λc hc=>?_⟩
  ·obtain⟨b,hb,ao⟩:=(bI y hy).2.1
   rcases ao with e|e
   ·exact⟨b,hb,j,by omega,by omega⟩
   ·exact⟨b,hb,j+1,by omega,by omega⟩
  ·obtain⟨c1,c2⟩:=(bI x hx).2.2 c hc
   refine⟨λh=>by have:=c1 h;omega,⟨λh=>by omega,λh=>?_⟩,⟨λh=>?_,λh=>?_⟩⟩
   ·rcases db x c with h1|h1
    ·exact h1
    ·have:=c1 h1;omega
   ·have:=c1 (by omega);omega
   ·rcases db c x with h1|h1
    ·have:=c2 h1;omega
    ·omega
 ·have p1:=g2 x hx y hy
  have p2:=g2 y hy x hx;constructor
  ·constructor
   ·exact p1
   ·intro h
    rcases db x y with h1|h1
    ·exact h1
    ·rcases db y x with h2|h2
     ·have:=p2 h2;omega
     ·have:x=y:=by omega
      subst this;omega
  ·constructor
   ·intro h;rw[h]
   ·intro h
    rcases db x y with h1|h1
    ·have:=p1 h1;omega
    ·rcases db y x with h2|h2
     ·have:=p2 h2;omega
     ·omega
def kS(z:Int × Int)(b:Int):List (Int × Int) :=
 if b<z.1\/z.2<b then [z] else ((if z.1<b then [(z.1,b-1)] else [])++[(b,b)])++(if b<z.2 then [(b+1,z.2)] else [])
def vN(zs:List (Int × Int))(b:Int):List (Int × Int):=zs.flatMap λz=>kS z b
def xV(zs:List (Int × Int))(bs:List Int):List (Int × Int):=bs.foldl vN zs
def oB(lo hi:Int)(b1 b2:List Int):List (Int × Int):=xV (xV [(lo,hi)] b1) b2
def Em(z:Int × Int)(b:Int):Prop:=z.2<b\/(z.1=b/\z.2=b)\/b<z.1
theorem oH{z x:Int × Int}(h:x∈kS z b):z.1<=x.1/\x.2<=z.2/\Em x b:=by
 unfold kS at h;unfold Em;by_cases h1:b<z.1\/z.2<b
 ·rw[tr h1]at h;simp at h;subst h;omega
 ·rw[tj h1]at h
  simp only[pj,pr]at h;rcases h with (h|h)|h
  ·by_cases h2:z.1<b
   ·rw[tr h2]at h;simp at h;subst h;simp;omega
   ·rw[tj h2]at h;simp at h
  ·subst h;simp;omega
  ·by_cases h2:b<z.2
   ·rw[tr h2]at h;simp at h;subst h;simp;omega
   ·rw[tj h2]at h;simp at h
theorem KH{z:Int × Int}{y:Int}(h:z.1<=y/\y<=z.2):∃x∈kS z b,x.1<=y/\y<=x.2:=by
 unfold kS;by_cases h1:b<z.1\/z.2<b
 ·rw[tr h1];exact⟨z,by simp,h⟩
 ·rw[tj h1]
  rcases Int.lt_trichotomy y b with h2|h2|h2
  ·exact⟨(z.1,b-1),by simp[show z.1<b by omega],by simp;omega⟩
  ·exact⟨(b,b),by simp,by simp;omega⟩
  ·exact⟨(b+1,z.2),by simp[show b<z.2 by omega],by simp;omega⟩
structure zL3(lo hi:Int)(bs:List Int)(zs:List (Int × Int)):Prop where
 sub:∀z∈zs,lo<=z.1/\z.2<=hi
 cover:∀y,lo<=y->y<=hi->∃z∈zs,z.1<=y/\y<=z.2
 side:∀z∈zs,∀b∈bs,∀y,z.1<=y->y<=z.2->∀x,z.1<=x->x<=z.2->(x<b ↔ y<b)/\(x=b ↔ y=b)
theorem zL3.split{lo hi:Int}{bs:List Int}{zs:List (Int × Int)}(h:zL3 lo hi bs zs)(b:Int):zL3 lo hi (bs++[b]) (vN zs b):=by
 refine⟨λz hz=>?_,λy h1 h2=>?_,λz hz c hc y h1 h2 x h3 h4=>?_⟩
 ·obtain⟨z0,hz0,hz1⟩:=bg.1 hz
  have:=h.sub z0 hz0;have:=oH hz1;omega
 ·obtain⟨z,hz,hy⟩:=h.cover y h1 h2
  obtain⟨x,hx,bW⟩:=KH (b:=b) hy;exact⟨x,bg.2 ⟨z,hz,hx⟩,bW⟩
 ·obtain⟨z0,hz0,hz1⟩:=bg.1 hz
  have hs:=oH hz1;rcases pj.1 hc with hc|hc
  ·exact h.side z0 hz0 c hc y (by omega) (by omega) x (by omega) (by omega)
  ·simp at hc;subst hc
   have:=hs.2.2;unfold Em at this;omega
theorem zL3.splits{lo hi:Int}(b2:List Int):∀ {bs:List Int} {zs:List (Int × Int)},zL3 lo hi bs zs->zL3 lo hi (bs++b2) (xV zs b2):=by
 induction b2 with
 | nil=>intro bs zs h;simpa[xV] using h
 | cons b r ih =>
   intro bs zs h;have:=ih (h.split b);rw[po]at this;exact this
theorem X0(lo hi:Int)(b1 b2:List Int):zL3 lo hi (b1++b2) (oB lo hi b1 b2):=by
 have h0:zL3 lo hi [] [(lo,hi)]:=⟨λz hz=>by simp at hz;subst hz;simp,λy h1 h2=>⟨(lo,hi),by simp,h1,h2⟩,λz _ b hb=>by simp at hb⟩;have:=(h0.splits b1).splits b2;unfold oB;simpa using this
theorem DV{α:Type}(p q:α->Bool)(h:∀x,¬(p x=true/\q x=true))(l:List α):(l.filter p).length+(l.filter q).length<=l.length:=by
 induction l with
 | nil=>simp
 | cons x r ih =>
   have hx:=h x;cases hp:p x <;> cases hq:q x <;> simp[hp,hq]at hx ⊢ <;> omega
theorem zq(l:List Int):∃T:List Int,T.Pairwise (· < ·)/\(∀x,x∈T ↔ x∈l)/\T.length<=l.length:=by
 induction l with
 | nil=>exact⟨[],List.Pairwise.nil,λx=>Iff.rfl,tg _⟩
 | cons a r ih =>
   obtain⟨T,h1,h2,h3⟩:=ih;refine⟨T.filter (λx=>decide (x<a))++a::T.filter (λx=>decide (a<x)),?_,λx=>?_,?_⟩
   ·rw[List.pairwise_append,List.pairwise_cons]
    refine⟨h1.filter _,⟨λx hx=>by simpa using (mu.1 hx).2,h1.filter _⟩,λx hx y hy=>?_⟩;have hx2:x<a:=by simpa using (mu.1 hx).2
    rcases pi.1 hy with rfl|hy
    ·exact hx2
    ·have:a<y:=by simpa using (mu.1 hy).2
     omega
   ·simp only[pj,pi,mu,ml,h2]
    constructor
    ·rintro(h|h|h)
     ·exact .inr h.1
     ·exact .inl h
     ·exact .inr h.1
    ·rintro(h|h)
     ·exact .inr (.inl h)
     ·rcases Int.lt_trichotomy x a with h4|h4|h4
      ·exact .inl ⟨h,h4⟩
      ·exact .inr (.inl h4)
      ·exact .inr (.inr ⟨h,h4⟩)
   ·have:=DV (λx:Int=>decide (x<a)) (λx=>decide (a<x)) (λx=>by simp;omega) T
    simp;omega
structure lX where
 lo:Int
 hi:Int
 aq:Nat
def kF(r:Nat):List lX->Int × Int->Int × Int
 | [],s=>s
 | n::L,s=>kF r L (if n.aq=r then (if s.1<n.lo then n.lo else s.1,if n.hi<s.2 then n.hi else s.2) else s)
def uC(L:List lX)(r:Nat):Int × Int:=kF r L (0,9999)
def dB(r:Nat):List lX->Nat
 | []=>0
 | n::L=>(if n.aq=r then 1 else 0)+dB r L
def Yf(L:List lX):Nat->Nat->Int->Nat->List Int->Option (List Int)
 | 0,_,_,_,out=>some out
 | f+1,r,vL,aA,out =>
   if aA=L.length then some out
   else if (uC L r).2<(if (uC L r).1<vL then vL else (uC L r).1) then none
   else if dB r L=0 then none
   else Yf L f (r+1) ((if (uC L r).1<vL then vL else (uC L r).1)+1) (aA+dB r L) (out++[if (uC L r).1<vL then vL else (uC L r).1])
def fN(L:List lX):Option (List Int):=Yf L L.length 0 0 0 []
theorem iL(r:Nat)(L:List lX):∀s,s.1<=(kF r L s).1/\(kF r L s).2<=s.2/\∀n∈L,n.aq=r->n.lo<=(kF r L s).1/\(kF r L s).2<=n.hi:=by
 induction L with
 | nil=>intro s;exact⟨bp _,bp _,λn hn=>by simp at hn⟩
 | cons m L ih =>
   intro s;rw[kF];obtain⟨h1,h2,h3⟩:=ih (if m.aq=r then (if s.1<m.lo then m.lo else s.1,if m.hi<s.2 then m.hi else s.2) else s);by_cases hr:m.aq=r
   ·rw[tr hr]at h1 h2 h3 ⊢
    generalize kF r L (if s.1<m.lo then m.lo else s.1,if m.hi<s.2 then m.hi else s.2)=q at h1 h2 h3 ⊢;simp only at h1 h2;refine⟨by split at h1 <;> omega,by split at h2 <;> omega,λn hn aP=>?_⟩;rcases pi.1 hn with rfl|hn
    ·exact⟨by split at h1 <;> omega,by split at h2 <;> omega⟩
    ·exact h3 n hn aP
   ·rw[tj hr]at h1 h2 h3 ⊢
    refine⟨h1,h2,λn hn aP=>?_⟩;rcases pi.1 hn with rfl|hn
    ·exact x' aP hr
    ·exact h3 n hn aP
theorem Cz(r:Nat)(v:Int)(L:List lX):∀s:Int × Int,s.1<=v->v<=s.2->(∀n∈L,n.aq=r->n.lo<=v/\v<=n.hi)->(kF r L s).1<=v/\v<=(kF r L s).2:=by
 induction L with
 | nil=>intro s h1 h2 _;exact⟨h1,h2⟩
 | cons m L ih =>
   intro s h1 h2 h;rw[kF];by_cases hr:m.aq=r
   ·rw[tr hr]
    have:=h m (by simp) hr;exact ih _ (by simp only;split <;> omega) (by simp only;split <;> omega) λn hn=>h n (by simp[hn])
   ·rw[tj hr];exact ih _ h1 h2 λn hn=>h n (by simp[hn])
def mR(r:Nat):List lX->Nat
 | []=>0
 | n::L=>(if n.aq<r then 1 else 0)+mR r L
theorem wH(r:Nat)(L:List lX):mR (r+1) L=mR r L+dB r L:=by
 induction L with
 | nil=>rfl
 | cons n L ih=>rw[mR,mR,dB,ih];split <;> split <;> split <;> omega
theorem wG(L:List lX):mR 0 L=0:=by
 induction L with
 | nil=>rfl
 | cons n L ih=>rw[mR,ih];simp
theorem Yw(r:Nat)(L:List lX):mR r L<=L.length/\((∀n∈L,n.aq<r)->mR r L=L.length):=by
 induction L with
 | nil=>simp[mR]
 | cons n L ih =>
   rw[mR,pb];refine⟨by have:=ih.1;split <;> omega,λh=>?_⟩;rw[ih.2 λm hm=>h m (by simp[hm]),tr (h n (by simp))];omega
theorem Ps{r:Nat}{L:List lX}(h:∃n∈L,n.aq=r):dB r L≠0:=by
 induction L with
 | nil=>obtain⟨n,hn,_⟩:=h;simp at hn
 | cons m L ih =>
   obtain⟨n,hn,hr⟩:=h;rw[dB];rcases pi.1 hn with rfl|hn
   ·rw[tr hr];omega
   ·have:=ih ⟨n,hn,hr⟩;omega
structure Jc(L:List lX)(r:Nat)(vL:Int)(out:List Int):Prop where
 len:out.length=r
 Aj:∀n∈L,n.aq<r->n.lo<=out.getD n.aq 0/\out.getD n.aq 0<=n.hi
 up:∀a b,a<b->b<r->out.getD a 0<out.getD b 0
 last:∀a,a<r->out.getD a 0<vL
theorem Jc.snoc{L:List lX}{r:Nat}{vL v:Int}{out:List Int}(h:Jc L r vL out)(hv:vL<=v)(hz:∀n∈L,n.aq=r->n.lo<=v/\v<=n.hi):Jc L (r+1) (v+1) (out++[v]):=by
 have hl:=h.len;have e1:∀a,a<r->(out++[v]).getD a 0=out.getD a 0:=λa ha=>by simp[List.getD,mj (show a<out.length by omega)]
 have e2:(out++[v]).getD r 0=v:=by simp[List.getD,<-hl]
 refine⟨by simp[hl],λn hn hr=>?_,λa b bG hb=>?_,λa ha=>?_⟩
 ·by_cases bQ:n.aq<r
  ·rw[e1 _ bQ];exact h.Aj n hn bQ
  ·have bP:n.aq=r:=by omega
   rw[bP,e2];exact hz n hn bP
 ·by_cases ao:b<r
  ·rw[e1 _ ao,e1 _ (by omega)];exact h.up a b bG ao
  ·have bl:b=r:=by omega
   rw[bl,e2,e1 _ (by omega)];have:=h.last a (by omega);omega
 ·by_cases aU:a<r
  ·rw[e1 _ aU];have:=h.last a aU;omega
  ·have bo:a=r:=by omega
   rw[bo,e2];omega
theorem C2(L:List lX):∀f r vL aA out,aA=mR r L->Jc L r vL out->∀o,Yf L f r vL aA out=some o->∃r' l',r<=r'/\(r'=r+f\/mR r' L=L.length)/\Jc L r' l' o:=by
 intro f
 induction f with
 | zero=>intro r vL aA out _ h o ho;rw[Yf]at ho;obtain rfl:=Option.some.inj ho;exact⟨r,vL,tg _,.inl rfl,h⟩
 | succ f ih =>
   intro r vL aA out hp h o ho;rw[Yf]at ho;by_cases h1:aA=L.length
   ·rw[tr h1]at ho;obtain rfl:=Option.some.inj ho;exact⟨r,vL,tg _,.inr (by rw[<-hp,h1]),h⟩
   ·rw[tj h1]at ho
    have hg:=iL r L (0,9999);have hs:kF r L (0,9999)=uC L r:=rfl;rw[hs]at hg;generalize hv:(if (uC L r).1<vL then vL else (uC L r).1)=v at ho;have a8:vL<=v/\(uC L r).1<=v:=(by rw[<-hv];split <;> omega);by_cases h2:(uC L r).2<v
    ·rw[tr h2]at ho;exact x' ho (by simp)
    ·rw[tj h2]at ho
     by_cases h3:dB r L=0
     ·rw[tr h3]at ho;exact x' ho (by simp)
     ·rw[tj h3]at ho
      obtain⟨r',l',q1,q2,q3⟩:=ih (r+1) (v+1) _ _ (by rw[wH,hp]) (h.snoc a8.1 λn hn hr=>by have:=hg.2.2 n hn hr;omega) o ho;exact⟨r',l',by omega,by rcases q2 with q2|q2;exact .inl (by omega);exact .inr q2,q3⟩
theorem wK{r:Nat}{L:List lX}(h:mR r L=L.length):∀n∈L,n.aq<r:=by
 induction L with
 | nil=>intro n hn;simp at hn
 | cons m L ih =>
   rw[mR,pb]at h;have hl:=(Yw r L).1;intro n hn;by_cases hm:m.aq<r
   ·rw[tr hm]at h
    rcases pi.1 hn with rfl|hn
    ·exact hm
    ·exact ih (by omega) n hn
   ·rw[tj hm]at h;omega
theorem XN{L:List lX}(hr:∀n∈L,n.aq<L.length){o:List Int}(h:fN L=some o):∀n∈L,n.lo<=o.getD n.aq 0/\o.getD n.aq 0<=n.hi:=by
 obtain⟨r',l',_,h2,h3⟩:=C2 L L.length 0 0 0 [] (wG L).symm ⟨rfl,λn _ h=>x' h (by omega),λa b _ h=>x' h (by omega),λa h=>x' h (by omega)⟩ o h;intro n hn;refine h3.Aj n hn ?_;rcases h2 with h2|h2
 ·have:=hr n hn;omega
 ·exact wK h2 n hn
theorem zu(L:List lX)(T:List Int)(hT:T.Pairwise (· < ·))(aK:∀n∈L,n.aq<T.length/\n.lo<=T.getD n.aq 0/\T.getD n.aq 0<=n.hi)(hall:∀r,r<T.length->∃n∈L,n.aq=r)(h0:∀x∈T,0<=x/\x<=9999) :
 ∀f r vL aA out,T.length-r<=f->aA=mR r L->r<=T.length->(r<T.length->vL<=T.getD r 0)->Jc L r vL out->∃o l',Yf L f r vL aA out=some o/\Jc L T.length l' o:=by
 intro f
 induction f with
 | zero=>intro r vL aA out hf _ hr _ h;obtain rfl:r=T.length:=by omega
         exact⟨out,vL,by rw[Yf],h⟩
 | succ f ih =>
   intro r vL aA out hf hp hr hl h;by_cases aD:r<T.length
   ·obtain⟨n0,bR,ba⟩:=hall r aD
    have bC:aA≠L.length:=λe=>by
     have:=wK (r:=r) (L:=L) (by rw[<-hp,e]) n0 bR;omega
    have hm:T.getD r 0∈T:=(by simp[List.getD,aD]);have hle:=Cz r (T.getD r 0) L (0,9999) (h0 _ hm).1 (h0 _ hm).2 λn hn aP=>by have:=aK n hn;rw[aP]at this;exact this.2
    have hg:=iL r L (0,9999);have hs:kF r L (0,9999)=uC L r:=rfl;rw[hs]at hle hg;rw[Yf,tj bC];generalize hv:(if (uC L r).1<vL then vL else (uC L r).1)=v;have b8:=hl aD;have a8:vL<=v/\(uC L r).1<=v/\v<=T.getD r 0:=(by rw[<-hv];split <;> omega);rw[i6,tj (Ps ⟨n0,bR,ba⟩)];refine ih (r+1) (v+1) _ _ (by omega) (by rw[wH,hp]) aD (λh2=>?_) (h.snoc a8.1 λn hn aP=>by have:=hg.2.2 n hn aP;omega)
    have:T.getD r 0<T.getD (r+1) 0:=by
     have:=List.pairwise_iff_getElem.1 hT r (r+1) aD h2 (by omega);simpa[List.getD,aD,h2] using this
    omega
   ·obtain rfl:r=T.length:=by omega
    have:aA=L.length:=by rw[hp];exact(Yw _ L).2 λn hn=>(aK n hn).1
    exact⟨out,vL,by rw[Yf,tr this],h⟩
theorem FG{T:List Int}(hT:T.Pairwise (· < ·)){a b:Nat}(ha:a<T.length)(hb:b<T.length):(T.getD a 0<T.getD b 0 ↔ a<b)/\(T.getD a 0=T.getD b 0->a=b):=by
 have key:∀a b,a<T.length->b<T.length->a<b->T.getD a 0<T.getD b 0:=λa b ha hb bG=>by
  have:=List.pairwise_iff_getElem.1 hT a b ha hb bG;simpa[List.getD,ha,hb] using this
 have h1:=key a b ha hb;have h2:=key b a hb ha;rcases Nat.lt_trichotomy a b with h|h|h
 ·have:=h1 h;omega
 ·subst h;simp
 ·have:=h2 h;omega
def nH(Z:List (Int × Int))(rk:List Nat):List lX:=(List.range Z.length).map λi=>⟨(Z.getD i (0,0)).1,(Z.getD i (0,0)).2,rk.getD i 0⟩
theorem JQ(Z:List (Int × Int))(rk:List Nat):(nH Z rk).length=Z.length:=by simp[nH]
theorem JP{Z:List (Int × Int)}{rk:List Nat}{n:lX}(h:n∈nH Z rk):∃i,i<Z.length/\n=⟨(Z.getD i (0,0)).1,(Z.getD i (0,0)).2,rk.getD i 0⟩:=by
 obtain⟨i,hi,rfl⟩:=pd.1 h;exact⟨i,by simpa using hi,rfl⟩
theorem Un{Z:List (Int × Int)}(rk:List Nat)(hi:i<Z.length):(⟨(Z.getD i (0,0)).1,(Z.getD i (0,0)).2,rk.getD i 0⟩:lX)∈nH Z rk:=pd.2 ⟨i,by simpa using hi,rfl⟩
theorem zr(Z:List (Int × Int))(y:List Int)(hl:y.length=Z.length)(h:∀i,i<Z.length->(Z.getD i (0,0)).1<=y.getD i 0/\y.getD i 0<=(Z.getD i (0,0)).2)(h0:∀x∈y,0<=x/\x<=9999) :
 ∃rk:List Nat,rk.length=Z.length/\(∀r∈rk,r<Z.length)/\∃o,fN (nH Z rk)=some o/\∀i j,i<Z.length->j<Z.length->(o.getD (rk.getD i 0) 0<o.getD (rk.getD j 0) 0 ↔ y.getD i 0<y.getD j 0):=by
 obtain⟨T,hT,hm,bU⟩:=zq y
 have hex:∀x∈y,∃r,r<T.length/\T.getD r 0=x:=λx hx=>by
  obtain⟨r,hr,e⟩:=dz ((hm x).2 hx);exact⟨r,hr,by simp[List.getD,hr,e]⟩
 obtain⟨g,hg⟩:∃g:Int->Nat,∀x∈y,g x<T.length/\T.getD (g x) 0=x:=by
  refine⟨λx=>if hx:x∈y then Classical.choose (hex x hx) else 0,λx hx=>?_⟩;simp only[hx,dite_true];exact Classical.choose_spec (hex x hx)
 have af:∀i,i<Z.length->y.getD i 0∈y:=λi hi=>by simp[List.getD,show i<y.length by omega]
 have ag:∀i,i<Z.length->(y.map g).getD i 0=g (y.getD i 0):=λi hi=>by simp[List.getD,show i<y.length by omega]
 refine⟨y.map g,by simp[hl],λr hr=>?_,?_⟩
 ·obtain⟨x,hx,rfl⟩:=pd.1 hr
  have:=(hg x hx).1;omega
 have aK:∀n∈nH Z (y.map g),n.aq<T.length/\n.lo<=T.getD n.aq 0/\T.getD n.aq 0<=n.hi:=λn hn=>by
  obtain⟨i,hi,rfl⟩:=JP hn;simp only;rw[ag i hi];have h1:=hg _ (af i hi);rw[h1.2];exact⟨h1.1,h i hi⟩
 have hall:∀r,r<T.length->∃n∈nH Z (y.map g),n.aq=r:=λr hr=>by
  have hx:T.getD r 0∈y:=(hm _).1 (by simp[List.getD,hr]);obtain⟨i,hi,e⟩:=dz hx;have bF:i<Z.length:=by omega
  refine⟨_,Un (y.map g) bF,?_⟩;simp only;rw[ag i bF];have e2:y.getD i 0=T.getD r 0:=by simp[List.getD,hi,e]
  have h1:=hg _ (af i bF);rw[e2]at h1 ⊢;exact(FG hT h1.1 hr).2 h1.2
 obtain⟨o,l',ho,bK⟩:=zu (nH Z (y.map g)) T hT aK hall (λx hx=>h0 x ((hm x).1 hx)) (nH Z (y.map g)).length 0 0 0 [] (by rw[JQ];omega) (wG _).symm (p8) (λhh=>(h0 _ ((hm _).1 (by simp[List.getD,hh]))).1) ⟨rfl,λn _ h=>x' h (by omega),λa b _ h=>x' h (by omega),λa h=>x' h (by omega)⟩;refine⟨o,ho,λi j hi hj=>?_⟩;rw[ag i hi,ag j hj];have a1:=hg _ (af i hi);have a2:=hg _ (af j hj);have hp:=(FG hT a1.1 a2.1).1;rw[a1.2,a2.2]at hp;rw[hp];constructor
 ·intro h3
  rcases Nat.lt_trichotomy (g (y.getD i 0)) (g (y.getD j 0)) with h4|h4|h4
  ·exact h4
  ·rw[h4]at h3;omega
  ·have:=bK.up _ _ h4 a1.1;omega
 ·intro h3;exact bK.up _ _ h3 a2.1
def VH(R:Nat->Nat->Prop)(i k:Nat):Prop:=R i k/\∀i' k',R i' k'->i<i'\/(i=i'/\k<=k')
structure zL8(r:xN)(s s':vH):Prop where
 sum:∀p∈r.sum,p.kind=3->jO s.has p.place=jO s'.has p.place
 has:∀y∈r.guard,y.kind=5->jO s.has y.place=jO s'.has y.place
 flag:∀y∈r.guard,y.kind=6->(tQ s.inputs y.place=1 ↔ tQ s'.inputs y.place=1)
 cmp:∀y∈r.guard,y.kind=7->J1 y s=J1 y s'
theorem ky(h:zL8 r s s'):kY r s=kY r s':=by
 have h1:tF s r.sum=tF s' r.sum:=by
  unfold tF
  exact Kx λp hp=>by
   by_cases k:p.kind=3
   ·rw[h.sum p hp k]
   ·rw[ty k];rfl
 have h2:∀(N:List kP) hs,(∀y∈N,y∈r.guard)->fD s N hs=fD s' N hs:=by
  intro N
  induction N with
  | nil=>intro hs _;rfl
  | cons y t ih =>
    intro hs hy;rw[fD,fD];have hm:=hy y (by simp)
    have e:VK y s hs=VK y s' hs:=by
     unfold VK;by_cases k5:y.kind=5
     ·simp only[k5];exact h.has y hm k5
     ·by_cases k6:y.kind=6
      ·have:=h.flag y hm k6
       have e6:decide (tQ s.inputs y.place=1)=decide (tQ s'.inputs y.place=1):=(by rw[Bool.eq_iff_iff];simpa using this);rw[e6];simp[k6]
      ·by_cases k7:y.kind=7
       ·rw[h.cmp y hm k7];simp[k7]
       ·simp[k5,k6,k7]
    rw[e];exact ih _ λz hz=>hy z (by simp[hz])
 unfold kY;rw[h1,h2 r.guard [] λy hy=>hy]
def lE(r:xN)(c:Nat):Bool:=r.sum.any λp=>decide (p.kind=3)&&decide (p.place=(c:Int))
def vZ(r:xN)(c:Nat):Bool:=r.guard.any λy=>decide (y.kind=5)&&decide (y.place=(c:Int))
def pT(r:xN)(i:Nat):Bool:=r.guard.any λy=>if y.kind=6 then decide (y.place=(i:Int)) else if y.kind=7 then decide (y.place=(i:Int)) || (y.two&&decide (y.other=(i:Int))) else false
def xS(r:xN)(i:Nat):List Int:=(r.guard.filter λy=>decide (y.kind=7)&&(!y.two&&decide (y.place=(i:Int)))).map kP.num
theorem Ku(h:kY r s=true){c:Nat}(hc:lE r c=true):jO s.has (c:Int)=true:=by
 unfold kY at h;rw[ma]at h;obtain⟨p,hp,h1⟩:=mw.1 hc;rw[ma,ml,ml]at h1;have h2:=List.all_eq_true.1 h.1 p hp;rw[h1.2,tz h1.1]at h2;simpa using h2
structure zGD(r:xN)(jM:Nat->Bool)(s s':vH):Prop where
 len:s.inputs.length=s'.inputs.length
 has:∀c:Nat,(lE r c || vZ r c)=true->jO s.has (c:Int)=jO s'.has (c:Int)
 flag:∀i:Nat,i<s.inputs.length->pT r i=true->jM i=false->s.inputs.getD i 0=s'.inputs.getD i 0
 side:∀i:Nat,i<s.inputs.length->jM i=true->∀b∈xS r i,(s.inputs.getD i 0<b ↔ s'.inputs.getD i 0<b)/\(s.inputs.getD i 0=b ↔ s'.inputs.getD i 0=b)
 order:∀i j:Nat,i<s.inputs.length->j<s.inputs.length->pT r i=true->pT r j=true->jM i=true->jM j=true->(s.inputs.getD i 0<s.inputs.getD j 0 ↔ s'.inputs.getD i 0<s'.inputs.getD j 0)
structure wU(r:xN)(n:Nat)(jM:Nat->Bool):Prop where
 flag:∀y∈r.guard,y.kind=6->∃i,i<n/\y.place=(i:Nat)/\jM i=false
 cmp:∀y∈r.guard,y.kind=7->∃i,i<n/\y.place=(i:Nat)/\jM i=true
 two:∀y∈r.guard,y.kind=7->y.two=true->∃i,i<n/\y.other=(i:Nat)/\jM i=true
theorem Gj{l:List Bool}{a:Int}(h:a<0):jO l a=false:=by unfold jO;rw[ty (by omega)];rfl
theorem aH{l:List Int}(h:i<l.length):tQ l (i:Int)=l.getD i 0:=by unfold tQ;rw[tr ⟨by omega,by omega⟩];rfl
theorem Fg{jM:Nat->Bool}(hp:wU r s.inputs.length jM)(h:zGD r jM s s'):zL8 r s s':=by
 have hT:∀a:Int,(∀c:Nat,a=(c:Int)->(lE r c || vZ r c)=true)->jO s.has a=jO s'.has a:=λa ha=>by
  rcases db a 0 with h0|h0
  ·rw[Gj h0,Gj h0]
  ·obtain⟨c,rfl⟩:∃c:Nat,a=(c:Int):=⟨a.toNat,by omega⟩
   exact h.has c (ha c rfl)
 refine⟨λp bb k=>hT _ λc e=>?_,λy hy k=>hT _ λc e=>?_,λy hy k=>?_,λy hy k=>?_⟩
 ·rw[ce];exact .inl (mw.2 ⟨p,bb,by simp[k,e]⟩)
 ·rw[ce];exact .inr (mw.2 ⟨y,hy,by simp[k,e]⟩)
 ·obtain⟨i,hi,e,hn⟩:=hp.flag y hy k
  rw[e,aH hi,aH (by rw[<-h.len];exact hi),h.flag i hi (mw.2 ⟨y,hy,by simp[k,e]⟩) hn]
 ·obtain⟨i,hi,e,hn⟩:=hp.cmp y hy k
  have ha:pT r i=true:=mw.2 ⟨y,hy,by simp[k,e]⟩;unfold J1;rw[e,aH hi,aH (show i<s'.inputs.length by rw[<-h.len];exact hi)];cases h2:y.two
  ·have hb:y.num∈xS r i:=pd.2 ⟨y,mu.2 ⟨hy,by simp[k,h2,e]⟩,rfl⟩
   have hs:=h.side i hi hn _ hb;simp only[Bool.false_eq_true,if_false];generalize s.inputs.getD i 0=a at *;generalize s'.inputs.getD i 0=a' at *;by_cases c1:a<y.num
   ·rw[tr c1,tr (hs.1.1 c1)]
   ·rw[tj c1,tj (λc=>c1 (hs.1.2 c))]
    by_cases c2:y.num<a
    ·rw[tr c2,u']
    ·rw[tj c2,i6]
  ·obtain⟨j,hj,e2,aj⟩:=hp.two y hy k h2
   have aU:pT r j=true:=mw.2 ⟨y,hy,by simp[k,h2,e2]⟩;have o1:=h.order i j hi hj ha aU hn aj;have o2:=h.order j i hj hi aU ha aj hn;simp only[dj];rw[e2,aH hj,aH (show j<s'.inputs.length by rw[<-h.len];exact hj)];generalize s.inputs.getD i 0=a at *;generalize s'.inputs.getD i 0=a' at *;generalize s.inputs.getD j 0=b at *;generalize s'.inputs.getD j 0=b' at *;by_cases c1:a<b
   ·rw[tr c1,tr (o1.1 c1)]
   ·rw[tj c1,tj (λc=>c1 (o1.2 c))]
    by_cases c2:b<a
    ·rw[tr c2,tr (o2.1 c2)]
    ·rw[tj c2,tj (λc=>c2 (o2.2 c))]
theorem Ky{jM:Nat->Bool}(hp:wU r s.inputs.length jM)(h:zGD r jM s s'):kY r s=kY r s':=ky (Fg hp h)
theorem UD{α:Type}(d:α)(P:Nat->α->Prop):∀n,(∀p,p<n->∃z,P p z)->∃Z:List α,Z.length=n/\∀p,p<n->P p (Z.getD p d):=by
 intro n
 induction n with
 | zero=>intro _;exact⟨[],rfl,λp h=>x' h (by omega)⟩
 | succ n ih =>
   intro h;obtain⟨Z,h1,h2⟩:=ih λp hp=>h p (by omega);obtain⟨z,hz⟩:=h n (by omega);refine⟨Z++[z],by simp[h1],λp hp=>?_⟩;by_cases bf:p<n
   ·have:(Z++[z]).getD p d=Z.getD p d:=by simp[List.getD,mj (show p<Z.length by omega)]
    rw[this];exact h2 p bf
   ·obtain rfl:p=n:=by omega
    have:(Z++[z]).getD p d=z:=by simp[List.getD,<-h1]
    rw[this];exact hz
def jV(I:List yA)(i:Nat):yA:=I.getD i nw
def xZ(I:List yA)(i:Nat):Bool := !(jV I i).ft
structure wW(I:List yA)(H:Nat)(y:vH):Prop where
 inl:y.inputs.length=I.length
 Hl:y.has.length=H
 num:∀i,i<I.length->xZ I i=true->(jV I i).low<=y.inputs.getD i 0/\y.inputs.getD i 0<=(jV I i).high
 flag:∀i,i<I.length->xZ I i=false->y.inputs.getD i 0=0\/y.inputs.getD i 0=1
def kL(e l:xN)(i:Nat):Bool:=pT e i || pT l i
def uQ(e l:xN)(c:Nat):Bool:=lE e c || lE l c
def vB(I:List yA)(e l:xN):List Nat:=(List.range I.length).filter λi=>kL e l i&&xZ I i
theorem pZ:i∈vB I e l ↔ i<I.length/\kL e l i=true/\xZ I i=true:=by
 unfold vB;rw[mu,me,ma]
theorem fY{p:Nat}(h:p<(vB I e l).length):(vB I e l).getD p 0∈vB I e l:=by simp[List.getD,h]
theorem Xn(hi:i<I.length)(ha:kL e l i=true)(hn:xZ I i=true):∃p,p<(vB I e l).length/\(vB I e l).getD p 0=i:=by
 obtain⟨p,hp,e⟩:=dz (pZ.2 ⟨hi,ha,hn⟩);exact⟨p,hp,by simp[List.getD,hp,e]⟩
def pC(I:List yA)(e l:xN)(i:Nat):List (Int × Int):=oB (jV I i).low (jV I i).high (xS e i) (xS l i)
structure zL4(I:List yA)(e l:xN)(rk:List Nat)(o:List Int)(y t:vH):Prop where
 inl:t.inputs.length=I.length
 num:∀p,p<(vB I e l).length->t.inputs.getD ((vB I e l).getD p 0) 0=o.getD (rk.getD p 0) 0
 flag:∀i,i<I.length->kL e l i=true->xZ I i=false->t.inputs.getD i 0=y.inputs.getD i 0
 Hd:∀c:Nat,uQ e l c=true->jO t.has (c:Int)=true
 has:∀c:Nat,uQ e l c=false->(vZ e c || vZ l c)=true->jO t.has (c:Int)=jO y.has (c:Int)
theorem By(h:b∈xS r i):pT r i=true:=by
 obtain⟨y,hy,_⟩:=pd.1 h;have hf:=mu.1 hy;have h2:=hf.2;simp only[ma,ml]at h2;exact mw.2 ⟨y,hf.1,by simp[h2.1,h2.2.2]⟩
theorem Uf{H:Nat}(bc:wU e I.length (xZ I))(bC:wU l I.length (xZ I))(hr:∀i,i<I.length->xZ I i=true->0<=(jV I i).low/\(jV I i).high<=9999){y:vH}(hy:wW I H y)(he:kY e y=true)(hl:kY l y=true) :
 ∃Z:List (Int × Int),Z.length=(vB I e l).length/\(∀p,p<(vB I e l).length->Z.getD p (0,0)∈pC I e l ((vB I e l).getD p 0))/\∃rk:List Nat,rk.length=Z.length/\(∀r∈rk,r<Z.length)/\∃o,fN (nH Z rk)=some o/\∀t,zL4 I e l rk o y t->kY e t=true/\kY l t=true:=by
 obtain⟨Z,bS,hZ⟩:=UD (0,0) (λp z=>z∈pC I e l ((vB I e l).getD p 0)/\z.1<=y.inputs.getD ((vB I e l).getD p 0) 0/\y.inputs.getD ((vB I e l).getD p 0) 0<=z.2) (vB I e l).length (λp hp=>by
  obtain⟨hi,_,hn⟩:=pZ.1 (fY hp);have bO:=hy.num _ hi hn;obtain⟨z,hz,h1⟩:=(X0 (jV I ((vB I e l).getD p 0)).low (jV I ((vB I e l).getD p 0)).high (xS e ((vB I e l).getD p 0)) (xS l ((vB I e l).getD p 0))).cover _ bO.1 bO.2;exact⟨z,hz,h1⟩)
 have bH:∀p,p<(vB I e l).length->((vB I e l).map λi=>y.inputs.getD i 0).getD p 0=y.inputs.getD ((vB I e l).getD p 0) 0:=λp hp=>by simp[List.getD,hp]
 obtain⟨rk,bZ,bN,o,ho,bD⟩:=zr Z ((vB I e l).map λi=>y.inputs.getD i 0) (by simp[bS]) (λp hp=>by
  rw[bH p (by omega)];exact(hZ p (by omega)).2) (λx hx=>by
  obtain⟨i,hi,rfl⟩:=pd.1 hx;obtain⟨h1,_,h3⟩:=pZ.1 hi;have:=hr i h1 h3;have:=hy.num i h1 h3;show 0<=y.inputs.getD i 0/\y.inputs.getD i 0<=9999;omega)
 refine⟨Z,bS,λp hp=>(hZ p hp).1,rk,bZ,bN,o,ho,λt ht=>?_⟩
 have aT:=XN (L:=nH Z rk) (λn hn=>by
  obtain⟨i,hi,rfl⟩:=JP hn;rw[JQ];exact bN _ (by simp[List.getD,show i<rk.length by omega])) ho
 have aK:∀p,p<(vB I e l).length->(Z.getD p (0,0)).1<=t.inputs.getD ((vB I e l).getD p 0) 0/\t.inputs.getD ((vB I e l).getD p 0) 0<=(Z.getD p (0,0)).2:=λp hp=>by
  rw[ht.num p hp];exact aT _ (Un rk (show p<Z.length by omega))
 have Hl:∀r:xN,(r=e\/r=l)->zGD r (xZ I) y t:=λr ah=>by
  have aO:∀i,pT r i=true->kL e l i=true:=λi h=>by unfold kL;rcases ah with rfl|rfl <;> rw[h] <;> simp
  have hnd:∀c,lE r c=true->uQ e l c=true:=λc h=>by unfold uQ;rcases ah with rfl|rfl <;> rw[h] <;> simp
  have bn:∀c,vZ r c=true->(vZ e c || vZ l c)=true:=λc h=>by rcases ah with rfl|rfl <;> rw[h] <;> simp
  have bh:∀c,uQ e l c=true->jO y.has (c:Int)=true:=λc h=>by
   unfold uQ at h;rcases(ce _ _).mp h with h|h
   ·exact Ku he h
   ·exact Ku hl h
  refine⟨by rw[hy.inl,ht.inl],λc hc=>?_,λi hi ha hn=>?_,λi hi hn b hb=>?_,λi j hi hj ha aU hn aj=>?_⟩
  ·cases aZ:uQ e l c
   ·rcases(ce _ _).mp hc with hc|hc
    ·rw[hnd c hc]at aZ;exact M' aZ
    ·exact(ht.has c aZ (bn c hc)).symm
   ·rw[bh c aZ,ht.Hd c aZ]
  ·exact(ht.flag i (by rw[<-hy.inl];exact hi) (aO i ha) hn).symm
  ·obtain⟨p,hp,e1⟩:=Xn (by rw[<-hy.inl];exact hi) (aO i (By hb)) hn
   have hz:=hZ p hp;have bA:=aK p hp;rw[e1]at hz bA;have:=(X0 (jV I i).low (jV I i).high (xS e i) (xS l i)).side _ hz.1 b (by rcases ah with rfl|rfl <;> simp[hb]) _ bA.1 bA.2 _ hz.2.1 hz.2.2;exact this
  ·obtain⟨p,hp,e1⟩:=Xn (by rw[<-hy.inl];exact hi) (aO i ha) hn
   obtain⟨q,hq,e2⟩:=Xn (by rw[<-hy.inl];exact hj) (aO j aU) aj;have h1:=bD p q (by omega) (by omega);rw[bH p hp,bH q hq,e1,e2]at h1;have h2:=ht.num p hp;have h3:=ht.num q hq;rw[e1]at h2;rw[e2]at h3;rw[h2,h3];exact h1.symm
 exact⟨by rw[<-Ky (hy.inl ▸ bc) (Hl e (.inl rfl))];exact he,by rw[<-Ky (hy.inl ▸ bC) (Hl l (.inr rfl))];exact hl⟩
theorem Nx{l:List zE}(h:(l.map zE.name).Nodup):∀x∈l,∀z∈l,x.name=z.name->x=z:=by
 induction l with
 | nil=>intro x hx;cases hx
 | cons a r ih =>
   rw[cf,List.nodup_cons]at h;intro x hx z hz e;rcases pi.1 hx with h1|h1
   ·rcases pi.1 hz with h2|h2
    ·rw[h1,h2]
    ·rw[h1]at e;exact x' (pd.2 ⟨z,h2,e.symm⟩) h.1
   ·rcases pi.1 hz with h2|h2
    ·rw[h2]at e;exact x' (pd.2 ⟨x,h1,e⟩) h.1
    ·exact ih h.2 x h1 z h2 e
theorem MO(h:jN ls){z:zE}(hx:x∈jk ls)(hz:z∈jk ls)(e:x.name=z.name):x=z:=Nx (by rw[<-Qy];exact Qu h) x hx z hz e
theorem Qx(hi:i<(yC ls).length):∃x,x∈jk ls/\x∈ls/\jV (yC ls) i=bE x/\(qE ls).getD i []=x.name:=by
 rw[Qw,pt]at hi;have hm:(jk ls).getD i Jn∈jk ls:=RR _ hi;refine⟨(jk ls).getD i Jn,hm,(mu.1 hm).1,?_,?_⟩
 ·unfold jV;rw[Qw];exact Q8 _ _ _ _ _ hi
 ·rw[Qy];exact Q8 _ _ _ _ _ hi
theorem LY(h:x∈ls)(hk:x.kind=1\/x.kind=2):x∈jk ls:=mu.2 ⟨h,tz hk⟩
theorem Lb{nm:Bs}{k:Int}(h:kX ls k nm=true):∃x∈ls,x.kind=k/\x.name=nm:=by
 obtain⟨x,h1,h2⟩:=mw.1 h;unfold Xs at h2;rw[ma,ml,ml]at h2;exact⟨x,h1,h2.1,h2.2⟩
theorem iV(hk:x.kind=1\/x.kind=2):(!(bE x).ft)=decide (x.kind=1):=by
 unfold bE;rcases hk with h|h
 ·rw[tr h,tz h];rfl
 ·rw[i6,ty (by omega)];rfl
theorem Bl{k:Int}{m:Nat}(hl:Xb k=m)(h:∀i,i<ls.length->mA ls i=false):vS k ls<=m:=by
 have key:∀n,n<=ls.length->vS k (ls.take n)<=m:=by
  intro n
  induction n with
  | zero=>intro _;simp[vS]
  | succ n ih =>
    intro hn;rw[oF ls n (by omega),Bu];have ih:=ih (by omega);by_cases hk:(lA ls n).kind=k
    ·have hm:=h n (by omega)
     unfold mA at hm;rw[dy,dk,hk,hl]at hm;simp only[vS,hk,dj];omega
    ·simp only[vS,tj hk];omega
 have:=key ls.length (tg _)
 rwa [co]at this
theorem Rg(ls:List zE):(yC ls).length=vS 1 ls+vS 2 ls:=by
 rw[Qw,pt];unfold jk
 induction ls with
 | nil=>simp[vS]
 | cons x r ih =>
   rw[List.filter_cons,vS,vS];by_cases h1:x.kind=1
   ·rw[tz (.inl h1),tr rfl,tr h1,i6,pb,ih];omega
   ·by_cases h2:x.kind=2
    ·rw[tz (.inr h2),tr rfl,tj h1,tr h2,pb,ih];omega
    ·rw[ty (by omega),tj (by simp),tj h1,tj h2,ih];omega
theorem UR(h:jN ls):(yC ls).length<=6:=by
 have h1:=Bl (k:=1) (m:=3) (by decide) h.many;have h2:=Bl (k:=2) (m:=3) (by decide) h.many;rw[Rg];omega
theorem Mi(ls:List zE):(qE ls).length=(yC ls).length:=by unfold qE;rw[pt]
theorem Rv(h:jN ls)(hx:x∈ls)(hk:x.kind=1):x.low<=x.high:=by
 obtain⟨i,hi,rfl⟩:=Vg hx;have he:=h.err i hi;unfold bY at he;rw[tr hk]at he;unfold Zu at he;by_cases h0:nO ls i=0
 ·rw[tr h0]at he
  rcases db (lA ls i).high (lA ls i).low with h1|h1
  ·rw[tr h1]at he;exact M' he
  ·exact h1
 ·rw[tj h0]at he;exact x' he h0
theorem Y2{α:Type}(p:α->Bool)(d:α)(l:List α)(i:Nat)(h:i<l.length):(l.drop i).any p=(p (l.getD i d) || (l.drop (i+1)).any p):=by
 rw[ph h,fe];simp[List.getD,h]
theorem V6{α:Type}(p:α->Bool)(l:List α)(i:Nat)(h:¬i<l.length):(l.drop i).any p=false:=by
 rw[pf (by omega)];rfl
def lB(i:Nat)(y:kP):Bool:=if y.kind=6 then decide (y.place=(i:Int)) else if y.kind=7 then decide (y.place=(i:Int)) || (y.two&&decide (y.other=(i:Int))) else false
theorem GC(w:World)(x:MX)(c:Nat)(hx:kE w x) :
 Calls prog 98 #[qS x,.int .i64 (c:Int)] w λe w'=>e=.returned (.bool (lE x.1 c))/\Below w.heap.size w w':=by
 obtain⟨pa,pc,e1,hp⟩:=hx.sum;obtain⟨ga,gc,e2,hg⟩:=hx.guard;have HP:=zA hp.ay;have aR:=hx.ek;obtain⟨⟨ei,cc,ps,gd,root⟩,pv,gv⟩:=x;simp only at e1 e2 HP aR;subst e1 e2;simp only[qS];have aN:Hid (∀b,ps.any (λp=>decide (p.kind=3)&&decide (p.place=(c:Int)))=b->lE ⟨ei,cc,ps,gd,root⟩ c=b):=λb h=>h;generalize lE ⟨ei,cc,ps,gd,root⟩ c=aQ at *;clear hx hp hg
 go_enter func98,ntmps98
 go_wp2_with fail
 generalize aV:Obj.cells #[.string ⟨ei.toArray⟩,.int .i64 cc,.slice pa ps.length pc,.slice ga gd.length gc,.int .i64 root] 162=O1 at *;clear aV;have aY:Hid (Below w.heap.size w (w.alloc O1)):=fk (tg _) _;generalize w.alloc O1=w0 at *
 go_loopw [10] (λiv wr=>∃(i:Nat),i<=ps.length/\iv=.int .i64 i/\Hid (Below w.heap.size w wr)/\Hid ((ps.drop i).any (λp=>decide (p.kind=3)&&decide (p.place=(c:Int)))=ps.any (λp=>decide (p.kind=3)&&decide (p.place=(c:Int))))) (λiv _=>ps.length-(intOf iv).toNat)
 case atStart=>exact⟨0,p8,rfl,aY,zA rfl⟩
 case round =>
  obtain⟨i,hi,rfl,HB,HE⟩:=hrel;have aJ:=HB.out.size;by_cases aD:i<ps.length
  ·have ii:(i:Int)<(ps.length:Int):=by omega
   have aG:=HP.out.below HB.out;obtain⟨gp,rfl,q0⟩:=aG.at ((zV cI 3 (λ_=>rfl) si ps i 0 aD (by decide)).trans rfl);have hq:=λj hj v hv=>(aG.at ((zV cI 3 (λ_=>rfl) si ps i j aD hj).trans hv)).elim λg' h=>(show gp=g' by simpa using h.1) ▸ (show w.heap.size<=wr.heap.size/\wr.cell? ⟨g',i*3+j,none⟩=some v from ⟨aJ,h.2⟩).2;have q1:=hq 1 (by decide) _ rfl;have q2:=hq 2 (by decide) _ rfl;rw[lh]at q0;have az:=yJ q0;have ax:wr.heap.size≠gp:=(by omega);have hE:=HE.out;rw[Y2 (λp=>decide (p.kind=3)&&decide (p.place=(c:Int))) si ps i aD]at hE;have aB:=zA hE;have aF:Hid (∀o,Below w.heap.size w (wr.alloc o)):=λo=>HB.out.alloc aJ o;clear HE hE aG hq;generalize ps.getD i si=y at *;obtain⟨yk,yn,yp⟩:=y;simp only at q0 q1 q2 aB;by_cases k1:yk=3
   ·subst k1
    simp only[decide_true,bm]at aB;by_cases k2:yp=(c:Int)
    ·subst k2
     have aC:Hid (aQ=true):=aN.out _ (by rw[<-aB.out];simp);go_wp2_with fail
     go_ret
     exact⟨zG aC.out.symm,aF.out _⟩
    ·have b2:(yp==(c:Int))=false:=by simpa using k2
     have aC:Hid ((ps.drop (i+1)).any (λp=>decide (p.kind=3)&&decide (p.place=(c:Int)))=ps.any (λp=>decide (p.kind=3)&&decide (p.place=(c:Int)))):=(by have:=aB.out;rw[ty k2,bt]at this;exact this);clear k2;go_wp2_with fail
     go_roundw
     case rel=>exact⟨i+1,by omega,by go_num,zA (aF.out _),aC⟩
     case measure=>simp[intOf];omega
   ·have b1:(yk==3)=false:=by simpa using k1
    have aC:Hid ((ps.drop (i+1)).any (λp=>decide (p.kind=3)&&decide (p.place=(c:Int)))=ps.any (λp=>decide (p.kind=3)&&decide (p.place=(c:Int)))):=(by have:=aB.out;rw[ty k1,Bool.false_and,bt]at this;exact this);clear k1;go_wp2_with fail
    go_roundw
    case rel=>exact⟨i+1,by omega,by go_num,zA (aF.out _),aC⟩
    case measure=>simp[intOf];omega
  ·have ii:¬(i:Int)<(ps.length:Int):=by omega
   have aB:Hid (aQ=false):=aN.out _ (by rw[<-HE.out];exact V6 _ _ _ aD);go_wp2_with fail
   go_ret
   exact⟨zG aB.out.symm,HB.out⟩
theorem K5(w:World)(x:MX)(c:Nat)(hx:kE w x) :
 Calls prog 99 #[qS x,.int .i64 (c:Int)] w λe w'=>e=.returned (.bool (vZ x.1 c))/\Below w.heap.size w w':=by
 obtain⟨pa,pc,e1,hp⟩:=hx.sum;obtain⟨ga,gc,e2,hg⟩:=hx.guard;have HP:=zA hg.ay;have aR:=hx.ef;obtain⟨⟨ei,cc,ps,gd,root⟩,pv,gv⟩:=x;simp only at e1 e2 HP aR;subst e1 e2;simp only[qS];have aN:Hid (∀b,gd.any (λy=>decide (y.kind=5)&&decide (y.place=(c:Int)))=b->vZ ⟨ei,cc,ps,gd,root⟩ c=b):=λb h=>h;generalize vZ ⟨ei,cc,ps,gd,root⟩ c=aQ at *;clear hx hp hg
 go_enter func99,ntmps99
 go_wp2_with fail
 generalize aV:Obj.cells #[.string ⟨ei.toArray⟩,.int .i64 cc,.slice pa ps.length pc,.slice ga gd.length gc,.int .i64 root] 162=O1 at *;clear aV;have aY:Hid (Below w.heap.size w (w.alloc O1)):=fk (tg _) _;generalize w.alloc O1=w0 at *
 go_loopw [10] (λiv wr=>∃(i:Nat),i<=gd.length/\iv=.int .i64 i/\Hid (Below w.heap.size w wr)/\Hid ((gd.drop i).any (λy=>decide (y.kind=5)&&decide (y.place=(c:Int)))=gd.any (λy=>decide (y.kind=5)&&decide (y.place=(c:Int))))) (λiv _=>gd.length-(intOf iv).toNat)
 case atStart=>exact⟨0,p8,rfl,aY,zA rfl⟩
 case round =>
  obtain⟨i,hi,rfl,HB,HE⟩:=hrel;have aJ:=HB.out.size;by_cases aD:i<gd.length
  ·have ii:(i:Int)<(gd.length:Int):=by omega
   have aG:=HP.out.below HB.out;obtain⟨gp,rfl,q0⟩:=aG.at ((zV kK 10 (λ_=>rfl) sG gd i 0 aD (by decide)).trans rfl);have hq:=λj hj v hv=>(aG.at ((zV kK 10 (λ_=>rfl) sG gd i j aD hj).trans hv)).elim λg' h=>(show gp=g' by simpa using h.1) ▸ (show w.heap.size<=wr.heap.size/\wr.cell? ⟨g',i*10+j,none⟩=some v from ⟨aJ,h.2⟩).2;have q1:=hq 1 (by decide) _ rfl;have q2:=hq 2 (by decide) _ rfl;have q3:=hq 3 (by decide) _ rfl;have q4:=hq 4 (by decide) _ rfl;have q5:=hq 5 (by decide) _ rfl;have q6:=hq 6 (by decide) _ rfl;have q7:=hq 7 (by decide) _ rfl;have q8:=hq 8 (by decide) _ rfl;have q9:=hq 9 (by decide) _ rfl;rw[lh]at q0;have az:=yJ q0;have ax:wr.heap.size≠gp:=(by omega);have hE:=HE.out;rw[Y2 (λy=>decide (y.kind=5)&&decide (y.place=(c:Int))) sG gd i aD]at hE;have aB:=zA hE;have aF:Hid (∀o,Below w.heap.size w (wr.alloc o)):=λo=>HB.out.alloc aJ o;clear HE hE aG hq;generalize gd.getD i sG=y at *;obtain⟨yk,yl,yr,yp,y2,yo,yn,aw,av,au⟩:=y;simp only at q0 q1 q2 q3 q4 q5 q6 q7 q8 q9 aB;by_cases k1:yk=5
   ·subst k1
    simp only[decide_true,bm]at aB;by_cases k2:yp=(c:Int)
    ·subst k2
     have aC:Hid (aQ=true):=aN.out _ (by rw[<-aB.out];simp);go_wp2_with fail
     go_ret
     exact⟨zG aC.out.symm,aF.out _⟩
    ·have b2:(yp==(c:Int))=false:=by simpa using k2
     have aC:Hid ((gd.drop (i+1)).any (λy=>decide (y.kind=5)&&decide (y.place=(c:Int)))=gd.any (λy=>decide (y.kind=5)&&decide (y.place=(c:Int)))):=(by have:=aB.out;rw[ty k2,bt]at this;exact this);clear k2;go_wp2_with fail
     go_roundw
     case rel=>exact⟨i+1,by omega,by go_num,zA (aF.out _),aC⟩
     case measure=>simp[intOf];omega
   ·have b1:(yk==5)=false:=by simpa using k1
    have aC:Hid ((gd.drop (i+1)).any (λy=>decide (y.kind=5)&&decide (y.place=(c:Int)))=gd.any (λy=>decide (y.kind=5)&&decide (y.place=(c:Int)))):=(by have:=aB.out;rw[ty k1,Bool.false_and,bt]at this;exact this);clear k1;go_wp2_with fail
    go_roundw
    case rel=>exact⟨i+1,by omega,by go_num,zA (aF.out _),aC⟩
    case measure=>simp[intOf];omega
  ·have ii:¬(i:Int)<(gd.length:Int):=by omega
   have aB:Hid (aQ=false):=aN.out _ (by rw[<-HE.out];exact V6 _ _ _ aD);go_wp2_with fail
   go_ret
   exact⟨zG aB.out.symm,HB.out⟩
theorem YZ(w:World)(x:MX)(c:Nat)(hx:kE w x) :
 Calls prog 95 #[qS x,.int .i64 (c:Int)] w λe w'=>e=.returned (.bool (pT x.1 c))/\Below w.heap.size w w':=by
 obtain⟨pa,pc,e1,hp⟩:=hx.sum;obtain⟨ga,gc,e2,hg⟩:=hx.guard;have HP:=zA hg.ay;have aR:=hx.ef;obtain⟨⟨ei,cc,ps,gd,root⟩,pv,gv⟩:=x;simp only at e1 e2 HP aR;subst e1 e2;simp only[qS];have aN:Hid (∀b,gd.any (lB c)=b->pT ⟨ei,cc,ps,gd,root⟩ c=b):=λb h=>h;generalize pT ⟨ei,cc,ps,gd,root⟩ c=aQ at *;clear hx hp hg
 go_enter func95,ntmps95
 go_wp2_with fail
 generalize aV:Obj.cells #[.string ⟨ei.toArray⟩,.int .i64 cc,.slice pa ps.length pc,.slice ga gd.length gc,.int .i64 root] 162=O1 at *;clear aV;have aY:Hid (Below w.heap.size w (w.alloc O1)):=fk (tg _) _;generalize w.alloc O1=w0 at *
 go_loopw [10] (λiv wr=>∃(i:Nat),i<=gd.length/\iv=.int .i64 i/\Hid (Below w.heap.size w wr)/\Hid ((gd.drop i).any (lB c)=gd.any (lB c))) (λiv _=>gd.length-(intOf iv).toNat)
 case atStart=>exact⟨0,p8,rfl,aY,zA rfl⟩
 case round =>
  obtain⟨i,hi,rfl,HB,HE⟩:=hrel;have aJ:=HB.out.size;by_cases aD:i<gd.length
  ·have ii:(i:Int)<(gd.length:Int):=by omega
   have aG:=HP.out.below HB.out;obtain⟨gp,rfl,q0⟩:=aG.at ((zV kK 10 (λ_=>rfl) sG gd i 0 aD (by decide)).trans rfl);have hq:=λj hj v hv=>(aG.at ((zV kK 10 (λ_=>rfl) sG gd i j aD hj).trans hv)).elim λg' h=>(show gp=g' by simpa using h.1) ▸ (show w.heap.size<=wr.heap.size/\wr.cell? ⟨g',i*10+j,none⟩=some v from ⟨aJ,h.2⟩).2;have q1:=hq 1 (by decide) _ rfl;have q2:=hq 2 (by decide) _ rfl;have q3:=hq 3 (by decide) _ rfl;have q4:=hq 4 (by decide) _ rfl;have q5:=hq 5 (by decide) _ rfl;have q6:=hq 6 (by decide) _ rfl;have q7:=hq 7 (by decide) _ rfl;have q8:=hq 8 (by decide) _ rfl;have q9:=hq 9 (by decide) _ rfl;rw[lh]at q0;have az:=yJ q0;have ax:wr.heap.size≠gp:=(by omega);have hE:=HE.out;rw[Y2 (lB c) sG gd i aD]at hE;have aB:=zA hE;have aF:Hid (∀o,Below w.heap.size w (wr.alloc o)):=λo=>HB.out.alloc aJ o;clear HE hE aG hq;generalize gd.getD i sG=y at *;obtain⟨yk,yl,yr,yp,y2,yo,yn,aw,av,au⟩:=y;simp only at q0 q1 q2 q3 q4 q5 q6 q7 q8 q9;unfold lB at aB;simp only at aB;have aM:Hid (∀b,((b || (gd.drop (i+1)).any (lB c))=gd.any (lB c))->b=true->aQ=true):=λb h1 h2=>aN.out _ (by rw[<-h1,h2];rfl);have aL:Hid (∀b,((b || (gd.drop (i+1)).any (lB c))=gd.any (lB c))->b=false->(gd.drop (i+1)).any (lB c)=gd.any (lB c)):=λb h1 h2=>by rw[h2,bt]at h1;exact h1
   by_cases k1:yk=6
   ·subst k1
    simp only[dj]at aB;by_cases k2:yp=(c:Int)
    ·have aC:=zA (aM.out _ aB.out (tz k2))
     subst k2;clear aM aL aB;go_wp2_with fail
     go_ret
     exact⟨zG aC.out.symm,aF.out _⟩
    ·have b2:(yp==(c:Int))=false:=by simpa using k2
     have aC:=zA (aL.out _ aB.out (ty k2));clear k2 aM aL aB;go_wp2_with fail
     go_roundw
     case rel=>exact⟨i+1,by omega,by go_num,zA (aF.out _),aC⟩
     case measure=>simp[intOf];omega
   rw[tj k1]at aB;have b1:(yk==6)=false:=by simpa using k1
   clear k1;by_cases k3:yk=7
   ·subst k3
    simp only[dj]at aB;by_cases k2:yp=(c:Int)
    ·have aC:=zA (aM.out _ aB.out (by rw[tz k2];rfl))
     subst k2;clear aM aL aB;go_wp2_with fail
     go_ret
     exact⟨zG aC.out.symm,aF.out _⟩
    ·have b2:(yp==(c:Int))=false:=by simpa using k2
     rw[ty k2,bt]at aB;clear k2;cases y2
     ·have aC:=zA (aL.out _ aB.out (by rfl))
      clear aM aL aB;go_wp2_with fail
      go_roundw
      case rel=>exact⟨i+1,by omega,by go_num,zA (aF.out _),aC⟩
      case measure=>simp[intOf];omega
     ·by_cases k4:yo=(c:Int)
      ·have aC:=zA (aM.out _ aB.out (by rw[tz k4];rfl))
       subst k4;clear aM aL aB;go_wp2_with fail
       go_ret
       exact⟨zG aC.out.symm,aF.out _⟩
      ·have b4:(yo==(c:Int))=false:=by simpa using k4
       have aC:=zA (aL.out _ aB.out (by rw[ty k4];rfl));clear k4 aM aL aB;go_wp2_with fail
       go_roundw
       case rel=>exact⟨i+1,by omega,by go_num,zA (aF.out _),aC⟩
       case measure=>simp[intOf];omega
   ·have b3:(yk==7)=false:=by simpa using k3
    have aC:=zA (aL.out _ aB.out (by rw[tj k3]));clear k3 aM aL aB;go_wp2_with fail
    go_roundw
    case rel=>exact⟨i+1,by omega,by go_num,zA (aF.out _),aC⟩
    case measure=>simp[intOf];omega
  ·have ii:¬(i:Int)<(gd.length:Int):=by omega
   have aB:Hid (aQ=false):=aN.out _ (by rw[<-HE.out];exact V6 _ _ _ aD);go_wp2_with fail
   go_ret
   exact⟨zG aB.out.symm,HB.out⟩
def km(i:Nat)(y:kP):Bool:=decide (y.kind=7)&&(!y.two&&decide (y.place=(i:Int)))
def fJ(l:List kP)(i:Nat):List Int:=(l.filter (km i)).map kP.num
theorem kq(l:List kP)(c i:Nat)(h:i<l.length):fJ (l.take (i+1)) c=fJ (l.take i) c++(if km c (l.getD i sG)=true then [(l.getD i sG).num] else []):=by
 unfold fJ;rw[dc,fb,bj];congr 1
 rw[pm h,show l.getD i sG=l[i] by simp[List.getD,h]];show ([l[i]].filter (km c)).map kP.num=_;rw[List.filter_cons,List.filter_nil];split <;> rfl
theorem Po(l:List kP)(c:Nat):(fJ l c).length<=l.length:=by unfold fJ;rw[pt];exact f0 _ _
theorem BS(w:World)(x:MX)(c:Nat)(hx:kE w x) :
 Calls prog 96 #[qS x,.int .i64 (c:Int)] w λe w'=>∃v,e=.returned v/\w'.ownsRow w.heap.size 3 1 v (xS x.1 c).length (cQ (xS x.1 c))/\Below w.heap.size w w':=by
 obtain⟨i0,ai,hz0,hz1,bV⟩:=du Kb;obtain⟨pa,pc,e1,hp⟩:=hx.sum;obtain⟨ga,gc,e2,hg⟩:=hx.guard;have HP:=zA hg.ay;have aR:=hx.ef;obtain⟨⟨ei,cc,ps,gd,root⟩,pv,gv⟩:=x;simp only at e1 e2 HP aR;subst e1 e2;simp only[qS];have aN:Hid (xS ⟨ei,cc,ps,gd,root⟩ c=fJ gd c):=rfl;rw[aN.out];clear hx hp hg
 go_enter func96,ntmps96
 go_wp2_with fail
 generalize aV:Obj.cells #[.string ⟨ei.toArray⟩,.int .i64 cc,.slice pa ps.length pc,.slice ga gd.length gc,.int .i64 root] 162=O1 at *;clear aV;have aY:Hid (Below w.heap.size w (w.alloc O1)):=fk (tg _) _;have hs0:(w.alloc O1).heap.size=w.heap.size+1:=by simp
 have bw:Hid (((w.alloc O1).alloc (.cells #[] 3)).ownsRow w.heap.size 3 1 (.slice (some ⟨w.heap.size+1,0,none⟩) 0 0) 0 (cQ (fJ (gd.take 0) c))):=⟨rfl,.inr ⟨w.heap.size+1,0,#[],rfl,my _,uA _ _ _ hs0,tg _,p8,rfl,rfl⟩⟩;have b5:Hid (Below w.heap.size w ((w.alloc O1).alloc (.cells #[] 3))):=aY.out.alloc (by omega) _;generalize (w.alloc O1).alloc (.cells #[] 3)=w0 at *
 go_loopw [5,12] (λov iv wr=>∃(i:Nat),i<=gd.length/\iv=.int .i64 i/\Hid (Below w.heap.size w wr)/\Hid (wr.ownsRow w.heap.size 3 1 ov (fJ (gd.take i) c).length (cQ (fJ (gd.take i) c)))) (λ_ iv _=>gd.length-(intOf iv).toNat)
 case atStart=>exact⟨0,p8,rfl,b5,bw⟩
 case round =>
  obtain⟨i,hi,rfl,HB,HO⟩:=hrel;have aJ:=HB.out.size;obtain⟨oa,oc,rfl⟩:=zO HO.out;have hle:(fJ (gd.take i) c).length<=i:=tu (Po _ _) (by simp;omega);by_cases aD:i<gd.length
  ·have ii:(i:Int)<(gd.length:Int):=by omega
   have aG:=HP.out.below HB.out;obtain⟨gp,rfl,q0⟩:=aG.at ((zV kK 10 (λ_=>rfl) sG gd i 0 aD (by decide)).trans rfl);have hq:=λj hj v hv=>(aG.at ((zV kK 10 (λ_=>rfl) sG gd i j aD hj).trans hv)).elim λg' h=>(show gp=g' by simpa using h.1) ▸ (show w.heap.size<=wr.heap.size/\wr.cell? ⟨g',i*10+j,none⟩=some v from ⟨aJ,h.2⟩).2;have q1:=hq 1 (by decide) _ rfl;have q2:=hq 2 (by decide) _ rfl;have q3:=hq 3 (by decide) _ rfl;have q4:=hq 4 (by decide) _ rfl;have q5:=hq 5 (by decide) _ rfl;have q6:=hq 6 (by decide) _ rfl;have q7:=hq 7 (by decide) _ rfl;have q8:=hq 8 (by decide) _ rfl;have q9:=hq 9 (by decide) _ rfl;rw[lh]at q0;have az:=yJ q0;have ax:wr.heap.size≠gp:=(by omega);have aF:Hid (∀o,Below w.heap.size w (wr.alloc o)):=λo=>HB.out.alloc aJ o;have ar:Hid (∀o,(wr.alloc o).ownsRow w.heap.size 3 1 (.slice oa (fJ (gd.take i) c).length oc) (fJ (gd.take i) c).length (cQ (fJ (gd.take i) c))):=λo=>HO.out.alloc o;have bJ:=zA (kq gd c i aD);have aW:Hid (km c (gd.getD i sG)=false->fJ (gd.take (i+1)) c=fJ (gd.take i) c):=λh=>by rw[bJ.out,h];simp
   have aI:Hid (km c (gd.getD i sG)=true->fJ (gd.take (i+1)) c=fJ (gd.take i) c++[(gd.getD i sG).num]):=λh=>by rw[bJ.out,tr h]
   clear aG hq bJ;generalize gd.getD i sG=y at *;obtain⟨yk,yl,yr,yp,y2,yo,yn,aw,av,au⟩:=y;unfold km at aW aI;simp only at q0 q1 q2 q3 q4 q5 q6 q7 q8 q9 aI aW;have no:∀(b:Bool),(decide (yk=7)&&(!y2&&decide (yp=(c:Int))))=false->fJ (gd.take (i+1)) c=fJ (gd.take i) c:=λ_ h=>aW.out h;have aX:=zA no;clear no;by_cases k1:yk=7
   ·subst k1
    cases y2
    ·by_cases k2:yp=(c:Int)
     ·have aC:=zA (aI.out (by rw[tz k2];rfl))
      subst k2;clear aI aW aX
      go_upto_region 6 with fail
      generalize bT:Obj.cells #[Value.int .i64 7,.int .i64 yl,.int .i64 yr,.int .i64 (c:Int),.bool false,.int .i64 yo,.int .i64 yn,.bool aw,.bool av,.bool au] 263=On at *;have b9:(wr.alloc On).cell? ⟨wr.heap.size,6,none⟩=some (.int .i64 yn):=by rw[<-bT];exact(zC (zF _ _) 6).trans rfl
      have bx:=zA (aF.out On);have aa:=zA (ar.out On);have bX:(wr.alloc On).heap.size=wr.heap.size+1:=(by simp);clear bT;generalize wr.alloc On=wn at *;have bB:w.heap.size<=wn.heap.size:=(by omega);clear bX
      go_wp2_with (at_builtin;refine wpList_append_own _ rfl _ _ 22 rfl w.heap.size 3 i0 _ 1 8 underlying22 ai hz0 hz1 bV rfl (by decide) _ _ _ rfl (aa.out.alloc _) ⟨wn.heap.size,0,none⟩ 1 1 [.int .i64 yn] rfl rfl ?c1 ?c2 ?c3 ?c4 ?c5 ?_)
      case c1=>exact zM _ _ _ _ rfl
      case c2=>intro u hu;simp at hu;subst hu;rfl
      case c3=>unfold maxLen;omega
      case c4=>omega
      case c5=>simp;omega
      intro v' w5 bL bM _;have bz:Hid (Below w.heap.size w w5):=(bx.out.alloc bB _).grown bM (by simp;omega) (zS aa.out);have bu:Hid (w5.ownsRow w.heap.size 3 1 v' (fJ (gd.take (i+1)) c).length (cQ (fJ (gd.take (i+1)) c))):=by unfold Hid;rw[aC.out,ub,tm];exact bL
      clear bM bL;go_wp2_with fail
      go_roundw
      case rel=>exact⟨i+1,by omega,by go_num,bz,bu⟩
      case measure=>simp[intOf];omega
     ·have b2:(yp==(c:Int))=false:=by simpa using k2
      have aC:=zA (aX.out true (by rw[ty k2];simp));clear aI aW aX k2;go_wp2_with fail
      go_roundw
      case rel=>exact⟨i+1,by omega,by go_num,zA (aF.out _),by rw[aC.out];exact zA (ar.out _)⟩
      case measure=>simp[intOf];omega
    ·have aC:=zA (aX.out true (by simp))
     clear aI aW aX;go_wp2_with fail
     go_roundw
     case rel=>exact⟨i+1,by omega,by go_num,zA (aF.out _),by rw[aC.out];exact zA (ar.out _)⟩
     case measure=>simp[intOf];omega
   ·have b1:(yk==7)=false:=by simpa using k1
    have aC:=zA (aX.out true (by rw[ty k1];rfl));clear aI aW aX k1;go_wp2_with fail
    go_roundw
    case rel=>exact⟨i+1,by omega,by go_num,zA (aF.out _),by rw[aC.out];exact zA (ar.out _)⟩
    case measure=>simp[intOf];omega
  ·have ii:¬(i:Int)<(gd.length:Int):=by omega
   have aC:Hid (fJ (gd.take i) c=fJ gd c):=by unfold Hid;rw[f8 (by omega)]
   go_wp2_with fail
   go_ret
   exact⟨_,rfl,by rw[<-aC.out];exact HO.out,HB.out⟩
end Go.Proofs.YtnbpdffdnphbeabGreatDoor
