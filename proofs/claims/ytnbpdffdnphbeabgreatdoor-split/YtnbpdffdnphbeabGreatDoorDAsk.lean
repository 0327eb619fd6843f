import Derived.Test.YtnbpdffdnphbeabGreatDoorDAbove
import Derived.Maps.AppendAt
import Derived.Test.YtnbpdffdnphbeabGreatDoorMLoad
set_option maxHeartbeats 2000000
set_option maxRecDepth 100000
namespace Go.Proofs.YtnbpdffdnphbeabGreatDoor
open Go.RowKit
variable{cs:Array Value}{z:Int × Int}{zs:List (Int × Int)}{G:List Bool}{rs:List MX}{ys xs:List Value}{ls:List zE}{I:List zQ}{y x:MX}{j np nc gn sc gh B p g h m H k gi a n:Nat}{fz:Nat × Nat}{has:Nat->Bool}{Z:Nat->Int × Int}{F:Nat->List (Int × Int)}{rk P:Nat->Nat}{f:Nat->Value}{sa na:Option Addr}{t' t:TypeId}{nv sv iv d v':Value}{wx wy wr w' w:World}{e l:xJ}
theorem Zi(X:List Int)(h:X≠[]):∃m∈X,∀x∈X,x<=m:=by
 induction X with
 | nil=>exact absurd rfl h
 | cons a r ih =>
   by_cases hr:r=[]
   ·subst hr;exact⟨a,by simp,by simp⟩
   ·obtain⟨m,h1,h2⟩:=ih hr
    by_cases hm:a<=m
    ·exact⟨m,by simp[h1],fun x hx=>by rcases l6.1 hx with rfl|hx;exact hm;exact h2 x hx⟩
    ·exact⟨a,by simp,fun x hx=>by rcases l6.1 hx with rfl|hx;exact lh _;have:=h2 x hx;omega⟩
theorem zHK(L:Int->Int):∀(n:Nat) (X:List Int),X.length<=n->(∀x∈X,L x<=x)->∃g:Int->Int,(∀x∈X,L x<=g x/\g x<=x/\∃y∈X,∃j:Nat,j<X.length/\g x=L y+j)/\∀x∈X,∀y∈X,x<y->g x<g y:=by
 intro n
 induction n with
 | zero =>
   intro X h _;obtain rfl:X=[]:=my (by omega);exact⟨id,by simp,by simp⟩
 | succ n ih =>
   intro X h hL;by_cases h0:X=[]
   ·subst h0;exact⟨id,by simp,by simp⟩
   obtain⟨m,hm,hmax⟩:=Zi X h0
   have zL6:(X.filter fun x=>decide (x<m)).length<X.length:=by
    rcases md (X.filter fun x=>decide (x<m)).length X.length with h1|h1
    ·exact h1
    ·have h2:(X.filter fun x=>decide (x<m)).length=X.length:=Nat.le_antisymm (dg _ _) h1
     have:=List.length_filter_eq_length_iff.1 h2 m hm;simp at this
   obtain⟨g,g1,g2⟩:=ih (X.filter fun x=>decide (x<m)) (by omega) (fun x hx=>hL x (mj.1 hx).1);have zL9:∀x∈X,x<m->x∈X.filter fun x=>decide (x<m):=fun x hx zKZ=>mj.2 ⟨hx,by simpa using zKZ⟩;generalize hX':(X.filter fun x=>decide (x<m))=X' at *;have hsub:∀x∈X',x∈X/\x<m:=fun x hx=>by rw[<-hX']at hx;have:=mj.1 hx;exact⟨this.1,by simpa using this.2⟩
   have hv:∃v,L m<=v/\v<=m/\(∃y∈X,∃j:Nat,j<X.length/\v=L y+j)/\∀x∈X',g x<v:=by
    by_cases h1:X'=[]
    ·exact⟨L m,lh _,hL m hm,⟨m,hm,0,by omega,by omega⟩,by simp[h1]⟩
    ·obtain⟨M,hM,hM2⟩:=Zi (X'.map g) (by simpa using h1)
     obtain⟨z,hz,rfl⟩:=p9.1 hM;obtain⟨z1,z2,y,hy,j,hj,hz3⟩:=g1 z hz;have hz4:=(hsub z hz).2;have hall:∀x∈X',g x<=g z:=fun x hx=>hM2 _ (p9.2 ⟨x,hx,rfl⟩);by_cases h2:g z<L m
     ·exact⟨L m,lh _,hL m hm,⟨m,hm,0,by omega,by omega⟩,fun x hx=>by have:=hall x hx;omega⟩
     ·exact⟨g z+1,by omega,by omega,⟨y,(hsub y hy).1,j+1,by omega,by omega⟩,fun x hx=>by have:=hall x hx;omega⟩
   obtain⟨v,v1,v2,v3,v4⟩:=hv;refine⟨fun x=>if x<m then g x else v,fun x hx=>?_,fun x hx y hy zKZ=>?_⟩
   ·by_cases hxm:x<m
    ·simp only[tl hxm]
     obtain⟨a,b,y,hy,j,hj,e⟩:=g1 x (zL9 x hx hxm);exact⟨a,b,y,(hsub y hy).1,j,by omega,e⟩
    ·obtain rfl:x=m:=by have:=hmax x hx;omega
     simp only[tb hxm];exact⟨v1,v2,v3⟩
   ·have h3:=hmax y hy
    by_cases hym:y<m
    ·simp only[tl hym,tl (show x<m by omega)]
     exact g2 x (zL9 x hx (by omega)) y (zL9 y hy hym) zKZ
    ·simp only[tb hym,tl (show x<m by omega)]
     exact v4 x (zL9 x hx (by omega))
theorem Vz(B:List Int)(x lo:Int)(hlo:lo∈B)(hx:lo<=x):∃l,l<=x/\lo<=l/\(∃b∈B,l=b\/l=b+1)/\∀c∈B,(c<=x->c<=l)/\(c<x->c<l):=by
 by_cases hB:x∈B
 ·exact⟨x,lh _,hx,⟨x,hB,.inl rfl⟩,fun c _=>⟨id,id⟩⟩
 ·obtain⟨m,hm,hmax⟩:=Zi (B.filter fun b=>decide (b<=x)) (fun h=>by have:lo∈B.filter fun b=>decide (b<=x):=mj.2 ⟨hlo,by simpa using hx⟩;rw[h]at this;simp at this)
  have h1:=mj.1 hm;have h2:m<=x:=by simpa using h1.2
  have h3:m≠x:=fun e=>hB (e ▸ h1.1);have h4:∀c∈B,c<=x->c<=m:=fun c hc hcx=>hmax c (mj.2 ⟨hc,by simpa using hcx⟩);exact⟨m+1,by omega,by have:=h4 lo hlo hx;omega,⟨m,h1.1,.inr rfl⟩,fun c hc=>⟨fun h=>by have:=h4 c hc h;omega,fun h=>by have:=h4 c hc (by omega);omega⟩⟩
theorem moved(B X:List Int)(hlo:∀x∈X,∃lo∈B,lo<=x):∃g:Int->Int,(∀x∈X,g x<=x/\(∃b∈B,∃j:Nat,j<=X.length/\g x=b+j)/\(∀c∈B,(c<=x->c<=g x)/\(x<c ↔ g x<c)/\(x=c ↔ g x=c)))/\∀x∈X,∀y∈X,(x<y ↔ g x<g y)/\(x=y ↔ g x=g y):=by
 have hL:∀x,∃l,x∈X->l<=x/\(∃b∈B,l=b\/l=b+1)/\∀c∈B,(c<=x->c<=l)/\(c<x->c<l):=fun x=>by
  rcases Classical.em (x∈X) with hx|hx
  ·obtain⟨lo,h1,h2⟩:=hlo x hx
   obtain⟨l,a1,_,a3,a4⟩:=Vz B x lo h1 h2;exact⟨l,fun _=>⟨a1,a3,a4⟩⟩
  ·exact⟨0,fun h=>absurd h hx⟩
 have hf:∃L:Int->Int,∀x,x∈X->L x<=x/\(∃b∈B,L x=b\/L x=b+1)/\∀c∈B,(c<=x->c<=L x)/\(c<x->c<L x):=⟨fun x=>Classical.choose (hL x),fun x=>Classical.choose_spec (hL x)⟩;obtain⟨L,hLs⟩:=hf;obtain⟨g,g1,g2⟩:=zHK L X.length X (j1 _) (fun x hx=>(hLs x hx).1);refine⟨g,fun x hx=>?_,fun x hx y hy=>?_⟩
 ·obtain⟨a1,a2,y,hy,j,hj,a3⟩:=g1 x hx
  refine⟨a2,?_,fun c hc=>?_⟩
  ·obtain⟨b,hb,hb2⟩:=(hLs y hy).2.1
   rcases hb2 with e|e
   ·exact⟨b,hb,j,by omega,by omega⟩
   ·exact⟨b,hb,j+1,by omega,by omega⟩
  ·obtain⟨c1,c2⟩:=(hLs x hx).2.2 c hc
   refine⟨fun h=>by have:=c1 h;omega,⟨fun h=>by omega,fun h=>?_⟩,⟨fun h=>?_,fun h=>?_⟩⟩
   ·rcases ct x c with h1|h1
    ·exact h1
    ·have:=c1 h1;omega
   ·have:=c1 (by omega);omega
   ·rcases ct c x with h1|h1
    ·have:=c2 h1;omega
    ·omega
 ·have p1:=g2 x hx y hy
  have p2:=g2 y hy x hx;constructor
  ·constructor
   ·exact p1
   ·intro h
    rcases ct x y with h1|h1
    ·exact h1
    ·rcases ct y x with h2|h2
     ·have:=p2 h2;omega
     ·have:x=y:=by omega
      subst this;omega
  ·constructor
   ·intro h;rw[h]
   ·intro h
    rcases ct x y with h1|h1
    ·have:=p1 h1;omega
    ·rcases ct y x with h2|h2
     ·have:=p2 h2;omega
     ·omega
def qZ(z:Int × Int)(b:Int):List (Int × Int) :=
 if b<z.1\/z.2<b then [z] else ((if z.1<b then [(z.1,b-1)] else [])++[(b,b)])++(if b<z.2 then [(b+1,z.2)] else [])
def vB(zs:List (Int × Int))(b:Int):List (Int × Int):=zs.flatMap fun z=>qZ z b
def xQ(zs:List (Int × Int))(bs:List Int):List (Int × Int):=bs.foldl vB zs
def gT(lo hi:Int)(b1 b2:List Int):List (Int × Int):=xQ (xQ [(lo,hi)] b1) b2
def zBO(z:Int × Int)(b:Int):Prop:=z.2<b\/(z.1=b/\z.2=b)\/b<z.1
theorem gX{x:Int × Int}{b:Int}(h:x∈qZ z b):z.1<=x.1/\x.2<=z.2/\zBO x b:=by
 unfold qZ at h;unfold zBO;by_cases h1:b<z.1\/z.2<b
 ·rw[tl h1]at h;simp at h;subst h;omega
 ·rw[tb h1]at h
  simp only[pu,pr]at h;rcases h with (h|h)|h
  ·by_cases h2:z.1<b
   ·rw[tl h2]at h;simp at h;subst h;simp;omega
   ·rw[tb h2]at h;simp at h
  ·subst h;simp;omega
  ·by_cases h2:b<z.2
   ·rw[tl h2]at h;simp at h;subst h;simp;omega
   ·rw[tb h2]at h;simp at h
theorem J1{b y:Int}(h:z.1<=y/\y<=z.2):∃x∈qZ z b,x.1<=y/\y<=x.2:=by
 unfold qZ;by_cases h1:b<z.1\/z.2<b
 ·rw[tl h1];exact⟨z,by simp,h⟩
 ·rw[tb h1]
  rcases Int.lt_trichotomy y b with h2|h2|h2
  ·exact⟨(z.1,b-1),by simp[show z.1<b by omega],by simp;omega⟩
  ·exact⟨(b,b),by simp,by simp;omega⟩
  ·exact⟨(b+1,z.2),by simp[show b<z.2 by omega],by simp;omega⟩
structure zGR(lo hi:Int)(bs:List Int)(zs:List (Int × Int)):Prop where
 sub:∀z∈zs,lo<=z.1/\z.2<=hi
 cover:∀y,lo<=y->y<=hi->∃z∈zs,z.1<=y/\y<=z.2
 side:∀z∈zs,∀b∈bs,∀y,z.1<=y->y<=z.2->∀x,z.1<=x->x<=z.2->(x<b ↔ y<b)/\(x=b ↔ y=b)
theorem zGR.split{lo hi:Int}{bs:List Int}(h:zGR lo hi bs zs)(b:Int):zGR lo hi (bs++[b]) (vB zs b):=by
 refine⟨fun z hz=>?_,fun y h1 h2=>?_,fun z hz c hc y h1 h2 x h3 h4=>?_⟩
 ·obtain⟨z0,hz0,hz1⟩:=bj.1 hz
  have:=h.sub z0 hz0;have:=gX hz1;omega
 ·obtain⟨z,hz,hy⟩:=h.cover y h1 h2
  obtain⟨x,hx,hxy⟩:=J1 (b:=b) hy;exact⟨x,bj.2 ⟨z,hz,hx⟩,hxy⟩
 ·obtain⟨z0,hz0,hz1⟩:=bj.1 hz
  have hs:=gX hz1;rcases pu.1 hc with hc|hc
  ·exact h.side z0 hz0 c hc y (by omega) (by omega) x (by omega) (by omega)
  ·simp at hc;subst hc
   have:=hs.2.2;unfold zBO at this;omega
theorem zGR.splits{lo hi:Int}(b2:List Int):∀ {bs:List Int} {zs:List (Int × Int)},zGR lo hi bs zs->zGR lo hi (bs++b2) (xQ zs b2):=by
 induction b2 with
 | nil=>intro bs zs h;simpa[xQ] using h
 | cons b r ih =>
   intro bs zs h;have:=ih (h.split b);rw[pt]at this;exact this
theorem Y2(lo hi:Int)(b1 b2:List Int):zGR lo hi (b1++b2) (gT lo hi b1 b2):=by
 have h0:zGR lo hi [] [(lo,hi)]:=⟨fun z hz=>by simp at hz;subst hz;simp,fun y h1 h2=>⟨(lo,hi),by simp,h1,h2⟩,fun z _ b hb=>by simp at hb⟩;have:=(h0.splits b1).splits b2;unfold gT;simpa using this
theorem Cp{α:Type}(p q:α->Bool)(h:∀x,¬(p x=true/\q x=true))(l:List α):(l.filter p).length+(l.filter q).length<=l.length:=by
 induction l with
 | nil=>simp
 | cons x r ih =>
   have hx:=h x;cases hp:p x <;> cases hq:q x <;> simp[hp,hq]at hx ⊢ <;> omega
theorem Fs(l:List Int):∃T:List Int,T.Pairwise (· < ·)/\(∀x,x∈T ↔ x∈l)/\T.length<=l.length:=by
 induction l with
 | nil=>exact⟨[],List.Pairwise.nil,fun x=>Iff.rfl,j1 _⟩
 | cons a r ih =>
   obtain⟨T,h1,h2,h3⟩:=ih;refine⟨T.filter (fun x=>decide (x<a))++a::T.filter (fun x=>decide (a<x)),?_,fun x=>?_,?_⟩
   ·rw[List.pairwise_append,List.pairwise_cons]
    refine⟨h1.filter _,⟨fun x hx=>by simpa using (mj.1 hx).2,h1.filter _⟩,fun x hx y hy=>?_⟩;have hx2:x<a:=by simpa using (mj.1 hx).2
    rcases l6.1 hy with rfl|hy
    ·exact hx2
    ·have:a<y:=by simpa using (mj.1 hy).2
     omega
   ·simp only[pu,l6,mj,pw,h2]
    constructor
    ·rintro(h|h|h)
     ·exact .inr h.1
     ·exact .inl h
     ·exact .inr h.1
    ·rintro(h|h)
     ·exact .inr (.inl h)
     ·rcases Int.lt_trichotomy x a with h4|h4|h4
      ·exact .inl ⟨h,h4⟩
      ·exact .inr (.inl h4)
      ·exact .inr (.inr ⟨h,h4⟩)
   ·have:=Cp (fun x:Int=>decide (x<a)) (fun x=>decide (a<x)) (fun x=>by simp;omega) T
    simp;omega
structure mN where
 lo:Int
 hi:Int
 rank:Nat
def qF(r:Nat):List mN->Int × Int->Int × Int
 | [],s=>s
 | n::L,s=>qF r L (if n.rank=r then (if s.1<n.lo then n.lo else s.1,if n.hi<s.2 then n.hi else s.2) else s)
def vT(L:List mN)(r:Nat):Int × Int:=qF r L (0,9999)
def bW(r:Nat):List mN->Nat
 | []=>0
 | n::L=>(if n.rank=r then 1 else 0)+bW r L
def Zc(L:List mN):Nat->Nat->Int->Nat->List Int->Option (List Int)
 | 0,_,_,_,out=>some out
 | f+1,r,xY,placed,out =>
   if placed=L.length then some out
   else if (vT L r).2<(if (vT L r).1<xY then xY else (vT L r).1) then none
   else if bW r L=0 then none
   else Zc L f (r+1) ((if (vT L r).1<xY then xY else (vT L r).1)+1) (placed+bW r L) (out++[if (vT L r).1<xY then xY else (vT L r).1])
def dO(L:List mN):Option (List Int):=Zc L L.length 0 0 0 []
theorem aP(r:Nat)(L:List mN):∀s,s.1<=(qF r L s).1/\(qF r L s).2<=s.2/\∀n∈L,n.rank=r->n.lo<=(qF r L s).1/\(qF r L s).2<=n.hi:=by
 induction L with
 | nil=>intro s;exact⟨lh _,lh _,fun n hn=>by simp at hn⟩
 | cons m L ih =>
   intro s;rw[qF];obtain⟨h1,h2,h3⟩:=ih (if m.rank=r then (if s.1<m.lo then m.lo else s.1,if m.hi<s.2 then m.hi else s.2) else s);by_cases hr:m.rank=r
   ·rw[tl hr]at h1 h2 h3 ⊢
    generalize qF r L (if s.1<m.lo then m.lo else s.1,if m.hi<s.2 then m.hi else s.2)=q at h1 h2 h3 ⊢;simp only at h1 h2;refine⟨by split at h1 <;> omega,by split at h2 <;> omega,fun n hn hnr=>?_⟩;rcases l6.1 hn with rfl|hn
    ·exact⟨by split at h1 <;> omega,by split at h2 <;> omega⟩
    ·exact h3 n hn hnr
   ·rw[tb hr]at h1 h2 h3 ⊢
    refine⟨h1,h2,fun n hn hnr=>?_⟩;rcases l6.1 hn with rfl|hn
    ·exact absurd hnr hr
    ·exact h3 n hn hnr
theorem UQ(r:Nat)(v:Int)(L:List mN):∀s:Int × Int,s.1<=v->v<=s.2->(∀n∈L,n.rank=r->n.lo<=v/\v<=n.hi)->(qF r L s).1<=v/\v<=(qF r L s).2:=by
 induction L with
 | nil=>intro s h1 h2 _;exact⟨h1,h2⟩
 | cons m L ih =>
   intro s h1 h2 h;rw[qF];by_cases hr:m.rank=r
   ·rw[tl hr]
    have:=h m (by simp) hr;exact ih _ (by simp only;split <;> omega) (by simp only;split <;> omega) fun n hn=>h n (by simp[hn])
   ·rw[tb hr];exact ih _ h1 h2 fun n hn=>h n (by simp[hn])
def pJ(r:Nat):List mN->Nat
 | []=>0
 | n::L=>(if n.rank<r then 1 else 0)+pJ r L
theorem eB(r:Nat)(L:List mN):pJ (r+1) L=pJ r L+bW r L:=by
 induction L with
 | nil=>rfl
 | cons n L ih=>rw[pJ,pJ,bW,ih];split <;> split <;> split <;> omega
theorem eA(L:List mN):pJ 0 L=0:=by
 induction L with
 | nil=>rfl
 | cons n L ih=>rw[pJ,ih];simp
theorem Zx(r:Nat)(L:List mN):pJ r L<=L.length/\((∀n∈L,n.rank<r)->pJ r L=L.length):=by
 induction L with
 | nil=>simp[pJ]
 | cons n L ih =>
   rw[pJ,pf];refine⟨by have:=ih.1;split <;> omega,fun h=>?_⟩;rw[ih.2 fun m hm=>h m (by simp[hm]),tl (h n (by simp))];omega
theorem zB3{r:Nat}{L:List mN}(h:∃n∈L,n.rank=r):bW r L≠0:=by
 induction L with
 | nil=>obtain⟨n,hn,_⟩:=h;simp at hn
 | cons m L ih =>
   obtain⟨n,hn,hr⟩:=h;rw[bW];rcases l6.1 hn with rfl|hn
   ·rw[tl hr];omega
   ·have:=ih ⟨n,hn,hr⟩;omega
structure XU(L:List mN)(r:Nat)(xY:Int)(out:List Int):Prop where
 len:out.length=r
 zone:∀n∈L,n.rank<r->n.lo<=out.getD n.rank 0/\out.getD n.rank 0<=n.hi
 up:∀a b,a<b->b<r->out.getD a 0<out.getD b 0
 last:∀a,a<r->out.getD a 0<xY
theorem XU.snoc{L:List mN}{r:Nat}{xY v:Int}{out:List Int}(h:XU L r xY out)(hv:xY<=v)(hz:∀n∈L,n.rank=r->n.lo<=v/\v<=n.hi):XU L (r+1) (v+1) (out++[v]):=by
 have hl:=h.len;have e1:∀a,a<r->(out++[v]).getD a 0=out.getD a 0:=fun a ha=>by simp[List.getD,ms (show a<out.length by omega)]
 have e2:(out++[v]).getD r 0=v:=by simp[List.getD,<-hl]
 refine⟨by simp[hl],fun n hn hr=>?_,fun a b hab hb=>?_,fun a ha=>?_⟩
 ·by_cases hr2:n.rank<r
  ·rw[e1 _ hr2];exact h.zone n hn hr2
  ·have hr3:n.rank=r:=by omega
   rw[hr3,e2];exact hz n hn hr3
 ·by_cases hb2:b<r
  ·rw[e1 _ hb2,e1 _ (by omega)];exact h.up a b hab hb2
  ·have hb3:b=r:=by omega
   rw[hb3,e2,e1 _ (by omega)];have:=h.last a (by omega);omega
 ·by_cases ha2:a<r
  ·rw[e1 _ ha2];have:=h.last a ha2;omega
  ·have ha3:a=r:=by omega
   rw[ha3,e2];omega
theorem UW(L:List mN):∀f r xY placed out,placed=pJ r L->XU L r xY out->∀o,Zc L f r xY placed out=some o->∃r' l',r<=r'/\(r'=r+f\/pJ r' L=L.length)/\XU L r' l' o:=by
 intro f
 induction f with
 | zero=>intro r xY placed out _ h o ho;rw[Zc]at ho;obtain rfl:=Option.some.inj ho;exact⟨r,xY,j1 _,.inl rfl,h⟩
 | succ f ih =>
   intro r xY placed out hp h o ho;rw[Zc]at ho;by_cases h1:placed=L.length
   ·rw[tl h1]at ho;obtain rfl:=Option.some.inj ho;exact⟨r,xY,j1 _,.inr (by rw[<-hp,h1]),h⟩
   ·rw[tb h1]at ho
    have hg:=aP r L (0,9999);have hs:qF r L (0,9999)=vT L r:=rfl;rw[hs]at hg;generalize hv:(if (vT L r).1<xY then xY else (vT L r).1)=v at ho;have hv2:xY<=v/\(vT L r).1<=v:=by rw[<-hv];split <;> omega
    by_cases h2:(vT L r).2<v
    ·rw[tl h2]at ho;exact absurd ho (by simp)
    ·rw[tb h2]at ho
     by_cases h3:bW r L=0
     ·rw[tl h3]at ho;exact absurd ho (by simp)
     ·rw[tb h3]at ho
      obtain⟨r',l',q1,q2,q3⟩:=ih (r+1) (v+1) _ _ (by rw[eB,hp]) (h.snoc hv2.1 fun n hn hr=>by have:=hg.2.2 n hn hr;omega) o ho;exact⟨r',l',by omega,by rcases q2 with q2|q2;exact .inl (by omega);exact .inr q2,q3⟩
theorem eC{r:Nat}{L:List mN}(h:pJ r L=L.length):∀n∈L,n.rank<r:=by
 induction L with
 | nil=>intro n hn;simp at hn
 | cons m L ih =>
   rw[pJ,pf]at h;have hl:=(Zx r L).1;intro n hn;by_cases hm:m.rank<r
   ·rw[tl hm]at h
    rcases l6.1 hn with rfl|hn
    ·exact hm
    ·exact ih (by omega) n hn
   ·rw[tb hm]at h;omega
theorem YM{L:List mN}(hr:∀n∈L,n.rank<L.length){o:List Int}(h:dO L=some o):∀n∈L,n.lo<=o.getD n.rank 0/\o.getD n.rank 0<=n.hi:=by
 obtain⟨r',l',_,h2,h3⟩:=UW L L.length 0 0 0 [] (eA L).symm ⟨rfl,fun n _ h=>absurd h (by omega),fun a b _ h=>absurd h (by omega),fun a h=>absurd h (by omega)⟩ o h;intro n hn;refine h3.zone n hn ?_;rcases h2 with h2|h2
 ·have:=hr n hn;omega
 ·exact eC h2 n hn
theorem Fz(L:List mN)(T:List Int)(hT:T.Pairwise (· < ·))(zL9:∀n∈L,n.rank<T.length/\n.lo<=T.getD n.rank 0/\T.getD n.rank 0<=n.hi)(hall:∀r,r<T.length->∃n∈L,n.rank=r)(h0:∀x∈T,0<=x/\x<=9999) :
 ∀f r xY placed out,T.length-r<=f->placed=pJ r L->r<=T.length->(r<T.length->xY<=T.getD r 0)->XU L r xY out->∃o l',Zc L f r xY placed out=some o/\XU L T.length l' o:=by
 intro f
 induction f with
 | zero=>intro r xY placed out hf _ hr _ h;obtain rfl:r=T.length:=by omega
         exact⟨out,xY,by rw[Zc],h⟩
 | succ f ih =>
   intro r xY placed out hf hp hr hl h;by_cases zKZ:r<T.length
   ·obtain⟨n0,hn0,hr0⟩:=hall r zKZ
    have hpl:placed≠L.length:=fun e=>by
     have:=eC (r:=r) (L:=L) (by rw[<-hp,e]) n0 hn0;omega
    have hm:T.getD r 0∈T:=by simp[List.getD,zKZ]
    have hle:=UQ r (T.getD r 0) L (0,9999) (h0 _ hm).1 (h0 _ hm).2 fun n hn hnr=>by have:=zL9 n hn;rw[hnr]at this;exact this.2
    have hg:=aP r L (0,9999);have hs:qF r L (0,9999)=vT L r:=rfl;rw[hs]at hle hg;rw[Zc,tb hpl];generalize hv:(if (vT L r).1<xY then xY else (vT L r).1)=v;have hll:=hl zKZ;have hv2:xY<=v/\(vT L r).1<=v/\v<=T.getD r 0:=by rw[<-hv];split <;> omega
    rw[tb (by omega),tb (zB3 ⟨n0,hn0,hr0⟩)];refine ih (r+1) (v+1) _ _ (by omega) (by rw[eB,hp]) zKZ (fun h2=>?_) (h.snoc hv2.1 fun n hn hnr=>by have:=hg.2.2 n hn hnr;omega)
    have:T.getD r 0<T.getD (r+1) 0:=by
     have:=List.pairwise_iff_getElem.1 hT r (r+1) zKZ h2 (by omega);simpa[List.getD,zKZ,h2] using this
    omega
   ·obtain rfl:r=T.length:=by omega
    have:placed=L.length:=by rw[hp];exact(Zx _ L).2 fun n hn=>(zL9 n hn).1
    exact⟨out,xY,by rw[Zc,tl this],h⟩
theorem Dh{T:List Int}(hT:T.Pairwise (· < ·)){b:Nat}(ha:a<T.length)(hb:b<T.length):(T.getD a 0<T.getD b 0 ↔ a<b)/\(T.getD a 0=T.getD b 0->a=b):=by
 have key:∀a b,a<T.length->b<T.length->a<b->T.getD a 0<T.getD b 0:=fun a b ha hb hab=>by
  have:=List.pairwise_iff_getElem.1 hT a b ha hb hab;simpa[List.getD,ha,hb] using this
 have h1:=key a b ha hb;have h2:=key b a hb ha;rcases Nat.lt_trichotomy a b with h|h|h
 ·have:=h1 h;omega
 ·subst h;simp
 ·have:=h2 h;omega
def fR(Z:List (Int × Int))(rk:List Nat):List mN:=(List.range Z.length).map fun i=>⟨(Z.getD i (0,0)).1,(Z.getD i (0,0)).2,rk.getD i 0⟩
theorem QD(Z:List (Int × Int))(rk:List Nat):(fR Z rk).length=Z.length:=by simp[fR]
theorem QC{Z:List (Int × Int)}{rk:List Nat}{n:mN}(h:n∈fR Z rk):∃i,i<Z.length/\n=⟨(Z.getD i (0,0)).1,(Z.getD i (0,0)).2,rk.getD i 0⟩:=by
 obtain⟨i,hi,rfl⟩:=p9.1 h;exact⟨i,by simpa using hi,rfl⟩
theorem KY{Z:List (Int × Int)}(rk:List Nat){i:Nat}(hi:i<Z.length):(⟨(Z.getD i (0,0)).1,(Z.getD i (0,0)).2,rk.getD i 0⟩:mN)∈fR Z rk:=p9.2 ⟨i,by simpa using hi,rfl⟩
theorem Fx(Z:List (Int × Int))(y:List Int)(hl:y.length=Z.length)(h:∀i,i<Z.length->(Z.getD i (0,0)).1<=y.getD i 0/\y.getD i 0<=(Z.getD i (0,0)).2)(h0:∀x∈y,0<=x/\x<=9999) :
 ∃rk:List Nat,rk.length=Z.length/\(∀r∈rk,r<Z.length)/\∃o,dO (fR Z rk)=some o/\∀i j,i<Z.length->j<Z.length->(o.getD (rk.getD i 0) 0<o.getD (rk.getD j 0) 0 ↔ y.getD i 0<y.getD j 0):=by
 obtain⟨T,hT,hm,zL6⟩:=Fs y
 have hex:∀x∈y,∃r,r<T.length/\T.getD r 0=x:=fun x hx=>by
  obtain⟨r,hr,e⟩:=cq ((hm x).2 hx);exact⟨r,hr,by simp[List.getD,hr,e]⟩
 obtain⟨g,hg⟩:∃g:Int->Nat,∀x∈y,g x<T.length/\T.getD (g x) 0=x:=by
  refine⟨fun x=>if hx:x∈y then Classical.choose (hex x hx) else 0,fun x hx=>?_⟩;simp only[hx,dite_true];exact Classical.choose_spec (hex x hx)
 have hyi:∀i,i<Z.length->y.getD i 0∈y:=fun i hi=>by simp[List.getD,show i<y.length by omega]
 have hri:∀i,i<Z.length->(y.map g).getD i 0=g (y.getD i 0):=fun i hi=>by simp[List.getD,show i<y.length by omega]
 refine⟨y.map g,by simp[hl],fun r hr=>?_,?_⟩
 ·obtain⟨x,hx,rfl⟩:=p9.1 hr
  have:=(hg x hx).1;omega
 have zL9:∀n∈fR Z (y.map g),n.rank<T.length/\n.lo<=T.getD n.rank 0/\T.getD n.rank 0<=n.hi:=fun n hn=>by
  obtain⟨i,hi,rfl⟩:=QC hn;simp only;rw[hri i hi];have h1:=hg _ (hyi i hi);rw[h1.2];exact⟨h1.1,h i hi⟩
 have hall:∀r,r<T.length->∃n∈fR Z (y.map g),n.rank=r:=fun r hr=>by
  have hx:T.getD r 0∈y:=(hm _).1 (by simp[List.getD,hr]);obtain⟨i,hi,e⟩:=cq hx;have hi2:i<Z.length:=by omega
  refine⟨_,KY (y.map g) hi2,?_⟩;simp only;rw[hri i hi2];have e2:y.getD i 0=T.getD r 0:=by simp[List.getD,hi,e]
  have h1:=hg _ (hyi i hi2);rw[e2]at h1 ⊢;exact(Dh hT h1.1 hr).2 h1.2
 obtain⟨o,l',ho,zLC⟩:=Fz (fR Z (y.map g)) T hT zL9 hall (fun x hx=>h0 x ((hm x).1 hx)) (fR Z (y.map g)).length 0 0 0 [] (by rw[QD];omega) (eA _).symm (p7 _) (fun hh=>(h0 _ ((hm _).1 (by simp[List.getD,hh]))).1) ⟨rfl,fun n _ h=>absurd h (by omega),fun a b _ h=>absurd h (by omega),fun a h=>absurd h (by omega)⟩;refine⟨o,ho,fun i j hi hj=>?_⟩;rw[hri i hi,hri j hj];have a1:=hg _ (hyi i hi);have a2:=hg _ (hyi j hj);have hp:=(Dh hT a1.1 a2.1).1;rw[a1.2,a2.2]at hp;rw[hp];constructor
 ·intro h3
  rcases Nat.lt_trichotomy (g (y.getD i 0)) (g (y.getD j 0)) with h4|h4|h4
  ·exact h4
  ·rw[h4]at h3;omega
  ·have:=zLC.up _ _ h4 a1.1;omega
 ·intro h3;exact zLC.up _ _ h3 a2.1
def CD(R:Nat->Nat->Prop)(i k:Nat):Prop:=R i k/\∀i' k',R i' k'->i<i'\/(i=i'/\k<=k')
structure zGW(r:xJ)(s s':yX):Prop where
 sum:∀p∈r.sum,p.kind=3->kS s.has p.place=kS s'.has p.place
 has:∀y∈r.guard,y.kind=5->kS s.has y.place=kS s'.has y.place
 flag:∀y∈r.guard,y.kind=6->(qI s.inputs y.place=1 ↔ qI s'.inputs y.place=1)
 cmp:∀y∈r.guard,y.kind=7->Qr y s=Qr y s'
theorem GU{r:xJ}{s s':yX}(h:zGW r s s'):qJ r s=qJ r s':=by
 have h1:jB s r.sum=jB s' r.sum:=by
  unfold jB
  exact Jp fun p hp=>by
   by_cases k:p.kind=3
   ·rw[h.sum p hp k]
   ·rw[ty k];rfl
 have h2:∀(N:List qY) hs,(∀y∈N,y∈r.guard)->dB s N hs=dB s' N hs:=by
  intro N
  induction N with
  | nil=>intro hs _;rfl
  | cons y t ih =>
    intro hs hy;rw[dB,dB];have hm:=hy y (by simp)
    have e:Kz y s hs=Kz y s' hs:=by
     unfold Kz;by_cases k5:y.kind=5
     ·simp only[k5];exact h.has y hm k5
     ·by_cases k6:y.kind=6
      ·have:=h.flag y hm k6
       have e6:decide (qI s.inputs y.place=1)=decide (qI s'.inputs y.place=1):=by rw[dn];simpa using this
       rw[e6];simp[k6]
      ·by_cases k7:y.kind=7
       ·rw[h.cmp y hm k7];simp[k7]
       ·simp[k5,k6,k7]
    rw[e];exact ih _ fun z hz=>hy z (by simp[hz])
 unfold qJ;rw[h1,h2 r.guard [] fun y hy=>hy]
def pX(r:xJ)(c:Nat):Bool:=r.sum.any fun p=>decide (p.kind=3)&&decide (p.place=(c:Int))
def vP(r:xJ)(c:Nat):Bool:=r.guard.any fun y=>decide (y.kind=5)&&decide (y.place=(c:Int))
def tL(r:xJ)(i:Nat):Bool:=r.guard.any fun y=>if y.kind=6 then decide (y.place=(i:Int)) else if y.kind=7 then decide (y.place=(i:Int)) || (y.two&&decide (y.other=(i:Int))) else false
def xM(r:xJ)(i:Nat):List Int:=(r.guard.filter fun y=>decide (y.kind=7)&&(!y.two&&decide (y.place=(i:Int)))).map qY.num
theorem Jn{r:xJ}{s:yX}(h:qJ r s=true){c:Nat}(hc:pX r c=true):kS s.has (c:Int)=true:=by
 unfold qJ at h;rw[pq]at h;obtain⟨p,hp,h1⟩:=me.1 hc;rw[pq,pw,pw]at h1;have h2:=List.all_eq_true.1 h.1 p hp;rw[h1.2,tu h1.1]at h2;simpa using h2
structure zC0(r:xJ)(isNum:Nat->Bool)(s s':yX):Prop where
 len:s.inputs.length=s'.inputs.length
 has:∀c:Nat,(pX r c || vP r c)=true->kS s.has (c:Int)=kS s'.has (c:Int)
 flag:∀i:Nat,i<s.inputs.length->tL r i=true->isNum i=false->s.inputs.getD i 0=s'.inputs.getD i 0
 side:∀i:Nat,i<s.inputs.length->isNum i=true->∀b∈xM r i,(s.inputs.getD i 0<b ↔ s'.inputs.getD i 0<b)/\(s.inputs.getD i 0=b ↔ s'.inputs.getD i 0=b)
 order:∀i j:Nat,i<s.inputs.length->j<s.inputs.length->tL r i=true->tL r j=true->isNum i=true->isNum j=true->(s.inputs.getD i 0<s.inputs.getD j 0 ↔ s'.inputs.getD i 0<s'.inputs.getD j 0)
structure eK(r:xJ)(n:Nat)(isNum:Nat->Bool):Prop where
 flag:∀y∈r.guard,y.kind=6->∃i,i<n/\y.place=(i:Nat)/\isNum i=false
 cmp:∀y∈r.guard,y.kind=7->∃i,i<n/\y.place=(i:Nat)/\isNum i=true
 two:∀y∈r.guard,y.kind=7->y.two=true->∃i,i<n/\y.other=(i:Nat)/\isNum i=true
theorem Dz{l:List Bool}{a:Int}(h:a<0):kS l a=false:=by unfold kS;rw[ty (by omega)];rfl
theorem sC{l:List Int}{i:Nat}(h:i<l.length):qI l (i:Int)=l.getD i 0:=by unfold qI;rw[tl ⟨by omega,by omega⟩];rfl
theorem C4{r:xJ}{isNum:Nat->Bool}{s s':yX}(hp:eK r s.inputs.length isNum)(h:zC0 r isNum s s'):zGW r s s':=by
 have hT:∀a:Int,(∀c:Nat,a=(c:Int)->(pX r c || vP r c)=true)->kS s.has a=kS s'.has a:=fun a ha=>by
  rcases ct a 0 with h0|h0
  ·rw[Dz h0,Dz h0]
  ·obtain⟨c,rfl⟩:∃c:Nat,a=(c:Int):=⟨a.toNat,by omega⟩
   exact h.has c (ha c rfl)
 refine⟨fun p hpm k=>hT _ fun c e=>?_,fun y hy k=>hT _ fun c e=>?_,fun y hy k=>?_,fun y hy k=>?_⟩
 ·rw[ba];exact .inl (me.2 ⟨p,hpm,by simp[k,e]⟩)
 ·rw[ba];exact .inr (me.2 ⟨y,hy,by simp[k,e]⟩)
 ·obtain⟨i,hi,e,hn⟩:=hp.flag y hy k
  rw[e,sC hi,sC (by rw[<-h.len];exact hi),h.flag i hi (me.2 ⟨y,hy,by simp[k,e]⟩) hn]
 ·obtain⟨i,hi,e,hn⟩:=hp.cmp y hy k
  have ha:tL r i=true:=me.2 ⟨y,hy,by simp[k,e]⟩;unfold Qr;rw[e,sC hi,sC (show i<s'.inputs.length by rw[<-h.len];exact hi)];cases h2:y.two
  ·have hb:y.num∈xM r i:=p9.2 ⟨y,mj.2 ⟨hy,by simp[k,h2,e]⟩,rfl⟩
   have hs:=h.side i hi hn _ hb;simp only[Bool.false_eq_true,if_false];generalize s.inputs.getD i 0=a at *;generalize s'.inputs.getD i 0=a' at *;by_cases c1:a<y.num
   ·rw[tl c1,tl (hs.1.1 c1)]
   ·rw[tb c1,tb (fun c=>c1 (hs.1.2 c))]
    by_cases c2:y.num<a
    ·rw[tl c2,tl (by omega)]
    ·rw[tb c2,tb (by omega)]
  ·obtain⟨j,hj,e2,hn2⟩:=hp.two y hy k h2
   have ha2:tL r j=true:=me.2 ⟨y,hy,by simp[k,h2,e2]⟩;have o1:=h.order i j hi hj ha ha2 hn hn2;have o2:=h.order j i hj hi ha2 ha hn2 hn;simp only[dt];rw[e2,sC hj,sC (show j<s'.inputs.length by rw[<-h.len];exact hj)];generalize s.inputs.getD i 0=a at *;generalize s'.inputs.getD i 0=a' at *;generalize s.inputs.getD j 0=b at *;generalize s'.inputs.getD j 0=b' at *;by_cases c1:a<b
   ·rw[tl c1,tl (o1.1 c1)]
   ·rw[tb c1,tb (fun c=>c1 (o1.2 c))]
    by_cases c2:b<a
    ·rw[tl c2,tl (o2.1 c2)]
    ·rw[tb c2,tb (fun c=>c2 (o2.2 c))]
theorem Jq{r:xJ}{isNum:Nat->Bool}{s s':yX}(hp:eK r s.inputs.length isNum)(h:zC0 r isNum s s'):qJ r s=qJ r s':=GU (C4 hp h)
theorem Vt{α:Type}(d:α)(P:Nat->α->Prop):∀n,(∀p,p<n->∃z,P p z)->∃Z:List α,Z.length=n/\∀p,p<n->P p (Z.getD p d):=by
 intro n
 induction n with
 | zero=>intro _;exact⟨[],rfl,fun p h=>absurd h (by omega)⟩
 | succ n ih =>
   intro h;obtain⟨Z,h1,h2⟩:=ih fun p hp=>h p (by omega);obtain⟨z,hz⟩:=h n (by omega);refine⟨Z++[z],by simp[h1],fun p hp=>?_⟩;by_cases hp2:p<n
   ·have:(Z++[z]).getD p d=Z.getD p d:=by simp[List.getD,ms (show p<Z.length by omega)]
    rw[this];exact h2 p hp2
   ·obtain rfl:p=n:=by omega
    have:(Z++[z]).getD p d=z:=by simp[List.getD,<-h1]
    rw[this];exact hz
def kT(I:List zQ)(i:Nat):zQ:=I.getD i iI
def xW(I:List zQ)(i:Nat):Bool := !(kT I i).isFlag
structure ZE(I:List zQ)(H:Nat)(y:yX):Prop where
 inl:y.inputs.length=I.length
 hal:y.has.length=H
 num:∀i,i<I.length->xW I i=true->(kT I i).low<=y.inputs.getD i 0/\y.inputs.getD i 0<=(kT I i).high
 flag:∀i,i<I.length->xW I i=false->y.inputs.getD i 0=0\/y.inputs.getD i 0=1
def qP(e l:xJ)(i:Nat):Bool:=tL e i || tL l i
def uE(e l:xJ)(c:Nat):Bool:=pX e c || pX l c
def xS(I:List zQ)(e l:xJ):List Nat:=(List.range I.length).filter fun i=>qP e l i&&xW I i
theorem pT{i:Nat}:i∈xS I e l ↔ i<I.length/\qP e l i=true/\xW I i=true:=by
 unfold xS;rw[mj,py,pq]
theorem nB(h:p<(xS I e l).length):(xS I e l).getD p 0∈xS I e l:=by simp[List.getD,h]
theorem Yn{i:Nat}(hi:i<I.length)(ha:qP e l i=true)(hn:xW I i=true):∃p,p<(xS I e l).length/\(xS I e l).getD p 0=i:=by
 obtain⟨p,hp,e⟩:=cq (pT.2 ⟨hi,ha,hn⟩);exact⟨p,hp,by simp[List.getD,hp,e]⟩
def jW(I:List zQ)(e l:xJ)(i:Nat):List (Int × Int):=gT (kT I i).low (kT I i).high (xM e i) (xM l i)
structure zGT(I:List zQ)(e l:xJ)(rk:List Nat)(o:List Int)(y t:yX):Prop where
 inl:t.inputs.length=I.length
 num:∀p,p<(xS I e l).length->t.inputs.getD ((xS I e l).getD p 0) 0=o.getD (rk.getD p 0) 0
 flag:∀i,i<I.length->qP e l i=true->xW I i=false->t.inputs.getD i 0=y.inputs.getD i 0
 need:∀c:Nat,uE e l c=true->kS t.has (c:Int)=true
 has:∀c:Nat,uE e l c=false->(vP e c || vP l c)=true->kS t.has (c:Int)=kS y.has (c:Int)
theorem Uf{r:xJ}{i:Nat}{b:Int}(h:b∈xM r i):tL r i=true:=by
 obtain⟨y,hy,_⟩:=p9.1 h;have hf:=mj.1 hy;have h2:=hf.2;simp only[pq,pw]at h2;exact me.2 ⟨y,hf.1,by simp[h2.1,h2.2.2]⟩
theorem KN(hpe:eK e I.length (xW I))(hpl:eK l I.length (xW I))(hr:∀i,i<I.length->xW I i=true->0<=(kT I i).low/\(kT I i).high<=9999){y:yX}(hy:ZE I H y)(he:qJ e y=true)(hl:qJ l y=true) :
 ∃Z:List (Int × Int),Z.length=(xS I e l).length/\(∀p,p<(xS I e l).length->Z.getD p (0,0)∈jW I e l ((xS I e l).getD p 0))/\∃rk:List Nat,rk.length=Z.length/\(∀r∈rk,r<Z.length)/\∃o,dO (fR Z rk)=some o/\∀t,zGT I e l rk o y t->qJ e t=true/\qJ l t=true:=by
 obtain⟨Z,hZl,hZ⟩:=Vt (0,0) (fun p z=>z∈jW I e l ((xS I e l).getD p 0)/\z.1<=y.inputs.getD ((xS I e l).getD p 0) 0/\y.inputs.getD ((xS I e l).getD p 0) 0<=z.2) (xS I e l).length (fun p hp=>by
  obtain⟨hi,_,hn⟩:=pT.1 (nB hp);have hrm:=hy.num _ hi hn;obtain⟨z,hz,h1⟩:=(Y2 (kT I ((xS I e l).getD p 0)).low (kT I ((xS I e l).getD p 0)).high (xM e ((xS I e l).getD p 0)) (xM l ((xS I e l).getD p 0))).cover _ hrm.1 hrm.2;exact⟨z,hz,h1⟩)
 have hYg:∀p,p<(xS I e l).length->((xS I e l).map fun i=>y.inputs.getD i 0).getD p 0=y.inputs.getD ((xS I e l).getD p 0) 0:=fun p hp=>by simp[List.getD,hp]
 obtain⟨rk,hrl,hrr,o,ho,hord⟩:=Fx Z ((xS I e l).map fun i=>y.inputs.getD i 0) (by simp[hZl]) (fun p hp=>by
  rw[hYg p (by omega)];exact(hZ p (by omega)).2) (fun x hx=>by
  obtain⟨i,hi,rfl⟩:=p9.1 hx;obtain⟨h1,_,h3⟩:=pT.1 hi;have:=hr i h1 h3;have:=hy.num i h1 h3;show 0<=y.inputs.getD i 0/\y.inputs.getD i 0<=9999;omega)
 refine⟨Z,hZl,fun p hp=>(hZ p hp).1,rk,hrl,hrr,o,ho,fun t ht=>?_⟩
 have hsound:=YM (L:=fR Z rk) (fun n hn=>by
  obtain⟨i,hi,rfl⟩:=QC hn;rw[QD];exact hrr _ (by simp[List.getD,show i<rk.length by omega])) ho
 have zL9:∀p,p<(xS I e l).length->(Z.getD p (0,0)).1<=t.inputs.getD ((xS I e l).getD p 0) 0/\t.inputs.getD ((xS I e l).getD p 0) 0<=(Z.getD p (0,0)).2:=fun p hp=>by
  rw[ht.num p hp];exact hsound _ (KY rk (show p<Z.length by omega))
 have hal:∀r:xJ,(r=e\/r=l)->zC0 r (xW I) y t:=fun r hre=>by
  have hask:∀i,tL r i=true->qP e l i=true:=fun i h=>by unfold qP;rcases hre with rfl|rfl <;> rw[h] <;> simp
  have hnd:∀c,pX r c=true->uE e l c=true:=fun c h=>by unfold uE;rcases hre with rfl|rfl <;> rw[h] <;> simp
  have hah:∀c,vP r c=true->(vP e c || vP l c)=true:=fun c h=>by rcases hre with rfl|rfl <;> rw[h] <;> simp
  have hny:∀c,uE e l c=true->kS y.has (c:Int)=true:=fun c h=>by
   unfold uE at h;rcases(ba _ _).mp h with h|h
   ·exact Jn he h
   ·exact Jn hl h
  refine⟨by rw[hy.inl,ht.inl],fun c hc=>?_,fun i hi ha hn=>?_,fun i hi hn b hb=>?_,fun i j hi hj ha ha2 hn hn2=>?_⟩
  ·cases hnc:uE e l c
   ·rcases(ba _ _).mp hc with hc|hc
    ·rw[hnd c hc]at hnc;exact absurd hnc (by decide)
    ·exact(ht.has c hnc (hah c hc)).symm
   ·rw[hny c hnc,ht.need c hnc]
  ·exact(ht.flag i (by rw[<-hy.inl];exact hi) (hask i ha) hn).symm
  ·obtain⟨p,hp,e1⟩:=Yn (by rw[<-hy.inl];exact hi) (hask i (Uf hb)) hn
   have hz:=hZ p hp;have ht2:=zL9 p hp;rw[e1]at hz ht2;have:=(Y2 (kT I i).low (kT I i).high (xM e i) (xM l i)).side _ hz.1 b (by rcases hre with rfl|rfl <;> simp[hb]) _ ht2.1 ht2.2 _ hz.2.1 hz.2.2;exact this
  ·obtain⟨p,hp,e1⟩:=Yn (by rw[<-hy.inl];exact hi) (hask i ha) hn
   obtain⟨q,hq,e2⟩:=Yn (by rw[<-hy.inl];exact hj) (hask j ha2) hn2;have h1:=hord p q (by omega) (by omega);rw[hYg p hp,hYg q hq,e1,e2]at h1;have h2:=ht.num p hp;have h3:=ht.num q hq;rw[e1]at h2;rw[e2]at h3;rw[h2,h3];exact h1.symm
 exact⟨by rw[<-Jq (hy.inl ▸ hpe) (hal e (.inl rfl))];exact he,by rw[<-Jq (hy.inl ▸ hpl) (hal l (.inr rfl))];exact hl⟩
theorem zEM{l:List zE}(h:(l.map zE.name).Nodup):∀x∈l,∀z∈l,x.name=z.name->x=z:=by
 induction l with
 | nil=>intro x hx;cases hx
 | cons a r ih =>
   rw[da,List.nodup_cons]at h;intro x hx z hz e;rcases l6.1 hx with h1|h1
   ·rcases l6.1 hz with h2|h2
    ·rw[h1,h2]
    ·rw[h1]at e;exact absurd (p9.2 ⟨z,h2,e.symm⟩) h.1
   ·rcases l6.1 hz with h2|h2
    ·rw[h2]at e;exact absurd (p9.2 ⟨x,h1,e⟩) h.1
    ·exact ih h.2 x h1 z h2 e
theorem zIH(h:vL ls){x z:zE}(hx:x∈zu ls)(hz:z∈zu ls)(e:x.name=z.name):x=z:=zEM (by rw[<-X0];exact Xv h) x hx z hz e
theorem Xy{i:Nat}(hi:i<(zX ls).length):∃x,x∈zu ls/\x∈ls/\kT (zX ls) i=mB x/\(vX ls).getD i []=x.name:=by
 rw[Xx,pi]at hi;have hm:(zu ls).getD i Ym∈zu ls:=VI _ hi;refine⟨(zu ls).getD i Ym,hm,(mj.1 hm).1,?_,?_⟩
 ·unfold kT;rw[Xx];exact X5 _ _ _ _ _ hi
 ·rw[X0];exact X5 _ _ _ _ _ hi
theorem zKB{x:zE}(h:x∈ls)(hk:x.kind=1\/x.kind=2):x∈zu ls:=mj.2 ⟨h,tu hk⟩
theorem zK7{nm:Bs}{k:Int}(h:uR ls k nm=true):∃x∈ls,x.kind=k/\x.name=nm:=by
 obtain⟨x,h1,h2⟩:=me.1 h;unfold Zl at h2;rw[pq,pw,pw]at h2;exact⟨x,h1,h2.1,h2.2⟩
theorem aV{x:zE}(hk:x.kind=1\/x.kind=2):(!(mB x).isFlag)=decide (x.kind=1):=by
 unfold mB;rcases hk with h|h
 ·rw[tl h,tu h];rfl
 ·rw[tb (by omega),ty (by omega)];rfl
theorem VR{k:Int}(hl:Yd k=m)(h:∀i,i<ls.length->tH ls i=false):vC k ls<=m:=by
 have key:∀n,n<=ls.length->vC k (ls.take n)<=m:=by
  intro n
  induction n with
  | zero=>intro _;simp[vC]
  | succ n ih =>
    intro hn;rw[bP ls n (by omega),VZ];have ih:=ih (by omega);by_cases hk:(lA ls n).kind=k
    ·have hm:=h n (by omega)
     unfold tH at hm;rw[bp,di,hk,hl]at hm;simp only[vC,hk,dt];omega
    ·simp only[vC,tb hk];omega
 have:=key ls.length (j1 _)
 rwa [bw]at this
theorem jh(ls:List zE):(zX ls).length=vC 1 ls+vC 2 ls:=by
 rw[Xx,pi];unfold zu
 induction ls with
 | nil=>simp[vC]
 | cons x r ih =>
   rw[List.filter_cons,vC,vC];by_cases h1:x.kind=1
   ·rw[tu (.inl h1),tl rfl,tl h1,tb (by omega),pf,ih];omega
   ·by_cases h2:x.kind=2
    ·rw[tu (.inr h2),tl rfl,tb h1,tl h2,pf,ih];omega
    ·rw[ty (by omega),tb (by simp),tb h1,tb h2,ih];omega
theorem V7(h:vL ls):(zX ls).length<=6:=by
 have h1:=VR (k:=1) (m:=3) (by decide) h.many;have h2:=VR (k:=2) (m:=3) (by decide) h.many;rw[jh];omega
theorem zHZ(ls:List zE):(vX ls).length=(zX ls).length:=by unfold vX;rw[pi]
theorem kw(h:vL ls){x:zE}(hx:x∈ls)(hk:x.kind=1):x.low<=x.high:=by
 obtain⟨i,hi,rfl⟩:=Zh hx;have he:=h.err i hi;unfold mM at he;rw[tl hk]at he;unfold iE at he;by_cases h0:fY ls i=0
 ·rw[tl h0]at he
  rcases ct (lA ls i).high (lA ls i).low with h1|h1
  ·rw[tl h1]at he;exact absurd he (by decide)
  ·exact h1
 ·rw[tb h0]at he;exact absurd he h0
theorem Z7{α:Type}(p:α->Bool)(d:α)(l:List α)(i:Nat)(h:i<l.length):(l.drop i).any p=(p (l.getD i d) || (l.drop (i+1)).any p):=by
 rw[po h,cw];simp[List.getD,h]
theorem Kf{α:Type}(p:α->Bool)(l:List α)(i:Nat)(h:¬i<l.length):(l.drop i).any p=false:=by
 rw[pm (by omega)];rfl
def pV(i:Nat)(y:qY):Bool:=if y.kind=6 then decide (y.place=(i:Int)) else if y.kind=7 then decide (y.place=(i:Int)) || (y.two&&decide (y.other=(i:Int))) else false
theorem DR(w:World)(x:MX)(c:Nat)(hx:uL w x) :
 Calls Tryz.prog 98 #[uC x,.int .i64 (c:Int)] w fun e w'=>e=.returned (.bool (pX x.1 c))/\Below w.heap.size w w':=by
 obtain⟨pa,pc,e1,hp⟩:=hx.sum;obtain⟨ga,gc,e2,hg⟩:=hx.guard;have HP:=zA hp.cel;have zLE:=hx.few1;obtain⟨⟨lab,cc,ps,gd,root⟩,pv,gv⟩:=x;simp only at e1 e2 HP zLE;subst e1 e2;simp only[uC];have HE0:Hid (∀b,ps.any (fun p=>decide (p.kind=3)&&decide (p.place=(c:Int)))=b->pX ⟨lab,cc,ps,gd,root⟩ c=b):=fun b h=>h;generalize pX ⟨lab,cc,ps,gd,root⟩ c=ans at *;clear hx hp hg
 go_enter Tryz.func98,Tryz.ntmps98
 go_wp2_with fail
 generalize hO1:Obj.cells #[.string ⟨lab.toArray⟩,.int .i64 cc,.slice pa ps.length pc,.slice ga gd.length gc,.int .i64 root] 162=O1 at *;clear hO1;have HB0:Hid (Below w.heap.size w (w.alloc O1)):=gb (j1 _) _;generalize w.alloc O1=w0 at *
 go_loopw [10] (fun iv wr=>∃(i:Nat),i<=ps.length/\iv=.int .i64 i/\Hid (Below w.heap.size w wr)/\Hid ((ps.drop i).any (fun p=>decide (p.kind=3)&&decide (p.place=(c:Int)))=ps.any (fun p=>decide (p.kind=3)&&decide (p.place=(c:Int))))) (fun iv _=>ps.length-(intOf iv).toNat)
 case atStart=>exact⟨0,p7 _,rfl,HB0,zA rfl⟩
 case round =>
  obtain⟨i,hi,rfl,HB,HE⟩:=hrel;have zLD:=HB.out.size;by_cases zKZ:i<ps.length
  ·have ii:(i:Int)<(ps.length:Int):=by omega
   have hpr:=HP.out.below HB.out;obtain⟨gp,rfl,q0⟩:=hpr.at ((zN tW 3 (fun _=>rfl) B9 ps i 0 zKZ (by decide)).trans rfl);have hq:=fun j hj v hv=>(hpr.at ((zN tW 3 (fun _=>rfl) B9 ps i j zKZ hj).trans hv)).elim fun g' h=>(show gp=g' by simpa using h.1) ▸ (show w.heap.size<=wr.heap.size/\wr.cell? ⟨g',i*3+j,none⟩=some v from ⟨zLD,h.2⟩).2;have q1:=hq 1 (by decide) _ rfl;have q2:=hq 2 (by decide) _ rfl;rw[l9]at q0;have lgp:=yQ q0;have mgp:wr.heap.size≠gp:=by omega
   have hE:=HE.out;rw[Z7 (fun p=>decide (p.kind=3)&&decide (p.place=(c:Int))) B9 ps i zKZ]at hE;have HE2:=zA hE;have HBa:Hid (∀o,Below w.heap.size w (wr.alloc o)):=fun o=>HB.out.alloc zLD o;clear HE hE hpr hq;generalize ps.getD i B9=y at *;obtain⟨yk,yn,yp⟩:=y;simp only at q0 q1 q2 HE2;by_cases k1:yk=3
   ·subst k1
    simp only[decide_true,mz]at HE2;by_cases k2:yp=(c:Int)
    ·subst k2
     have HE3:Hid (ans=true):=HE0.out _ (by rw[<-HE2.out];simp);go_wp2_with fail
     go_ret
     exact⟨zF HE3.out.symm,HBa.out _⟩
    ·have b2:(yp==(c:Int))=false:=by simpa using k2
     have HE3:Hid ((ps.drop (i+1)).any (fun p=>decide (p.kind=3)&&decide (p.place=(c:Int)))=ps.any (fun p=>decide (p.kind=3)&&decide (p.place=(c:Int)))):=by have:=HE2.out;rw[ty k2,bf]at this;exact this
     clear k2;go_wp2_with fail
     go_roundw
     case rel=>exact⟨i+1,by omega,by go_num,zA (HBa.out _),HE3⟩
     case measure=>simp[intOf];omega
   ·have b1:(yk==3)=false:=by simpa using k1
    have HE3:Hid ((ps.drop (i+1)).any (fun p=>decide (p.kind=3)&&decide (p.place=(c:Int)))=ps.any (fun p=>decide (p.kind=3)&&decide (p.place=(c:Int)))):=by have:=HE2.out;rw[ty k1,cp,bf]at this;exact this
    clear k1;go_wp2_with fail
    go_roundw
    case rel=>exact⟨i+1,by omega,by go_num,zA (HBa.out _),HE3⟩
    case measure=>simp[intOf];omega
  ·have ii:¬(i:Int)<(ps.length:Int):=by omega
   have HE2:Hid (ans=false):=HE0.out _ (by rw[<-HE.out];exact Kf _ _ _ zKZ);go_wp2_with fail
   go_ret
   exact⟨zF HE2.out.symm,HB.out⟩
theorem Jw(w:World)(x:MX)(c:Nat)(hx:uL w x) :
 Calls Tryz.prog 99 #[uC x,.int .i64 (c:Int)] w fun e w'=>e=.returned (.bool (vP x.1 c))/\Below w.heap.size w w':=by
 obtain⟨pa,pc,e1,hp⟩:=hx.sum;obtain⟨ga,gc,e2,hg⟩:=hx.guard;have HP:=zA hg.cel;have zLE:=hx.few2;obtain⟨⟨lab,cc,ps,gd,root⟩,pv,gv⟩:=x;simp only at e1 e2 HP zLE;subst e1 e2;simp only[uC];have HE0:Hid (∀b,gd.any (fun y=>decide (y.kind=5)&&decide (y.place=(c:Int)))=b->vP ⟨lab,cc,ps,gd,root⟩ c=b):=fun b h=>h;generalize vP ⟨lab,cc,ps,gd,root⟩ c=ans at *;clear hx hp hg
 go_enter Tryz.func99,Tryz.ntmps99
 go_wp2_with fail
 generalize hO1:Obj.cells #[.string ⟨lab.toArray⟩,.int .i64 cc,.slice pa ps.length pc,.slice ga gd.length gc,.int .i64 root] 162=O1 at *;clear hO1;have HB0:Hid (Below w.heap.size w (w.alloc O1)):=gb (j1 _) _;generalize w.alloc O1=w0 at *
 go_loopw [10] (fun iv wr=>∃(i:Nat),i<=gd.length/\iv=.int .i64 i/\Hid (Below w.heap.size w wr)/\Hid ((gd.drop i).any (fun y=>decide (y.kind=5)&&decide (y.place=(c:Int)))=gd.any (fun y=>decide (y.kind=5)&&decide (y.place=(c:Int))))) (fun iv _=>gd.length-(intOf iv).toNat)
 case atStart=>exact⟨0,p7 _,rfl,HB0,zA rfl⟩
 case round =>
  obtain⟨i,hi,rfl,HB,HE⟩:=hrel;have zLD:=HB.out.size;by_cases zKZ:i<gd.length
  ·have ii:(i:Int)<(gd.length:Int):=by omega
   have hpr:=HP.out.below HB.out;obtain⟨gp,rfl,q0⟩:=hpr.at ((zN qN 10 (fun _=>rfl) oO gd i 0 zKZ (by decide)).trans rfl);have hq:=fun j hj v hv=>(hpr.at ((zN qN 10 (fun _=>rfl) oO gd i j zKZ hj).trans hv)).elim fun g' h=>(show gp=g' by simpa using h.1) ▸ (show w.heap.size<=wr.heap.size/\wr.cell? ⟨g',i*10+j,none⟩=some v from ⟨zLD,h.2⟩).2;have q1:=hq 1 (by decide) _ rfl;have q2:=hq 2 (by decide) _ rfl;have q3:=hq 3 (by decide) _ rfl;have q4:=hq 4 (by decide) _ rfl;have q5:=hq 5 (by decide) _ rfl;have q6:=hq 6 (by decide) _ rfl;have q7:=hq 7 (by decide) _ rfl;have q8:=hq 8 (by decide) _ rfl;have q9:=hq 9 (by decide) _ rfl;rw[l9]at q0;have lgp:=yQ q0;have mgp:wr.heap.size≠gp:=by omega
   have hE:=HE.out;rw[Z7 (fun y=>decide (y.kind=5)&&decide (y.place=(c:Int))) oO gd i zKZ]at hE;have HE2:=zA hE;have HBa:Hid (∀o,Below w.heap.size w (wr.alloc o)):=fun o=>HB.out.alloc zLD o;clear HE hE hpr hq;generalize gd.getD i oO=y at *;obtain⟨yk,yl,yr,yp,y2,yo,yn,yb1,yb2,yb3⟩:=y;simp only at q0 q1 q2 q3 q4 q5 q6 q7 q8 q9 HE2;by_cases k1:yk=5
   ·subst k1
    simp only[decide_true,mz]at HE2;by_cases k2:yp=(c:Int)
    ·subst k2
     have HE3:Hid (ans=true):=HE0.out _ (by rw[<-HE2.out];simp);go_wp2_with fail
     go_ret
     exact⟨zF HE3.out.symm,HBa.out _⟩
    ·have b2:(yp==(c:Int))=false:=by simpa using k2
     have HE3:Hid ((gd.drop (i+1)).any (fun y=>decide (y.kind=5)&&decide (y.place=(c:Int)))=gd.any (fun y=>decide (y.kind=5)&&decide (y.place=(c:Int)))):=by have:=HE2.out;rw[ty k2,bf]at this;exact this
     clear k2;go_wp2_with fail
     go_roundw
     case rel=>exact⟨i+1,by omega,by go_num,zA (HBa.out _),HE3⟩
     case measure=>simp[intOf];omega
   ·have b1:(yk==5)=false:=by simpa using k1
    have HE3:Hid ((gd.drop (i+1)).any (fun y=>decide (y.kind=5)&&decide (y.place=(c:Int)))=gd.any (fun y=>decide (y.kind=5)&&decide (y.place=(c:Int)))):=by have:=HE2.out;rw[ty k1,cp,bf]at this;exact this
    clear k1;go_wp2_with fail
    go_roundw
    case rel=>exact⟨i+1,by omega,by go_num,zA (HBa.out _),HE3⟩
    case measure=>simp[intOf];omega
  ·have ii:¬(i:Int)<(gd.length:Int):=by omega
   have HE2:Hid (ans=false):=HE0.out _ (by rw[<-HE.out];exact Kf _ _ _ zKZ);go_wp2_with fail
   go_ret
   exact⟨zF HE2.out.symm,HB.out⟩
theorem Yb(w:World)(x:MX)(c:Nat)(hx:uL w x) :
 Calls Tryz.prog 95 #[uC x,.int .i64 (c:Int)] w fun e w'=>e=.returned (.bool (tL x.1 c))/\Below w.heap.size w w':=by
 obtain⟨pa,pc,e1,hp⟩:=hx.sum;obtain⟨ga,gc,e2,hg⟩:=hx.guard;have HP:=zA hg.cel;have zLE:=hx.few2;obtain⟨⟨lab,cc,ps,gd,root⟩,pv,gv⟩:=x;simp only at e1 e2 HP zLE;subst e1 e2;simp only[uC];have HE0:Hid (∀b,gd.any (pV c)=b->tL ⟨lab,cc,ps,gd,root⟩ c=b):=fun b h=>h;generalize tL ⟨lab,cc,ps,gd,root⟩ c=ans at *;clear hx hp hg
 go_enter Tryz.func95,Tryz.ntmps95
 go_wp2_with fail
 generalize hO1:Obj.cells #[.string ⟨lab.toArray⟩,.int .i64 cc,.slice pa ps.length pc,.slice ga gd.length gc,.int .i64 root] 162=O1 at *;clear hO1;have HB0:Hid (Below w.heap.size w (w.alloc O1)):=gb (j1 _) _;generalize w.alloc O1=w0 at *
 go_loopw [10] (fun iv wr=>∃(i:Nat),i<=gd.length/\iv=.int .i64 i/\Hid (Below w.heap.size w wr)/\Hid ((gd.drop i).any (pV c)=gd.any (pV c))) (fun iv _=>gd.length-(intOf iv).toNat)
 case atStart=>exact⟨0,p7 _,rfl,HB0,zA rfl⟩
 case round =>
  obtain⟨i,hi,rfl,HB,HE⟩:=hrel;have zLD:=HB.out.size;by_cases zKZ:i<gd.length
  ·have ii:(i:Int)<(gd.length:Int):=by omega
   have hpr:=HP.out.below HB.out;obtain⟨gp,rfl,q0⟩:=hpr.at ((zN qN 10 (fun _=>rfl) oO gd i 0 zKZ (by decide)).trans rfl);have hq:=fun j hj v hv=>(hpr.at ((zN qN 10 (fun _=>rfl) oO gd i j zKZ hj).trans hv)).elim fun g' h=>(show gp=g' by simpa using h.1) ▸ (show w.heap.size<=wr.heap.size/\wr.cell? ⟨g',i*10+j,none⟩=some v from ⟨zLD,h.2⟩).2;have q1:=hq 1 (by decide) _ rfl;have q2:=hq 2 (by decide) _ rfl;have q3:=hq 3 (by decide) _ rfl;have q4:=hq 4 (by decide) _ rfl;have q5:=hq 5 (by decide) _ rfl;have q6:=hq 6 (by decide) _ rfl;have q7:=hq 7 (by decide) _ rfl;have q8:=hq 8 (by decide) _ rfl;have q9:=hq 9 (by decide) _ rfl;rw[l9]at q0;have lgp:=yQ q0;have mgp:wr.heap.size≠gp:=by omega
   have hE:=HE.out;rw[Z7 (pV c) oO gd i zKZ]at hE;have HE2:=zA hE;have HBa:Hid (∀o,Below w.heap.size w (wr.alloc o)):=fun o=>HB.out.alloc zLD o;clear HE hE hpr hq;generalize gd.getD i oO=y at *;obtain⟨yk,yl,yr,yp,y2,yo,yn,yb1,yb2,yb3⟩:=y;simp only at q0 q1 q2 q3 q4 q5 q6 q7 q8 q9;unfold pV at HE2;simp only at HE2;have HTr:Hid (∀b,((b || (gd.drop (i+1)).any (pV c))=gd.any (pV c))->b=true->ans=true):=fun b h1 h2=>HE0.out _ (by rw[<-h1,h2];rfl);have HFa:Hid (∀b,((b || (gd.drop (i+1)).any (pV c))=gd.any (pV c))->b=false->(gd.drop (i+1)).any (pV c)=gd.any (pV c)):=fun b h1 h2=>by rw[h2,bf]at h1;exact h1
   by_cases k1:yk=6
   ·subst k1
    simp only[dt]at HE2;by_cases k2:yp=(c:Int)
    ·have HE3:=zA (HTr.out _ HE2.out (tu k2))
     subst k2;clear HTr HFa HE2;go_wp2_with fail
     go_ret
     exact⟨zF HE3.out.symm,HBa.out _⟩
    ·have b2:(yp==(c:Int))=false:=by simpa using k2
     have HE3:=zA (HFa.out _ HE2.out (ty k2));clear k2 HTr HFa HE2;go_wp2_with fail
     go_roundw
     case rel=>exact⟨i+1,by omega,by go_num,zA (HBa.out _),HE3⟩
     case measure=>simp[intOf];omega
   rw[tb k1]at HE2;have b1:(yk==6)=false:=by simpa using k1
   clear k1;by_cases k3:yk=7
   ·subst k3
    simp only[dt]at HE2;by_cases k2:yp=(c:Int)
    ·have HE3:=zA (HTr.out _ HE2.out (by rw[tu k2];rfl))
     subst k2;clear HTr HFa HE2;go_wp2_with fail
     go_ret
     exact⟨zF HE3.out.symm,HBa.out _⟩
    ·have b2:(yp==(c:Int))=false:=by simpa using k2
     rw[ty k2,bf]at HE2;clear k2;cases y2
     ·have HE3:=zA (HFa.out _ HE2.out (by rfl))
      clear HTr HFa HE2;go_wp2_with fail
      go_roundw
      case rel=>exact⟨i+1,by omega,by go_num,zA (HBa.out _),HE3⟩
      case measure=>simp[intOf];omega
     ·by_cases k4:yo=(c:Int)
      ·have HE3:=zA (HTr.out _ HE2.out (by rw[tu k4];rfl))
       subst k4;clear HTr HFa HE2;go_wp2_with fail
       go_ret
       exact⟨zF HE3.out.symm,HBa.out _⟩
      ·have b4:(yo==(c:Int))=false:=by simpa using k4
       have HE3:=zA (HFa.out _ HE2.out (by rw[ty k4];rfl));clear k4 HTr HFa HE2;go_wp2_with fail
       go_roundw
       case rel=>exact⟨i+1,by omega,by go_num,zA (HBa.out _),HE3⟩
       case measure=>simp[intOf];omega
   ·have b3:(yk==7)=false:=by simpa using k3
    have HE3:=zA (HFa.out _ HE2.out (by rw[tb k3]));clear k3 HTr HFa HE2;go_wp2_with fail
    go_roundw
    case rel=>exact⟨i+1,by omega,by go_num,zA (HBa.out _),HE3⟩
    case measure=>simp[intOf];omega
  ·have ii:¬(i:Int)<(gd.length:Int):=by omega
   have HE2:Hid (ans=false):=HE0.out _ (by rw[<-HE.out];exact Kf _ _ _ zKZ);go_wp2_with fail
   go_ret
   exact⟨zF HE2.out.symm,HB.out⟩
def GN(i:Nat)(y:qY):Bool:=decide (y.kind=7)&&(!y.two&&decide (y.place=(i:Int)))
def dE(l:List qY)(i:Nat):List Int:=(l.filter (GN i)).map qY.num
theorem GO(l:List qY)(c i:Nat)(h:i<l.length):dE (l.take (i+1)) c=dE (l.take i) c++(if GN c (l.getD i oO)=true then [(l.getD i oO).num] else []):=by
 unfold dE;rw[cy,dq,bi];congr 1
 rw[pb h,show l.getD i oO=l[i] by simp[List.getD,h]];show ([l[i]].filter (GN c)).map qY.num=_;rw[List.filter_cons,fa];split <;> rfl
theorem zBA(l:List qY)(c:Nat):(dE l c).length<=l.length:=by unfold dE;rw[pi];exact dg _ _
theorem U1(w:World)(x:MX)(c:Nat)(hx:uL w x) :
 Calls Tryz.prog 96 #[uC x,.int .i64 (c:Int)] w fun e w'=>∃v,e=.returned v/\w'.ownsRow w.heap.size 3 1 v (xM x.1 c).length (tQ (xM x.1 c))/\Below w.heap.size w w':=by
 obtain⟨i0,hi0,hz0,hz1,hz2⟩:=info_parts fZ;obtain⟨pa,pc,e1,hp⟩:=hx.sum;obtain⟨ga,gc,e2,hg⟩:=hx.guard;have HP:=zA hg.cel;have zLE:=hx.few2;obtain⟨⟨lab,cc,ps,gd,root⟩,pv,gv⟩:=x;simp only at e1 e2 HP zLE;subst e1 e2;simp only[uC];have HE0:Hid (xM ⟨lab,cc,ps,gd,root⟩ c=dE gd c):=rfl;rw[HE0.out];clear hx hp hg
 go_enter Tryz.func96,Tryz.ntmps96
 go_wp2_with fail
 generalize hO1:Obj.cells #[.string ⟨lab.toArray⟩,.int .i64 cc,.slice pa ps.length pc,.slice ga gd.length gc,.int .i64 root] 162=O1 at *;clear hO1;have HB0:Hid (Below w.heap.size w (w.alloc O1)):=gb (j1 _) _;have hs0:(w.alloc O1).heap.size=w.heap.size+1:=by simp
 have HO0:Hid (((w.alloc O1).alloc (.cells #[] 3)).ownsRow w.heap.size 3 1 (.slice (some ⟨w.heap.size+1,0,none⟩) 0 0) 0 (tQ (dE (gd.take 0) c))):=⟨rfl,.inr ⟨w.heap.size+1,0,#[],rfl,mw _,yS _ _ _ hs0,j1 _,p7 _,rfl,rfl⟩⟩;have HB1:Hid (Below w.heap.size w ((w.alloc O1).alloc (.cells #[] 3))):=HB0.out.alloc (by omega) _;generalize (w.alloc O1).alloc (.cells #[] 3)=w0 at *
 go_loopw [5,12] (fun ov iv wr=>∃(i:Nat),i<=gd.length/\iv=.int .i64 i/\Hid (Below w.heap.size w wr)/\Hid (wr.ownsRow w.heap.size 3 1 ov (dE (gd.take i) c).length (tQ (dE (gd.take i) c)))) (fun _ iv _=>gd.length-(intOf iv).toNat)
 case atStart=>exact⟨0,p7 _,rfl,HB1,HO0⟩
 case round =>
  obtain⟨i,hi,rfl,HB,HO⟩:=hrel;have zLD:=HB.out.size;obtain⟨oa,oc,rfl⟩:=zP HO.out;have hle:(dE (gd.take i) c).length<=i:=p8 (zBA _ _) (by simp;omega);by_cases zKZ:i<gd.length
  ·have ii:(i:Int)<(gd.length:Int):=by omega
   have hpr:=HP.out.below HB.out;obtain⟨gp,rfl,q0⟩:=hpr.at ((zN qN 10 (fun _=>rfl) oO gd i 0 zKZ (by decide)).trans rfl);have hq:=fun j hj v hv=>(hpr.at ((zN qN 10 (fun _=>rfl) oO gd i j zKZ hj).trans hv)).elim fun g' h=>(show gp=g' by simpa using h.1) ▸ (show w.heap.size<=wr.heap.size/\wr.cell? ⟨g',i*10+j,none⟩=some v from ⟨zLD,h.2⟩).2;have q1:=hq 1 (by decide) _ rfl;have q2:=hq 2 (by decide) _ rfl;have q3:=hq 3 (by decide) _ rfl;have q4:=hq 4 (by decide) _ rfl;have q5:=hq 5 (by decide) _ rfl;have q6:=hq 6 (by decide) _ rfl;have q7:=hq 7 (by decide) _ rfl;have q8:=hq 8 (by decide) _ rfl;have q9:=hq 9 (by decide) _ rfl;rw[l9]at q0;have lgp:=yQ q0;have mgp:wr.heap.size≠gp:=by omega
   have HBa:Hid (∀o,Below w.heap.size w (wr.alloc o)):=fun o=>HB.out.alloc zLD o;have HOa:Hid (∀o,(wr.alloc o).ownsRow w.heap.size 3 1 (.slice oa (dE (gd.take i) c).length oc) (dE (gd.take i) c).length (tQ (dE (gd.take i) c))):=fun o=>HO.out.alloc o;have zLM:=zA (GO gd c i zKZ);have HNo:Hid (GN c (gd.getD i oO)=false->dE (gd.take (i+1)) c=dE (gd.take i) c):=fun h=>by rw[zLM.out,h];simp
   have HYes:Hid (GN c (gd.getD i oO)=true->dE (gd.take (i+1)) c=dE (gd.take i) c++[(gd.getD i oO).num]):=fun h=>by rw[zLM.out,tl h]
   clear hpr hq zLM;generalize gd.getD i oO=y at *;obtain⟨yk,yl,yr,yp,y2,yo,yn,yb1,yb2,yb3⟩:=y;unfold GN at HNo HYes;simp only at q0 q1 q2 q3 q4 q5 q6 q7 q8 q9 HYes HNo;have no:∀(b:Bool),(decide (yk=7)&&(!y2&&decide (yp=(c:Int))))=false->dE (gd.take (i+1)) c=dE (gd.take i) c:=fun _ h=>HNo.out h;have HNO:=zA no;clear no;by_cases k1:yk=7
   ·subst k1
    cases y2
    ·by_cases k2:yp=(c:Int)
     ·have HE3:=zA (HYes.out (by rw[tu k2];rfl))
      subst k2;clear HYes HNo HNO
      go_upto_region 6 with fail
      generalize hOn:Obj.cells #[Value.int .i64 7,.int .i64 yl,.int .i64 yr,.int .i64 (c:Int),.bool false,.int .i64 yo,.int .i64 yn,.bool yb1,.bool yb2,.bool yb3] 263=On at *;have hcn:(wr.alloc On).cell? ⟨wr.heap.size,6,none⟩=some (.int .i64 yn):=by rw[<-hOn];exact(zB (zG _ _) 6).trans rfl
      have HBn:=zA (HBa.out On);have HOn2:=zA (HOa.out On);have hsn:(wr.alloc On).heap.size=wr.heap.size+1:=by simp
      clear hOn;generalize wr.alloc On=wn at *;have hszn:w.heap.size<=wn.heap.size:=by omega
      clear hsn
      go_wp2_with (at_builtin;refine wpList_append_own _ rfl _ _ 22 rfl w.heap.size 3 i0 _ 1 8 Tryz.underlying22 hi0 hz0 hz1 hz2 rfl (by decide) _ _ _ rfl (HOn2.out.alloc _) ⟨wn.heap.size,0,none⟩ 1 1 [.int .i64 yn] rfl rfl ?c1 ?c2 ?c3 ?c4 ?c5 ?_)
      case c1=>exact zM _ _ _ _ rfl
      case c2=>intro u hu;simp at hu;subst hu;rfl
      case c3=>unfold maxLen;omega
      case c4=>omega
      case c5=>simp;omega
      intro v' w5 zL5 zL2 _;have HB5:Hid (Below w.heap.size w w5):=(HBn.out.alloc hszn _).grown zL2 (by simp;omega) (zU HOn2.out);have HO5:Hid (w5.ownsRow w.heap.size 3 1 v' (dE (gd.take (i+1)) c).length (tQ (dE (gd.take (i+1)) c))):=by unfold Hid;rw[HE3.out,Gm,tm];exact zL5
      clear zL2 zL5;go_wp2_with fail
      go_roundw
      case rel=>exact⟨i+1,by omega,by go_num,HB5,HO5⟩
      case measure=>simp[intOf];omega
     ·have b2:(yp==(c:Int))=false:=by simpa using k2
      have HE3:=zA (HNO.out true (by rw[ty k2];simp));clear HYes HNo HNO k2;go_wp2_with fail
      go_roundw
      case rel=>exact⟨i+1,by omega,by go_num,zA (HBa.out _),by rw[HE3.out];exact zA (HOa.out _)⟩
      case measure=>simp[intOf];omega
    ·have HE3:=zA (HNO.out true (by simp))
     clear HYes HNo HNO;go_wp2_with fail
     go_roundw
     case rel=>exact⟨i+1,by omega,by go_num,zA (HBa.out _),by rw[HE3.out];exact zA (HOa.out _)⟩
     case measure=>simp[intOf];omega
   ·have b1:(yk==7)=false:=by simpa using k1
    have HE3:=zA (HNO.out true (by rw[ty k1];rfl));clear HYes HNo HNO k1;go_wp2_with fail
    go_roundw
    case rel=>exact⟨i+1,by omega,by go_num,zA (HBa.out _),by rw[HE3.out];exact zA (HOa.out _)⟩
    case measure=>simp[intOf];omega
  ·have ii:¬(i:Int)<(gd.length:Int):=by omega
   have HE3:Hid (dE (gd.take i) c=dE gd c):=by unfold Hid;rw[dw (by omega)]
   go_wp2_with fail
   go_ret
   exact⟨_,rfl,by rw[<-HE3.out];exact HO.out,HB.out⟩
def vY(w:World)(g:Nat)(t:TypeId)(n:Nat)(f:Nat->Value):Prop:=∃cs,w.heap[g]? = some (.cells cs t (0,0))/\∀j,j<n->cs[j]? = some (f j)
theorem vY.cell(h:vY w g t n f)(hj:j<n):w.cell? ⟨g,j,none⟩=some (f j):=by
 obtain⟨cs,h1,h2⟩:=h;exact(zB h1 j).trans (h2 j hj)
theorem vY.free(h:vY w g t n f)(j:Nat):w.frozen? ⟨g,j,none⟩=false:=by
 obtain⟨cs,h1,_⟩:=h;simp[World.frozen?,h1]
theorem vY.lt(h:vY w g t n f):g<w.heap.size:=by
 obtain⟨cs,h1,_⟩:=h;exact zJ h1
theorem vY.below(h:vY w g t n f)(hb:Below w.heap.size w w'):vY w' g t n f:=by
 obtain⟨cs,h1,h2⟩:=h;exact⟨cs,by rw[hb.block g (zJ h1)];exact h1,h2⟩
theorem vY.other(h:vY w g t n f){g':Nat}(v:Value)(zL4:g≠g'):vY (w.setCell ⟨g',j,none⟩ v) g t n f:=by
 obtain⟨cs,h1,h2⟩:=h;exact⟨cs,by rw[ma w ⟨g',j,none⟩ g v zL4];exact h1,h2⟩
theorem vY.set{f':Nat->Value}(h:vY w g t n f)(v:Value)(hj:j<n)(e1:f' j=v)(e2:∀x,x<n->x≠j->f' x=f x):vY (w.setCell ⟨g,j,none⟩ v) g t n f':=by
 obtain⟨cs,h1,h2⟩:=h
 have zL8:j<cs.size:=by
  rcases md j cs.size with h3|h3
  ·exact h3
  ·have:=h2 j hj;rw[mc h3]at this;cases this
 refine⟨_,tr w g j cs t v h1,fun x hx=>?_⟩;by_cases hxj:x=j
 ·subst hxj;rw[e1];simp[zL8]
 ·rw[e2 x hx hxj,Array.getElem?_setIfInBounds,tb (fun e=>hxj e.symm)];exact h2 x hx
theorem vY.cel(h:vY w g t n f):tZ w (some ⟨g,0,none⟩) ((List.range n).map f):=by
 right
 refine⟨g,rfl,fun j hj=>?_⟩;have hj':j<n:=by simpa using hj
 rw[h.cell hj'];simp[hj']
def zC6(z:Int × Int):List Value:=[.int .i64 z.1,.int .i64 z.2]
def dT(l:List (Int × Int)):List Value:=l.flatMap zC6
theorem pQ(a b:List (Int × Int)):dT (a++b)=dT a++dT b:=by unfold dT;rw[lu]
theorem V8:(Tryz.prog.info? 221).map (fun i=>(i.zero,i.size,i.bytes))=some (some (.agg #[.int .i64 0,.int .i64 0]),2,16):=by kernel_rfl
theorem aO(z:Int × Int)(b:Int):(qZ z b).length<=3:=by
 unfold qZ;split
 ·simp
 ·simp only[tm];split <;> split <;> simp
theorem Vc{cs:List Value}(hg:w.heap[g]? = some (.cells cs.toArray t (0,0)))(hB:B<=g)(n:Nat)(hl:cs.length=n*k)(hn:n<=maxLen):w.ownsRow B t k (.slice (some ⟨g,0,none⟩) n n) n cs :=
 ⟨hl,.inr ⟨g,n,cs.toArray,rfl,hB,hg,j1 _,hn,by simp[hl],by simp[<-hl]⟩⟩
theorem zD3(w:World)(z:Int × Int)(b:Int)(hb : -1000000<=b/\b<=1000000) :
 Calls Tryz.prog 172 #[.agg #[.int .i64 z.1,.int .i64 z.2],.int .i64 b] w fun e w'=>∃v,e=.returned v/\w'.ownsRow w.heap.size 221 2 v (qZ z b).length (dT (qZ z b))/\Below w.heap.size w w':=by
 obtain⟨i0,hi0,hz0,hz1,hz2⟩:=info_parts V8;obtain⟨lo,hi⟩:=z;have hw1:wrap64 (b-1)=b-1:=by unfold wrap64;omega
 have hw2:wrap64 (b+1)=b+1:=by unfold wrap64;omega
 have HS:Hid (qZ (lo,hi) b=if b<lo\/hi<b then [(lo,hi)] else ((if lo<b then [(lo,b-1)] else [])++[(b,b)])++(if b<hi then [(b+1,hi)] else [])):=rfl;simp only
 go_enter Tryz.func172,Tryz.ntmps172
 by_cases k0:b<lo\/hi<b
 ·have HE:Hid (qZ (lo,hi) b=[(lo,hi)]):=by unfold Hid;rw[HS.out,tl k0]
  have HF:Hid (∀O:Obj,((w.alloc O).alloc (.cells #[.int .i64 lo,.int .i64 hi] 221)).ownsRow w.heap.size 221 2 (.slice (some ⟨w.heap.size+1,0,none⟩) 1 1) (qZ (lo,hi) b).length (dT (qZ (lo,hi) b))/\Below w.heap.size w ((w.alloc O).alloc (.cells #[.int .i64 lo,.int .i64 hi] 221))):=fun O=>by
   rw[HE.out];exact⟨Vc (cs:=[.int .i64 lo,.int .i64 hi]) (yS _ _ _ (by simp)) (mw _) 1 rfl (by unfold maxLen;omega),(gb (j1 _) _).alloc (by simp) _⟩
  by_cases k1:b<lo
  ·clear k0
   go_wp2_with fail
   go_ret
   exact⟨_,rfl,(HF.out _).1,(HF.out _).2⟩
  ·have k2:hi<b:=k0.resolve_left k1
   clear k0;go_wp2_with fail
   go_ret
   exact⟨_,rfl,(HF.out _).1,(HF.out _).2⟩
 ·have k1:¬b<lo:=fun h=>k0 (.inl h)
  have k2:¬hi<b:=fun h=>k0 (.inr h);have HE:Hid (qZ (lo,hi) b=((if lo<b then [(lo,b-1)] else [])++[(b,b)])++(if b<hi then [(b+1,hi)] else [])):=by unfold Hid;rw[HS.out,tb k0]
  clear k0 HS
  go_upto_region 4 with fail
  generalize hOz:Obj.cells #[Value.int .i64 lo,.int .i64 hi] 221=Oz at *;have hs0:(w.alloc Oz).heap.size=w.heap.size+1:=by simp
  have HO0:Hid (((w.alloc Oz).alloc (.cells #[] 221)).ownsRow (w.heap.size+1) 221 2 (.slice (some ⟨w.heap.size+1,0,none⟩) 0 0) 0 (dT [])):=⟨rfl,.inr ⟨w.heap.size+1,0,#[],rfl,j1 _,yS _ _ _ hs0,j1 _,p7 _,rfl,rfl⟩⟩;have HB0:Hid (Below w.heap.size w ((w.alloc Oz).alloc (.cells #[] 221))):=(gb (j1 _) _).alloc (by omega) _;have HZ0:Hid (((w.alloc Oz).alloc (.cells #[] 221)).heap[w.heap.size]? = some (Obj.cells #[Value.int .i64 lo,.int .i64 hi] 221)):=by unfold Hid;rw[hOz];exact zS (zG _ _)
  have hs1:w.heap.size+2<=((w.alloc Oz).alloc (.cells #[] 221)).heap.size:=by simp
  clear hOz hs0;generalize (w.alloc Oz).alloc (.cells #[] 221)=w0 at *;generalize Value.slice (some ⟨w.heap.size+1,0,none⟩) 0 0=v0 at *;have w0c0:w0.cell? ⟨w.heap.size,0,none⟩=some (.int .i64 lo):=(zB HZ0.out 0).trans rfl;have w0c1:w0.cell? ⟨w.heap.size,1,none⟩=some (.int .i64 hi):=(zB HZ0.out 1).trans rfl;by_cases k3:lo<b
  ·rw[tl k3]at HE
   by_cases k4:b<hi
   ·rw[tl k4]at HE
    go_wp2_with (at_builtin;refine wpList_append_own _ rfl _ _ 218 rfl (w.heap.size+1) 221 i0 _ 2 16 Tryz.underlying218 hi0 hz0 hz1 hz2 rfl (by decide) _ _ _ rfl (HO0.out.alloc _) ⟨w0.heap.size,0,none⟩ 1 1 [.int .i64 lo,.int .i64 (b-1)] rfl rfl ?c1k1 ?c1k2 ?c1k3 ?c1k4 ?c1k5 ?_)
    try (case c1k1=>first|exact zM _ _ _ _ rfl|exact fun _ _ h=>h)
    try (case c1k2=>first|exact⟨rfl,rfl⟩|rfl|(intro u hu;simp at hu;rcases hu with rfl|rfl <;> rfl))
    try (case c1k3=>unfold maxLen;omega)
    try (case c1k4=>omega)
    try (case c1k5=>first|omega|(simp;omega))
    intro v1 w1 zL1 zL2 _;have HBq1:Hid (Below w.heap.size w w1):=(HB0.out.alloc (by omega) _).grown zL2 (by simp;omega) (fun k hk=>by have h1:=(zZ HO0.out k hk).1;omega);have HOq1:Hid (w1.ownsRow (w.heap.size+1) 221 2 v1 (0+1) (dT ([]++[(lo,(b-1))]))):=by unfold Hid;rw[pQ];exact zL1
    have HZq1:Hid (w1.heap[w.heap.size]? = some (Obj.cells #[Value.int .i64 lo,.int .i64 hi] 221)):=by
     unfold Hid;rw[zL2.block w.heap.size (by simp;omega) (fun e=>by have h1:=(zZ HO0.out _ e.symm).1;omega)];exact zS HZ0.out
    have hsq1:w.heap.size+2<=w1.heap.size:=by have h1:=zL2.size;simp at h1;omega
    have w1c0:w1.cell? ⟨w.heap.size,0,none⟩=some (.int .i64 lo):=(zB HZq1.out 0).trans rfl;have w1c1:w1.cell? ⟨w.heap.size,1,none⟩=some (.int .i64 hi):=(zB HZq1.out 1).trans rfl;clear zL1 zL2
    go_wp2_with (at_builtin;refine wpList_append_own _ rfl _ _ 218 rfl (w.heap.size+1) 221 i0 _ 2 16 Tryz.underlying218 hi0 hz0 hz1 hz2 rfl (by decide) _ _ _ rfl (HOq1.out.alloc _) ⟨w1.heap.size,0,none⟩ 1 1 [.int .i64 b,.int .i64 b] rfl rfl ?c2k1 ?c2k2 ?c2k3 ?c2k4 ?c2k5 ?_)
    try (case c2k1=>first|exact zM _ _ _ _ rfl|exact fun _ _ h=>h)
    try (case c2k2=>first|exact⟨rfl,rfl⟩|rfl|(intro u hu;simp at hu;rcases hu with rfl|rfl <;> rfl))
    try (case c2k3=>unfold maxLen;omega)
    try (case c2k4=>omega)
    try (case c2k5=>first|omega|(simp;omega))
    intro v2 w2 zL1 zL2 _;have HBq2:Hid (Below w.heap.size w w2):=(HBq1.out.alloc (by omega) _).grown zL2 (by simp;omega) (fun k hk=>by have h1:=(zZ HOq1.out k hk).1;omega);have HOq2:Hid (w2.ownsRow (w.heap.size+1) 221 2 v2 (1+1) (dT (([]++[(lo,(b-1))])++[(b,b)]))):=by unfold Hid;rw[pQ];exact zL1
    have HZq2:Hid (w2.heap[w.heap.size]? = some (Obj.cells #[Value.int .i64 lo,.int .i64 hi] 221)):=by
     unfold Hid;rw[zL2.block w.heap.size (by simp;omega) (fun e=>by have h1:=(zZ HOq1.out _ e.symm).1;omega)];exact zS HZq1.out
    have hsq2:w.heap.size+2<=w2.heap.size:=by have h1:=zL2.size;simp at h1;omega
    have w2c0:w2.cell? ⟨w.heap.size,0,none⟩=some (.int .i64 lo):=(zB HZq2.out 0).trans rfl;have w2c1:w2.cell? ⟨w.heap.size,1,none⟩=some (.int .i64 hi):=(zB HZq2.out 1).trans rfl;clear zL1 zL2
    go_wp2_with (at_builtin;refine wpList_append_own _ rfl _ _ 218 rfl (w.heap.size+1) 221 i0 _ 2 16 Tryz.underlying218 hi0 hz0 hz1 hz2 rfl (by decide) _ _ _ rfl (HOq2.out.alloc _) ⟨w2.heap.size,0,none⟩ 1 1 [.int .i64 (b+1),.int .i64 hi] rfl rfl ?c3k1 ?c3k2 ?c3k3 ?c3k4 ?c3k5 ?_)
    try (case c3k1=>first|exact zM _ _ _ _ rfl|exact fun _ _ h=>h)
    try (case c3k2=>first|exact⟨rfl,rfl⟩|rfl|(intro u hu;simp at hu;rcases hu with rfl|rfl <;> rfl))
    try (case c3k3=>unfold maxLen;omega)
    try (case c3k4=>omega)
    try (case c3k5=>first|omega|(simp;omega))
    intro v3 w3 zL1 zL2 _;have HBq3:Hid (Below w.heap.size w w3):=(HBq2.out.alloc (by omega) _).grown zL2 (by simp;omega) (fun k hk=>by have h1:=(zZ HOq2.out k hk).1;omega);have HOq3:Hid (w3.ownsRow (w.heap.size+1) 221 2 v3 (2+1) (dT ((([]++[(lo,(b-1))])++[(b,b)])++[((b+1),hi)]))):=by unfold Hid;rw[pQ];exact zL1
    have HZq3:Hid (w3.heap[w.heap.size]? = some (Obj.cells #[Value.int .i64 lo,.int .i64 hi] 221)):=by
     unfold Hid;rw[zL2.block w.heap.size (by simp;omega) (fun e=>by have h1:=(zZ HOq2.out _ e.symm).1;omega)];exact zS HZq2.out
    have hsq3:w.heap.size+2<=w3.heap.size:=by have h1:=zL2.size;simp at h1;omega
    have w3c0:w3.cell? ⟨w.heap.size,0,none⟩=some (.int .i64 lo):=(zB HZq3.out 0).trans rfl;have w3c1:w3.cell? ⟨w.heap.size,1,none⟩=some (.int .i64 hi):=(zB HZq3.out 1).trans rfl;clear zL1 zL2;go_wp2_with fail
    go_ret
    exact⟨_,rfl,by rw[HE.out];exact yT HOq3.out (mw _),HBq3.out⟩
   ·rw[tb k4]at HE
    go_wp2_with (at_builtin;refine wpList_append_own _ rfl _ _ 218 rfl (w.heap.size+1) 221 i0 _ 2 16 Tryz.underlying218 hi0 hz0 hz1 hz2 rfl (by decide) _ _ _ rfl (HO0.out.alloc _) ⟨w0.heap.size,0,none⟩ 1 1 [.int .i64 lo,.int .i64 (b-1)] rfl rfl ?c4k1 ?c4k2 ?c4k3 ?c4k4 ?c4k5 ?_)
    try (case c4k1=>first|exact zM _ _ _ _ rfl|exact fun _ _ h=>h)
    try (case c4k2=>first|exact⟨rfl,rfl⟩|rfl|(intro u hu;simp at hu;rcases hu with rfl|rfl <;> rfl))
    try (case c4k3=>unfold maxLen;omega)
    try (case c4k4=>omega)
    try (case c4k5=>first|omega|(simp;omega))
    intro v1 w1 zL1 zL2 _;have HBq1:Hid (Below w.heap.size w w1):=(HB0.out.alloc (by omega) _).grown zL2 (by simp;omega) (fun k hk=>by have h1:=(zZ HO0.out k hk).1;omega);have HOq1:Hid (w1.ownsRow (w.heap.size+1) 221 2 v1 (0+1) (dT ([]++[(lo,(b-1))]))):=by unfold Hid;rw[pQ];exact zL1
    have HZq1:Hid (w1.heap[w.heap.size]? = some (Obj.cells #[Value.int .i64 lo,.int .i64 hi] 221)):=by
     unfold Hid;rw[zL2.block w.heap.size (by simp;omega) (fun e=>by have h1:=(zZ HO0.out _ e.symm).1;omega)];exact zS HZ0.out
    have hsq1:w.heap.size+2<=w1.heap.size:=by have h1:=zL2.size;simp at h1;omega
    have w1c0:w1.cell? ⟨w.heap.size,0,none⟩=some (.int .i64 lo):=(zB HZq1.out 0).trans rfl;have w1c1:w1.cell? ⟨w.heap.size,1,none⟩=some (.int .i64 hi):=(zB HZq1.out 1).trans rfl;clear zL1 zL2
    go_wp2_with (at_builtin;refine wpList_append_own _ rfl _ _ 218 rfl (w.heap.size+1) 221 i0 _ 2 16 Tryz.underlying218 hi0 hz0 hz1 hz2 rfl (by decide) _ _ _ rfl (HOq1.out.alloc _) ⟨w1.heap.size,0,none⟩ 1 1 [.int .i64 b,.int .i64 b] rfl rfl ?c5k1 ?c5k2 ?c5k3 ?c5k4 ?c5k5 ?_)
    try (case c5k1=>first|exact zM _ _ _ _ rfl|exact fun _ _ h=>h)
    try (case c5k2=>first|exact⟨rfl,rfl⟩|rfl|(intro u hu;simp at hu;rcases hu with rfl|rfl <;> rfl))
    try (case c5k3=>unfold maxLen;omega)
    try (case c5k4=>omega)
    try (case c5k5=>first|omega|(simp;omega))
    intro v2 w2 zL1 zL2 _;have HBq2:Hid (Below w.heap.size w w2):=(HBq1.out.alloc (by omega) _).grown zL2 (by simp;omega) (fun k hk=>by have h1:=(zZ HOq1.out k hk).1;omega);have HOq2:Hid (w2.ownsRow (w.heap.size+1) 221 2 v2 (1+1) (dT (([]++[(lo,(b-1))])++[(b,b)]))):=by unfold Hid;rw[pQ];exact zL1
    have HZq2:Hid (w2.heap[w.heap.size]? = some (Obj.cells #[Value.int .i64 lo,.int .i64 hi] 221)):=by
     unfold Hid;rw[zL2.block w.heap.size (by simp;omega) (fun e=>by have h1:=(zZ HOq1.out _ e.symm).1;omega)];exact zS HZq1.out
    have hsq2:w.heap.size+2<=w2.heap.size:=by have h1:=zL2.size;simp at h1;omega
    have w2c0:w2.cell? ⟨w.heap.size,0,none⟩=some (.int .i64 lo):=(zB HZq2.out 0).trans rfl;have w2c1:w2.cell? ⟨w.heap.size,1,none⟩=some (.int .i64 hi):=(zB HZq2.out 1).trans rfl;clear zL1 zL2;go_wp2_with fail
    go_ret
    exact⟨_,rfl,by rw[HE.out];exact yT HOq2.out (mw _),HBq2.out⟩
  ·rw[tb k3]at HE
   by_cases k4:b<hi
   ·rw[tl k4]at HE
    go_wp2_with (at_builtin;refine wpList_append_own _ rfl _ _ 218 rfl (w.heap.size+1) 221 i0 _ 2 16 Tryz.underlying218 hi0 hz0 hz1 hz2 rfl (by decide) _ _ _ rfl (HO0.out.alloc _) ⟨w0.heap.size,0,none⟩ 1 1 [.int .i64 b,.int .i64 b] rfl rfl ?c6k1 ?c6k2 ?c6k3 ?c6k4 ?c6k5 ?_)
    try (case c6k1=>first|exact zM _ _ _ _ rfl|exact fun _ _ h=>h)
    try (case c6k2=>first|exact⟨rfl,rfl⟩|rfl|(intro u hu;simp at hu;rcases hu with rfl|rfl <;> rfl))
    try (case c6k3=>unfold maxLen;omega)
    try (case c6k4=>omega)
    try (case c6k5=>first|omega|(simp;omega))
    intro v1 w1 zL1 zL2 _;have HBq1:Hid (Below w.heap.size w w1):=(HB0.out.alloc (by omega) _).grown zL2 (by simp;omega) (fun k hk=>by have h1:=(zZ HO0.out k hk).1;omega);have HOq1:Hid (w1.ownsRow (w.heap.size+1) 221 2 v1 (0+1) (dT ([]++[(b,b)]))):=by unfold Hid;rw[pQ];exact zL1
    have HZq1:Hid (w1.heap[w.heap.size]? = some (Obj.cells #[Value.int .i64 lo,.int .i64 hi] 221)):=by
     unfold Hid;rw[zL2.block w.heap.size (by simp;omega) (fun e=>by have h1:=(zZ HO0.out _ e.symm).1;omega)];exact zS HZ0.out
    have hsq1:w.heap.size+2<=w1.heap.size:=by have h1:=zL2.size;simp at h1;omega
    have w1c0:w1.cell? ⟨w.heap.size,0,none⟩=some (.int .i64 lo):=(zB HZq1.out 0).trans rfl;have w1c1:w1.cell? ⟨w.heap.size,1,none⟩=some (.int .i64 hi):=(zB HZq1.out 1).trans rfl;clear zL1 zL2
    go_wp2_with (at_builtin;refine wpList_append_own _ rfl _ _ 218 rfl (w.heap.size+1) 221 i0 _ 2 16 Tryz.underlying218 hi0 hz0 hz1 hz2 rfl (by decide) _ _ _ rfl (HOq1.out.alloc _) ⟨w1.heap.size,0,none⟩ 1 1 [.int .i64 (b+1),.int .i64 hi] rfl rfl ?c7k1 ?c7k2 ?c7k3 ?c7k4 ?c7k5 ?_)
    try (case c7k1=>first|exact zM _ _ _ _ rfl|exact fun _ _ h=>h)
    try (case c7k2=>first|exact⟨rfl,rfl⟩|rfl|(intro u hu;simp at hu;rcases hu with rfl|rfl <;> rfl))
    try (case c7k3=>unfold maxLen;omega)
    try (case c7k4=>omega)
    try (case c7k5=>first|omega|(simp;omega))
    intro v2 w2 zL1 zL2 _;have HBq2:Hid (Below w.heap.size w w2):=(HBq1.out.alloc (by omega) _).grown zL2 (by simp;omega) (fun k hk=>by have h1:=(zZ HOq1.out k hk).1;omega);have HOq2:Hid (w2.ownsRow (w.heap.size+1) 221 2 v2 (1+1) (dT (([]++[(b,b)])++[((b+1),hi)]))):=by unfold Hid;rw[pQ];exact zL1
    have HZq2:Hid (w2.heap[w.heap.size]? = some (Obj.cells #[Value.int .i64 lo,.int .i64 hi] 221)):=by
     unfold Hid;rw[zL2.block w.heap.size (by simp;omega) (fun e=>by have h1:=(zZ HOq1.out _ e.symm).1;omega)];exact zS HZq1.out
    have hsq2:w.heap.size+2<=w2.heap.size:=by have h1:=zL2.size;simp at h1;omega
    have w2c0:w2.cell? ⟨w.heap.size,0,none⟩=some (.int .i64 lo):=(zB HZq2.out 0).trans rfl;have w2c1:w2.cell? ⟨w.heap.size,1,none⟩=some (.int .i64 hi):=(zB HZq2.out 1).trans rfl;clear zL1 zL2;go_wp2_with fail
    go_ret
    exact⟨_,rfl,by rw[HE.out];exact yT HOq2.out (mw _),HBq2.out⟩
   ·rw[tb k4]at HE
    go_wp2_with (at_builtin;refine wpList_append_own _ rfl _ _ 218 rfl (w.heap.size+1) 221 i0 _ 2 16 Tryz.underlying218 hi0 hz0 hz1 hz2 rfl (by decide) _ _ _ rfl (HO0.out.alloc _) ⟨w0.heap.size,0,none⟩ 1 1 [.int .i64 b,.int .i64 b] rfl rfl ?c8k1 ?c8k2 ?c8k3 ?c8k4 ?c8k5 ?_)
    try (case c8k1=>first|exact zM _ _ _ _ rfl|exact fun _ _ h=>h)
    try (case c8k2=>first|exact⟨rfl,rfl⟩|rfl|(intro u hu;simp at hu;rcases hu with rfl|rfl <;> rfl))
    try (case c8k3=>unfold maxLen;omega)
    try (case c8k4=>omega)
    try (case c8k5=>first|omega|(simp;omega))
    intro v1 w1 zL1 zL2 _;have HBq1:Hid (Below w.heap.size w w1):=(HB0.out.alloc (by omega) _).grown zL2 (by simp;omega) (fun k hk=>by have h1:=(zZ HO0.out k hk).1;omega);have HOq1:Hid (w1.ownsRow (w.heap.size+1) 221 2 v1 (0+1) (dT ([]++[(b,b)]))):=by unfold Hid;rw[pQ];exact zL1
    have HZq1:Hid (w1.heap[w.heap.size]? = some (Obj.cells #[Value.int .i64 lo,.int .i64 hi] 221)):=by
     unfold Hid;rw[zL2.block w.heap.size (by simp;omega) (fun e=>by have h1:=(zZ HO0.out _ e.symm).1;omega)];exact zS HZ0.out
    have hsq1:w.heap.size+2<=w1.heap.size:=by have h1:=zL2.size;simp at h1;omega
    have w1c0:w1.cell? ⟨w.heap.size,0,none⟩=some (.int .i64 lo):=(zB HZq1.out 0).trans rfl;have w1c1:w1.cell? ⟨w.heap.size,1,none⟩=some (.int .i64 hi):=(zB HZq1.out 1).trans rfl;clear zL1 zL2;go_wp2_with fail
    go_ret
    exact⟨_,rfl,by rw[HE.out];exact yT HOq1.out (mw _),HBq1.out⟩
theorem KJ(zs:List (Int × Int))(b:Int)(i:Nat)(h:i<zs.length):vB (zs.take (i+1)) b=vB (zs.take i) b++qZ (zs.getD i (0,0)) b:=by
 unfold vB;rw[cy,lu,pb h,show zs.getD i (0,0)=zs[i] by simp[List.getD,h]];simp
theorem UO(zs:List (Int × Int))(b:Int):(vB zs b).length<=3*zs.length:=by
 unfold vB
 induction zs with
 | nil=>simp
 | cons z r ih=>rw[bh,tm,pf];have:=aO z b;omega
theorem zx{a:Option Addr}{l:List (Int × Int)}(h:tZ w a (dT l)){i:Nat}(hi:i<l.length):∃g,a=some ⟨g,0,none⟩/\w.cell? ⟨g,i*2,none⟩=some (.int .i64 (l.getD i (0,0)).1)/\w.cell? ⟨g,i*2+1,none⟩=some (.int .i64 (l.getD i (0,0)).2):=by
 obtain⟨g,e,c0⟩:=h.at ((zN zC6 2 (fun _=>rfl) (0,0) l i 0 hi (by decide)).trans rfl);obtain⟨g',e',c1⟩:=h.at ((zN zC6 2 (fun _=>rfl) (0,0) l i 1 hi (by decide)).trans rfl);obtain rfl:g=g':=by rw[e]at e';simpa using e'
 exact⟨g,e,c0,c1⟩
structure Js(zs:List (Int × Int)):Prop where
 ok:∀z∈zs,z.1<=z.2
 up:zs.Pairwise fun z z'=>z.2<z'.1
theorem ZK(h:z.1<=z.2)(b:Int):Js (qZ z b):=by
 unfold qZ;by_cases h1:b<z.1\/z.2<b
 ·rw[tl h1];exact⟨fun x hx=>by simp at hx;subst hx;exact h,List.pairwise_singleton _ _⟩
 ·rw[tb h1]
  by_cases h2:z.1<b <;> by_cases h3:b<z.2 <;> simp only[h2,h3,dt,if_false,db,mt,cf] <;>
   refine⟨fun x hx=>?_,?_⟩ <;> (try (simp at hx;(try rcases hx with rfl|rfl|rfl) <;> (try rcases hx with rfl|rfl) <;> (try subst hx) <;> simp <;> omega)) <;> simp <;> omega
theorem Js.split(h:Js zs)(b:Int):Js (vB zs b):=by
 refine⟨fun x hx=>?_,List.pairwise_flatMap.2 ⟨fun z hz=>(ZK (h.ok z hz) b).up,h.up.imp fun {z z'} hzz x hx y hy=>?_⟩⟩
 ·obtain⟨z,hz,hx⟩:=bj.1 hx
  exact(ZK (h.ok z hz) b).ok x hx
 ·have:=gX hx
  have:=gX hy;omega
theorem aN{b:Int}(h:b<z.1\/z.2<b):qZ z b=[z]:=by unfold qZ;rw[tl h]
theorem KI{b:Int}(h:∀z∈zs,b<z.1):(vB zs b).length=zs.length:=by
 unfold vB
 induction zs with
 | nil=>rfl
 | cons z r ih=>rw[bh,aN (.inl (h z (by simp))),tm,ih fun x hx=>h x (by simp[hx])];simp;omega
theorem Fq(h:Js zs)(b:Int):(vB zs b).length<=zs.length+2:=by
 induction zs with
 | nil=>simp[vB]
 | cons z r ih =>
   have hu:=List.pairwise_cons.1 h.up;have e:vB (z::r) b=qZ z b++vB r b:=by unfold vB;rw[bh]
   rw[e,tm,pf];by_cases h1:b<z.1\/z.2<b
   ·rw[aN h1]
    have:=ih ⟨fun x hx=>h.ok x (by simp[hx]),hu.2⟩;simp;omega
   ·have h2:=KI (zs:=r) (b:=b) fun x hx=>by have:=hu.1 x hx;omega
    have h3:=aO z b;omega
theorem eS(zs:List (Int × Int))(l:List Int)(x:Int):xQ zs (l++[x])=vB (xQ zs l) x:=by unfold xQ;rw[List.foldl_append];rfl
def zb(zs:List (Int × Int)):Prop:=Js zs\/∃z,zs=[z]/\z.2<z.1
theorem zb.split(h:zb zs)(b:Int):zb (vB zs b)/\(vB zs b).length<=zs.length+2:=by
 rcases h with h|⟨z,rfl,hz⟩
 ·exact⟨.inl (h.split b),Fq h b⟩
 ·have e:vB [z] b=[z]:=by unfold vB;rw[bh,aN (by omega)];rfl
  rw[e];exact⟨.inr ⟨z,rfl,hz⟩,by simp⟩
theorem JY(lo hi:Int):zb [(lo,hi)]:=by
 by_cases h:lo<=hi
 ·exact .inl ⟨fun z hz=>by simp at hz;subst hz;exact h,List.pairwise_singleton _ _⟩
 ·exact .inr ⟨_,rfl,by show hi<lo;omega⟩
theorem cK(h:zb zs)(l:List Int):∀i,i<=l.length->zb (xQ zs (l.take i))/\(xQ zs (l.take i)).length<=zs.length+2*i:=by
 intro i
 induction i with
 | zero=>intro _;simp only[List.take_zero];exact⟨h,by simp[xQ]⟩
 | succ i ih =>
   intro hi;obtain⟨h1,h2⟩:=ih (by omega);rw[cy,pb (by omega),Option.toList_some,eS];obtain⟨h3,h4⟩:=h1.split l[i];exact⟨h3,by omega⟩
theorem ZJ(zs:List (Int × Int))(l:List Int)(i:Nat)(h:i<l.length):xQ zs (l.take (i+1))=vB (xQ zs (l.take i)) (l.getD i 0):=by
 rw[cy,pb h,Option.toList_some,eS];simp[List.getD,h]
theorem yb(l:List (Int × Int))(i:Nat)(h:i<l.length):dT (l.take (i+1))=dT (l.take i)++[.int .i64 (l.getD i (0,0)).1,.int .i64 (l.getD i (0,0)).2]:=by
 rw[cy,pQ,pb h];simp[dT,zC6,List.getD,h]
theorem YK(w:World)(a:Option Addr)(c:Nat)(zs:List (Int × Int))(b:Int)(hb : -1000000<=b/\b<=1000000)(hz:tZ w a (dT zs))(hf:zs.length<=100000) :
 Calls Tryz.prog 141 #[.slice a zs.length c,.int .i64 b] w fun e w'=>∃v,e=.returned v/\w'.ownsRow w.heap.size 221 2 v (vB zs b).length (dT (vB zs b))/\Below w.heap.size w w':=by
 obtain⟨i0,hi0,hz0,hz1,hz2⟩:=info_parts V8;have HZ:=zA hz;have HSp:=zA (fun w' z=>zD3 w' z b hb);clear hz hb
 go_enter Tryz.func141,Tryz.ntmps141
 go_wp2_with fail
 have HO0:Hid ((w.alloc (.cells #[] 221)).ownsRow w.heap.size 221 2 (.slice (some ⟨w.heap.size,0,none⟩) 0 0) (vB (zs.take 0) b).length (dT (vB (zs.take 0) b))):=⟨rfl,.inr ⟨w.heap.size,0,#[],rfl,j1 _,zG _ _,j1 _,p7 _,rfl,rfl⟩⟩;have HB0:Hid (Below w.heap.size w (w.alloc (.cells #[] 221))):=gb (j1 _) _;generalize w.alloc (.cells #[] 221)=w0 at *
 go_loopw [5,13] (fun ov iv wr=>∃(i:Nat),i<=zs.length/\iv=.int .i64 i/\Hid (Below w.heap.size w wr)/\Hid (wr.ownsRow w.heap.size 221 2 ov (vB (zs.take i) b).length (dT (vB (zs.take i) b)))) (fun _ iv _=>zs.length-(intOf iv).toNat)
 case atStart=>exact⟨0,p7 _,rfl,HB0,HO0⟩
 case round =>
  obtain⟨i,hi,rfl,HB,HO⟩:=hrel;have zLD:=HB.out.size;obtain⟨oa,oc,rfl⟩:=zP HO.out;by_cases zKZ:i<zs.length
  ·have ii:(i:Int)<(zs.length:Int):=by omega
   obtain⟨g,rfl,q0,q1⟩:=zx (HZ.out.below HB.out) zKZ;have lg:=yQ q0;have ng:wr.heap.size≠g:=by omega
   have zLM:=zA (KJ zs b i zKZ);have hle:(vB (zs.take i) b).length<=300000:=p8 (UO _ _) (by simp;omega);have hl3:=aO (zs.getD i (0,0)) b;have HS1:=zA (fun w'=>HSp.out w' (zs.getD i (0,0)));have HBa:Hid (∀o,Below w.heap.size w (wr.alloc o)):=fun o=>HB.out.alloc zLD o;have HOa:Hid (∀o,(wr.alloc o).ownsRow w.heap.size 221 2 (.slice oa (vB (zs.take i) b).length oc) (vB (zs.take i) b).length (dT (vB (zs.take i) b))):=fun o=>HO.out.alloc o;generalize vB (zs.take i) b=A0 at *;generalize qZ (zs.getD i (0,0)) b=P at *;generalize zs.getD i (0,0)=z at *;obtain⟨zl,zh⟩:=z;simp only at q0 q1 HS1;go_wp2_with fail
   generalize hOz:Obj.cells #[Value.int .i64 zl,.int .i64 zh] 221=Oz at *;have HBn:=zA (HBa.out Oz);have HOn:=zA (HOa.out Oz);have hsn:w.heap.size<=(wr.alloc Oz).heap.size:=by simp;omega
   clear hOz HBa HOa;generalize wr.alloc Oz=wn at *;refine(HS1.out wn).mono ?_;rintro e w2 ⟨v,rfl,hp2,hb2⟩;obtain⟨pa,pc,rfl⟩:=zP hp2;have HB2:Hid (Below w.heap.size w w2):=HBn.out.trans (hb2.mono hsn);have hs2:=hb2.size
   have HO2:Hid (w2.ownsRow w.heap.size 221 2 (.slice oa A0.length oc) A0.length (dT (A0++P.take 0))):=by
    rw[List.take_zero,mt];refine⟨HOn.out.1,?_⟩;rcases HOn.out.2 with k|⟨g',cap,yK,k1,k2,k3,k4⟩
    ·exact .inl k
    ·exact .inr ⟨g',cap,yK,k1,k2,by rw[hb2.block g' (zJ k3)];exact k3,k4⟩
   have HPb:Hid (∀j,j<P.length->∃pg,pa=some ⟨pg,0,none⟩/\wn.heap.size<=pg/\pg<w2.heap.size):=fun j hj=>by
    rcases hp2.2 with ⟨k1,k2⟩|⟨g',cap,yK,k1,k2,k3,k4⟩
    ·omega
    ·simp only[cr]at k1
     exact⟨g',k1.1,k2,zJ k3⟩
   obtain⟨pa',pc',e1,zLP,-,-⟩:=gY hp2;simp only[cr]at e1;obtain⟨rfl,-,rfl⟩:=e1;have HCl:=zA zLP
   have HNe:Hid (∀k pg,(Value.slice oa A0.length oc).ownBlock=some k->pa=some ⟨pg,0,none⟩->k≠pg):=fun k pg h1 h2=>by
    have h3:=(zZ HOn.out k h1).2;intro e;rcases hp2.2 with ⟨k1,k2⟩|⟨g',cap,yK,k1,k2,k3,k4⟩
    ·simp only[cr]at k1;rw[k1.1]at h2;cases h2
    ·simp only[cr]at k1;rw[k1.1]at h2;simp at h2;(try omega)
   clear hp2 zLP hb2;have hP3:=hl3;go_wp2_with fail
   generalize hwr:wr=wrr at *;clear hwr
   go_loopw [5,21] (fun ov iv wr=>∃(j:Nat),j<=P.length/\iv=.int .i64 j/\Hid (Below w.heap.size w wr)/\Hid (wr.ownsRow w.heap.size 221 2 ov (A0.length+j) (dT (A0++P.take j)))/\Hid (tZ wr pa (dT P))/\Hid (∀k pg,ov.ownBlock=some k->pa=some ⟨pg,0,none⟩->k≠pg)/\w2.heap.size<=wr.heap.size) (fun _ iv _=>P.length-(intOf iv).toNat)
   case atStart=>exact⟨0,p7 _,rfl,HB2,HO2,HCl,HNe,j1 _⟩
   case round =>
    obtain⟨j,hj,rfl,HBj,HOj,HCj,HNj,hsj⟩:=hrel;have hszj:=HBj.out.size;obtain⟨va,vc,rfl⟩:=zP HOj.out;by_cases zLH:j<P.length
    ·have jj:(j:Int)<(P.length:Int):=by omega
     obtain⟨pg,rfl,hpg1,hpg2⟩:=HPb.out j zLH;obtain⟨pg',e3,r0,r1⟩:=zx HCj.out zLH;obtain rfl:pg=pg':=by simpa using e3
     have lpg:=yQ r0;have npg:wr.heap.size≠pg:=by omega
     have HPt:=zA (yb P j zLH);generalize P.getD j (0,0)=y at *;obtain⟨yl,yh⟩:=y;simp only at r0 r1 HPt;have HOa:Hid (∀o,(wr.alloc o).ownsRow w.heap.size 221 2 (.slice va (A0.length+j) vc) (A0.length+j) (dT (A0++P.take j))):=fun o=>HOj.out.alloc o;have HBa:Hid (∀o,Below w.heap.size w (wr.alloc o)):=fun o=>HBj.out.alloc hszj o;have HCa:Hid (∀o,tZ (wr.alloc o) (some ⟨pg,0,none⟩) (dT P)):=fun o=>HCj.out.below (gb (j1 _) o)
     go_upto_region 8 with fail
     generalize hOy:Obj.cells #[Value.int .i64 yl,.int .i64 yh] 221=Oy at *;have hcy0:(wr.alloc Oy).cell? ⟨wr.heap.size,0,none⟩=some (.int .i64 yl):=by rw[<-hOy];exact(zB (zG _ _) 0).trans rfl
     have hcy1:(wr.alloc Oy).cell? ⟨wr.heap.size,1,none⟩=some (.int .i64 yh):=by rw[<-hOy];exact(zB (zG _ _) 1).trans rfl
     have HOy:=zA (HOa.out Oy);have HBy:=zA (HBa.out Oy);have HCy:=zA (HCa.out Oy);have hsy:(wr.alloc Oy).heap.size=wr.heap.size+1:=by simp
     have hsy2:w.heap.size<=(wr.alloc Oy).heap.size:=by omega
     have hsy3:pg<(wr.alloc Oy).heap.size:=by omega
     have hsy4:w2.heap.size<=(wr.alloc Oy).heap.size:=by omega
     clear hOy HOa HBa HCa hsy;generalize wr.alloc Oy=wy at *
     go_wp2_with (at_builtin;refine wpList_append_own_at _ rfl _ _ 218 rfl w.heap.size 221 i0 _ 2 16 Tryz.underlying218 hi0 hz0 hz1 hz2 rfl (by decide) _ _ _ rfl (HOy.out.alloc _) ⟨wy.heap.size,0,none⟩ 1 1 [.int .i64 yl,.int .i64 yh] rfl rfl ?c9k1 ?c9k2 ?c9k3 ?c9k4 ?c9k5 ?_)
     try (case c9k1=>first|exact zM _ _ _ _ rfl|exact fun _ _ h=>h)
     try (case c9k2=>first|exact⟨rfl,rfl⟩|rfl|(intro u hu;simp at hu;rcases hu with rfl|rfl <;> rfl))
     try (case c9k3=>unfold maxLen;omega)
     try (case c9k4=>omega)
     try (case c9k5=>first|omega|(simp;omega))
     intro v3 w3 zL1 zL2 _ hat;have HB3:Hid (Below w.heap.size w w3):=(HBy.out.alloc hsy2 _).grown zL2 (by simp;omega) (zU HOy.out)
     have HO3:Hid (w3.ownsRow w.heap.size 221 2 v3 (A0.length+(j+1)) (dT (A0++P.take (j+1)))):=by
      unfold Hid;rw[pQ,HPt.out,<-pt,<-pQ,<-dc];exact zL1
     have HC3:Hid (tZ w3 (some ⟨pg,0,none⟩) (dT P)):=by
      rcases HCy.out with k|⟨g',k1,k2⟩
      ·exact .inl k
      ·simp at k1;subst k1
       refine .inr ⟨pg,rfl,fun x hx=>?_⟩;rw[<-k2 x hx];rw[bm (w:=wy.alloc _) (a:=⟨pg,x,none⟩) (zL2.block pg (by simp;omega) (fun e=>HNj.out pg pg e.symm rfl rfl))];exact bm (w:=wy) (a:=⟨pg,x,none⟩) (li _ _ _ hsy3)
     have HN3:Hid (∀k pg',v3.ownBlock=some k->(some ⟨pg,0,none⟩:Option Addr)=some ⟨pg',0,none⟩->k≠pg'):=fun k pg' h1 h2=>by
      simp at h2;subst h2;rcases hat with h3|h3
      ·exact HNj.out k pg (h3 ▸ h1) rfl
      ·rw[h3]at h1;simp at h1;omega
     have hs3:w2.heap.size<=w3.heap.size:=by have:=zL2.size;simp at this;omega
     clear zL1 zL2 hat hcy0 hcy1;go_wp2_with fail
     go_roundw
     case rel=>exact⟨j+1,by omega,by go_num,HB3,HO3,HC3,HN3,hs3⟩
     case measure=>simp[intOf];omega
    ·have jj:¬(j:Int)<(P.length:Int):=by omega
     obtain rfl:j=P.length:=by omega
     have HO4:Hid (wr.ownsRow w.heap.size 221 2 (.slice va (A0.length+P.length) vc) (vB (zs.take (i+1)) b).length (dT (vB (zs.take (i+1)) b))):=by
      have:=HOj.out;rw[bw]at this;unfold Hid;rw[zLM.out,tm];exact this
     go_wp2_with fail
     go_roundw
     case rel=>exact⟨i+1,by omega,by go_num,HBj,HO4⟩
     case measure=>simp[intOf];omega
  ·have ii:¬(i:Int)<(zs.length:Int):=by omega
   have HE3:Hid (vB (zs.take i) b=vB zs b):=by unfold Hid;rw[dw (by omega)]
   go_wp2_with fail
   go_ret
   exact⟨_,rfl,by rw[<-HE3.out];exact HO.out,HB.out⟩
theorem DV(w:World)(x:zQ)(ea la:Option Addr)(ec lc:Nat)(eb lb:List Int)(he:jT w ea eb)(hl:jT w la lb)(hb:∀y∈eb++lb,-1000000<=y/\y<=1000000) :
 Calls Tryz.prog 97 #[ZQ x,.slice ea eb.length ec,.slice la lb.length lc] w fun e w'=>∃v,e=.returned v/\w'.ownsRow w.heap.size 221 2 v (gT x.low x.high eb lb).length (dT (gT x.low x.high eb lb))/\Below w.heap.size w w':=by
 have hf1:=he.few;have hf2:=hl.few;have HI1:=zA he;have HI2:=zA hl;have HBd1:Hid (∀i,i<eb.length -> -1000000<=eb.getD i 0/\eb.getD i 0<=1000000):=fun i hi=>hb _ (pu.2 (.inl (by simp[List.getD,hi])));have HBd2:Hid (∀i,i<lb.length -> -1000000<=lb.getD i 0/\lb.getD i 0<=1000000):=fun i hi=>hb _ (pu.2 (.inr (by simp[List.getD,hi])));obtain⟨xn,xf,lo,hi⟩:=x;have hz01:[(lo,hi)].length=1:=rfl;have HF1:=zA (fun i hi'=>cK (JY lo hi) eb i hi');have HF2:=zA (fun i hi'=>cK (cK (JY lo hi) eb eb.length (j1 _)).1 lb i hi');have HT1:=zA (fun i hi'=>ZJ [(lo,hi)] eb i hi');have HT2:=zA (fun i hi'=>ZJ (xQ [(lo,hi)] (eb.take eb.length)) lb i hi');have HE:Hid (xQ (xQ [(lo,hi)] (eb.take eb.length)) (lb.take lb.length)=gT lo hi eb lb):=by unfold Hid gT;rw[bw,bw]
 simp only[ZQ];generalize gT lo hi eb lb=ans at *;clear he hl hb
 go_enter Tryz.func97,Tryz.ntmps97
 go_wp2_with fail
 generalize hO1:Obj.cells #[.string ⟨xn.toArray⟩,.bool xf,.int .i64 lo,.int .i64 hi] 204=O1 at *;have HO0:Hid (((w.alloc O1).alloc (.cells #[.int .i64 lo,.int .i64 hi] 221)).ownsRow w.heap.size 221 2 (.slice (some ⟨w.heap.size+1,0,none⟩) 1 1) (xQ [(lo,hi)] (eb.take 0)).length (dT (xQ [(lo,hi)] (eb.take 0)))):=Vc (cs:=[.int .i64 lo,.int .i64 hi]) (yS _ _ _ (by simp)) (mw _) 1 rfl (by unfold maxLen;omega);have HB0:Hid (Below w.heap.size w ((w.alloc O1).alloc (.cells #[.int .i64 lo,.int .i64 hi] 221))):=(gb (j1 _) _).alloc (by simp) _;clear hO1;generalize (w.alloc O1).alloc (.cells #[.int .i64 lo,.int .i64 hi] 221)=w0 at *;generalize [(lo,hi)]=Z0 at *;have HZl:=zA hz01;clear hz01
 go_loopw [7,20] (fun ov iv wr=>∃(i:Nat),i<=eb.length/\iv=.int .i64 i/\Hid (Below w.heap.size w wr)/\Hid (wr.ownsRow w.heap.size 221 2 ov (xQ Z0 (eb.take i)).length (dT (xQ Z0 (eb.take i))))) (fun _ iv _=>eb.length-(intOf iv).toNat)
 case atStart=>exact⟨0,p7 _,rfl,HB0,HO0⟩
 case round =>
  obtain⟨i,hi',rfl,HB,HO⟩:=hrel;have zLD:=HB.out.size;obtain⟨va,vc,rfl,zLP,-,-⟩:=gY HO.out;by_cases zKZ:i<eb.length
  ·have ii:(i:Int)<(eb.length:Int):=by omega
   obtain⟨g,rfl,q⟩:=(HI1.out.below HB.out).at zKZ;have hz2:=(HF1.out i hi').2;have hz3:=HZl.out;have HSp:=zA (YK wr va vc _ (eb.getD i 0) (HBd1.out i zKZ) zLP (by omega));clear hz3;have HTt:=zA (HT1.out i zKZ);clear zLP;generalize xQ Z0 (eb.take i)=A0 at *;generalize eb.getD i 0=y at *;go_wp2_with fail
   refine HSp.out.mono ?_;rintro e w2 ⟨v,rfl,ho2,hb2⟩;have HB2:Hid (Below w.heap.size w w2):=HB.out.trans (hb2.mono zLD);have HO2:Hid (w2.ownsRow w.heap.size 221 2 v (xQ Z0 (eb.take (i+1))).length (dT (xQ Z0 (eb.take (i+1))))):=by rw[HTt.out];exact yT ho2 zLD
   clear ho2 hb2;go_wp2_with fail
   go_roundw
   case rel=>exact⟨i+1,by omega,by go_num,HB2,HO2⟩
   case measure=>simp[intOf];omega
  ·have ii:¬(i:Int)<(eb.length:Int):=by omega
   obtain rfl:i=eb.length:=by omega
   have hZ1:=(HF1.out eb.length (j1 _)).2;rw[HZl.out]at hZ1;generalize xQ Z0 (eb.take eb.length)=Z1 at *;have HO1:Hid (wr.ownsRow w.heap.size 221 2 (.slice va Z1.length vc) (xQ Z1 (lb.take 0)).length (dT (xQ Z1 (lb.take 0)))):=HO.out;generalize hwr:wr=wq at *;clear hwr HF1 HT1 zLP;go_wp2_with fail
   go_loopw [7,30] (fun ov iv wr=>∃(i:Nat),i<=lb.length/\iv=.int .i64 i/\Hid (Below w.heap.size w wr)/\Hid (wr.ownsRow w.heap.size 221 2 ov (xQ Z1 (lb.take i)).length (dT (xQ Z1 (lb.take i))))) (fun _ iv _=>lb.length-(intOf iv).toNat)
   case atStart=>exact⟨0,p7 _,rfl,HB,HO1⟩
   case round =>
    obtain⟨i,hi',rfl,HBz,HOz⟩:=hrel;have hszz:=HBz.out.size;by_cases zLH:i<lb.length
    ·have jj:(i:Int)<(lb.length:Int):=by omega
     obtain⟨g,rfl,q⟩:=(HI2.out.below HBz.out).at zLH;obtain⟨va,vc,rfl,zLP,-,-⟩:=gY HOz.out;have hz2:=(HF2.out i hi').2;have HSp:=zA (fun (h:(xQ Z1 (lb.take i)).length<=100000)=>YK wr va vc _ (lb.getD i 0) (HBd2.out i zLH) zLP h);have HTt:=zA (HT2.out i zLH);have hz3:(xQ Z1 (lb.take i)).length<=100000:=by omega
     clear zLP;generalize xQ Z1 (lb.take i)=A0 at *;generalize lb.getD i 0=y at *;go_wp2_with fail
     refine(HSp.out hz3).mono ?_;rintro e w2 ⟨v,rfl,ho2,hb2⟩;have HB2:Hid (Below w.heap.size w w2):=HBz.out.trans (hb2.mono hszz);have HO2:Hid (w2.ownsRow w.heap.size 221 2 v (xQ Z1 (lb.take (i+1))).length (dT (xQ Z1 (lb.take (i+1))))):=by rw[HTt.out];exact yT ho2 hszz
     clear ho2 hb2;go_wp2_with fail
     go_roundw
     case rel=>exact⟨i+1,by omega,by go_num,HB2,HO2⟩
     case measure=>simp[intOf];omega
    ·have jj:¬(i:Int)<(lb.length:Int):=by omega
     obtain rfl:i=lb.length:=by omega
     go_wp2_with fail
     go_ret
     exact⟨_,rfl,by rw[<-HE.out];exact HOz.out,HBz.out⟩
structure jC where
 flag:Bool
 place:Nat
variable{S T:List jC}
def U3:jC:=⟨false,0⟩
structure vS where
 Z:Nat->Int × Int
 rk:Nat->Nat
 inp:Nat->Int
 has:Nat->Bool
variable{s2 s s1 s':vS}{both:vS->Bool}
def tE(s:vS)(t:jC)(v:Nat):vS :=
 if t.flag=true then { s with inp:=fun i=>if i=t.place then (v:Int) else s.inp i } else { s with has:=fun c=>if c=t.place then decide (v=1) else s.has c }
theorem CM(s:vS)(t:jC)(v:Nat):(tE s t v).Z=s.Z/\(tE s t v).rk=s.rk:=by unfold tE;split <;> exact⟨rfl,rfl⟩
def FL(S:List jC)(i:Nat):Prop:=∀t∈S,¬(t.flag=true/\t.place=i)
def zHY(S:List jC)(c:Nat):Prop:=∀t∈S,¬(t.flag=false/\t.place=c)
structure dS(S:List jC)(s t:vS):Prop where
 inp:∀i,FL S i->t.inp i=s.inp i
 has:∀c,zHY S c->t.has c=s.has c
def rM(S:List jC)(s:vS):Prop:=∀t∈S,t.flag=true->s.inp t.place=0\/s.inp t.place=1
def CK(s:vS)(t:jC)(v:Nat):Prop:=(t.flag=true->s.inp t.place=(v:Int))/\(t.flag=false->s.has t.place=decide (v=1))
theorem dS.refl(S:List jC)(s:vS):dS S s s:=⟨fun _ _=>rfl,fun _ _=>rfl⟩
theorem dS.trans{a b c:vS}(h:dS S a b)(k:dS S b c):dS S a c:=⟨fun i hi=>(k.inp i hi).trans (h.inp i hi),fun i hi=>(k.has i hi).trans (h.has i hi)⟩
theorem dS.more{a b:vS}(h:dS S a b)(hs:∀t∈S,t∈T):dS T a b:=⟨fun i hi=>h.inp i fun t ht=>hi t (hs t ht),fun i hi=>h.has i fun t ht=>hi t (hs t ht)⟩
theorem Za{t:jC}(ht:t∈S)(s:vS)(v:Nat):dS S s (tE s t v):=by
 unfold tE;cases hf:t.flag
 ·rw[tb (by simp)];exact⟨fun _ _=>rfl,fun c hc=>tb fun e=>hc t ht ⟨hf,e.symm⟩⟩
 ·rw[tl rfl];exact⟨fun i hi=>tb fun e=>hi t ht ⟨hf,e.symm⟩,fun _ _=>rfl⟩
theorem Y5(s:vS)(t:jC)(v:Nat):CK (tE s t v) t v:=by
 unfold tE CK;cases hf:t.flag
 ·rw[tb (by simp)];exact⟨fun h=>absurd h (by simp),fun _=>tl rfl⟩
 ·rw[tl rfl];exact⟨fun _=>tl rfl,fun h=>absurd h (by simp)⟩
def Fm(both:vS->Bool):List jC->vS->vS × Bool
 | [],s=>(s,both s)
 | T::S,s=>if (Fm both S (tE s T 0)).2=true then Fm both S (tE s T 0) else Fm both S (tE (Fm both S (tE s T 0)).1 T 1)
structure wK(both:vS->Bool)(S:List jC)(s s':vS)(r:Bool):Prop where
 z:s'.Z=s.Z/\s'.rk=s.rk
 eq:dS S s s'
 yes:r=true->both s'=true/\rM S s'
 no:r=false->∀t,t.Z=s.Z->t.rk=s.rk->dS S s t->rM S t->both t=false
 fn:Fm both S s=(s',r)
theorem Fj(both:vS->Bool)(s:vS):wK both [] s s (both s) :=
 ⟨⟨rfl,rfl⟩,dS.refl _ _,fun h=>⟨h,fun t ht=>by simp at ht⟩,fun h t h1 h2 h3 _=>by
  have e:t=s:=by
   cases t;cases s
   simp only at h1 h2;subst h1 h2;congr
   ·funext i;exact h3.inp i fun t ht=>by simp at ht
   ·funext i;exact h3.has i fun t ht=>by simp at ht
  rw[e];exact h,rfl⟩
structure ZX(both:vS->Bool)(T:jC)(S:List jC)(s s':vS)(v:Nat):Prop where
 z:s'.Z=s.Z/\s'.rk=s.rk
 eq:dS (T::S) s s'
 no:∀u,u<v->∀t,t.Z=s.Z->t.rk=s.rk->dS (T::S) s t->rM (T::S) t->CK t T u->both t=false
 fn:(v=0->s'=s)/\(v=1->Fm both S (tE s T 0)=(s',false))/\(v=2->∃s1,Fm both S (tE s T 0)=(s1,false)/\Fm both S (tE s1 T 1)=(s',false))
theorem UH(both:vS->Bool)(T:jC)(S:List jC)(s:vS):ZX both T S s s 0:=⟨⟨rfl,rfl⟩,dS.refl _ _,fun u hu=>absurd hu (by omega),fun _=>rfl,fun h=>absurd h (by omega),fun h=>absurd h (by omega)⟩
theorem Fo{T:jC}{t:vS}{v:Nat}(h1:dS (T::S) s s1)(h2:dS (T::S) s t)(hv:CK t T v):dS S (tE s1 T v) t:=by
 have hn:=Y5 s1 T v;have ht:=Za (S:=[T]) (t:=T) (by simp) s1 v;refine⟨fun i hi=>?_,fun c hc=>?_⟩
 ·by_cases h:T.flag=true/\T.place=i
  ·rw[<-h.2,hv.1 h.1,hn.1 h.1]
  ·have ho:FL (T::S) i:=fun q hq=>by
    rcases l6.1 hq with rfl|hq
    ·exact h
    ·exact hi q hq
   rw[h2.inp i ho,<-h1.inp i ho];exact(ht.inp i fun q hq=>by simp at hq;subst hq;exact h).symm
 ·by_cases h:T.flag=false/\T.place=c
  ·rw[<-h.2,hv.2 h.1,hn.2 h.1]
  ·have ho:zHY (T::S) c:=fun q hq=>by
    rcases l6.1 hq with rfl|hq
    ·exact h
    ·exact hc q hq
   rw[h2.has c ho,<-h1.has c ho];exact(ht.has c fun q hq=>by simp at hq;subst hq;exact h).symm
theorem Fk{T:jC}{v:Nat}(hv:v<=1)(h:ZX both T S s s1 v)(k:wK both S (tE s1 T v) s2 true):wK both (T::S) s s2 true:=by
 have hz:=CM s1 T v;have heq:dS (T::S) s s2:=(h.eq.trans (Za (by simp) s1 v)).trans (k.eq.more fun t ht=>by simp[ht]);refine⟨⟨by rw[k.z.1,hz.1,h.z.1],by rw[k.z.2,hz.2,h.z.2]⟩,heq,fun _=>⟨(k.yes rfl).1,fun t ht hf=>?_⟩,fun h=>absurd h (by simp),?_⟩
 ·rcases l6.1 ht with rfl|ht
  ·by_cases ho:∃q∈S,q.flag=true/\q.place=t.place
   ·obtain⟨q,hq,h1,h2⟩:=ho
    rw[<-h2];exact(k.yes rfl).2 q hq h1
   ·rw[k.eq.inp t.place fun q hq hh=>ho ⟨q,hq,hh⟩,(Y5 s1 t v).1 hf]
    omega
  ·exact(k.yes rfl).2 t ht hf
 ·rcases(show v=0\/v=1 by omega) with rfl|rfl
  ·have e:=h.fn.1 rfl
   have q:=k.fn;rw[e]at q;rw[Fm,q,tl rfl]
  ·rw[Fm,h.fn.2.1 rfl,tb (by simp)]
   exact k.fn
theorem xy{T:jC}{v:Nat}(h:ZX both T S s s1 v)(k:wK both S (tE s1 T v) s2 false):ZX both T S s s2 (v+1):=by
 have hz:=CM s1 T v;refine⟨⟨by rw[k.z.1,hz.1,h.z.1],by rw[k.z.2,hz.2,h.z.2]⟩,(h.eq.trans (Za (by simp) s1 v)).trans (k.eq.more fun t ht=>by simp[ht]),fun u hu t e1 e2 ht hb hva=>?_,fun e=>absurd e (by omega),fun e=>?_,fun e=>?_⟩
 ·by_cases hu2:u<v
  ·exact h.no u hu2 t e1 e2 ht hb hva
  ·obtain rfl:u=v:=by omega
   exact k.no rfl t (by rw[e1,hz.1,h.z.1]) (by rw[e2,hz.2,h.z.2]) (Fo h.eq ht hva) fun q hq=>hb q (by simp[hq])
 ·obtain rfl:v=0:=by omega
  have q:=k.fn;rw[h.fn.1 rfl]at q;exact q
 ·obtain rfl:v=1:=by omega
  exact⟨s1,h.fn.2.1 rfl,k.fn⟩
theorem Fl{T:jC}(h:ZX both T S s s1 2):wK both (T::S) s s1 false:=by
 refine⟨h.z,h.eq,fun h=>absurd h (by simp),fun _ t e1 e2 ht hb=>?_,?_⟩
 ·cases hf:T.flag
  ·cases hv:t.has T.place
   ·exact h.no 0 (by omega) t e1 e2 ht hb ⟨fun h=>absurd (hf.symm.trans h) (by simp),fun _=>hv⟩
   ·exact h.no 1 (by omega) t e1 e2 ht hb ⟨fun h=>absurd (hf.symm.trans h) (by simp),fun _=>hv⟩
  ·rcases hb T (by simp) hf with hv|hv
   ·exact h.no 0 (by omega) t e1 e2 ht hb ⟨fun _=>hv,fun h=>absurd (hf.symm.trans h) (by simp)⟩
   ·exact h.no 1 (by omega) t e1 e2 ht hb ⟨fun _=>hv,fun h=>absurd (hf.symm.trans h) (by simp)⟩
 ·obtain⟨s0,q1,q2⟩:=h.fn.2.2 rfl
  rw[Fm,q1,tb (by simp)];exact q2
def mP(np:Nat)(Z:Nat->Int × Int)(rk:Nat->Nat):List mN:=(List.range np).map fun p=>⟨(Z p).1,(Z p).2,rk p⟩
theorem rS(np:Nat)(Z:Nat->Int × Int)(rk:Nat->Nat):(mP np Z rk).length=np:=by simp[mP]
theorem rT{Z':Nat->Int × Int}{rk':Nat->Nat}(h1:∀p,p<np->Z p=Z' p)(h2:∀p,p<np->rk p=rk' p):mP np Z rk=mP np Z' rk':=by
 unfold mP;exact List.map_congr_left fun p hp=>by rw[h1 p (by simpa using hp),h2 p (by simpa using hp)]
structure pP(np:Nat)(P:Nat->Nat)(S:List jC)(s t:vS):Prop where
 inp:∀i,(∀p,p<np->P p≠i)->FL S i->t.inp i=s.inp i
 has:∀c,zHY S c->t.has c=s.has c
theorem pP.refl(np:Nat)(P:Nat->Nat)(S:List jC)(s:vS):pP np P S s s:=⟨fun _ _ _=>rfl,fun _ _=>rfl⟩
theorem pP.trans{a b c:vS}(h:pP np P S a b)(k:pP np P S b c):pP np P S a c:=⟨fun i h1 h2=>(k.inp i h1 h2).trans (h.inp i h1 h2),fun i h1=>(k.has i h1).trans (h.has i h1)⟩
theorem pP.symm{a b:vS}(h:pP np P S a b):pP np P S b a:=⟨fun i h1 h2=>(h.inp i h1 h2).symm,fun i h1=>(h.has i h1).symm⟩
theorem dS.rest{a b:vS}(h:dS S a b):pP np P S a b:=⟨fun i _ h2=>h.inp i h2,h.has⟩
def mG(np:Nat)(P:Nat->Nat)(rk:Nat->Nat)(o:List Int)(t:vS):Prop:=∀p,p<np->t.inp (P p)=o.getD (rk p) 0
structure eJ(np:Nat)(P:Nat->Nat)(s s':vS)(r:Bool):Prop where
 z:s'.Z=s.Z/\s'.rk=s.rk/\s'.has=s.has
 off:∀i,(∀p,p<np->P p≠i)->s'.inp i=s.inp i
 yes:r=true->∃o,dO (mP np s.Z s.rk)=some o/\mG np P s.rk o s'
 no:r=false->dO (mP np s.Z s.rk)=none
def zGX(both:vS->Bool)(np:Nat)(P:Nat->Nat)(S:List jC)(Z:Nat->Int × Int)(a:Nat)(s:vS)(rk:Nat->Nat):Prop:=∀b rk',a<=b->b<np->(∀p,p<b->rk' p=rk p)->rk' b<rk b->(∀p,p<np->rk' p<np)->∀o,dO (mP np Z rk')=some o->∀t,pP np P S s t->mG np P rk' o t->rM S t->both t=false
structure wO(both:vS->Bool)(np:Nat)(P:Nat->Nat)(S:List jC)(a:Nat)(s s':vS)(r:Bool):Prop where
 z:s'.Z=s.Z
 kp:∀p,p<a->s'.rk p=s.rk p
 rest:pP np P S s s'
 yes:r=true->both s'=true/\rM S s'/\∃rk o,(∀p,p<np->rk p<np)/\dO (mP np s.Z rk)=some o/\mG np P rk o s'
 no:r=false->∀rk,(∀p,p<a->rk p=s.rk p)->(∀p,p<np->rk p<np)->∀o,dO (mP np s.Z rk)=some o->∀t,pP np P S s t->mG np P rk o t->rM S t->both t=false
 det:r=true->∃rk o s1,(∀p,p<np->rk p<np)/\(∀p,p<a->rk p=s.rk p)/\dO (mP np s.Z rk)=some o/\mG np P rk o s1/\pP np P S s s1/\Fm both S s1=(s',true)/\zGX both np P S s.Z a s rk
def zH1(both:vS->Bool):Prop:=∀s t:vS,s.inp=t.inp->s.has=t.has->both s=both t
theorem Bf(ha:np<=a)(h:eJ np P s s' false):wO both np P S a s s' false:=by
 refine⟨h.z.1,fun p _=>by rw[h.z.2.1],⟨fun i h1 _=>h.off i h1,fun c _=>by rw[h.z.2.2]⟩,fun h=>absurd h (by simp),fun _ rk hrk _ o ho=>?_,fun h=>absurd h (by simp)⟩;rw[rT (Z':=s.Z) (rk':=s.rk) (fun _ _=>rfl) fun p hp=>hrk p (by omega),h.no rfl]at ho;exact absurd ho (by simp)
theorem Be(hbl:zH1 both){r:Bool}(ha:np<=a)(hP:∀p,p<np->FL S (P p))(hr:∀p,p<a->s.rk p<np)(h:eJ np P s s1 true)(k:wK both S s1 s2 r):wO both np P S a s s2 r:=by
 obtain⟨o,ho,hn⟩:=h.yes rfl;have h1:pP np P S s s1:=⟨fun i h1 _=>h.off i h1,fun c _=>by rw[h.z.2.2]⟩;refine⟨by rw[k.z.1,h.z.1],fun p _=>by rw[k.z.2,h.z.2.1],h1.trans k.eq.rest,fun hr2=>⟨(k.yes hr2).1,(k.yes hr2).2,s.rk,o,fun p hp=>hr p (by omega),ho,fun p hp=>?_⟩,fun hr2 rk hrk _ o' ho' t ht hnt hb=>?_,fun hr2=>⟨s.rk,o,s1,fun p hp=>hr p (by omega),fun _ _=>rfl,ho,hn,h1,by rw[k.fn,hr2],fun b _ h1 h2=>absurd h1 (by omega)⟩⟩
 ·rw[k.eq.inp _ (hP p hp)];exact hn p hp
 ·have e:mP np s.Z rk=mP np s.Z s.rk:=rT (fun _ _=>rfl) fun p hp=>hrk p (by omega)
  rw[e,ho]at ho';obtain rfl:o=o':=by simpa using ho'
  have:=k.no hr2 { t with Z:=s1.Z,rk:=s1.rk } rfl rfl ⟨fun i hi=>?_,fun c hc=>?_⟩ hb
  ·rw[<-this];exact hbl _ _ rfl rfl
  ·by_cases hp:∃p,p<np/\P p=i
   ·obtain⟨p,hp,rfl⟩:=hp
    show t.inp (P p)=_;rw[hnt p hp,hn p hp,hrk p (by omega)]
   ·have hp2:∀p,p<np->P p≠i:=fun p h1 h2=>hp ⟨p,h1,h2⟩
    show t.inp i=_;rw[ht.inp i hp2 hi,h.off i hp2]
  ·show t.has c=_
   rw[ht.has c hc,h.z.2.2]
def nS(s:vS)(a v:Nat):vS:={ s with rk:=fun p=>if p=a then v else s.rk p }
structure wP(both:vS->Bool)(np:Nat)(P:Nat->Nat)(S:List jC)(a:Nat)(s s':vS)(v:Nat):Prop where
 z:s'.Z=s.Z
 kp:∀p,p<a->s'.rk p=s.rk p
 rest:pP np P S s s'
 no:∀u,u<v->∀rk,(∀p,p<a->rk p=s.rk p)->rk a=u->(∀p,p<np->rk p<np)->∀o,dO (mP np s.Z rk)=some o->∀t,pP np P S s t->mG np P rk o t->rM S t->both t=false
theorem Bg(both:vS->Bool)(np:Nat)(P:Nat->Nat)(S:List jC)(a:Nat)(s:vS):wP both np P S a s s 0:=⟨rfl,fun _ _=>rfl,pP.refl _ _ _ _,fun u hu=>absurd hu (by omega)⟩
theorem eV(h:pP np P S s s1)(a v:Nat):pP np P S s (nS s1 a v):=⟨h.inp,h.has⟩
theorem F9{v:Nat}(h:wP both np P S a s s1 v)(k:wO both np P S (a+1) (nS s1 a v) s2 true):wO both np P S a s s2 true:=by
 refine⟨k.z.trans h.z,fun p hp=>?_,(eV h.rest a v).trans k.rest,fun _=>?_,fun h=>absurd h (by simp),fun _=>?_⟩
 ·rw[k.kp p (by omega)];show (if p=a then v else s1.rk p)=_;rw[tb (by omega)];exact h.kp p hp
 ·have:=k.yes rfl
  rw[show (nS s1 a v).Z=s.Z from h.z]at this;exact this
 ·obtain⟨rk,o,sx,q1,q2,q3,q4,q5,q6,q7⟩:=k.det rfl
  have ez:(nS s1 a v).Z=s.Z:=h.z;rw[ez]at q3 q7;have ea:rk a=v:=by rw[q2 a (by omega)];exact tl rfl
  have el:∀p,p<a->rk p=s.rk p:=fun p hp=>by
   rw[q2 p (by omega)];show (if p=a then v else s1.rk p)=_;rw[tb (by omega)];exact h.kp p hp
  refine⟨rk,o,sx,q1,el,q3,q4,(eV h.rest a v).trans q5,q6,fun b rk' hab hb hag zKZ hn' o' ho' t ht hnt hbt=>?_⟩;by_cases e:a=b
  ·subst e
   exact h.no (rk' a) (by omega) rk' (fun p hp=>by rw[hag p hp,el p hp]) rfl hn' o' ho' t ht hnt hbt
  ·exact q7 b rk' (by omega) hb hag zKZ hn' o' ho' t ((eV h.rest a v).symm.trans ht) hnt hbt
theorem ui{v:Nat}(h:wP both np P S a s s1 v)(k:wO both np P S (a+1) (nS s1 a v) s2 false):wP both np P S a s s2 (v+1):=by
 refine⟨k.z.trans h.z,fun p hp=>?_,(eV h.rest a v).trans k.rest,fun u hu rk h1 h2 h3 o ho t ht hn hb=>?_⟩
 ·rw[k.kp p (by omega)];show (if p=a then v else s1.rk p)=_;rw[tb (by omega)];exact h.kp p hp
 ·by_cases hu2:u<v
  ·exact h.no u hu2 rk h1 h2 h3 o ho t ht hn hb
  ·obtain rfl:u=v:=by omega
   refine k.no rfl rk (fun p hp=>?_) h3 o (by rw[show (nS s1 a u).Z=s.Z from h.z];exact ho) t ((eV h.rest a u).symm.trans ht) hn hb;show rk p=if p=a then u else s1.rk p;by_cases hpa:p=a
   ·rw[tl hpa,hpa];exact h2
   ·rw[tb hpa,h.kp p (by omega)];exact h1 p (by omega)
theorem FB(ha:a<np)(h:wP both np P S a s s1 np):wO both np P S a s s1 false :=
 ⟨h.z,h.kp,h.rest,fun h=>absurd h (by simp),fun _ rk h1 h3 o ho t ht hn hb=>h.no (rk a) (h3 a ha) rk h1 rfl h3 o ho t ht hn hb,fun h=>absurd h (by simp)⟩
def U2(zs:Nat->List (Int × Int))(zi:Nat->Nat):Nat->Int × Int:=fun p=>(zs p).getD (zi p) (0,0)
def zKN(both:vS->Bool)(np:Nat)(P:Nat->Nat)(zs:Nat->List (Int × Int))(S:List jC)(a:Nat)(s:vS)(zi:Nat->Nat):Prop:=∀b zi',a<=b->b<np->(∀p,p<b->U2 zs zi' p=U2 zs zi p)->zi' b<zi b->(∀p,p<np->zi' p<(zs p).length)->∀rk,(∀p,p<np->rk p<np)->∀o,dO (mP np (U2 zs zi') rk)=some o->∀t,pP np P S s t->mG np P rk o t->rM S t->both t=false
structure rK(both:vS->Bool)(np:Nat)(P:Nat->Nat)(zs:Nat->List (Int × Int))(S:List jC)(a:Nat)(s s':vS)(r:Bool):Prop where
 rest:pP np P S s s'
 kp:∀p,p<a->s'.Z p=s.Z p
 yes:r=true->both s'=true/\rM S s'/\∃Z rk o,(∀p,p<np->Z p∈zs p)/\(∀p,p<np->rk p<np)/\dO (mP np Z rk)=some o/\mG np P rk o s'
 no:r=false->∀Z,(∀p,p<a->Z p=s.Z p)->(∀p,p<np->Z p∈zs p)->∀rk,(∀p,p<np->rk p<np)->∀o,dO (mP np Z rk)=some o->∀t,pP np P S s t->mG np P rk o t->rM S t->both t=false
 det:r=true->∃zi rk o s1,(∀p,p<np->zi p<(zs p).length)/\(∀p,p<a->U2 zs zi p=s.Z p)/\(∀p,p<np->rk p<np)/\dO (mP np (U2 zs zi) rk)=some o/\mG np P rk o s1/\pP np P S s s1/\Fm both S s1=(s',true)/\zKN both np P zs S a s zi/\zGX both np P S (U2 zs zi) 0 s rk
theorem zy{zs:Nat->List (Int × Int)}{r:Bool}(ha:np<=a)(hz:∀p,p<a->s.Z p∈zs p)(h:wO both np P S 0 s s' r):rK both np P zs S a s s' r:=by
 refine⟨h.rest,fun p _=>by rw[h.z],fun hr=>?_,fun hr Z h1 _ rk h3 o ho t ht hn hb=>?_,fun hr=>?_⟩
 ·obtain⟨q1,q2,rk,o,q3,q4,q5⟩:=h.yes hr
  exact⟨q1,q2,s.Z,rk,o,fun p hp=>hz p (by omega),q3,q4,q5⟩
 ·refine h.no hr rk (fun p hp=>absurd hp (by omega)) h3 o ?_ t ht hn hb
  rw[<-rT (Z:=Z) (rk:=rk) (fun p hp=>h1 p (by omega)) fun _ _=>rfl];exact ho
 ·obtain⟨rk,o,sx,q1,q2,q3,q4,q5,q6,q7⟩:=h.det hr
  obtain⟨zi,hzi⟩:∃zi:Nat->Nat,∀p,p<a->zi p<(zs p).length/\U2 zs zi p=s.Z p:=by
   have hx:∀p,∃u,p<a->u<(zs p).length/\(zs p).getD u (0,0)=s.Z p:=fun p=>by
    by_cases hp:p<a
    ·obtain⟨u,hu,e⟩:=cq (hz p hp)
     exact⟨u,fun _=>⟨hu,by simp[List.getD,hu,e]⟩⟩
    ·exact⟨0,fun h=>absurd h hp⟩
   exact⟨fun p=>Classical.choose (hx p),fun p hp=>Classical.choose_spec (hx p) hp⟩
  have ez:∀rk',mP np s.Z rk'=mP np (U2 zs zi) rk':=fun rk'=>rT (fun p hp=>(hzi p (by omega)).2.symm) fun _ _=>rfl;refine⟨zi,rk,o,sx,fun p hp=>(hzi p (by omega)).1,fun p hp=>(hzi p hp).2,q1,by rw[<-ez];exact q3,q4,q5,q6,fun b _ h1 h2=>absurd h1 (by omega),fun b rk' hab hb hag zKZ hn' o' ho' => ?_⟩;rw[<-ez]at ho';exact q7 b rk' hab hb hag zKZ hn' o' ho'
def fP(s:vS)(a:Nat)(z:Int × Int):vS:={ s with Z:=fun p=>if p=a then z else s.Z p }
structure aG(both:vS->Bool)(np:Nat)(P:Nat->Nat)(zs:Nat->List (Int × Int))(S:List jC)(a:Nat)(s s':vS)(v:Nat):Prop where
 kp:∀p,p<a->s'.Z p=s.Z p
 rest:pP np P S s s'
 no:∀u,u<v->∀Z,(∀p,p<a->Z p=s.Z p)->Z a=(zs a).getD u (0,0)->(∀p,p<np->Z p∈zs p)->∀rk,(∀p,p<np->rk p<np)->∀o,dO (mP np Z rk)=some o->∀t,pP np P S s t->mG np P rk o t->rM S t->both t=false
theorem U8(both:vS->Bool)(np:Nat)(P:Nat->Nat)(zs:Nat->List (Int × Int))(S:List jC)(a:Nat)(s:vS):aG both np P zs S a s s 0:=⟨fun _ _=>rfl,pP.refl _ _ _ _,fun u hu=>absurd hu (by omega)⟩
theorem sA(h:pP np P S s s1)(a:Nat)(z:Int × Int):pP np P S s (fP s1 a z):=⟨h.inp,h.has⟩
theorem DX{zs:Nat->List (Int × Int)}{v:Nat}(h:aG both np P zs S a s s1 v)(hv:v<(zs a).length)(hz:∀p,p<a->s.Z p∈zs p):∀p,p<a+1->(fP s1 a ((zs a).getD v (0,0))).Z p∈zs p:=fun p hp=>by
 show (if p=a then (zs a).getD v (0,0) else s1.Z p)∈zs p;by_cases hpa:p=a
 ·rw[tl hpa,hpa];simp[List.getD,hv]
 ·rw[tb hpa,h.kp p (by omega)];exact hz p (by omega)
theorem DW{zs:Nat->List (Int × Int)}{v:Nat}(hv:v<(zs a).length)(h:aG both np P zs S a s s1 v)(k:rK both np P zs S (a+1) (fP s1 a ((zs a).getD v (0,0))) s2 true):rK both np P zs S a s s2 true:=by
 refine⟨(sA h.rest a _).trans k.rest,fun p hp=>?_,fun _=>k.yes rfl,fun h=>absurd h (by simp),fun _=>?_⟩
 ·rw[k.kp p (by omega)];show (if p=a then _ else s1.Z p)=_;rw[tb (by omega)];exact h.kp p hp
 ·obtain⟨zi,rk,o,sx,q0,q1,q2,q3,q4,q5,q6,q7,q8⟩:=k.det rfl
  have ea:U2 zs zi a=(zs a).getD v (0,0):=by rw[q1 a (by omega)];exact tl rfl
  have el:∀p,p<a->U2 zs zi p=s.Z p:=fun p hp=>by
   rw[q1 p (by omega)];show (if p=a then _ else s1.Z p)=_;rw[tb (by omega)];exact h.kp p hp
  have e2:U2 zs (fun p=>if p=a then v else zi p)=U2 zs zi:=funext fun p=>by
   by_cases hp:p=a
   ·subst hp;rw[ea];unfold U2;simp only[dt]
   ·unfold U2;simp only[tb hp]
  refine⟨fun p=>if p=a then v else zi p,rk,o,sx,fun p hp=>?_,fun p hp=>by rw[e2];exact el p hp,q2,by rw[e2];exact q3,q4,(sA h.rest a _).trans q5,q6,fun b zi' hab hb hag zKZ hn' rk' hr' o' ho' t ht hnt hbt=>?_,fun b rk' hab hb hag zKZ hn' o' ho' t ht hnt hbt=>?_⟩
  ·by_cases hp2:p=a
   ·simp only[hp2,dt];exact hv
   ·simp only[tb hp2];exact q0 p hp
  ·rw[e2]at hag
   by_cases e:a=b
   ·subst e
    simp only[dt]at zKZ;exact h.no (zi' a) zKZ (U2 zs zi') (fun p hp=>by rw[hag p hp,el p hp]) rfl (fun p hp=>by unfold U2;simp[List.getD,hn' p hp]) rk' hr' o' ho' t ht hnt hbt
   ·simp only[tb (fun q=>e (Eq.symm q))]at zKZ
    exact q7 b zi' (by omega) hb hag zKZ hn' rk' hr' o' ho' t ((sA h.rest a _).symm.trans ht) hnt hbt
  ·rw[e2]at ho'
   exact q8 b rk' hab hb hag zKZ hn' o' ho' t ((sA h.rest a _).symm.trans ht) hnt hbt
theorem ya{both:vS->Bool}{np:Nat}{P:Nat->Nat}{zs:Nat->List (Int × Int)}{S:List jC}{a v:Nat}{s s1 s2:vS}(h:aG both np P zs S a s s1 v)(k:rK both np P zs S (a+1) (fP s1 a ((zs a).getD v (0,0))) s2 false):aG both np P zs S a s s2 (v+1):=by
 refine⟨fun p hp=>?_,(sA h.rest a _).trans k.rest,fun u hu Z h1 h2 h3 rk h4 o ho t ht hn hb=>?_⟩
 ·rw[k.kp p (by omega)];show (if p=a then _ else s1.Z p)=_;rw[tb (by omega)];exact h.kp p hp
 ·by_cases hu2:u<v
  ·exact h.no u hu2 Z h1 h2 h3 rk h4 o ho t ht hn hb
  ·obtain rfl:u=v:=by omega
   refine k.no rfl Z (fun p hp=>?_) h3 rk h4 o ho t ((sA h.rest a _).symm.trans ht) hn hb;show Z p=if p=a then _ else s1.Z p;by_cases hpa:p=a
   ·rw[tl hpa,hpa];exact h2
   ·rw[tb hpa,h.kp p (by omega)];exact h1 p (by omega)
theorem DY{zs:Nat->List (Int × Int)}(ha:a<np)(h:aG both np P zs S a s s1 (zs a).length):rK both np P zs S a s s1 false:=by
 refine⟨h.rest,h.kp,fun h=>absurd h (by simp),fun _ Z h1 h3 rk h4 o ho t ht hn hb=>?_,fun h=>absurd h (by simp)⟩;obtain⟨u,hu,e⟩:=cq (h3 a ha);exact h.no u hu Z h1 (by simp[List.getD,hu,e]) h3 rk h4 o ho t ht hn hb
def zJN(t:jC):List Value:=[.bool t.flag,.int .i64 (t.place:Nat)]
structure SK where
 B:Nat
 b:Nat
 e:MX
 l:MX
 np:Nat
 P:Nat->Nat
 zs:Nat->List (Int × Int)
 za:Nat->Option Addr
 zc:Nat->Nat
 na:Option Addr
 gn:Nat
 nc:Nat
 sw:List jC
 sa:Option Addr
 sc:Nat
 gi:Nat
 gh:Nat
 n:Nat
 h:Nat
def sN(K:SK)(s:vS)(j:Nat):Value :=
 if j%5=0 then .int .i64 (K.P (j/5):Nat) else if j%5=1 then .slice (K.za (j/5)) (K.zs (j/5)).length (K.zc (j/5)) else if j%5=2 then .int .i64 (s.Z (j/5)).1 else if j%5=3 then .int .i64 (s.Z (j/5)).2 else .int .i64 (s.rk (j/5):Nat)
def srA(K:SK):Array Value := #[.string ⟨K.e.1.label.toArray⟩,.int .i64 K.e.1.conc,K.e.2.1,K.e.2.2,.int .i64 K.e.1.root,.string ⟨K.l.1.label.toArray⟩,.int .i64 K.l.1.conc,K.l.2.1,K.l.2.2,.int .i64 K.l.1.root,.slice K.na K.np K.nc,.slice K.sa K.sw.length K.sc,.slice (some ⟨K.gi,0,none⟩) K.n K.n,.slice (some ⟨K.gh,0,none⟩) K.h K.h,.slice none 0 0]
structure kU(w:World)(K:SK)(s:vS):Prop where
 hd:w.heap[K.b]? = some (.cells (srA K) 170 (0,0))
 rN:0<K.np->K.na=some ⟨K.gn,0,none⟩/\vY w K.gn 223 (5*K.np) (sN K s)
 rI:vY w K.gi 3 K.n (fun i=>.int .i64 (s.inp i))
 rH:vY w K.gh 4 K.h (fun c=>.bool (s.has c))
 sw:yZ w 216 K.sa (K.sw.flatMap zJN)
 zn:∀p,p<K.np->yZ w 221 (K.za p) (dT (K.zs p))
 eM:uL w K.e
 lM:uL w K.l
structure XW(K:SK):Prop where
 lob:K.B<=K.b
 loi:K.B<=K.gi
 loh:K.B<=K.gh
 lon:0<K.np->K.B<=K.gn
 np:K.np<=100
 n:K.n<=10000
 h:K.h<=10000
 sw:K.sw.length<=20000
 zs:∀p,p<K.np->(K.zs p).length<=100000
 P:∀p,p<K.np->K.P p<K.n
 inj:∀p q,p<K.np->q<K.np->K.P p=K.P q->p=q
 off:∀p,p<K.np->FL K.sw (K.P p)
 tgI:∀t∈K.sw,t.flag=true->t.place<K.n
 tgH:∀t∈K.sw,t.flag=false->t.place<K.h
theorem Xd{b:Nat}{cs':Array Value}{fz':Nat × Nat}(h1:w.heap[a]? = some (.cells cs t fz))(h2:w.heap[b]? = some (.cells cs' t' fz'))(zL4:t≠t'):a≠b:=fun e=>by
 subst e;rw[h1]at h2;simp only[ld,Obj.cells.injEq]at h2;exact zL4 h2.2.1
theorem vY.ne{b:Nat}{n':Nat}{f':Nat->Value}(h1:vY w a t n f)(h2:vY w b t' n' f')(zL4:t≠t'):a≠b:=by
 obtain⟨cs,q1,_⟩:=h1;obtain⟨cs',q2,_⟩:=h2;exact Xd q1 q2 zL4
theorem yZ.row{a:Option Addr}(h:yZ w t a xs)(u:Value)(hr:vY w g t' n f)(zL4:t≠t'):yZ (w.setCell ⟨g,j,none⟩ u) t a xs:=by
 obtain⟨cs,q,_⟩:=hr;exact h.set q zL4
theorem uL.row(h:uL w x)(u:Value)(hr:vY w g t' n f)(h1:260≠t')(h2:263≠t'):uL (w.setCell ⟨g,j,none⟩ u) x:=by
 obtain⟨a,c,e1,q1⟩:=h.sum;obtain⟨a',c',e2,q2⟩:=h.guard;exact⟨⟨a,c,e1,q1.row u hr h1⟩,⟨a',c',e2,q2.row u hr h2⟩,h.few1,h.few2⟩
theorem kU.below{K:SK}(h:kU w K s)(hb:Below w.heap.size w w'):kU w' K s :=
 ⟨by rw[hb.block _ (zJ h.hd)];exact h.hd,fun h0=>⟨(h.rN h0).1,(h.rN h0).2.below hb⟩,h.rI.below hb,h.rH.below hb,h.sw.below hb,fun p hp=>(h.zn p hp).below hb,h.eM.below hb,h.lM.below hb⟩
theorem BT{b:Nat}(h:w.heap[b]? = some (.cells cs t fz))(u:Value)(hr:vY w g t' n f)(zL4:t≠t'):(w.setCell ⟨g,j,none⟩ u).heap[b]? = some (.cells cs t fz):=by
 obtain⟨cs',q,_⟩:=hr;rw[ma w ⟨g,j,none⟩ b u (Xd h q zL4)];exact h
theorem kU.setI{K:SK}(h:kU w K s){i:Nat}(hi:i<K.n)(v:Int){f:Nat->Int}(e1:f i=v)(e2:∀r,r<K.n->r≠i->f r=s.inp r):kU (w.setCell ⟨K.gi,i,none⟩ (.int .i64 v)) K { s with inp:=f } :=
 ⟨BT h.hd _ h.rI (by decide),fun h0=>⟨(h.rN h0).1,(h.rN h0).2.other _ ((h.rN h0).2.ne h.rI (by decide))⟩,h.rI.set _ hi (congrArg (Value.int .i64) e1) (fun x hx zL4=>congrArg (Value.int .i64) (e2 x hx zL4)),h.rH.other _ (h.rH.ne h.rI (by decide)),h.sw.row _ h.rI (by decide),fun p hp=>(h.zn p hp).row _ h.rI (by decide),h.eM.row _ h.rI (by decide) (by decide),h.lM.row _ h.rI (by decide) (by decide)⟩
theorem kU.setH{K:SK}(h:kU w K s){i:Nat}(hi:i<K.h)(v:Bool){f:Nat->Bool}(e1:f i=v)(e2:∀r,r<K.h->r≠i->f r=s.has r):kU (w.setCell ⟨K.gh,i,none⟩ (.bool v)) K { s with has:=f } :=
 ⟨BT h.hd _ h.rH (by decide),fun h0=>⟨(h.rN h0).1,(h.rN h0).2.other _ ((h.rN h0).2.ne h.rH (by decide))⟩,h.rI.other _ (h.rI.ne h.rH (by decide)),h.rH.set _ hi (congrArg Value.bool e1) (fun x hx zL4=>congrArg Value.bool (e2 x hx zL4)),h.sw.row _ h.rH (by decide),fun p hp=>(h.zn p hp).row _ h.rH (by decide),h.eM.row _ h.rH (by decide) (by decide),h.lM.row _ h.rH (by decide) (by decide)⟩
theorem kU.setN{K:SK}(h:kU w K s)(hj:j<5*K.np)(v:Value)(e0:s'.inp=s.inp/\s'.has=s.has)(e1:sN K s' j=v)(e2:∀x,x<5*K.np->x≠j->sN K s' x=sN K s x):kU (w.setCell ⟨K.gn,j,none⟩ v) K s':=by
 have hN:=h.rN (by omega);exact⟨BT h.hd _ hN.2 (by decide),fun _=>⟨hN.1,hN.2.set _ hj e1 e2⟩,by rw[e0.1];exact h.rI.other _ (h.rI.ne hN.2 (by decide)),by rw[e0.2];exact h.rH.other _ (h.rH.ne hN.2 (by decide)),h.sw.row _ hN.2 (by decide),fun p hp=>(h.zn p hp).row _ hN.2 (by decide),h.eM.row _ hN.2 (by decide) (by decide),h.lM.row _ hN.2 (by decide) (by decide)⟩
theorem kU.setRk{K:SK}(h:kU w K s)(hp:p<K.np)(v:Nat):kU (w.setCell ⟨K.gn,p*5+4,none⟩ (.int .i64 (v:Nat))) K (nS s p v):=by
 refine h.setN (by omega) _ ⟨rfl,rfl⟩ ?_ fun x hx zL4=>?_
 ·unfold sN nS
  rw[tb (by omega),tb (by omega),tb (by omega),tb (by omega),show (p*5+4)/5=p by omega];simp
 ·unfold sN nS
  by_cases h4:x%5=4
  ·have:x/5≠p:=by omega
   simp[h4,this]
  ·rcases(show x%5=0\/x%5=1\/x%5=2\/x%5=3 by omega) with h|h|h|h <;> simp[h]
theorem kU.setZn{K:SK}(h:kU w K s)(hp:p<K.np)(z:Int × Int):kU ((w.setCell ⟨K.gn,p*5+2,none⟩ (.int .i64 z.1)).setCell ⟨K.gn,p*5+3,none⟩ (.int .i64 z.2)) K (fP s p z):=by
 have h1:kU (w.setCell ⟨K.gn,p*5+2,none⟩ (.int .i64 z.1)) K (fP s p (z.1,(s.Z p).2)):=by
  refine h.setN (by omega) _ ⟨rfl,rfl⟩ ?_ fun x hx zL4=>?_
  ·unfold sN fP
   rw[tb (by omega),tb (by omega),tl (by omega),show (p*5+2)/5=p by omega];simp
  ·unfold sN fP
   by_cases h4:x/5=p
   ·rcases(show x%5=0\/x%5=1\/x%5=3\/x%5=4 by omega) with h|h|h|h <;> simp[h,h4]
   ·simp[h4]
 refine h1.setN (by omega) _ ⟨rfl,rfl⟩ ?_ fun x hx zL4=>?_
 ·unfold sN fP
  rw[tb (by omega),tb (by omega),tb (by omega),tl (by omega),show (p*5+3)/5=p by omega];simp
 ·unfold sN fP
  by_cases h4:x/5=p
  ·rcases(show x%5=0\/x%5=1\/x%5=2\/x%5=4 by omega) with h|h|h|h <;> simp[h,h4]
  ·simp[h4]
def aM(K:SK)(s:vS):yX:=⟨(List.range K.n).map s.inp,(List.range K.h).map s.has,[]⟩
def uY(K:SK)(s:vS):Bool:=qJ K.e.1 (aM K s)&&qJ K.l.1 (aM K s)
theorem Ug(K:SK):zH1 (uY K):=fun s t h1 h2=>by unfold uY aM;rw[h1,h2]
theorem kU.state{K:SK}(ok:XW K)(h:kU w K s):nQ w (some ⟨K.gi,0,none⟩) (some ⟨K.gh,0,none⟩) none (aM K s):=by
 have:=ok.n;have:=ok.h;refine⟨⟨?_,by simp[aM];omega⟩,⟨?_,by simp[aM];omega⟩,⟨.inl rfl,by simp[aM]⟩⟩
 ·have:=h.rI.cel
  simp only[aM,tQ,List.map_map];exact this
 ·have:=h.rH.cel
  simp only[aM,wF,List.map_map];exact this
theorem kU.cells{K:SK}(h:kU w K s)(j:Nat):w.cell? ⟨K.b,j,none⟩=(srA K)[j]? := zB h.hd j
theorem kU.num{K:SK}(h:kU w K s)(hp:p<K.np):K.na=some ⟨K.gn,0,none⟩/\w.cell? ⟨K.gn,p*5,none⟩=some (.int .i64 (K.P p:Nat))/\w.cell? ⟨K.gn,p*5+1,none⟩=some (.slice (K.za p) (K.zs p).length (K.zc p))/\w.cell? ⟨K.gn,p*5+2,none⟩=some (.int .i64 (s.Z p).1)/\w.cell? ⟨K.gn,p*5+3,none⟩=some (.int .i64 (s.Z p).2)/\w.cell? ⟨K.gn,p*5+4,none⟩=some (.int .i64 (s.rk p:Nat))/\∀j,w.frozen? ⟨K.gn,j,none⟩=false:=by
 obtain⟨h0,h1⟩:=h.rN (by omega);refine⟨h0,(h1.cell (by omega)).trans ?_,(h1.cell (by omega)).trans ?_,(h1.cell (by omega)).trans ?_,(h1.cell (by omega)).trans ?_,(h1.cell (by omega)).trans ?_,h1.free⟩
 ·unfold sN;rw[tl (by omega),show (p*5)/5=p by omega]
 ·unfold sN;rw[tb (by omega),tl (by omega),show (p*5+1)/5=p by omega]
 ·unfold sN;rw[tb (by omega),tb (by omega),tl (by omega),show (p*5+2)/5=p by omega]
 ·unfold sN;rw[tb (by omega),tb (by omega),tb (by omega),tl (by omega),show (p*5+3)/5=p by omega]
 ·unfold sN;rw[tb (by omega),tb (by omega),tb (by omega),tb (by omega),show (p*5+4)/5=p by omega]
theorem kU.tog{K:SK}(h:kU w K s){i:Nat}(hi:i<K.sw.length):∃g,K.sa=some ⟨g,0,none⟩/\w.cell? ⟨g,i*2,none⟩=some (.bool (K.sw.getD i U3).flag)/\w.cell? ⟨g,i*2+1,none⟩=some (.int .i64 ((K.sw.getD i U3).place:Nat)):=by
 have hc:=h.sw.cel;obtain⟨g,e,c0⟩:=hc.at ((zN zJN 2 (fun _=>rfl) U3 K.sw i 0 hi (by decide)).trans rfl);obtain⟨g',e',c1⟩:=hc.at ((zN zJN 2 (fun _=>rfl) U3 K.sw i 1 hi (by decide)).trans rfl);obtain rfl:g=g':=by rw[e]at e';simpa using e'
 exact⟨g,e,c0,c1⟩
theorem XO(w:World)(K:SK)(s:vS)(ok:XW K)(h:kU w K s)(x:MX)(hx:x=K.e\/x=K.l) :
 Calls Tryz.prog 132 #[.agg #[.string ⟨x.1.label.toArray⟩,.int .i64 x.1.conc,x.2.1,x.2.2,.int .i64 x.1.root],.agg #[.slice (some ⟨K.gi,0,none⟩) K.n K.n,.slice (some ⟨K.gh,0,none⟩) K.h K.h,.slice none 0 0]] w fun e w'=>e=.returned (.bool (qJ x.1 (aM K s)))/\Below w.heap.size w w':=by
 have h1:=Xj w (some ⟨K.gi,0,none⟩) (some ⟨K.gh,0,none⟩) none K.n K.h 0 (aM K s) x (by rcases hx with rfl|rfl;exact h.eM;exact h.lM) (h.state ok);have e:CT (some ⟨K.gi,0,none⟩) (some ⟨K.gh,0,none⟩) none K.n K.h 0 (aM K s)=.agg #[.slice (some ⟨K.gi,0,none⟩) K.n K.n,.slice (some ⟨K.gh,0,none⟩) K.h K.h,.slice none 0 0]:=by simp[CT,aM]
 rw[e]at h1;exact h1
theorem Uh(w:World)(K:SK)(s:vS)(ok:XW K)(h:kU w K s) :
 Calls Tryz.prog 175 #[.pointer (some ⟨K.b,0,none⟩)] w fun e w'=>e=.returned (.bool (uY K s))/\Below w.heap.size w w':=by
 have HA1:=zA (fun w' (hb:Below w.heap.size w w')=>XO w' K s ok (h.below hb) K.e (.inl rfl));have HA2:=zA (fun w' (hb:Below w.heap.size w w')=>XO w' K s ok (h.below hb) K.l (.inr rfl));have HC:=zA (fun w' (hb:Below w.heap.size w w')=>(h.below hb).cells);have HR:Hid (uY K s=(qJ K.e.1 (aM K s)&&qJ K.l.1 (aM K s))):=rfl;have hc:=HC.out w (tg _ _);have c0:w.cell? ⟨K.b,0,none⟩=some (.string ⟨K.e.1.label.toArray⟩):=hc 0;have c1:w.cell? ⟨K.b,1,none⟩=some (.int .i64 K.e.1.conc):=hc 1;have c2:w.cell? ⟨K.b,2,none⟩=some (K.e.2.1):=hc 2;have c3:w.cell? ⟨K.b,3,none⟩=some (K.e.2.2):=hc 3;have c4:w.cell? ⟨K.b,4,none⟩=some (.int .i64 K.e.1.root):=hc 4;have c12:w.cell? ⟨K.b,12,none⟩=some (.slice (some ⟨K.gi,0,none⟩) K.n K.n):=hc 12;have c13:w.cell? ⟨K.b,13,none⟩=some (.slice (some ⟨K.gh,0,none⟩) K.h K.h):=hc 13;have c14:w.cell? ⟨K.b,14,none⟩=some (.slice none 0 0):=hc 14;have HD:Hid (∀w',Below w.heap.size w w'->w'.cell? ⟨K.b,5,none⟩=some (.string ⟨K.l.1.label.toArray⟩)/\w'.cell? ⟨K.b,6,none⟩=some (.int .i64 K.l.1.conc)/\w'.cell? ⟨K.b,7,none⟩=some K.l.2.1/\w'.cell? ⟨K.b,8,none⟩=some K.l.2.2/\w'.cell? ⟨K.b,9,none⟩=some (.int .i64 K.l.1.root)/\w'.cell? ⟨K.b,12,none⟩=some (.slice (some ⟨K.gi,0,none⟩) K.n K.n)/\w'.cell? ⟨K.b,13,none⟩=some (.slice (some ⟨K.gh,0,none⟩) K.h K.h)/\w'.cell? ⟨K.b,14,none⟩=some (.slice none 0 0)):=fun w' hb=>⟨HC.out w' hb 5,HC.out w' hb 6,HC.out w' hb 7,HC.out w' hb 8,HC.out w' hb 9,HC.out w' hb 12,HC.out w' hb 13,HC.out w' hb 14⟩;have HD0:Hid (∀w',Below w.heap.size w w'->w'.cell? ⟨K.b,0,none⟩=some (.string ⟨K.e.1.label.toArray⟩)/\w'.cell? ⟨K.b,1,none⟩=some (.int .i64 K.e.1.conc)/\w'.cell? ⟨K.b,2,none⟩=some K.e.2.1/\w'.cell? ⟨K.b,3,none⟩=some K.e.2.2/\w'.cell? ⟨K.b,4,none⟩=some (.int .i64 K.e.1.root)/\w'.cell? ⟨K.b,12,none⟩=some (.slice (some ⟨K.gi,0,none⟩) K.n K.n)/\w'.cell? ⟨K.b,13,none⟩=some (.slice (some ⟨K.gh,0,none⟩) K.h K.h)/\w'.cell? ⟨K.b,14,none⟩=some (.slice none 0 0)):=fun w' hb=>⟨HC.out w' hb 0,HC.out w' hb 1,HC.out w' hb 2,HC.out w' hb 3,HC.out w' hb 4,HC.out w' hb 12,HC.out w' hb 13,HC.out w' hb 14⟩;have lb:=yF c0;obtain⟨ea,ec,q1,-⟩:=h.eM.sum;obtain⟨eg,egc,q2,-⟩:=h.eM.guard;obtain⟨la,lc,q3,-⟩:=h.lM.sum;obtain⟨lg,lgc,q4,-⟩:=h.lM.guard;have c2':w.cell? ⟨K.b,2,none⟩=some (.slice ea K.e.1.sum.length ec):=by rw[<-q1];exact c2
 have c3':w.cell? ⟨K.b,3,none⟩=some (.slice eg K.e.1.guard.length egc):=by rw[<-q2];exact c3
 rw[q1,q2]at HA1 HD0;rw[q3,q4]at HD HA2;clear c2 c3;clear hc HC h q1 q2 q3 q4;generalize qJ K.e.1 (aM K s)=a1 at *;generalize qJ K.l.1 (aM K s)=a2 at *;generalize uY K s=ans at *;generalize K.e.1.label=el at *;generalize K.e.1.conc=eo at *;generalize K.e.1.root=er at *;generalize K.e.1.sum.length=en at *;generalize K.e.1.guard.length=em at *;generalize K.l.1.label=ll at *;generalize K.l.1.conc=lo at *;generalize K.l.1.root=lr at *;generalize K.l.1.sum.length=ln at *;generalize K.l.1.guard.length=lm at *
 go_enter Tryz.func175,Tryz.ntmps175
 cases a1
 ·have HR2:Hid (ans=false):=HR.out
  clear HR HA2 HD
  go_upto_region 1 with fail
  go_region_held3 (fun w'=>w'.cell? ⟨K.b,0,none⟩=some (.string ⟨el.toArray⟩)/\w'.cell? ⟨K.b,1,none⟩=some (.int .i64 eo)/\w'.cell? ⟨K.b,2,none⟩=some (.slice ea en ec)/\w'.cell? ⟨K.b,3,none⟩=some (.slice eg em egc)/\w'.cell? ⟨K.b,4,none⟩=some (.int .i64 er)/\w'.cell? ⟨K.b,12,none⟩=some (.slice (some ⟨K.gi,0,none⟩) K.n K.n)/\w'.cell? ⟨K.b,13,none⟩=some (.slice (some ⟨K.gh,0,none⟩) K.h K.h)/\w'.cell? ⟨K.b,14,none⟩=some (.slice none 0 0)) (go_keep) (
   (go_at_call 132;refine(HA1.out _ (pj (tg _ _))).mono ?_;rintro e w4 ⟨rfl,hb4⟩;have hB4:Below w.heap.size w w4:=(pj (tg _ _)).trans hb4;obtain⟨u0,u1,u2,u3,u4,u5,u6,u7⟩:=HD0.out w4 hB4))
  all_goals
   go_wp2_with fail
   go_ret
   exact⟨zF HR2.out.symm,hB4⟩
 ·have HR2:Hid (ans=a2):=HR.out
  clear HR
  go_upto_region 1 with fail
  go_region_held3 (fun w'=>w'.cell? ⟨K.b,0,none⟩=some (.string ⟨el.toArray⟩)/\w'.cell? ⟨K.b,1,none⟩=some (.int .i64 eo)/\w'.cell? ⟨K.b,2,none⟩=some (.slice ea en ec)/\w'.cell? ⟨K.b,3,none⟩=some (.slice eg em egc)/\w'.cell? ⟨K.b,4,none⟩=some (.int .i64 er)/\w'.cell? ⟨K.b,12,none⟩=some (.slice (some ⟨K.gi,0,none⟩) K.n K.n)/\w'.cell? ⟨K.b,13,none⟩=some (.slice (some ⟨K.gh,0,none⟩) K.h K.h)/\w'.cell? ⟨K.b,14,none⟩=some (.slice none 0 0)) (go_keep) (
   (go_at_call 132;refine(HA1.out _ (pj (tg _ _))).mono ?_;rintro e w4 ⟨rfl,hb4⟩;have hB4:Below w.heap.size w w4:=(pj (tg _ _)).trans hb4;obtain⟨u0,u1,u2,u3,u4,u5,u6,u7⟩:=HD0.out w4 hB4))
  all_goals
   obtain⟨d5,d6,d7,d8,d9,d12,d13,d14⟩:=HD.out w4 hB4;have lb4:=yF d5;have HB4:=zA hB4;have hs4:=hB4.size;clear hB4 hb4 c0 c1 c2' c3' c4 c12 c13 c14 u0 u1 u2 u3 u4 u5 u6 u7
   go_upto_region 3 with fail
   go_region_held3 (fun w'=>w'.cell? ⟨K.b,5,none⟩=some (.string ⟨ll.toArray⟩)/\w'.cell? ⟨K.b,6,none⟩=some (.int .i64 lo)/\w'.cell? ⟨K.b,7,none⟩=some (.slice la ln lc)/\w'.cell? ⟨K.b,8,none⟩=some (.slice lg lm lgc)/\w'.cell? ⟨K.b,9,none⟩=some (.int .i64 lr)/\w'.cell? ⟨K.b,12,none⟩=some (.slice (some ⟨K.gi,0,none⟩) K.n K.n)/\w'.cell? ⟨K.b,13,none⟩=some (.slice (some ⟨K.gh,0,none⟩) K.h K.h)/\w'.cell? ⟨K.b,14,none⟩=some (.slice none 0 0)) (go_keep) (
    (go_at_call 132;refine(HA2.out _ (pj HB4.out)).mono ?_;rintro e w5 ⟨rfl,hb5⟩;have hB5:Below w.heap.size w w5:=(pj HB4.out).trans (hb5.mono hs4);obtain⟨v5,v6,v7,v8,v9,v12,v13,v14⟩:=HD.out w5 hB5))
   all_goals
    go_wp2_with fail
    go_ret
    exact⟨zF HR2.out.symm,hB5⟩
theorem zH8(w:World)(K:SK)(s:vS)(t:jC)(v:Nat)(ok:XW K)(ht:t∈K.sw)(h:kU w K s) :
 Calls Tryz.prog 176 #[.pointer (some ⟨K.b,0,none⟩),.agg #[.bool t.flag,.int .i64 (t.place:Nat)],.int .i64 (v:Nat)] w fun e w'=>e=.returned (.tuple #[])/\kU w' K (tE s t v)/\Below K.B w w':=by
 have hc:=h.cells;have c12:w.cell? ⟨K.b,12,none⟩=some (.slice (some ⟨K.gi,0,none⟩) K.n K.n):=hc 12;have c13:w.cell? ⟨K.b,13,none⟩=some (.slice (some ⟨K.gh,0,none⟩) K.h K.h):=hc 13;have lb:=yF c12;have nb:w.heap.size≠K.b:=by omega
 have hB:K.B<=w.heap.size:=p8 ok.lob (ph lb);have hn:=ok.n;have hh:=ok.h;have tgI:=ok.tgI t ht;have tgH:=ok.tgH t ht;have loi:=ok.loi;have loh:=ok.loh;obtain⟨tf,tp⟩:=t;simp only at tgI tgH ⊢;cases tf
 ·have hp:tp<K.h:=tgH rfl
  have hpI:(tp:Int)<(K.h:Int):=by omega
  have d13:∀o,(w.alloc o).cell? ⟨K.b,13,none⟩=some (.slice (some ⟨K.gh,0,none⟩) K.h K.h):=fun o=>((h.below (gb (j1 _) o)).cells 13).trans rfl
  have HS:Hid (∀w',Below (w.setCell ⟨K.gh,tp,none⟩ (.bool ((v:Int)==1))).heap.size (w.setCell ⟨K.gh,tp,none⟩ (.bool ((v:Int)==1))) w'->kU w' K (tE s ⟨false,tp⟩ v)/\Below K.B w w'):=fun w' hb=>by
   have e:((v:Int)==1)=decide (v=1):=by by_cases h9:v=1 <;> simp[h9] <;> omega
   have hk:=(tg K.B w).setCell (p:=⟨K.gh,tp,none⟩) loh (.bool ((v:Int)==1));refine⟨?_,hk.trans (hb.mono (p8 hB hk.size))⟩;rw[e]at hb;exact(h.setH hp _ (tl rfl) (fun r _ hr=>tb hr)).below hb
  have HSd:Hid (∀w',Below w.heap.size w w'->w'.cell? ⟨K.gh,tp,none⟩=some (.bool (s.has tp))/\w'.frozen? ⟨K.gh,tp,none⟩=false):=fun w' hb=>⟨(h.below hb).rH.cell hp,(h.below hb).rH.free _⟩;have n1:K.gh≠K.b:=fun e=>by obtain⟨cs,q,_⟩:=h.rH;exact Xd q h.hd (by decide) e
  have n1':=n1.symm;have l1:=h.rH.lt;have n2:K.gh≠w.heap.size:=by omega
  have n2':=n2.symm;clear h hc tgI tgH c12 ok ht;generalize s.has tp=old at *
  go_enter Tryz.func176,Tryz.ntmps176
  go_upto_region 3 with fail
  have e13:=d13 (.cells #[.bool false,.int .i64 (tp:Nat)] 216);obtain⟨d1,d2⟩:=HSd.out (w.alloc (.cells #[.bool false,.int .i64 (tp:Nat)] 216)).drew (pj (gb (j1 _) _));have e2:((w.setCell ⟨K.gh,tp,none⟩ (.bool ((v:Int)==1))).alloc (.cells #[.bool false,.int .i64 (tp:Nat)] 216)).cell? ⟨w.heap.size,1,none⟩=some (.int .i64 (tp:Nat)):=zB (yS _ _ _ (by simp[World.setCell])) 1
  go_region_held3 (fun w'=>w'.cell? ⟨K.b,13,none⟩=some (.slice (some ⟨K.gh,0,none⟩) K.h K.h)/\w'.cell? ⟨w.heap.size,1,none⟩=some (.int .i64 (tp:Nat))) (go_keep) (fail)
  all_goals
   go_wp2_with fail
   first|go_end0|((try simp only[Exit.inBlock,Exit.then]);refine pe (results_none rfl _ _ _) rfl ?_)
   exact⟨rfl,HS.out _ (pj (gb (j1 _) _))⟩
 ·have hp:tp<K.n:=tgI rfl
  have hpI:(tp:Int)<(K.n:Int):=by omega
  have d12:∀o,(w.alloc o).cell? ⟨K.b,12,none⟩=some (.slice (some ⟨K.gi,0,none⟩) K.n K.n):=fun o=>((h.below (gb (j1 _) o)).cells 12).trans rfl
  have HS:Hid (∀w',Below (w.setCell ⟨K.gi,tp,none⟩ (.int .i64 (v:Nat))).heap.size (w.setCell ⟨K.gi,tp,none⟩ (.int .i64 (v:Nat))) w'->kU w' K (tE s ⟨true,tp⟩ v)/\Below K.B w w'):=fun w' hb=>by
   have hk:=(tg K.B w).setCell (p:=⟨K.gi,tp,none⟩) loi (.int .i64 (v:Nat));refine⟨?_,hk.trans (hb.mono (p8 hB hk.size))⟩;exact(h.setI hp _ (tl rfl) (fun r _ hr=>tb hr)).below hb
  have HSd:Hid (∀w',Below w.heap.size w w'->w'.cell? ⟨K.gi,tp,none⟩=some (.int .i64 (s.inp tp))/\w'.frozen? ⟨K.gi,tp,none⟩=false):=fun w' hb=>⟨(h.below hb).rI.cell hp,(h.below hb).rI.free _⟩;have n1:K.gi≠K.b:=fun e=>by obtain⟨cs,q,_⟩:=h.rI;exact Xd q h.hd (by decide) e
  have n1':=n1.symm;have l1:=h.rI.lt;have n2:K.gi≠w.heap.size:=by omega
  have n2':=n2.symm;clear h hc tgI tgH c13 ok ht;generalize s.inp tp=old at *
  go_enter Tryz.func176,Tryz.ntmps176
  go_upto_region 2 with fail
  have e12:=d12 (.cells #[.bool true,.int .i64 (tp:Nat)] 216);obtain⟨d1,d2⟩:=HSd.out (w.alloc (.cells #[.bool true,.int .i64 (tp:Nat)] 216)).drew (pj (gb (j1 _) _));have e2:((w.setCell ⟨K.gi,tp,none⟩ (.int .i64 (v:Nat))).alloc (.cells #[.bool true,.int .i64 (tp:Nat)] 216)).cell? ⟨w.heap.size,1,none⟩=some (.int .i64 (tp:Nat)):=zB (yS _ _ _ (by simp[World.setCell])) 1
  go_region_held3 (fun w'=>w'.cell? ⟨K.b,12,none⟩=some (.slice (some ⟨K.gi,0,none⟩) K.n K.n)/\w'.cell? ⟨w.heap.size,1,none⟩=some (.int .i64 (tp:Nat))) (go_keep) (fail)
  all_goals
   go_wp2_with fail
   first|go_end0|((try simp only[Exit.inBlock,Exit.then]);refine pe (results_none rfl _ _ _) rfl ?_)
   exact⟨rfl,HS.out _ (pj (gb (j1 _) _))⟩
theorem zAS(l:List jC)(i:Nat)(h:i<l.length):l.drop i=l.getD i U3::l.drop (i+1):=by
 rw[po h];simp[List.getD,h]
def Z9(K:SK)(at':Nat)(w:World)(s:vS)(w':World)(e:Ending):Prop:=∃r s',e=.returned (.bool r)/\kU w' K s'/\Below K.B w w'/\wK (uY K) (K.sw.drop at') s s' r
theorem Zz(K:SK)(ok:XW K):∀(m at':Nat) (w:World) (s:vS),at'+m=K.sw.length->kU w K s ->
 Calls Tryz.prog 143 #[.pointer (some ⟨K.b,0,none⟩),.int .i64 (at':Nat)] w fun e w'=>Z9 K at' w s w' e:=by
 intro m
 induction m with
 | zero =>
   intro at' w s hm h;have HB:=zA (Uh w K s ok h)
   have HP:Hid (∀w',Below w.heap.size w w'->Z9 K at' w s w' (.returned (.bool (uY K s)))):=fun w' hb=>by
    refine⟨_,s,rfl,h.below hb,hb.mono (p8 ok.lob (ph (zJ h.hd))),?_⟩;rw[pm (by omega)];exact Fj _ _
   have hc:=h.cells;have c11:w.cell? ⟨K.b,11,none⟩=some (.slice K.sa K.sw.length K.sc):=hc 11;have hi:¬(at':Int)<(K.sw.length:Int):=by omega
   have hi2:(K.sw.length:Int)<=(at':Int):=by omega
   clear h hc hm;generalize uY K s=ans at *;generalize K.sw.length=n at *
   go_enter Tryz.func143,Tryz.ntmps143
   go_wp2_with fail
   refine HB.out.mono ?_;rintro e w1 ⟨rfl,hb1⟩;have HQ:=zA (HP.out w1 hb1);clear hb1;go_wp2_with fail
   first|exact HQ.out|(go_ret;exact HQ.out)
 | succ m ih =>
   intro at' w s hm h;have zKZ:at'<K.sw.length:=by omega
   have hf:=ok.sw;have hdr:=zAS K.sw at' zKZ;have htm:K.sw.getD at' U3∈K.sw:=by simp[List.getD,zKZ]
   have HI:Hid (∀w1 s1,kU w1 K s1->Calls Tryz.prog 143 #[.pointer (some ⟨K.b,0,none⟩),.int .i64 ((at':Int)+1)] w1 fun e w'=>∃r s',e=.returned (.bool r)/\kU w' K s'/\Below K.B w1 w'/\wK (uY K) (K.sw.drop (at'+1)) s1 s' r):=fun w1 s1 h1=>ih (at'+1) w1 s1 (by omega) h1;have HT:Hid (∀w1 s1 (v:Nat),kU w1 K s1->Calls Tryz.prog 176 #[.pointer (some ⟨K.b,0,none⟩),.agg #[.bool (K.sw.getD at' U3).flag,.int .i64 ((K.sw.getD at' U3).place:Nat)],.int .i64 (v:Nat)] w1 fun e w'=>e=.returned (.tuple #[])/\kU w' K (tE s1 (K.sw.getD at' U3) v)/\Below K.B w1 w'):=fun w1 s1 v h1=>zH8 w1 K s1 _ v ok htm h1;have HC:Hid (∀w1 s1,kU w1 K s1->w1.cell? ⟨K.b,11,none⟩=some (.slice K.sa K.sw.length K.sc)/\∃g,K.sa=some ⟨g,0,none⟩/\w1.cell? ⟨g,at'*2,none⟩=some (.bool (K.sw.getD at' U3).flag)/\w1.cell? ⟨g,at'*2+1,none⟩=some (.int .i64 ((K.sw.getD at' U3).place:Nat))):=fun w1 s1 h1=>⟨h1.cells 11,h1.tog zKZ⟩;have HY:Hid (∀v s1 s2 w2,v<=1->ZX (uY K) (K.sw.getD at' U3) (K.sw.drop (at'+1)) s s1 v->kU w2 K s2->Below K.B w w2->wK (uY K) (K.sw.drop (at'+1)) (tE s1 (K.sw.getD at' U3) v) s2 true->Z9 K at' w s w2 (.returned (.bool true))):=fun v s1 s2 w2 hv h1 h2 h3 h4=>⟨true,s2,rfl,h2,h3,by rw[hdr];exact Fk hv h1 h4⟩;have HN:Hid (∀s1 w1,ZX (uY K) (K.sw.getD at' U3) (K.sw.drop (at'+1)) s s1 2->kU w1 K s1->Below K.B w w1->Z9 K at' w s w1 (.returned (.bool false))):=fun s1 w1 h1 h2 h3=>⟨false,s1,rfl,h2,h3,by rw[hdr];exact Fl h1⟩;have HM0:=zA (UH (uY K) (K.sw.getD at' U3) (K.sw.drop (at'+1)) s);have HS:=zA h;have h11:=(HC.out w s h).1;have hltI:(at':Int)<(K.sw.length:Int):=by omega
   have hltD:decide (K.sw.length<=at')=false:=ty (by omega);have hltN:¬K.sw.length<=at':=by omega
   clear h ih hdr htm ok hm;generalize K.sw.getD at' U3=T at *;generalize K.sw.drop (at'+1)=S at *;generalize hnn:K.sw.length=n at *;clear hnn;obtain⟨Tf,Tp⟩:=T;simp only at HT HC
   go_enter Tryz.func143,Tryz.ntmps143
   go_wp2_with fail
   go_loopw [5] (fun iv wr=>∃(v:Nat) (s1:vS),v<=2/\iv=.int .i64 v/\Hid (kU wr K s1)/\Hid (Below K.B w wr)/\Hid (ZX (uY K) ⟨Tf,Tp⟩ S s s1 v)) (fun iv _=>2-(intOf iv).toNat)
   case atStart=>exact⟨0,s,by omega,rfl,HS,zA (tg _ _),HM0⟩
   case round =>
    obtain⟨v,s1,hv,rfl,HSr,zLI,HMr⟩:=hrel;by_cases hv1:v<=1
    ·obtain⟨k11,g,ea,k0,k1⟩:=HC.out wr s1 HSr.out
     rw[ea]at k11;have hvI:(v:Int)<=1:=by omega
     have HTv:=zA (HT.out wr s1 v HSr.out);clear ea;go_wp2_with fail
     refine HTv.out.mono ?_;rintro e w2 ⟨rfl,hS2,hB2⟩;have HS2:=zA hS2;have HB2:Hid (Below K.B w w2):=zLI.out.trans hB2;have HI2:=zA (HI.out w2 _ hS2);clear hS2 hB2 k11 k0 k1;go_wp2_with fail
     refine HI2.out.mono ?_;rintro e w3 ⟨r,s3,rfl,hS3,hB3,hR3⟩;have HB3:Hid (Below K.B w w3):=HB2.out.trans hB3;cases r
     ·have HM3:=zA (xy HMr.out hR3)
      have HS3:=zA hS3;clear hS3 hB3 hR3;go_wp2_with fail
      go_roundw
      case rel=>exact⟨v+1,s3,by omega,by go_num,HS3,HB3,HM3⟩
      case measure=>simp[intOf];omega
     ·have HQ:=zA (HY.out v s1 s3 w3 hv1 HMr.out hS3 HB3.out hR3)
      clear hS3 hB3 hR3;go_wp2_with fail
      first|exact HQ.out|(go_ret;exact HQ.out)
    ·obtain rfl:v=2:=by omega
     have HQ:=zA (HN.out s1 wr HMr.out HSr.out zLI.out);go_wp2_with fail
     first|exact HQ.out|(go_ret;exact HQ.out)
theorem zIE:(Tryz.prog.info? 221).map (·.size)=some 2:=by kernel_rfl
def zn0:mN:=⟨0,0,0⟩
def vh(r:Nat)(n:mN)(s:Int × Int):Int × Int:=if n.rank=r then (if s.1<n.lo then n.lo else s.1,if n.hi<s.2 then n.hi else s.2) else s
theorem J3(r:Nat)(L:List mN)(i:Nat)(s:Int × Int)(h:i<L.length):qF r (L.drop i) s=qF r (L.drop (i+1)) (vh r (L.getD i zn0) s):=by
 rw[po h,qF];simp[List.getD,h,vh]
theorem yd{i:Nat}(h:i<np):(mP np Z rk).getD i zn0=⟨(Z i).1,(Z i).2,rk i⟩:=by simp[mP,List.getD,h]
def zH2(a b:Int):Obj:=.cells #[.int .i64 a,.int .i64 b] 221 (0,0)
structure zC4(w wr:World)(x y:Int):Prop where
 bel:Below w.heap.size w wr
 sz:w.heap.size+2<=wr.heap.size
 res:wr.heap[w.heap.size]? = some (.cells #[.int .i64 0,.int .i64 0] 221 (0,0))
 zn:wr.heap[w.heap.size+1]? = some (.cells #[.int .i64 x,.int .i64 y] 221 (0,0))
theorem zC4.alloc{x y:Int}(h:zC4 w wr x y)(o:Obj):zC4 w (wr.alloc o) x y:=⟨h.bel.alloc (by have:=h.sz;omega) o,by have:=h.sz;simp;omega,zS h.res,zS h.zn⟩
theorem zC4.set0{x y:Int}(h:zC4 w wr x y)(v:Int):zC4 w (wr.setCell ⟨w.heap.size+1,0,none⟩ (.int .i64 v)) v y :=
 ⟨h.bel.setCell (p:=⟨w.heap.size+1,0,none⟩) (mw _) _,by have:=h.sz;simp[World.setCell];exact this,by rw[ma wr ⟨w.heap.size+1,0,none⟩ w.heap.size _ (by simp)];exact h.res,by rw[tr wr _ 0 _ _ _ h.zn];simp⟩
theorem zC4.set1{x y:Int}(h:zC4 w wr x y)(v:Int):zC4 w (wr.setCell ⟨w.heap.size+1,1,none⟩ (.int .i64 v)) x v :=
 ⟨h.bel.setCell (p:=⟨w.heap.size+1,1,none⟩) (mw _) _,by have:=h.sz;simp[World.setCell];exact this,by rw[ma wr ⟨w.heap.size+1,1,none⟩ w.heap.size _ (by simp)];exact h.res,by rw[tr wr _ 1 _ _ _ h.zn];simp⟩
theorem J2(w:World)(K:SK)(s:vS)(r:Nat)(ok:XW K)(h:kU w K s) :
 Calls Tryz.prog 173 #[.pointer (some ⟨K.b,0,none⟩),.int .i64 (r:Nat)] w fun e w'=>e=.returned (.agg #[.int .i64 (vT (mP K.np s.Z s.rk) r).1,.int .i64 (vT (mP K.np s.Z s.rk) r).2])/\Below w.heap.size w w':=by
 have HS:=zA h;have c10:w.cell? ⟨K.b,10,none⟩=some (.slice K.na K.np K.nc):=h.cells 10;have lb:=yF c10;have nb:w.heap.size≠K.b:=by omega
 have hnp:=ok.np;have HL:=zA (rS K.np s.Z s.rk);have HAt:=zA (fun i (hi:i<K.np)=>yd (Z:=s.Z) (rk:=s.rk) hi);have HE0:Hid (qF r ((mP K.np s.Z s.rk).drop 0) (0,9999)=vT (mP K.np s.Z s.rk) r):=rfl;generalize mP K.np s.Z s.rk=L at *;generalize vT L r=ans at *;obtain⟨a1,a2⟩:=ans;simp only;have HNa:Hid (0<K.np->K.na=some ⟨K.gn,0,none⟩):=fun h0=>(h.rN h0).1;clear h ok;generalize K.na=na at *
 go_enter Tryz.func173,Tryz.ntmps173
 go_wp2_with fail
 generalize hO1:Obj.cells #[Value.int .i64 0,.int .i64 0] 221=O1 at *;have y0:((w.alloc O1).alloc (zH2 0 9999)).heap[w.heap.size]? = some (zH2 0 0):=hO1 ▸ zS (zG _ _);have y1:((w.alloc O1).alloc (zH2 0 9999)).heap[w.heap.size+1]? = some (zH2 0 9999):=yS _ _ _ (by simp);have hb0:Below w.heap.size w ((w.alloc O1).alloc (zH2 0 9999)):=(gb (j1 _) _).alloc (by simp) _;have hs0:w.heap.size+2<=((w.alloc O1).alloc (zH2 0 9999)).heap.size:=by simp
 unfold zH2 at y0 y1 hb0 hs0;have HY0:=zA y0;have HY1:=zA y1;have HB0:=zA hb0;clear y0 y1 hb0 hO1;generalize (w.alloc O1).alloc (.cells #[.int .i64 0,.int .i64 9999] 221 (0,0))=w0 at *
 go_loopw [14] (fun iv wr=>∃(i:Nat) (lo hi:Int),i<=K.np/\iv=.int .i64 i/\Hid (zC4 w wr lo hi)/\Hid (qF r (L.drop i) (lo,hi)=(a1,a2))) (fun iv _=>K.np-(intOf iv).toNat)
 case atStart=>exact⟨0,0,9999,p7 _,rfl,zA ⟨HB0.out,hs0,HY0.out,HY1.out⟩,HE0⟩
 case round =>
  obtain⟨i,lo,hi,zL9,rfl,HI,HE⟩:=hrel;have HB:=zA HI.out.bel;have zL8:=HI.out.sz;have HZ0:=zA HI.out.res;have HZ1:=zA HI.out.zn;have z0:wr.cell? ⟨w.heap.size+1,0,none⟩=some (.int .i64 lo):=zB HZ1.out 0;have z1:wr.cell? ⟨w.heap.size+1,1,none⟩=some (.int .i64 hi):=zB HZ1.out 1;have y1:∀j,wr.frozen? ⟨w.heap.size+1,j,none⟩=false:=fun j=>by simp[World.frozen?,HZ1.out]
  by_cases zKZ:i<K.np
  ·have ii:(i:Int)<(K.np:Int):=by omega
   obtain⟨-,n0,n1,n2,n3,n4,-⟩:=(HS.out.below HB.out).num zKZ;have ea:=HNa.out (by omega);subst ea;have hE:=HE.out;rw[J3 r L i (lo,hi) (by rw[HL.out];exact zKZ),HAt.out i zKZ]at hE;have HE2:=zA hE;have lg:=yF n0;have ng:wr.heap.size≠K.gn:=by omega
   have m1:wr.heap.size≠w.heap.size+1:=by omega
   have m2:w.heap.size+1<wr.heap.size:=by omega
   have m3:w.heap.size+1≠wr.heap.size:=by omega
   clear HE hE;generalize K.P i=pp at *;generalize K.za i=za at *;generalize (K.zs i).length=zl at *;generalize K.zc i=zc at *;generalize s.Z i=zz at *;generalize s.rk i=rr at *;obtain⟨zl1,zh1⟩:=zz;simp only at n2 n3 HE2;unfold vh at HE2;simp only at HE2;by_cases k0:rr=r
   ·subst k0
    rw[tl rfl]at HE2;by_cases k1:lo<zl1
    ·rw[tl k1]at HE2
     by_cases k2:zh1<hi
     ·rw[tl k2]at HE2
      go_wp2_with fail
      go_roundw
      case rel=>exact⟨i+1,zl1,zh1,by omega,by go_num,zA (((HI.out.set0 zl1).set1 zh1).alloc _),HE2⟩
      case measure=>simp[intOf];omega
     ·rw[tb k2]at HE2
      go_wp2_with fail
      go_roundw
      case rel=>exact⟨i+1,zl1,hi,by omega,by go_num,zA ((HI.out.set0 zl1).alloc _),HE2⟩
      case measure=>simp[intOf];omega
    ·rw[tb k1]at HE2
     by_cases k2:zh1<hi
     ·rw[tl k2]at HE2
      go_wp2_with fail
      go_roundw
      case rel=>exact⟨i+1,lo,zh1,by omega,by go_num,zA ((HI.out.set1 zh1).alloc _),HE2⟩
      case measure=>simp[intOf];omega
     ·rw[tb k2]at HE2
      go_wp2_with fail
      go_roundw
      case rel=>exact⟨i+1,lo,hi,by omega,by go_num,zA (HI.out.alloc _),HE2⟩
      case measure=>simp[intOf];omega
   ·rw[tb k0]at HE2
    have b0:((rr:Int)==(r:Int))=false:=by rw[mq];omega
    have b1:((rr:Int) != (r:Int))=true:=by simp only[bne,b0];rfl
    clear k0;go_wp2_with fail
    go_roundw
    case rel=>exact⟨i+1,lo,hi,by omega,by go_num,zA (HI.out.alloc _),HE2⟩
    case measure=>simp[intOf];omega
  ·have ii:¬(i:Int)<(K.np:Int):=by omega
   have HE2:Hid ((lo,hi)=(a1,a2)):=by have:=HE.out;rw[pm (by rw[HL.out];omega)]at this;exact this
   have w0c:wr.cell? ⟨w.heap.size,0,none⟩=some (.int .i64 0):=zB HZ0.out 0;have w0d:wr.cell? ⟨w.heap.size,1,none⟩=some (.int .i64 0):=zB HZ0.out 1;have y0:∀j,wr.frozen? ⟨w.heap.size,j,none⟩=false:=fun j=>by simp[World.frozen?,HZ0.out]
   have HFr:Hid (((wr.setCell ⟨w.heap.size,0,none⟩ (.int .i64 lo)).setCell ⟨w.heap.size,1,none⟩ (.int .i64 hi)).heap[w.heap.size]? = some (.cells #[.int .i64 lo,.int .i64 hi] 221 (0,0))):=by
    have q1:=tr wr _ 0 _ _ (.int .i64 lo) HZ0.out;have q2:=tr _ _ 1 _ _ (.int .i64 hi) q1;unfold Hid;rw[q2];simp
   have HBf:Hid (Below w.heap.size w ((wr.setCell ⟨w.heap.size,0,none⟩ (.int .i64 lo)).setCell ⟨w.heap.size,1,none⟩ (.int .i64 hi))):=(HB.out.setCell (by simp) _).setCell (by simp) _;go_wp2_with fail
   refine pe (v:=.agg #[.int .i64 lo,.int .i64 hi]) (results_cell_row Tryz.results173 _ _ w.heap.size 221 #[.int .i64 lo,.int .i64 hi] (0,0) _ rfl HFr.out Tryz.underlying221 rfl zIE) rfl ⟨?_,HBf.out⟩;have:=HE2.out;simp only[Prod.mk.injEq]at this;rw[this.1,this.2]
theorem GJ(r:Nat)(L:List mN)(i:Nat)(h:i<L.length):bW r (L.drop i)=(if (L.getD i zn0).rank=r then 1 else 0)+bW r (L.drop (i+1)):=by
 rw[po h,bW];simp[List.getD,h]
theorem VY(r:Nat)(L:List mN):bW r L<=L.length:=by
 induction L with
 | nil=>simp[bW]
 | cons n L ih=>rw[bW,pf];split <;> omega
def bD(K:SK)(s:vS)(r:Nat)(v:Int)(i:Nat)(x:Nat):Int:=if (List.range i).any (fun p=>decide (K.P p=x)&&decide (s.rk p=r))=true then v else s.inp x
theorem FE(K:SK)(s:vS)(r:Nat)(v:Int):bD K s r v 0=s.inp:=by funext x;unfold bD;simp
theorem FF(K:SK)(s:vS)(r:Nat)(v:Int)(i:Nat)(h:s.rk i≠r):bD K s r v (i+1)=bD K s r v i:=by
 funext x;unfold bD;rw[lq,List.any_append];simp[h]
theorem zDJ(K:SK)(s:vS)(r:Nat)(v:Int)(i:Nat)(h:s.rk i=r):bD K s r v (i+1) (K.P i)=v:=by
 unfold bD;rw[lq,List.any_append];simp[h]
theorem Bp(K:SK)(s:vS)(r:Nat)(v:Int)(i x:Nat)(h:x≠K.P i):bD K s r v (i+1) x=bD K s r v i x:=by
 have:(K.P i=x)=False:=eq_false fun e=>h e.symm;unfold bD;rw[lq,List.any_append];simp[this]
theorem zDK(w:World)(K:SK)(s:vS)(r:Nat)(v:Int)(ok:XW K)(h:kU w K s) :
 Calls Tryz.prog 174 #[.pointer (some ⟨K.b,0,none⟩),.int .i64 (r:Nat),.int .i64 v] w fun e w'=>e=.returned (.int .i64 (bW r (mP K.np s.Z s.rk):Nat))/\kU w' K { s with inp:=bD K s r v K.np }/\zC w.heap.size K.gi w w':=by
 have c10:w.cell? ⟨K.b,10,none⟩=some (.slice K.na K.np K.nc):=h.cells 10;have lb:=yF c10;have hnp:=ok.np;have hn:=ok.n;have HS0:Hid (kU w K { s with inp:=bD K s r v 0 }):=by unfold Hid;rw[FE];exact h
 have HL:=zA (rS K.np s.Z s.rk);have HAt:=zA (fun i (hi:i<K.np)=>yd (Z:=s.Z) (rk:=s.rk) hi);have HE0:Hid (0+bW r ((mP K.np s.Z s.rk).drop 0)=bW r (mP K.np s.Z s.rk)):=by unfold Hid;simp
 have HCl:=zA (VY r (mP K.np s.Z s.rk));have HP:=zA ok.P;generalize mP K.np s.Z s.rk=L at *;generalize bW r L=ans at *;have HNa:Hid (0<K.np->K.na=some ⟨K.gn,0,none⟩):=fun h0=>(h.rN h0).1;clear h ok;generalize K.na=na at *
 go_enter Tryz.func174,Tryz.ntmps174
 go_wp2_with fail
 go_loopw [7,15] (fun nv iv wr=>∃(i n:Nat),i<=K.np/\n<=i/\nv=.int .i64 n/\iv=.int .i64 i/\Hid (zC w.heap.size K.gi w wr)/\Hid (kU wr K { s with inp:=bD K s r v i })/\Hid (n+bW r (L.drop i)=ans)) (fun _ iv _=>K.np-(intOf iv).toNat)
 case atStart=>exact⟨0,0,p7 _,j1 _,rfl,rfl,zA (zC.refl _ _ _),HS0,HE0⟩
 case round =>
  obtain⟨i,n,hi,hni,rfl,rfl,HB,HS,HE⟩:=hrel;have zLD:=HB.out.size;by_cases zKZ:i<K.np
  ·have ii:(i:Int)<(K.np:Int):=by omega
   obtain⟨-,n0,n1,n2,n3,n4,-⟩:=HS.out.num zKZ;have ea:=HNa.out (by omega);subst ea;simp only at n2 n3 n4;have d12:wr.cell? ⟨K.b,12,none⟩=some (.slice (some ⟨K.gi,0,none⟩) K.n K.n):=HS.out.cells 12;have hE:=HE.out;rw[GJ r L i (by rw[HL.out];exact zKZ),HAt.out i zKZ]at hE;have HE2:=zA hE;have lg:=yF n0;have ng:wr.heap.size≠K.gn:=by omega
   have lbr:=yF d12;have nbr:wr.heap.size≠K.b:=by omega
   have lgi:=HS.out.rI.lt;have ngi:wr.heap.size≠K.gi:=by omega
   have ngi':K.gi≠wr.heap.size:=by omega
   have nib:K.gi≠K.b:=fun e=>by obtain⟨cs,q,_⟩:=HS.out.rI;exact Xd q HS.out.hd (by decide) e
   have nib':=nib.symm;have hpn:=HP.out i zKZ;have hpI:(K.P i:Int)<(K.n:Int):=by omega
   have HSk:Hid (s.rk i≠r->∀o,kU (wr.alloc o) K { s with inp:=bD K s r v (i+1) }/\zC w.heap.size K.gi w (wr.alloc o)):=fun zL4 o=>⟨by rw[FF K s r v i zL4];exact HS.out.below (gb (j1 _) o),HB.out.alloc zLD o⟩
   have zLL:Hid (s.rk i=r->∀w',Below (wr.setCell ⟨K.gi,K.P i,none⟩ (.int .i64 v)).heap.size (wr.setCell ⟨K.gi,K.P i,none⟩ (.int .i64 v)) w'->kU w' K { s with inp:=bD K s r v (i+1) }/\zC w.heap.size K.gi w w'):=fun he w' hb=>by
    have h1:=HS.out.setI hpn v (zDJ K s r v i he) (fun x _ hx=>Bp K s r v i x hx);refine⟨h1.below hb,?_⟩;have hk:=HB.out.setCell (p:=⟨K.gi,K.P i,none⟩) (.inr rfl) (.int .i64 v);exact hk.trans (zC.of_below (hb.mono (by have:=hk.size;exact this)))
   have HSd:Hid (∀w',Below wr.heap.size wr w'->w'.cell? ⟨K.gi,K.P i,none⟩=some (.int .i64 (bD K s r v i (K.P i)))/\w'.frozen? ⟨K.gi,K.P i,none⟩=false):=fun w' hb=>⟨(HS.out.below hb).rI.cell hpn,(HS.out.below hb).rI.free _⟩;clear HE hE;generalize bD K s r v i (K.P i)=old at *;generalize K.P i=pp at *;generalize K.za i=za at *;generalize (K.zs i).length=zl at *;generalize K.zc i=zc at *;generalize s.Z i=zz at *;generalize s.rk i=rr at *;obtain⟨zl1,zh1⟩:=zz;simp only at n2 n3 HE2;by_cases k0:rr=r
   ·have HE3:Hid (n+1+bW r (L.drop (i+1))=ans):=by have:=HE2.out;rw[tl k0]at this;unfold Hid;omega
    have HSt2:=zA (zLL.out k0);clear HE2 HSk zLL;subst k0
    go_upto_region 6 with fail
    obtain⟨d1,d2⟩:=HSd.out (wr.alloc (.cells #[.int .i64 (pp:Nat),.slice za zl zc,.int .i64 zl1,.int .i64 zh1,.int .i64 (rr:Nat)] 223)).drew (pj (gb (j1 _) _));have e2:((wr.setCell ⟨K.gi,pp,none⟩ (.int .i64 v)).alloc (.cells #[.int .i64 (pp:Nat),.slice za zl zc,.int .i64 zl1,.int .i64 zh1,.int .i64 (rr:Nat)] 223)).cell? ⟨wr.heap.size,0,none⟩=some (.int .i64 (pp:Nat)):=zB (yS _ _ _ (by simp[World.setCell])) 0
    go_region_held3 (fun w'=>w'.cell? ⟨K.b,12,none⟩=some (.slice (some ⟨K.gi,0,none⟩) K.n K.n)/\w'.cell? ⟨wr.heap.size,0,none⟩=some (.int .i64 (pp:Nat))) (go_keep) (fail)
    all_goals
     go_wp2_with fail
     go_roundw
     case rel=>exact⟨i+1,n+1,by omega,by omega,by go_num,by go_num,zA (HSt2.out _ (pj (gb (j1 _) _))).2,zA (HSt2.out _ (pj (gb (j1 _) _))).1,HE3⟩
     case measure=>simp[intOf];omega
   ·have HE3:Hid (n+bW r (L.drop (i+1))=ans):=by have:=HE2.out;rw[tb k0]at this;unfold Hid;omega
    have HSk2:=zA (HSk.out k0);have b0:((rr:Int)==(r:Int))=false:=by rw[mq];omega
    clear HE2 HSk zLL k0;go_wp2_with fail
    go_roundw
    case rel=>exact⟨i+1,n,by omega,by omega,by first|rfl|go_num,by go_num,zA (HSk2.out _).2,zA (HSk2.out _).1,HE3⟩
    case measure=>simp[intOf];omega
  ·have ii:¬(i:Int)<(K.np:Int):=by omega
   obtain rfl:i=K.np:=by omega
   have HE2:Hid (n=ans):=by have:=HE.out;rw[pm (by rw[HL.out];omega)]at this;unfold Hid;simpa[bW] using this
   clear HE;go_wp2_with fail
   go_ret
   exact⟨yP (congrArg (fun (x:Nat)=>(x:Int)) HE2.out),HS.out,HB.out⟩
structure rO(K:SK)(s s1:vS)(r:Nat)(out:List Int):Prop where
 z:s1.Z=s.Z/\s1.rk=s.rk/\s1.has=s.has
 off:∀i,(∀p,p<K.np->K.P p≠i)->s1.inp i=s.inp i
 num:∀p,p<K.np->s.rk p<r->s1.inp (K.P p)=out.getD (s.rk p) 0
 len:out.length=r
theorem KM(K:SK)(s:vS):rO K s s 0 []:=⟨⟨rfl,rfl,rfl⟩,fun _ _=>rfl,fun p _ h=>absurd h (by omega),rfl⟩
theorem Va(K:SK)(s:vS)(r:Nat)(v:Int)(x:Nat)(h:∀p,p<K.np->K.P p=x->s.rk p≠r):bD K s r v K.np x=s.inp x:=by
 unfold bD;rw[tb];intro hh;obtain⟨p,hp,hq⟩:=me.1 hh;rw[pq,pw,pw]at hq;exact h p (by simpa using hp) hq.1 hq.2
theorem zDI(K:SK)(s:vS)(r:Nat)(v:Int)(p:Nat)(hp:p<K.np)(h:s.rk p=r):bD K s r v K.np (K.P p)=v:=by
 unfold bD;rw[tl];exact me.2 ⟨p,by simpa using hp,by simp[h]⟩
theorem ZL{K:SK}(inj:∀p q,p<K.np->q<K.np->K.P p=K.P q->p=q){r:Nat}{out:List Int}(h:rO K s s1 r out)(v:Int):rO K s { s1 with inp:=bD K s1 r v K.np } (r+1) (out++[v]):=by
 refine⟨h.z,fun i hi=>?_,fun p hp hr=>?_,by simp[h.len]⟩
 ·rw[<-h.off i hi];exact Va K s1 r v i fun p hp e=>absurd e (hi p hp)
 ·have hl:=h.len
  by_cases hr2:s.rk p=r
  ·rw[show ({ s1 with inp:=bD K s1 r v K.np }:vS).inp (K.P p)=v from zDI K s1 r v p hp (by rw[h.z.2.1];exact hr2)]
   rw[hr2,<-hl];simp[List.getD]
  ·have e:({ s1 with inp:=bD K s1 r v K.np }:vS).inp (K.P p)=s1.inp (K.P p):=Va K s1 r v _ fun q hq e=>by
    rw[inj q p hq hp e,h.z.2.1];exact hr2
   rw[e,h.num p hp (by omega)];simp[List.getD,ms (show s.rk p<out.length by omega)]
theorem UU{K:SK}{r:Nat}{out:List Int}(h:rO K s s1 r out)(hs:dO (mP K.np s.Z s.rk)=some out)(hr:∀p,p<K.np->s.rk p<r):eJ K.np K.P s s1 true :=
 ⟨h.z,h.off,fun _=>⟨out,hs,fun p hp=>h.num p hp (hr p hp)⟩,fun h=>absurd h (by simp)⟩
theorem Fy{K:SK}{r:Nat}{out:List Int}(h:rO K s s1 r out)(hs:dO (mP K.np s.Z s.rk)=none):eJ K.np K.P s s1 false :=
 ⟨h.z,h.off,fun h=>absurd h (by simp),fun _=>hs⟩
theorem zH3{r:Nat}(h:pJ r (mP np Z rk)=np):∀p,p<np->rk p<r:=fun p hp =>
 eC (L:=mP np Z rk) (by rw[rS];exact h) (⟨(Z p).1,(Z p).2,rk p⟩:mN) (p9.2 ⟨p,by simpa using hp,rfl⟩)
def Kk(K:SK)(w:World)(s:vS)(w':World)(e:Ending):Prop:=∃r s',e=.returned (.bool r)/\kU w' K s'/\Below K.B w w'/\eJ K.np K.P s s' r
theorem J5(w:World)(K:SK)(s:vS)(ok:XW K)(hrk:∀p,p<K.np->s.rk p<K.np)(h:kU w K s) :
 Calls Tryz.prog 142 #[.pointer (some ⟨K.b,0,none⟩)] w fun e w'=>Kk K w s w' e:=by
 have c10:w.cell? ⟨K.b,10,none⟩=some (.slice K.na K.np K.nc):=h.cells 10;have lb:=yF c10;have hBw:K.B<=w.heap.size:=p8 ok.lob (ph lb);have hnp:=ok.np;have HS0:=zA h;have HLl:=zA (rS K.np s.Z s.rk);have HE0:Hid (Zc (mP K.np s.Z s.rk) (K.np-0) 0 0 0 []=dO (mP K.np s.Z s.rk)):=by unfold Hid dO;rw[rS];rfl
 have HP0:Hid (0=pJ 0 (mP K.np s.Z s.rk)):=(eA _).symm;have HM0:=zA (KM K s);have HY:Hid (∀s1 w1 r out,rO K s s1 r out->dO (mP K.np s.Z s.rk)=some out->(∀p,p<K.np->s.rk p<r)->kU w1 K s1->Below K.B w w1->Kk K w s w1 (.returned (.bool true))):=fun s1 w1 r out h1 h2 h3 h4 h5=>⟨true,s1,rfl,h4,h5,UU h1 h2 h3⟩;have HN:Hid (∀s1 w1 r out,rO K s s1 r out->dO (mP K.np s.Z s.rk)=none->kU w1 K s1->Below K.B w w1->Kk K w s w1 (.returned (.bool false))):=fun s1 w1 r out h1 h2 h4 h5=>⟨false,s1,rfl,h4,h5,Fy h1 h2⟩;have HCf:Hid (∀r,pJ r (mP K.np s.Z s.rk)=K.np->∀p,p<K.np->s.rk p<r):=fun r h=>zH3 h
 have HSh:Hid (∀r w1 s1,kU w1 K s1->s1.Z=s.Z->s1.rk=s.rk->Calls Tryz.prog 173 #[.pointer (some ⟨K.b,0,none⟩),.int .i64 (r:Nat)] w1 fun e w'=>e=.returned (.agg #[.int .i64 (vT (mP K.np s.Z s.rk) r).1,.int .i64 (vT (mP K.np s.Z s.rk) r).2])/\Below w1.heap.size w1 w'):=fun r w1 s1 h1 h2 h3=>by
  have:=J2 w1 K s1 r ok h1;rw[h2,h3]at this;exact this
 have HPl:Hid (∀r v w1 s1,kU w1 K s1->s1.Z=s.Z->s1.rk=s.rk->Calls Tryz.prog 174 #[.pointer (some ⟨K.b,0,none⟩),.int .i64 (r:Nat),.int .i64 v] w1 fun e w'=>e=.returned (.int .i64 (bW r (mP K.np s.Z s.rk):Nat))/\kU w' K { s1 with inp:=bD K s1 r v K.np }/\zC w1.heap.size K.gi w1 w'):=fun r v w1 s1 h1 h2 h3=>by
  have:=zDK w1 K s1 r v ok h1;rw[show mP K.np s1.Z s1.rk=mP K.np s.Z s.rk by rw[h2,h3]]at this;exact this
 have HGe:=zA (fun r=>aP r (mP K.np s.Z s.rk) (0,9999));have HCl:=zA (fun r=>VY r (mP K.np s.Z s.rk));have HLt:=zA (fun r=>(Zx r (mP K.np s.Z s.rk)).1);have HSu:=zA (fun r=>eB r (mP K.np s.Z s.rk));have HRk:=zA hrk;have loi:=ok.loi;have HIj:=zA ok.inj;rw[HLl.out]at HLt HCl;generalize mP K.np s.Z s.rk=L at *;clear h ok hrk
 go_enter Tryz.func142,Tryz.ntmps142
 go_wp2_with fail
 go_loopw [3,4,13] (fun lv pv iv wr=>∃(r pl:Nat) (xY:Int) (out:List Int) (s1:vS),r<=K.np/\lv=.int .i64 xY/\pv=.int .i64 pl/\iv=.int .i64 r /\ -1<=xY/\xY<=10000/\Hid (Below K.B w wr)/\Hid (kU wr K s1)/\Hid (rO K s s1 r out)/\Hid (pl=pJ r L)/\Hid (Zc L (K.np-r) r xY pl out=dO L)) (fun _ _ iv _=>K.np-(intOf iv).toNat)
 case atStart=>exact⟨0,0,0,[],s,p7 _,rfl,rfl,rfl,by omega,by omega,zA (tg _ _),HS0,HM0,HP0,HE0⟩
 case round =>
  obtain⟨r,pl,xY,out,s1,hr,rfl,rfl,rfl,hl1,hl2,HB,HS,HM,HPl2,HE⟩:=hrel;have zLD:=HB.out.size;have hple:pl<=K.np:=by rw[HPl2.out];exact HLt.out r
  have d10:wr.cell? ⟨K.b,10,none⟩=some (.slice K.na K.np K.nc):=HS.out.cells 10;by_cases zKZ:r<K.np
  ·have ii:(r:Int)<(K.np:Int):=by omega
   have hE:=HE.out;rw[show K.np-r=(K.np-(r+1))+1 by omega,Zc,HLl.out]at hE;by_cases k0:pl=K.np
   ·rw[tl k0]at hE
    have HQ:=zA (HY.out s1 wr r out HM.out hE.symm (HCf.out r (by rw[<-HPl2.out];exact k0)) HS.out HB.out);clear hE HE;subst k0;go_wp2_with fail
    first|exact HQ.out|(go_ret;exact HQ.out)
   rw[tb k0]at hE;have HE2:=zA hE;have b0:((pl:Int)==(K.np:Int))=false:=by rw[mq];omega
   have HSh1:=zA (HSh.out r wr s1 HS.out HM.out.z.1 HM.out.z.2.1);have hge:=HGe.out r;have HPl1:=zA (fun v w' (hb:Below wr.heap.size wr w')=>HPl.out r v w' s1 (HS.out.below hb) HM.out.z.1 HM.out.z.2.1);have hg1:0<=(vT L r).1:=hge.1;have hg2:(vT L r).2<=9999:=hge.2.1;have hcl:=HCl.out r;have HSu1:=zA (HSu.out r);clear hge hE HE k0 c10;generalize vT L r=sh at *;generalize bW r L=cn at *;obtain⟨h1,h2⟩:=sh;simp only at HE2 HSh1 hg1 hg2;have nbr:∀(w':World),Below wr.heap.size wr w'->K.b<w'.heap.size:=fun w' hb=>by have:=hb.size;have:=yF d10;omega
   go_wp2_with fail
   refine HSh1.out.mono ?_;rintro e w2 ⟨rfl,hb2⟩;have HB2:=zA hb2;have hs2:=hb2.size
   have HFin:Hid (∀v w',Below w2.heap.size w2 w'->w'.heap[w2.heap.size]? = some (.cells #[.int .i64 v,.int .i64 h2] 221 (0,0))->∀w3,zC w'.heap.size K.gi w' w3->w3.cell? ⟨w2.heap.size,0,none⟩=some (.int .i64 v)/\Below K.B w w3):=fun v w' hb hz w3 hk=>by
    have zL4:w2.heap.size≠K.gi:=fun e=>by have:=(HS.out.below HB2.out).rI.lt;omega
    refine⟨?_,?_⟩
    ·rw[hk.cell (p:=⟨w2.heap.size,0,none⟩) (zJ hz) zL4];exact(zB hz 0).trans rfl
    ·exact(HB.out.trans ((HB2.out.trans (hb.mono hs2)).mono (by omega))).trans (hk.below (by have:=hb.size;omega) loi)
   have HBn:Hid (∀w',Below w2.heap.size w2 w'->Below wr.heap.size wr w'/\Below K.B w w'):=fun w' hb=>⟨HB2.out.trans (hb.mono hs2),HB.out.trans ((HB2.out.trans (hb.mono hs2)).mono (by omega))⟩;clear hb2 d10;by_cases k1:h1<xY
   ·simp only[tl k1]at HE2
    have hz:(w2.alloc (.cells #[.int .i64 xY,.int .i64 h2] 221)).heap[w2.heap.size]? = some (.cells #[.int .i64 xY,.int .i64 h2] 221 (0,0)):=zG _ _;have hbz:Below w2.heap.size w2 (w2.alloc (.cells #[.int .i64 xY,.int .i64 h2] 221)):=gb (j1 _) _;have HZ:=zA hz;have HBz:=zA hbz;clear hz hbz;by_cases k2:h2<xY
    ·rw[tl k2]at HE2
     have HQ:=zA (HN.out s1 _ r out HM.out HE2.out.symm (HS.out.below (HBn.out _ HBz.out).1) (HBn.out _ HBz.out).2);go_wp2_with fail
     first|exact HQ.out|(go_ret;exact HQ.out)
    ·rw[tb k2]at HE2
     have HPc:=zA (HPl1.out xY _ (HBn.out _ HBz.out).1);have HF2:=zA (HFin.out xY _ HBz.out HZ.out);have zLL:=zA (ZL HIj.out HM.out xY);go_wp2_with fail
     refine HPc.out.mono ?_;rintro e w3 ⟨rfl,hS3,hk3⟩;obtain⟨f1,f2⟩:=HF2.out w3 hk3;have HS3:=zA hS3;have HB3:=zA f2;clear hS3 hk3 f2;by_cases k3:cn=0
     ·rw[tl k3]at HE2
      have HQ:=zA (HN.out _ w3 _ _ zLL.out HE2.out.symm HS3.out HB3.out);subst k3;go_wp2_with fail
      first|exact HQ.out|(go_ret;exact HQ.out)
     ·rw[tb k3]at HE2
      have b3:((cn:Int)==0)=false:=by rw[mq];omega
      clear k3;go_wp2_with fail
      go_roundw
      case rel=>exact⟨r+1,pl+cn,xY+1,out++[xY],_,by omega,by first|rfl|go_num,by go_num,by go_num,by omega,by omega,HB3,HS3,zLL,zA (by rw[HSu1.out,HPl2.out]),HE2⟩
      case measure=>simp[intOf];omega
   ·simp only[tb k1]at HE2
    have hz:(w2.alloc (.cells #[.int .i64 h1,.int .i64 h2] 221)).heap[w2.heap.size]? = some (.cells #[.int .i64 h1,.int .i64 h2] 221 (0,0)):=zG _ _;have hbz:Below w2.heap.size w2 (w2.alloc (.cells #[.int .i64 h1,.int .i64 h2] 221)):=gb (j1 _) _;have HZ:=zA hz;have HBz:=zA hbz;clear hz hbz;by_cases k2:h2<h1
    ·rw[tl k2]at HE2
     have HQ:=zA (HN.out s1 _ r out HM.out HE2.out.symm (HS.out.below (HBn.out _ HBz.out).1) (HBn.out _ HBz.out).2);go_wp2_with fail
     first|exact HQ.out|(go_ret;exact HQ.out)
    ·rw[tb k2]at HE2
     have HPc:=zA (HPl1.out h1 _ (HBn.out _ HBz.out).1);have HF2:=zA (HFin.out h1 _ HBz.out HZ.out);have zLL:=zA (ZL HIj.out HM.out h1);go_wp2_with fail
     refine HPc.out.mono ?_;rintro e w3 ⟨rfl,hS3,hk3⟩;obtain⟨f1,f2⟩:=HF2.out w3 hk3;have HS3:=zA hS3;have HB3:=zA f2;clear hS3 hk3 f2;by_cases k3:cn=0
     ·rw[tl k3]at HE2
      have HQ:=zA (HN.out _ w3 _ _ zLL.out HE2.out.symm HS3.out HB3.out);subst k3;go_wp2_with fail
      first|exact HQ.out|(go_ret;exact HQ.out)
     ·rw[tb k3]at HE2
      have b3:((cn:Int)==0)=false:=by rw[mq];omega
      clear k3;go_wp2_with fail
      go_roundw
      case rel=>exact⟨r+1,pl+cn,h1+1,out++[h1],_,by omega,by first|rfl|go_num,by go_num,by go_num,by omega,by omega,HB3,HS3,zLL,zA (by rw[HSu1.out,HPl2.out]),HE2⟩
      case measure=>simp[intOf];omega
  ·obtain rfl:r=K.np:=by omega
   have ii:¬(K.np:Int)<(K.np:Int):=by omega
   have hE:=HE.out;rw[fm,Zc]at hE;have HQ:=zA (HY.out s1 wr K.np out HM.out hE.symm HRk.out HS.out HB.out);clear hE HE;go_wp2_with fail
   first|exact HQ.out|(go_ret;exact HQ.out)
def rP(K:SK)(at':Nat)(w:World)(s:vS)(w':World)(e:Ending):Prop:=∃r s',e=.returned (.bool r)/\kU w' K s'/\Below K.B w w'/\wO (uY K) K.np K.P K.sw at' s s' r
theorem Qt(K:SK)(ok:XW K):∀(m at':Nat) (w:World) (s:vS),at'+m=K.np->(∀p,p<at'->s.rk p<K.np)->kU w K s ->
 Calls Tryz.prog 100 #[.pointer (some ⟨K.b,0,none⟩),.int .i64 (at':Nat)] w fun e w'=>rP K at' w s w' e:=by
 intro m
 induction m with
 | zero =>
   intro at' w s hm hrk h;obtain rfl:at'=K.np:=by omega
   have HSn:=zA (J5 w K s ok hrk h);have HSw:=zA (fun w1 s1 (h1:kU w1 K s1)=>Zz K ok K.sw.length 0 w1 s1 (by omega) h1);have HN:Hid (∀s1 w1,kU w1 K s1->Below K.B w w1->eJ K.np K.P s s1 false->rP K K.np w s w1 (.returned (.bool false))):=fun s1 w1 h1 h2 h3=>⟨false,s1,rfl,h1,h2,Bf (j1 _) h3⟩
   have HY:Hid (∀s1 w1,Below K.B w w1->eJ K.np K.P s s1 true->∀e w2,Z9 K 0 w1 s1 w2 e->∃r,e=.returned (.bool r)/\rP K K.np w s w2 (.returned (.bool r))):=fun s1 w1 h2 h3 e w2 h4=>by
    obtain⟨r,s2,rfl,q1,q2,q3⟩:=h4;exact⟨r,rfl,r,s2,rfl,q1,h2.trans q2,Be (Ug K) (j1 _) ok.off hrk h3 q3⟩
   have c10:w.cell? ⟨K.b,10,none⟩=some (.slice K.na K.np K.nc):=h.cells 10;have hi:¬(K.np:Int)<(K.np:Int):=by omega
   clear h hm hrk ok
   go_enter Tryz.func100,Tryz.ntmps100
   go_wp2_with fail
   refine HSn.out.mono ?_;rintro e w1 ⟨r,s1,rfl,hS1,hB1,hR1⟩;cases r
   ·have HQ:=zA (HN.out s1 w1 hS1 hB1 hR1)
    clear hS1 hB1 hR1;go_wp2_with fail
    first|exact HQ.out|(go_ret;exact HQ.out)
   ·have HY1:=zA (HY.out s1 w1 hB1 hR1)
    have HSw1:=zA (HSw.out w1 s1 hS1);clear hS1 hB1 hR1;generalize Z9 K 0 w1 s1=Q1 at *;go_wp2_with fail
    refine HSw1.out.mono ?_;rintro e w2 hp;obtain⟨r,rfl,hq⟩:=HY1.out _ _ hp;have HQ:=zA hq;clear hq hp;go_wp2_with fail
    first|exact HQ.out|(go_ret;exact HQ.out)
 | succ m ih =>
   intro at' w s hm hrk h;have zKZ:at'<K.np:=by omega
   have hf:=ok.np;have HI:Hid (∀w1 s1,(∀p,p<at'+1->s1.rk p<K.np)->kU w1 K s1->Calls Tryz.prog 100 #[.pointer (some ⟨K.b,0,none⟩),.int .i64 ((at':Int)+1)] w1 fun e w'=>rP K (at'+1) w1 s1 w' e):=fun w1 s1 hk h1=>ih (at'+1) w1 s1 (by omega) hk h1
   have HC:Hid (∀w1 s1,kU w1 K s1->w1.cell? ⟨K.b,10,none⟩=some (.slice (some ⟨K.gn,0,none⟩) K.np K.nc)/\w1.cell? ⟨K.gn,at'*5+4,none⟩=some (.int .i64 (s1.rk at':Nat))/\w1.frozen? ⟨K.gn,at'*5+4,none⟩=false):=fun w1 s1 h1=>by
    have hn:=h1.num zKZ;refine⟨?_,hn.2.2.2.2.2.1,hn.2.2.2.2.2.2 _⟩;have:=h1.cells 10;rw[<-hn.1];exact this
   have zLL:Hid (∀w1 s1 (v:Nat),v<K.np->wP (uY K) K.np K.P K.sw at' s s1 v->kU w1 K s1->Below K.B w w1->(∀p,p<at'+1->(nS s1 at' v).rk p<K.np)/\kU (w1.setCell ⟨K.gn,at'*5+4,none⟩ (.int .i64 (v:Nat))) K (nS s1 at' v)/\Below K.B w (w1.setCell ⟨K.gn,at'*5+4,none⟩ (.int .i64 (v:Nat)))):=fun w1 s1 v hv hm h1 hb=>by
    refine⟨fun p hp=>?_,h1.setRk zKZ v,hb.setCell (p:=⟨K.gn,at'*5+4,none⟩) (ok.lon (by omega)) _⟩;show (if p=at' then v else s1.rk p)<K.np;by_cases hpa:p=at'
    ·rw[tl hpa];exact hv
    ·rw[tb hpa,hm.kp p (by omega)];exact hrk p (by omega)
   have HY:Hid (∀v s1 s2 w2,wP (uY K) K.np K.P K.sw at' s s1 v->kU w2 K s2->Below K.B w w2->wO (uY K) K.np K.P K.sw (at'+1) (nS s1 at' v) s2 true->rP K at' w s w2 (.returned (.bool true))):=fun v s1 s2 w2 h1 h2 h3 h4=>⟨true,s2,rfl,h2,h3,F9 h1 h4⟩;have HN:Hid (∀s1 w1,wP (uY K) K.np K.P K.sw at' s s1 K.np->kU w1 K s1->Below K.B w w1->rP K at' w s w1 (.returned (.bool false))):=fun s1 w1 h1 h2 h3=>⟨false,s1,rfl,h2,h3,FB zKZ h1⟩;have HM0:=zA (Bg (uY K) K.np K.P K.sw at' s);have HS:=zA h;have h10:=(HC.out w s h).1;have hltI:(at':Int)<(K.np:Int):=by omega
   have hltD:decide (K.np<=at')=false:=ty (by omega);have hltN:¬K.np<=at':=by omega
   clear h ih ok hm hrk
   go_enter Tryz.func100,Tryz.ntmps100
   go_wp2_with fail
   go_loopw [23] (fun iv wr=>∃(v:Nat) (s1:vS),v<=K.np/\iv=.int .i64 v/\Hid (kU wr K s1)/\Hid (Below K.B w wr)/\Hid (wP (uY K) K.np K.P K.sw at' s s1 v)) (fun iv _=>K.np-(intOf iv).toNat)
   case atStart=>exact⟨0,s,by omega,rfl,HS,zA (tg _ _),HM0⟩
   case round =>
    obtain⟨v,s1,hv,rfl,HSr,zLI,HMr⟩:=hrel;by_cases hv1:v<K.np
    ·obtain⟨k10,k0,k1⟩:=HC.out wr s1 HSr.out
     obtain⟨p1,p2,p3⟩:=zLL.out wr s1 v hv1 HMr.out HSr.out zLI.out;have hvI:(v:Int)<(K.np:Int):=by omega
     have HI2:=zA (HI.out _ _ p1 p2);have HB2:=zA p3;clear p1 p2 p3;go_wp2_with fail
     refine HI2.out.mono ?_;rintro e w3 ⟨r,s3,rfl,hS3,hB3,hR3⟩;have HB3:Hid (Below K.B w w3):=HB2.out.trans hB3;cases r
     ·have HM3:=zA (ui HMr.out hR3)
      have HS3:=zA hS3;clear hS3 hB3 hR3;go_wp2_with fail
      go_roundw
      case rel=>exact⟨v+1,s3,by omega,by go_num,HS3,HB3,HM3⟩
      case measure=>simp[intOf];omega
     ·have HQ:=zA (HY.out v s1 s3 w3 HMr.out hS3 HB3.out hR3)
      clear hS3 hB3 hR3;go_wp2_with fail
      first|exact HQ.out|(go_ret;exact HQ.out)
    ·obtain rfl:v=K.np:=by omega
     have HQ:=zA (HN.out s1 wr HMr.out HSr.out zLI.out);have hvI:¬(K.np:Int)<(K.np:Int):=by omega
     go_wp2_with fail
     first|exact HQ.out|(go_ret;exact HQ.out)
def XS(K:SK)(at':Nat)(w:World)(s:vS)(w':World)(e:Ending):Prop:=∃r s',e=.returned (.bool r)/\kU w' K s'/\Below K.B w w'/\rK (uY K) K.np K.P K.zs K.sw at' s s' r
theorem Qs(K:SK)(ok:XW K):∀(m at':Nat) (w:World) (s:vS),at'+m=K.np->(∀p,p<at'->s.Z p∈K.zs p)->kU w K s ->
 Calls Tryz.prog 67 #[.pointer (some ⟨K.b,0,none⟩),.int .i64 (at':Nat)] w fun e w'=>XS K at' w s w' e:=by
 intro m
 induction m with
 | zero =>
   intro at' w s hm hz h;obtain rfl:at'=K.np:=by omega
   have HRk:=zA (Qt K ok K.np 0 w s (by omega) (fun p hp=>absurd hp (by omega)) h)
   have HY:Hid (∀e w2,rP K 0 w s w2 e->∃r,e=.returned (.bool r)/\XS K K.np w s w2 (.returned (.bool r))):=fun e w2 h4=>by
    obtain⟨r,s2,rfl,q1,q2,q3⟩:=h4;exact⟨r,rfl,r,s2,rfl,q1,q2,zy (j1 _) hz q3⟩
   have c10:w.cell? ⟨K.b,10,none⟩=some (.slice K.na K.np K.nc):=h.cells 10;have hi:¬(K.np:Int)<(K.np:Int):=by omega
   clear h hm hz ok;generalize rP K 0 w s=Q1 at *
   go_enter Tryz.func67,Tryz.ntmps67
   go_wp2_with fail
   refine HRk.out.mono ?_;rintro e w2 hp;obtain⟨r,rfl,hq⟩:=HY.out _ _ hp;have HQ:=zA hq;clear hq hp;go_wp2_with fail
   first|exact HQ.out|(go_ret;exact HQ.out)
 | succ m ih =>
   intro at' w s hm hz h;have zKZ:at'<K.np:=by omega
   have hf:=ok.np;have hfz:=ok.zs at' zKZ;have HI:Hid (∀w1 s1,(∀p,p<at'+1->s1.Z p∈K.zs p)->kU w1 K s1->Calls Tryz.prog 67 #[.pointer (some ⟨K.b,0,none⟩),.int .i64 ((at':Int)+1)] w1 fun e w'=>XS K (at'+1) w1 s1 w' e):=fun w1 s1 hk h1=>ih (at'+1) w1 s1 (by omega) hk h1
   have HC:Hid (∀w1 s1,kU w1 K s1->w1.cell? ⟨K.b,10,none⟩=some (.slice (some ⟨K.gn,0,none⟩) K.np K.nc)/\w1.cell? ⟨K.gn,at'*5+1,none⟩=some (.slice (K.za at') (K.zs at').length (K.zc at'))/\(w1.cell? ⟨K.gn,at'*5+2,none⟩=some (.int .i64 (s1.Z at').1)/\w1.cell? ⟨K.gn,at'*5+3,none⟩=some (.int .i64 (s1.Z at').2))/\w1.frozen? ⟨K.gn,at'*5+2,none⟩=false/\w1.frozen? ⟨K.gn,at'*5+3,none⟩=false):=fun w1 s1 h1=>by
    have hn:=h1.num zKZ;refine⟨?_,hn.2.2.1,⟨hn.2.2.2.1,hn.2.2.2.2.1⟩,hn.2.2.2.2.2.2 _,hn.2.2.2.2.2.2 _⟩;have:=h1.cells 10;rw[<-hn.1];exact this
   have HZc:Hid (∀w1 s1 (v:Nat),kU w1 K s1->v<(K.zs at').length->∃g,K.za at'=some ⟨g,0,none⟩/\w1.cell? ⟨g,v*2,none⟩=some (.int .i64 ((K.zs at').getD v (0,0)).1)/\w1.cell? ⟨g,v*2+1,none⟩=some (.int .i64 ((K.zs at').getD v (0,0)).2)):=fun w1 s1 v h1 hv=>zx (h1.zn at' zKZ).cel hv
   have zLL:Hid (∀w1 s1 (v:Nat),v<(K.zs at').length->aG (uY K) K.np K.P K.zs K.sw at' s s1 v->kU w1 K s1->Below K.B w w1->(∀p,p<at'+1->(fP s1 at' ((K.zs at').getD v (0,0))).Z p∈K.zs p)/\∀w2,Below ((w1.setCell ⟨K.gn,at'*5+2,none⟩ (.int .i64 ((K.zs at').getD v (0,0)).1)).setCell ⟨K.gn,at'*5+2+1,none⟩ (.int .i64 ((K.zs at').getD v (0,0)).2)).heap.size ((w1.setCell ⟨K.gn,at'*5+2,none⟩ (.int .i64 ((K.zs at').getD v (0,0)).1)).setCell ⟨K.gn,at'*5+2+1,none⟩ (.int .i64 ((K.zs at').getD v (0,0)).2)) w2->kU w2 K (fP s1 at' ((K.zs at').getD v (0,0)))/\Below K.B w w2/\w2.cell? ⟨K.b,10,none⟩=some (.slice (some ⟨K.gn,0,none⟩) K.np K.nc)):=fun w1 s1 v hv hm h1 hb=>by
    refine⟨DX hm hv hz,fun w2 hb2=>?_⟩;have hlb:=zJ h1.hd;have hlo:=ok.lob;have hS:=(h1.setZn zKZ ((K.zs at').getD v (0,0))).below hb2;have hk:=(hb.setCell (p:=⟨K.gn,at'*5+2,none⟩) (ok.lon (by omega)) (.int .i64 ((K.zs at').getD v (0,0)).1)).setCell (p:=⟨K.gn,at'*5+2+1,none⟩) (ok.lon (by omega)) (.int .i64 ((K.zs at').getD v (0,0)).2);refine⟨hS,hk.trans (hb2.mono ?_),(HC.out _ _ hS).1⟩;have:K.B<=w1.heap.size:=by omega
    simpa[World.setCell] using this
   have HY:Hid (∀v s1 s2 w2,v<(K.zs at').length->aG (uY K) K.np K.P K.zs K.sw at' s s1 v->kU w2 K s2->Below K.B w w2->rK (uY K) K.np K.P K.zs K.sw (at'+1) (fP s1 at' ((K.zs at').getD v (0,0))) s2 true->XS K at' w s w2 (.returned (.bool true))):=fun v s1 s2 w2 h0 h1 h2 h3 h4=>⟨true,s2,rfl,h2,h3,DW h0 h1 h4⟩;have HN:Hid (∀s1 w1,aG (uY K) K.np K.P K.zs K.sw at' s s1 (K.zs at').length->kU w1 K s1->Below K.B w w1->XS K at' w s w1 (.returned (.bool false))):=fun s1 w1 h1 h2 h3=>⟨false,s1,rfl,h2,h3,DY zKZ h1⟩;have HM0:=zA (U8 (uY K) K.np K.P K.zs K.sw at' s);have HS:=zA h;obtain⟨h10,h11,-,-⟩:=HC.out w s h;have hltI:(at':Int)<(K.np:Int):=by omega
   have hltD:decide (K.np<=at')=false:=ty (by omega);have hltN:¬K.np<=at':=by omega
   clear h ih ok hm hz;generalize hzn:(K.zs at').length=zn at *;have HZn:=zA hzn;clear hzn;generalize K.za at'=za at *
   go_enter Tryz.func67,Tryz.ntmps67
   go_wp2_with fail
   go_loopw [25] (fun iv wr=>∃(v:Nat) (s1:vS),v<=zn/\iv=.int .i64 v/\Hid (kU wr K s1)/\Hid (Below K.B w wr)/\Hid (aG (uY K) K.np K.P K.zs K.sw at' s s1 v)) (fun iv _=>zn-(intOf iv).toNat)
   case atStart=>exact⟨0,s,by omega,rfl,HS,zA (tg _ _),HM0⟩
   case round =>
    obtain⟨v,s1,hv,rfl,HSr,zLI,HMr⟩:=hrel;by_cases hv1:v<zn
    ·obtain⟨k10,k1,⟨k2,k3⟩,f2,f3⟩:=HC.out wr s1 HSr.out
     obtain⟨p1,p2⟩:=zLL.out wr s1 v hv1 HMr.out HSr.out zLI.out;obtain⟨g,ez,z0,z1⟩:=HZc.out wr s1 v HSr.out hv1;subst ez;have hvI:(v:Int)<(zn:Int):=by omega
     have HP1:=zA p1;have HP2:=zA p2;have hM:=zA HMr.out;have lg:=yF z0;have lgn:=yF k1;have lb:=yF k10;have n1:wr.heap.size≠g:=by omega
     have n2:wr.heap.size≠K.gn:=by omega
     have n3:wr.heap.size≠K.b:=by omega
     have n4:K.gn≠wr.heap.size:=by omega
     have HNo:=zA (fun s3 => @ya (uY K) K.np K.P K.zs K.sw at' v s s1 s3 HMr.out);have HY1:=zA (fun s3 w3=>HY.out v s1 s3 w3 hv1 HMr.out);clear p1 p2;generalize (K.zs at').getD v (0,0)=zz at *;obtain⟨z1l,z1h⟩:=zz;simp only at z0 z1 HP2;generalize (s1.Z at').1=o1 at *;generalize (s1.Z at').2=o2 at *
     go_upto_region 6 with fail
     obtain⟨hS2,hB2,e10⟩:=HP2.out (((wr.setCell ⟨K.gn,at'*5+2,none⟩ (.int .i64 z1l)).setCell ⟨K.gn,at'*5+2+1,none⟩ (.int .i64 z1h)).alloc (.cells #[.int .i64 z1l,.int .i64 z1h] 221)).drew (pj (gb (j1 _) _));have e0:(((wr.setCell ⟨K.gn,at'*5+2,none⟩ (.int .i64 z1l)).setCell ⟨K.gn,at'*5+2+1,none⟩ (.int .i64 z1h)).alloc (.cells #[.int .i64 z1l,.int .i64 z1h] 221)).cell? ⟨wr.heap.size,0,none⟩=some (.int .i64 z1l):=zB (yS _ _ _ (by simp[World.setCell])) 0;have e1:(((wr.setCell ⟨K.gn,at'*5+2,none⟩ (.int .i64 z1l)).setCell ⟨K.gn,at'*5+2+1,none⟩ (.int .i64 z1h)).alloc (.cells #[.int .i64 z1l,.int .i64 z1h] 221)).cell? ⟨wr.heap.size,1,none⟩=some (.int .i64 z1h):=zB (yS _ _ _ (by simp[World.setCell])) 1;have e10':(((wr.setCell ⟨K.gn,at'*5+2,none⟩ (.int .i64 z1l)).setCell ⟨K.gn,at'*5+2+1,none⟩ (.int .i64 z1h)).alloc (.cells #[.int .i64 z1l,.int .i64 z1h] 221)).cell? ⟨K.b,10,none⟩=some (.slice (some ⟨K.gn,0,none⟩) K.np K.nc):=e10;have HI2:=zA (HI.out _ _ HP1.out hS2);have HB2:=zA hB2;clear hS2 hB2 e10
     go_region_held3 (fun w'=>w'.cell? ⟨K.b,10,none⟩=some (.slice (some ⟨K.gn,0,none⟩) K.np K.nc)/\w'.cell? ⟨wr.heap.size,0,none⟩=some (.int .i64 z1l)/\w'.cell? ⟨wr.heap.size,1,none⟩=some (.int .i64 z1h)) (go_keep) (fail)
     all_goals
      go_wp2_with fail
      refine HI2.out.mono ?_;rintro e w3 ⟨r,s3,rfl,hS3,hB3,hR3⟩;have HB3:Hid (Below K.B w w3):=HB2.out.trans hB3;cases r
      ·have HM3:=zA (HNo.out s3 hR3)
       have HS3:=zA hS3;clear hS3 hB3 hR3;go_wp2_with fail
       go_roundw
       case rel=>exact⟨v+1,s3,by omega,by go_num,HS3,HB3,HM3⟩
       case measure=>simp[intOf];omega
      ·have HQ:=zA (HY1.out s3 w3 hS3 HB3.out hR3)
       clear hS3 hB3 hR3;go_wp2_with fail
       first|exact HQ.out|(go_ret;exact HQ.out)
    ·obtain rfl:v=zn:=by omega
     have HQ:=zA (HN.out s1 wr HMr.out HSr.out zLI.out);have hvI:¬(v:Int)<(v:Int):=by omega
     go_wp2_with fail
     first|exact HQ.out|(go_ret;exact HQ.out)
def pU(I:List zQ)(e l:xJ)(i:Nat):List Nat:=(List.range i).filter fun i=>qP e l i&&xW I i
theorem Vi(I:List zQ)(e l:xJ)(i:Nat):pU I e l (i+1)=pU I e l i++(if (qP e l i&&xW I i)=true then [i] else []):=by
 unfold pU;rw[lq,dq,List.filter_cons,fa]
def uU(I:List zQ)(e l:xJ)(i:Nat):List jC:=((List.range i).filter fun i=>qP e l i && !xW I i).map fun i=>⟨true,i⟩
theorem UJ(I:List zQ)(e l:xJ)(i:Nat):uU I e l (i+1)=uU I e l i++(if (qP e l i && !xW I i)=true then [⟨true,i⟩] else []):=by
 unfold uU;rw[lq,dq,bi,List.filter_cons,fa];split <;> rfl
def uH(e l:xJ)(c:Nat):List jC:=((List.range c).filter fun c => !uE e l c&&(vP e c || vP l c)).map fun c=>⟨false,c⟩
theorem UI(e l:xJ)(c:Nat):uH e l (c+1)=uH e l c++(if (!uE e l c&&(vP e c || vP l c))=true then [⟨false,c⟩] else []):=by
 unfold uH;rw[lq,dq,bi,List.filter_cons,fa];split <;> rfl
theorem YY(I:List zQ)(e l:xJ)(i:Nat):(pU I e l i).length<=i:=by have:=dg (fun i=>qP e l i&&xW I i) (List.range i);simpa[pU] using this
theorem Qz(I:List zQ)(e l:xJ)(i:Nat):(uU I e l i).length<=i:=by unfold uU;rw[pi];have:=dg (fun i=>qP e l i && !xW I i) (List.range i);simpa using this
theorem Qy(e l:xJ)(c:Nat):(uH e l c).length<=c:=by unfold uH;rw[pi];have:=dg (fun c => !uE e l c&&(vP e c || vP l c)) (List.range c);simpa using this
structure NE where
 place:Nat
 za:Option Addr
 zc:Nat
variable{L:List NE}
def zGC(F:Nat->List (Int × Int))(x:NE):List Value:=[.int .i64 (x.place:Nat),.slice x.za (F x.place).length x.zc,.int .i64 0,.int .i64 0,.int .i64 0]
def aT(F:Nat->List (Int × Int))(l:List NE):List Value:=l.flatMap (zGC F)
theorem qf(F:Nat->List (Int × Int))(a b:List NE):aT F (a++b)=aT F a++aT F b:=by unfold aT;rw[lu]
def YC(l:List jC):List Value:=l.flatMap zJN
theorem x7(a b:List jC):YC (a++b)=YC a++YC b:=by unfold YC;rw[lu]
def UN(x y:MX)(nv sv iv hv:Value):Array Value := #[.string ⟨x.1.label.toArray⟩,.int .i64 x.1.conc,x.2.1,x.2.2,.int .i64 x.1.root,.string ⟨y.1.label.toArray⟩,.int .i64 y.1.conc,y.2.1,y.2.2,.int .i64 y.1.root,nv,sv,iv,hv,.slice none 0 0]
def CF:Array Value := #[.string ⟨#[]⟩,.int .i64 0,.slice none 0 0,.slice none 0 0,.int .i64 0,.string ⟨#[]⟩,.int .i64 0,.slice none 0 0,.slice none 0 0,.int .i64 0,.slice none 0 0,.slice none 0 0,.slice none 0 0,.slice none 0 0,.slice none 0 0]
theorem vm(x y:MX)(nv sv iv hv:Value):(Tryz.prog.info? 170).map (·.size)=some (UN x y nv sv iv hv).size:=by
 show _=some 15;kernel_rfl
theorem CU{hv:Value}(h1:x.2.1.oneCell'=true)(h2:x.2.2.oneCell'=true)(h3:y.2.1.oneCell'=true)(h4:y.2.2.oneCell'=true)(h5:nv.oneCell'=true)(h6:sv.oneCell'=true)(h7:iv.oneCell'=true)(h8:hv.oneCell'=true):(UN x y nv sv iv hv).all (·.oneCell')=true:=by
 unfold UN;simp only[List.all_toArray,fg,List.all_nil,h1,h2,h3,h4,h5,h6,h7,h8];rfl
theorem vY.grown{e:TypeId}(h:vY w g t n f){v:Value}(zL1:w.ownsRow B e k v m ys)(zL4:t≠e)(hg:w.grownBy w' v.ownBlock):vY w' g t n f:=by
 obtain⟨cs,h1,h2⟩:=h;refine⟨cs,?_,h2⟩;rw[hg.block g (zJ h1) (fun e1=>?_)]
 ·exact h1
 ·rcases zL1.2 with ⟨k1,_⟩|⟨g',cap,yK,k1,_,k3,_⟩
  ·rw[k1]at e1;simp[Value.ownBlock]at e1
  ·rw[k1]at e1;simp[Value.ownBlock]at e1
   subst e1;rw[h1]at k3;simp only[ld,Obj.cells.injEq]at k3;exact zL4 k3.2.1
structure Yi(w wx:World)(x y:MX)(n h gi gh:Nat)(nv sv:Value)(inp:Nat->Int)(has:Nat->Bool):Prop where
 bel:Below w.heap.size w wx
 sz:w.heap.size+4<=wx.heap.size
 bx:wx.heap[w.heap.size]? = some (.cells #[.string ⟨x.1.label.toArray⟩,.int .i64 x.1.conc,x.2.1,x.2.2,.int .i64 x.1.root] 162 (0,0))
 by':wx.heap[w.heap.size+1]? = some (.cells #[.string ⟨y.1.label.toArray⟩,.int .i64 y.1.conc,y.2.1,y.2.2,.int .i64 y.1.root] 162 (0,0))
 res:wx.heap[w.heap.size+1+1]? = some (.cells CF 170 (0,0))
 hd:wx.heap[w.heap.size+1+1+1]? = some (.cells (UN x y nv sv (.slice (some ⟨gi,0,none⟩) n n) (.slice (some ⟨gh,0,none⟩) h h)) 170 (0,0))
 rI:vY wx gi 3 n (fun i=>.int .i64 (inp i))
 rH:vY wx gh 4 h (fun c=>.bool (has c))
 loi:w.heap.size+4<=gi
 loh:w.heap.size+4<=gh
theorem Yi.below{inp:Nat->Int}(k:Yi w wx x y n h gi gh nv sv inp has)(hb:Below wx.heap.size wx wy):Yi w wy x y n h gi gh nv sv inp has:=by
 have hs:=k.sz;have hz:=hb.size;exact⟨k.bel.trans (hb.mono (by omega)),by omega,by rw[hb.block _ (by omega)];exact k.bx,by rw[hb.block _ (by omega)];exact k.by',by rw[hb.block _ (by omega)];exact k.res,by rw[hb.block _ (by omega)];exact k.hd,k.rI.below hb,k.rH.below hb,k.loi,k.loh⟩
theorem Yi.setI{inp f:Nat->Int}(k:Yi w wx x y n h gi gh nv sv inp has){i:Nat}(hi:i<n)(v:Int)(e1:f i=v)(e2:∀r,r<n->r≠i->f r=inp r):Yi w (wx.setCell ⟨gi,i,none⟩ (.int .i64 v)) x y n h gi gh nv sv f has:=by
 have hs:=k.sz;have hl:=k.loi;refine⟨k.bel.setCell (p:=⟨gi,i,none⟩) (by show w.heap.size<=gi;omega) _,by simp[World.setCell];exact hs,?_,?_,?_,?_,k.rI.set _ hi (congrArg (Value.int .i64) e1) (fun a ha zL4=>congrArg (Value.int .i64) (e2 a ha zL4)),k.rH.other _ (k.rH.ne k.rI (by decide)),k.loi,k.loh⟩
 ·rw[ma wx ⟨gi,i,none⟩ _ _ (by show w.heap.size≠gi;omega)];exact k.bx
 ·rw[ma wx ⟨gi,i,none⟩ _ _ (by show w.heap.size+1≠gi;omega)];exact k.by'
 ·rw[ma wx ⟨gi,i,none⟩ _ _ (by show w.heap.size+1+1≠gi;omega)];exact k.res
 ·rw[ma wx ⟨gi,i,none⟩ _ _ (by show w.heap.size+1+1+1≠gi;omega)];exact k.hd
theorem Yi.setH{inp:Nat->Int}{f:Nat->Bool}(k:Yi w wx x y n h gi gh nv sv inp has){i:Nat}(hi:i<h)(v:Bool)(e1:f i=v)(e2:∀r,r<h->r≠i->f r=has r):Yi w (wx.setCell ⟨gh,i,none⟩ (.bool v)) x y n h gi gh nv sv inp f:=by
 have hs:=k.sz;have hl:=k.loh;refine⟨k.bel.setCell (p:=⟨gh,i,none⟩) (by show w.heap.size<=gh;omega) _,by simp[World.setCell];exact hs,?_,?_,?_,?_,k.rI.other _ (k.rI.ne k.rH (by decide)),k.rH.set _ hi (congrArg Value.bool e1) (fun a ha zL4=>congrArg Value.bool (e2 a ha zL4)),k.loi,k.loh⟩
 ·rw[ma wx ⟨gh,i,none⟩ _ _ (by show w.heap.size≠gh;omega)];exact k.bx
 ·rw[ma wx ⟨gh,i,none⟩ _ _ (by show w.heap.size+1≠gh;omega)];exact k.by'
 ·rw[ma wx ⟨gh,i,none⟩ _ _ (by show w.heap.size+1+1≠gh;omega)];exact k.res
 ·rw[ma wx ⟨gh,i,none⟩ _ _ (by show w.heap.size+1+1+1≠gh;omega)];exact k.hd
theorem Yi.setHd{inp:Nat->Int}(k:Yi w wx x y n h gi gh nv sv inp has){v nv' sv':Value}(e:(UN x y nv sv (.slice (some ⟨gi,0,none⟩) n n) (.slice (some ⟨gh,0,none⟩) h h)).setIfInBounds j v=UN x y nv' sv' (.slice (some ⟨gi,0,none⟩) n n) (.slice (some ⟨gh,0,none⟩) h h)):Yi w (wx.setCell ⟨w.heap.size+1+1+1,j,none⟩ v) x y n h gi gh nv' sv' inp has:=by
 have hs:=k.sz;have l1:=k.loi;have l2:=k.loh;refine⟨k.bel.setCell (p:=⟨w.heap.size+1+1+1,j,none⟩) (by show w.heap.size<=w.heap.size+1+1+1;omega) _,by simp[World.setCell];exact hs,?_,?_,?_,?_,k.rI.other _ (by omega),k.rH.other _ (by omega),k.loi,k.loh⟩
 ·rw[ma wx ⟨w.heap.size+1+1+1,j,none⟩ _ _ (by show w.heap.size≠w.heap.size+1+1+1;omega)];exact k.bx
 ·rw[ma wx ⟨w.heap.size+1+1+1,j,none⟩ _ _ (by show w.heap.size+1≠w.heap.size+1+1+1;omega)];exact k.by'
 ·rw[ma wx ⟨w.heap.size+1+1+1,j,none⟩ _ _ (by show w.heap.size+1+1≠w.heap.size+1+1+1;omega)];exact k.res
 ·rw[tr wx _ j _ _ _ k.hd,e]
theorem Yi.setN{inp:Nat->Int}(k:Yi w wx x y n h gi gh nv sv inp has)(v:Value):Yi w (wx.setCell ⟨w.heap.size+1+1+1,10,none⟩ v) x y n h gi gh v sv inp has:=k.setHd rfl
theorem Yi.setS{inp:Nat->Int}(k:Yi w wx x y n h gi gh nv sv inp has)(v:Value):Yi w (wx.setCell ⟨w.heap.size+1+1+1,11,none⟩ v) x y n h gi gh nv v inp has:=k.setHd rfl
theorem Yi.grown{inp:Nat->Int}(k:Yi w wx x y n h gi gh nv sv inp has){e:TypeId}{q:Nat}{v:Value}(zL1:wx.ownsRow (w.heap.size+4) e m v q ys)(h1:3≠e)(h2:4≠e)(hg:wx.grownBy wy v.ownBlock):Yi w wy x y n h gi gh nv sv inp has:=by
 have hs:=k.sz;have hb:=fun b (hb:b<w.heap.size+4)=>hg.block b (by omega) (fun e1=>by have:=(zZ zL1 b e1.symm).1;omega);exact⟨k.bel.grown hg (by omega) (fun b hb=>by have:=(zZ zL1 b hb).1;omega),by have:=hg.size;omega,by rw[hb _ (by omega)];exact k.bx,by rw[hb _ (by omega)];exact k.by',by rw[hb _ (by omega)];exact k.res,by rw[hb _ (by omega)];exact k.hd,k.rI.grown zL1 h1 hg,k.rH.grown zL1 h2 hg,k.loi,k.loh⟩
theorem Yi.fresh{w4:World}(bx:w4.heap[w.heap.size]? = some (.cells #[.string ⟨x.1.label.toArray⟩,.int .i64 x.1.conc,x.2.1,x.2.2,.int .i64 x.1.root] 162 (0,0)))(by':w4.heap[w.heap.size+1]? = some (.cells #[.string ⟨y.1.label.toArray⟩,.int .i64 y.1.conc,y.2.1,y.2.2,.int .i64 y.1.root] 162 (0,0)))(res:w4.heap[w.heap.size+1+1]? = some (.cells CF 170 (0,0)))(hd:w4.heap[w.heap.size+1+1+1]? = some (.cells (UN x y (.slice none 0 0) (.slice none 0 0) (.slice none 0 0) (.slice none 0 0)) 170 (0,0)))(bel:Below w.heap.size w w4)(hs:w.heap.size+4<=w4.heap.size)(hb:Below w4.heap.size w4 wx)(hI:wx.heap[gi]? = some (.cells (iC (List.replicate n 0)) 3 (0,0)))(hH:wx.heap[gh]? = some (.cells (gC (List.replicate h false)) 4 (0,0)))(l1:w4.heap.size<=gi)(l2:w4.heap.size<=gh) :
 Yi w (((wx.setCell ⟨w.heap.size+1+1+1,12,none⟩ (.slice (some ⟨gi,0,none⟩) n n)).setCell ⟨w.heap.size+1+1+1,13,none⟩ (.slice (some ⟨gh,0,none⟩) h h)).setCell ⟨w.heap.size+1+1+1,14,none⟩ (.slice none 0 0)) x y n h gi gh (.slice none 0 0) (.slice none 0 0) (fun _=>0) (fun _=>false):=by
 have hz:=hb.size;have ne:∀(v:Value) (j:Nat) (W:World) (b:Nat),b≠w.heap.size+1+1+1->(W.setCell ⟨w.heap.size+1+1+1,j,none⟩ v).heap[b]? = W.heap[b]? := fun v j W b hb=>ma W ⟨w.heap.size+1+1+1,j,none⟩ b v hb;have q0:wx.heap[w.heap.size+1+1+1]? = _:=(hb.block _ (by omega)).trans hd;have q1:=tr wx _ 12 _ _ (.slice (some ⟨gi,0,none⟩) n n) q0;have q2:=tr _ _ 13 _ _ (.slice (some ⟨gh,0,none⟩) h h) q1;have q3:=tr _ _ 14 _ _ (.slice none 0 0) q2;refine⟨?_,by simp[World.setCell];omega,?_,?_,?_,q3,?_,?_,by omega,by omega⟩
 ·have h0:w.heap.size<=w.heap.size+1+1+1:=by omega
  exact((((bel.trans (hb.mono (by omega))).setCell (p:=⟨w.heap.size+1+1+1,12,none⟩) h0 _).setCell (p:=⟨w.heap.size+1+1+1,13,none⟩) h0 _).setCell (p:=⟨w.heap.size+1+1+1,14,none⟩) h0 _)
 ·rw[ne _ _ _ _ (by omega),ne _ _ _ _ (by omega),ne _ _ _ _ (by omega),hb.block _ (by omega)];exact bx
 ·rw[ne _ _ _ _ (by omega),ne _ _ _ _ (by omega),ne _ _ _ _ (by omega),hb.block _ (by omega)];exact by'
 ·rw[ne _ _ _ _ (by omega),ne _ _ _ _ (by omega),ne _ _ _ _ (by omega),hb.block _ (by omega)];exact res
 ·refine⟨_,by rw[ne _ _ _ _ (by omega),ne _ _ _ _ (by omega),ne _ _ _ _ (by omega)];exact hI,fun j hj=>?_⟩
  rw[jt (by simpa using hj)];simp[List.getD,hj]
 ·refine⟨_,by rw[ne _ _ _ _ (by omega),ne _ _ _ _ (by omega),ne _ _ _ _ (by omega)];exact hH,fun j hj=>?_⟩
  rw[BX (by simpa using hj)];simp[List.getD,hj]
theorem eY{v:Value}(h:w.ownsRow B t k v n xs){b:Nat}{u:Value}(hb:w.heap[b]? = some (.cells cs t' fz))(zL4:t≠t'):(w.setCell ⟨b,j,none⟩ u).ownsRow B t k v n xs:=⟨h.1,by
 rcases h.2 with q|⟨g',cap,yK,k1,k2,q3,k4⟩
 ·exact .inl q
 ·exact .inr ⟨g',cap,yK,k1,k2,by rw[ma w ⟨b,j,none⟩ g' u (Xd q3 hb zL4)];exact q3,k4⟩⟩
theorem iA{v:Value}(h:w.ownsRow B t k v n xs)(u:Value)(hr:vY w g t' m f)(zL4:t≠t'):(w.setCell ⟨g,j,none⟩ u).ownsRow B t k v n xs:=by
 obtain⟨cs,q,_⟩:=hr;exact eY h q zL4
theorem iB{v:Value}(h:w.ownsRow B t k v n xs)(hb:Below w.heap.size w w'):w'.ownsRow B t k v n xs:=⟨h.1,by
 rcases h.2 with q|⟨g',cap,yK,k1,k2,q3,k4⟩
 ·exact .inl q
 ·exact .inr ⟨g',cap,yK,k1,k2,by rw[hb.block g' (zJ q3)];exact q3,k4⟩⟩
theorem YV{v:Value}(h:w.ownsRow B t k v n xs){B' q:Nat}(zL1:w.ownsRow B' t' m v' q ys)(zL4:t≠t')(hg:w.grownBy w' v'.ownBlock):w'.ownsRow B t k v n xs:=⟨h.1,by
 rcases h.2 with q|⟨g',cap,yK,k1,k2,q3,k4⟩
 ·exact .inl q
 ·refine .inr ⟨g',cap,yK,k1,k2,?_,k4⟩
  rw[hg.block g' (zJ q3) (fun e1=>?_)]
  ·exact q3
  ·rcases zL1.2 with ⟨p1,_⟩|⟨g2,_,_,p1,_,p3,_⟩
   ·rw[p1]at e1;simp[Value.ownBlock]at e1
   ·rw[p1]at e1;simp[Value.ownBlock]at e1
    subst e1;rw[q3]at p3;simp only[ld,Obj.cells.injEq]at p3;exact zL4 p3.2.1⟩
structure ZY(w wr:World)(x y:MX)(n h gi gh:Nat)(F:Nat->List (Int × Int))(nv sv:Value)(L:List NE)(T:List jC)(inp:Nat->Int)(has:Nat->Bool):Prop where
 ns:Yi w wr x y n h gi gh nv sv inp has
 nums:wr.ownsRow (w.heap.size+4) 223 5 nv L.length (aT F L)
 zn:∀q∈L,yZ wr 221 q.za (dT (F q.place))
 sws:wr.ownsRow (w.heap.size+4) 216 2 sv T.length (YC T)
theorem ZY.below{inp:Nat->Int}(k:ZY w wr x y n h gi gh F nv sv L T inp has)(hb:Below wr.heap.size wr wy):ZY w wy x y n h gi gh F nv sv L T inp has :=
 ⟨k.ns.below hb,iB k.nums hb,fun q hq=>(k.zn q hq).below hb,iB k.sws hb⟩
theorem ZY.setI{inp f:Nat->Int}(k:ZY w wr x y n h gi gh F nv sv L T inp has){i:Nat}(hi:i<n)(v:Int)(e1:f i=v)(e2:∀r,r<n->r≠i->f r=inp r):ZY w (wr.setCell ⟨gi,i,none⟩ (.int .i64 v)) x y n h gi gh F nv sv L T f has :=
 ⟨k.ns.setI hi v e1 e2,iA k.nums _ k.ns.rI (by decide),fun q hq=>(k.zn q hq).row _ k.ns.rI (by decide),iA k.sws _ k.ns.rI (by decide)⟩
theorem ZY.setH{inp:Nat->Int}{f:Nat->Bool}(k:ZY w wr x y n h gi gh F nv sv L T inp has){i:Nat}(hi:i<h)(v:Bool)(e1:f i=v)(e2:∀r,r<h->r≠i->f r=has r):ZY w (wr.setCell ⟨gh,i,none⟩ (.bool v)) x y n h gi gh F nv sv L T inp f :=
 ⟨k.ns.setH hi v e1 e2,iA k.nums _ k.ns.rH (by decide),fun q hq=>(k.zn q hq).row _ k.ns.rH (by decide),iA k.sws _ k.ns.rH (by decide)⟩
theorem ZY.tog{inp:Nat->Int}(k:ZY w wr x y n h gi gh F nv sv L T inp has)(t:jC)(zL1:wy.ownsRow (w.heap.size+4) 216 2 v' (T.length+1) (YC T++zJN t))(hg:wr.grownBy wy sv.ownBlock):ZY w (wy.setCell ⟨w.heap.size+1+1+1,11,none⟩ v') x y n h gi gh F nv v' L (T++[t]) inp has:=by
 have k1:=k.ns.grown k.sws (by decide) (by decide) hg;refine⟨k1.setS v',eY (YV k.nums k.sws (by decide) hg) k1.hd (by decide),fun q hq=>((k.zn q hq).grown k.sws (by decide) hg).set k1.hd (by decide),?_⟩;rw[x7,tm];have e:YC [t]=zJN t:=by simp[YC]
 rw[e];exact eY zL1 k1.hd (by decide)
theorem ZY.num{inp:Nat->Int}(k:ZY w wr x y n h gi gh F nv sv L T inp has)(q:NE)(hq:yZ wr 221 q.za (dT (F q.place)))(zL1:wy.ownsRow (w.heap.size+4) 223 5 v' (L.length+1) (aT F L++zGC F q))(hg:wr.grownBy wy nv.ownBlock):ZY w (wy.setCell ⟨w.heap.size+1+1+1,10,none⟩ v') x y n h gi gh F v' sv (L++[q]) T inp has:=by
 have k1:=k.ns.grown k.nums (by decide) (by decide) hg;refine⟨k1.setN v',?_,fun r hr=>?_,eY (YV k.sws k.nums (by decide) hg) k1.hd (by decide)⟩
 ·rw[qf,tm]
  have e:aT F [q]=zGC F q:=by simp[aT]
  rw[e];exact eY zL1 k1.hd (by decide)
 ·rcases pu.1 hr with hr|hr
  ·exact((k.zn r hr).grown k.nums (by decide) hg).set k1.hd (by decide)
  ·simp at hr;subst hr
   exact(hq.grown k.nums (by decide) hg).set k1.hd (by decide)
theorem F6(w:World)(g k:Nat)(cs:Array Value)(h:k≠g):(w.setRow g cs).heap[k]? = w.heap[k]? := by
 unfold World.setRow;simp only[Array.getElem?_modify];rw[tb (by omega)]
structure zJI(w wr:World)(n h gi gh:Nat)(F:Nat->List (Int × Int))(nv sv:Value)(L:List NE)(T:List jC)(inp:Nat->Int)(has:Nat->Bool):Prop where
 bel:Below w.heap.size w wr
 nums:wr.ownsRow (w.heap.size+4) 223 5 nv L.length (aT F L)
 zn:∀q∈L,yZ wr 221 q.za (dT (F q.place))
 sws:wr.ownsRow (w.heap.size+4) 216 2 sv T.length (YC T)
 rI:vY wr gi 3 n (fun i=>.int .i64 (inp i))
 rH:vY wr gh 4 h (fun c=>.bool (has c))
 loi:w.heap.size<=gi
 loh:w.heap.size<=gh
theorem ZY.done{inp:Nat->Int}(k:ZY w wr x y n h gi gh F nv sv L T inp has)(cs:Array Value):zJI w (wr.setRow (w.heap.size+1+1) cs) n h gi gh F nv sv L T inp has:=by
 have zL4:∀ {g:Nat} {c:Array Value} {t:TypeId} {fz:Nat × Nat},wr.heap[g]? = some (.cells c t fz)->t≠170->(wr.setRow (w.heap.size+1+1) cs).heap[g]? = wr.heap[g]? := fun h1 h2=>F6 _ _ _ _ (Xd h1 k.ns.res h2)
 have zL1:∀ {t:TypeId} {m q:Nat} {v:Value} {ys:List Value},wr.ownsRow (w.heap.size+4) t m v q ys->t≠170->(wr.setRow (w.heap.size+1+1) cs).ownsRow (w.heap.size+4) t m v q ys:=fun h1 h2=>⟨h1.1,by
  rcases h1.2 with q|⟨g',cap,yK,k1,k2,q3,k4⟩
  ·exact .inl q
  ·exact .inr ⟨g',cap,yK,k1,k2,by rw[zL4 q3 h2];exact q3,k4⟩⟩
 have hrow:∀ {t:TypeId} {g m:Nat} {f:Nat->Value},vY wr g t m f->t≠170->vY (wr.setRow (w.heap.size+1+1) cs) g t m f:=fun h1 h2=>by
  obtain⟨c,q1,q2⟩:=h1;exact⟨c,by rw[zL4 q1 h2];exact q1,q2⟩
 have l1:=k.ns.loi;have l2:=k.ns.loh;exact⟨xI k.ns.bel (by omega) _,zL1 k.nums (by decide),fun q hq=>(k.zn q hq).keep fun g c fz hg=>zL4 hg (by decide),zL1 k.sws (by decide),hrow k.ns.rI (by decide),hrow k.ns.rH (by decide),by omega,by omega⟩
def mK(I:List zQ)(i j:Nat):Int:=if j<i then (kT I j).low else 0
def mL(e l:xJ)(c j:Nat):Bool:=decide (j<c)&&uE e l j
theorem zEP:(Tryz.prog.info? 223).map (fun i=>(i.zero,i.size,i.bytes))=some (some (.agg #[.int .i64 0,.slice none 0 0,.int .i64 0,.int .i64 0,.int .i64 0]),5,56):=by kernel_rfl
theorem zEN:(Tryz.prog.info? 216).map (fun i=>(i.zero,i.size,i.bytes))=some (some (.agg #[.bool false,.int .i64 0]),2,16):=by kernel_rfl
def Kq(I:List zQ)(H:Nat)(x y:MX)(w w':World)(e:Ending):Prop:=∃gi gh nv sv L,e=.returned (.agg (UN x y nv sv (.slice (some ⟨gi,0,none⟩) I.length I.length) (.slice (some ⟨gh,0,none⟩) H H)))/\zJI w w' I.length H gi gh (jW I x.1 y.1) nv sv L (uU I x.1 y.1 I.length++uH x.1 y.1 H) (mK I I.length) (mL x.1 y.1 H)/\L.map NE.place=xS I x.1 y.1
theorem Gp(I:List zQ)(i:Nat):mK I (i+1) i=(kT I i).low/\∀r,r≠i->mK I (i+1) r=mK I i r:=by
 refine⟨by unfold mK;rw[tl (by omega)],fun r hr=>?_⟩;unfold mK;by_cases h:r<i
 ·rw[tl (by omega),tl h]
 ·rw[tb (by omega),tb h]
theorem Gx(e l:xJ)(i:Nat):mL e l (i+1) i=uE e l i/\∀r,r≠i->mL e l (i+1) r=mL e l i r:=by
 refine⟨by unfold mL;simp,fun r hr=>?_⟩;unfold mL;by_cases h:r<i
 ·rw[tu h,tu (show r<i+1 by omega)]
 ·rw[ty h,ty (show ¬r<i+1 by omega)]
theorem nM(r:xJ)(i:Nat):(xM r i).length<=r.guard.length:=by unfold xM;rw[pi];exact dg _ _
theorem QS{a:Option Addr}(h:tZ w a (I.flatMap uI)){i:Nat}(hi:i<I.length):∃g,a=some ⟨g,0,none⟩/\w.cell? ⟨g,i*4,none⟩=some (.string ⟨(kT I i).name.toArray⟩)/\w.cell? ⟨g,i*4+1,none⟩=some (.bool (kT I i).isFlag)/\w.cell? ⟨g,i*4+2,none⟩=some (.int .i64 (kT I i).low)/\w.cell? ⟨g,i*4+3,none⟩=some (.int .i64 (kT I i).high):=by
 obtain⟨g,e,c0⟩:=h.at ((zN uI 4 (fun _=>rfl) iI I i 0 hi (by decide)).trans rfl);obtain⟨g1,e1,c1⟩:=h.at ((zN uI 4 (fun _=>rfl) iI I i 1 hi (by decide)).trans rfl);obtain⟨g2,e2,c2⟩:=h.at ((zN uI 4 (fun _=>rfl) iI I i 2 hi (by decide)).trans rfl);obtain⟨g3,e3,c3⟩:=h.at ((zN uI 4 (fun _=>rfl) iI I i 3 hi (by decide)).trans rfl);obtain rfl:g=g1:=by rw[e]at e1;simpa using e1
 obtain rfl:g=g2:=by rw[e]at e2;simpa using e2
 obtain rfl:g=g3:=by rw[e]at e3;simpa using e3
 exact⟨g,e,c0,c1,c2,c3⟩
theorem Vj(w:World)(b o:Nat)(I:List zQ)(H:Nat)(x y:MX)(ia ca:Option Addr)(ic cc:Nat)(h0:w.cell? ⟨b,o,none⟩=some (.slice ia I.length ic))(h1:w.cell? ⟨b,o+1,none⟩=some (.slice ca H cc))(hI:yZ w 204 ia (I.flatMap uI))(hx:uL w x)(hy:uL w y)(fI:I.length<=10000)(fH:H<=10000)(hbd:∀i z,z∈xM x.1 i++xM y.1 i -> -1000000<=z/\z<=1000000)(hzf:∀i,(jW I x.1 y.1 i).length<=100000) :
 Calls Tryz.prog 66 #[.pointer (some ⟨b,o,none⟩),uC x,uC y] w fun e w'=>Kq I H x y w w' e:=by
 have lb:=yF h0;obtain⟨i0,hi0,hz0,hz1,hz2⟩:=info_parts zEN;obtain⟨j0,hj0,hj1,hj2,hj3⟩:=info_parts zEP;have zLS:=zA (fun w' (hb:Below w.heap.size w w') i (hi:i<I.length)=>QS (hI.below hb).cel hi);have HAI1:=zA (fun w' (hb:Below w.heap.size w w') (c:Nat)=>Yb w' x c (hx.below hb));have HAI2:=zA (fun w' (hb:Below w.heap.size w w') (c:Nat)=>Yb w' y c (hy.below hb));have HBd1:=zA (fun w' (hb:Below w.heap.size w w') (c:Nat)=>U1 w' x c (hx.below hb));have HBd2:=zA (fun w' (hb:Below w.heap.size w w') (c:Nat)=>U1 w' y c (hy.below hb));have HNd1:=zA (fun w' (hb:Below w.heap.size w w') (c:Nat)=>DR w' x c (hx.below hb));have HNd2:=zA (fun w' (hb:Below w.heap.size w w') (c:Nat)=>DR w' y c (hy.below hb));have HAH1:=zA (fun w' (hb:Below w.heap.size w w') (c:Nat)=>Jw w' x c (hx.below hb));have HAH2:=zA (fun w' (hb:Below w.heap.size w w') (c:Nat)=>Jw w' y c (hy.below hb));have HZo:Hid (∀w' i (ea la:Option Addr) (ec lc:Nat),jT w' ea (xM x.1 i)->jT w' la (xM y.1 i)->Calls Tryz.prog 97 #[ZQ (kT I i),.slice ea (xM x.1 i).length ec,.slice la (xM y.1 i).length lc] w' fun e w''=>∃v,e=.returned v/\w''.ownsRow w'.heap.size 221 2 v (jW I x.1 y.1 i).length (dT (jW I x.1 y.1 i))/\Below w'.heap.size w' w''):=fun w' i ea la ec lc h1 h2=>DV w' (kT I i) ea la ec lc _ _ h1 h2 (hbd i);have HBl1:Hid (∀i,(xM x.1 i).length<=10000):=fun i=>p8 (nM _ _) hx.few2;have HBl2:Hid (∀i,(xM y.1 i).length<=10000):=fun i=>p8 (nM _ _) hy.few2;have HNs:=zA (fun i=>Vi I x.1 y.1 i);have HS1:=zA (fun i=>UJ I x.1 y.1 i);have HS2:=zA (fun i=>UI x.1 y.1 i);have HNl:=zA (fun i=>YY I x.1 y.1 i);have HS1l:=zA (fun i=>Qz I x.1 y.1 i);have HS2l:=zA (fun i=>Qy x.1 y.1 i);have HIs:=zA (fun i=>Gp I i);have HHs:=zA (fun i=>Gx x.1 y.1 i);have HAb:Hid (∀i,qP x.1 y.1 i=(tL x.1 i || tL y.1 i)):=fun _=>rfl;have HNb:Hid (∀i,uE x.1 y.1 i=(pX x.1 i || pX y.1 i)):=fun _=>rfl;have HIf:Hid (∀i,xW I i = !(kT I i).isFlag):=fun _=>rfl;have HPo:Hid (∀w' gi gh nv sv L,zJI w w' I.length H gi gh (jW I x.1 y.1) nv sv L (uU I x.1 y.1 I.length++uH x.1 y.1 H) (mK I I.length) (mL x.1 y.1 H)->L.map NE.place=pU I x.1 y.1 I.length->Kq I H x y w w' (.returned (.agg (UN x y nv sv (.slice (some ⟨gi,0,none⟩) I.length I.length) (.slice (some ⟨gh,0,none⟩) H H))))):=fun w' gi gh nv sv L h1 h2=>⟨gi,gh,nv,sv,L,rfl,h1,h2⟩;have HZf:=zA hzf;obtain⟨pa,pc,e1,-⟩:=hx.sum;obtain⟨ga,gc,e2,-⟩:=hx.guard;obtain⟨pa',pc',e3,-⟩:=hy.sum;obtain⟨ga',gc',e4,-⟩:=hy.guard
 have HCx:Hid (∀wr n gi gh F nv sv L T f g,ZY w wr x y n H gi gh F nv sv L T f g->((wr.cell? ⟨w.heap.size,0,none⟩=some (.string ⟨x.1.label.toArray⟩)/\wr.cell? ⟨w.heap.size,1,none⟩=some (.int .i64 x.1.conc)/\wr.cell? ⟨w.heap.size,2,none⟩=some (.slice pa x.1.sum.length pc)/\wr.cell? ⟨w.heap.size,3,none⟩=some (.slice ga x.1.guard.length gc)/\wr.cell? ⟨w.heap.size,4,none⟩=some (.int .i64 x.1.root))/\(wr.cell? ⟨w.heap.size+1,0,none⟩=some (.string ⟨y.1.label.toArray⟩)/\wr.cell? ⟨w.heap.size+1,1,none⟩=some (.int .i64 y.1.conc)/\wr.cell? ⟨w.heap.size+1,2,none⟩=some (.slice pa' y.1.sum.length pc')/\wr.cell? ⟨w.heap.size+1,3,none⟩=some (.slice ga' y.1.guard.length gc')/\wr.cell? ⟨w.heap.size+1,4,none⟩=some (.int .i64 y.1.root))/\(wr.cell? ⟨w.heap.size+1+1+1,10,none⟩=some nv/\wr.cell? ⟨w.heap.size+1+1+1,11,none⟩=some sv/\wr.cell? ⟨w.heap.size+1+1+1,12,none⟩=some (.slice (some ⟨gi,0,none⟩) n n)/\wr.cell? ⟨w.heap.size+1+1+1,13,none⟩=some (.slice (some ⟨gh,0,none⟩) H H))/\∀j,wr.frozen? ⟨w.heap.size+1+1+1,j,none⟩=false)):=fun wr n gi gh F nv sv L T f g k=>by
  have q1:=k.ns.bx;have q2:=k.ns.by'
  rw[e1,e2]at q1;rw[e3,e4]at q2;exact⟨⟨zB q1 0,zB q1 1,zB q1 2,zB q1 3,zB q1 4⟩,⟨zB q2 0,zB q2 1,zB q2 2,zB q2 3,zB q2 4⟩,⟨zB k.ns.hd 10,zB k.ns.hd 11,zB k.ns.hd 12,zB k.ns.hd 13⟩,fun j=>by simp[World.frozen?,k.ns.hd]⟩
 have HFr:Hid (∀ {w4 wx:World} {n gi gh:Nat},w4.heap[w.heap.size]? = some (.cells #[.string ⟨x.1.label.toArray⟩,.int .i64 x.1.conc,.slice pa x.1.sum.length pc,.slice ga x.1.guard.length gc,.int .i64 x.1.root] 162 (0,0))->w4.heap[w.heap.size+1]? = some (.cells #[.string ⟨y.1.label.toArray⟩,.int .i64 y.1.conc,.slice pa' y.1.sum.length pc',.slice ga' y.1.guard.length gc',.int .i64 y.1.root] 162 (0,0))->w4.heap[w.heap.size+1+1]? = some (.cells CF 170 (0,0))->w4.heap[w.heap.size+1+1+1]? = some (.cells #[.string ⟨x.1.label.toArray⟩,.int .i64 x.1.conc,.slice pa x.1.sum.length pc,.slice ga x.1.guard.length gc,.int .i64 x.1.root,.string ⟨y.1.label.toArray⟩,.int .i64 y.1.conc,.slice pa' y.1.sum.length pc',.slice ga' y.1.guard.length gc',.int .i64 y.1.root,.slice none 0 0,.slice none 0 0,.slice none 0 0,.slice none 0 0,.slice none 0 0] 170 (0,0))->Below w.heap.size w w4->w.heap.size+4<=w4.heap.size->Below w4.heap.size w4 wx->wx.heap[gi]? = some (.cells (iC (List.replicate n 0)) 3 (0,0))->wx.heap[gh]? = some (.cells (gC (List.replicate H false)) 4 (0,0))->w4.heap.size<=gi->w4.heap.size<=gh->ZY w (((wx.setCell ⟨w.heap.size+1+1+1,12,none⟩ (.slice (some ⟨gi,0,none⟩) n n)).setCell ⟨w.heap.size+1+1+1,13,none⟩ (.slice (some ⟨gh,0,none⟩) H H)).setCell ⟨w.heap.size+1+1+1,14,none⟩ (.slice none 0 0)) x y n H gi gh (jW I x.1 y.1) (.slice none 0 0) (.slice none 0 0) [] [] (mK I 0) (mL x.1 y.1 0)):=fun {w4 wx n gi gh} q1 q2 q3 q4 q5 q6 q7 q8 q9 q10 q11=>by
  have hz:mK I 0=fun _=>0:=by funext j;unfold mK;rw[tb (by omega)]
  have hz2:mL x.1 y.1 0=fun _=>false:=by funext j;unfold mL;rw[ty (by omega)];rfl
  rw[hz,hz2];exact⟨Yi.fresh (x:=x) (y:=y) (by rw[e1,e2];exact q1) (by rw[e3,e4];exact q2) q3 (by unfold UN;rw[e1,e2,e3,e4];exact q4) q5 q6 q7 q8 q9 q10 q11,⟨rfl,.inl ⟨rfl,rfl⟩⟩,fun q hq=>by simp at hq,⟨rfl,.inl ⟨rfl,rfl⟩⟩⟩
 have HOne:Hid (∀nv sv iv hv:Value,nv.oneCell'=true->sv.oneCell'=true->iv.oneCell'=true->hv.oneCell'=true->(UN x y nv sv iv hv).all (·.oneCell')=true):=fun nv sv iv hv h1 h2 h3 h4=>CU (by rw[e1];rfl) (by rw[e2];rfl) (by rw[e3];rfl) (by rw[e4];rfl) h1 h2 h3 h4
 simp only[uC]at HAI1 HAI2 HBd1 HBd2 HNd1 HNd2 HAH1 HAH2 ⊢;rw[e1,e2]at HAI1 HBd1 HNd1 HAH1;rw[e3,e4]at HAI2 HBd2 HNd2 HAH2;rw[e1,e2,e3,e4];have HE1:=zA (show x.2.1=_ from e1);clear e1 e2 e3 e4 hx hy hbd hzf hI;have hmI:=run_make_row' (P:=Tryz.prog) 22 3 (.int .i64 0) 8 Tryz.underlying22 fZ rfl .i64 .i64 I.length (by omega) (by omega);have hmH:=run_make_row' (P:=Tryz.prog) 166 4 (.bool false) 1 Tryz.underlying166 dA rfl .i64 .i64 H (by omega) (by omega);rw[cU]at hmH;rw[sF]at hmI;generalize x.1.label=xl at *;generalize x.1.conc=xc at *;generalize x.1.root=xr at *;generalize x.1.sum.length=xn at *;generalize x.1.guard.length=xm at *;generalize y.1.label=yl at *;generalize y.1.conc=yc at *;generalize y.1.root=yr at *;generalize y.1.sum.length=yn at *;generalize y.1.guard.length=ym at *;have h1':=h1;have lb1:=lb
 go_enter Tryz.func66,Tryz.ntmps66
 go_upto_region 2 with fail
 obtain⟨w4,hw4⟩:∃w4,w4=(((w.alloc (Obj.cells #[Value.string ⟨xl.toArray⟩,.int .i64 xc,.slice pa xn pc,.slice ga xm gc,.int .i64 xr] 162)).alloc (Obj.cells #[Value.string ⟨yl.toArray⟩,.int .i64 yc,.slice pa' yn pc',.slice ga' ym gc',.int .i64 yr] 162)).alloc (Obj.cells CF 170)).alloc (Obj.cells #[.string ⟨xl.toArray⟩,.int .i64 xc,.slice pa xn pc,.slice ga xm gc,.int .i64 xr,.string ⟨yl.toArray⟩,.int .i64 yc,.slice pa' yn pc',.slice ga' ym gc',.int .i64 yr,.slice none 0 0,.slice none 0 0,.slice none 0 0,.slice none 0 0,.slice none 0 0] 170):=⟨_,rfl⟩;have hw4':=hw4;unfold CF at hw4;rw[<-hw4];clear hw4;have x0:w4.heap[w.heap.size]? = some (.cells #[.string ⟨xl.toArray⟩,.int .i64 xc,.slice pa xn pc,.slice ga xm gc,.int .i64 xr] 162 (0,0)):=by rw[hw4'];exact zS (zS (zS (zG _ _)))
 have x1:w4.heap[w.heap.size+1]? = some (.cells #[.string ⟨yl.toArray⟩,.int .i64 yc,.slice pa' yn pc',.slice ga' ym gc',.int .i64 yr] 162 (0,0)):=by rw[hw4'];exact zS (zS (yS _ _ _ (by simp)))
 have x2:w4.heap[w.heap.size+1+1]? = some (.cells CF 170 (0,0)):=by rw[hw4'];exact zS (yS _ _ _ (by simp))
 have x3:w4.heap[w.heap.size+1+1+1]? = some (.cells #[.string ⟨xl.toArray⟩,.int .i64 xc,.slice pa xn pc,.slice ga xm gc,.int .i64 xr,.string ⟨yl.toArray⟩,.int .i64 yc,.slice pa' yn pc',.slice ga' ym gc',.int .i64 yr,.slice none 0 0,.slice none 0 0,.slice none 0 0,.slice none 0 0,.slice none 0 0] 170 (0,0)):=by rw[hw4'];exact yS _ _ _ (by simp)
 have hs4:w4.heap.size=w.heap.size+4:=by rw[hw4'];simp
 have HB4:Hid (Below w.heap.size w w4):=by unfold Hid;rw[hw4'];exact(((gb (j1 _) _).alloc (by simp) _).alloc (by simp;omega) _).alloc (by simp;omega) _
 have k0:w4.cell? ⟨b,o,none⟩=some (.slice ia I.length ic):=(HB4.out.cell (p:=⟨b,o,none⟩) lb).trans h0;have k1:w4.cell? ⟨b,o+1,none⟩=some (.slice ca H cc):=(HB4.out.cell (p:=⟨b,o+1,none⟩) lb).trans h1;have l3:w.heap.size+1+1+1<w4.heap.size:=by omega
 have l4:b<w4.heap.size:=by omega
 have HQ:Hid (∀A B:Obj,((w4.alloc A).alloc B).heap[w.heap.size+1+1+1]? = _):=fun A B=>zS (zS x3);have f12:∀A B:Obj,((w4.alloc A).alloc B).frozen? ⟨w.heap.size+1+1+1,12,none⟩=false:=fun A B=>by simp[World.frozen?,HQ.out A B]
 have f13:∀A B:Obj,((w4.alloc A).alloc B).frozen? ⟨w.heap.size+1+1+1,13,none⟩=false:=fun A B=>by simp[World.frozen?,HQ.out A B]
 have f14:∀A B:Obj,((w4.alloc A).alloc B).frozen? ⟨w.heap.size+1+1+1,14,none⟩=false:=fun A B=>by simp[World.frozen?,HQ.out A B]
 have c12:∀A B:Obj,((w4.alloc A).alloc B).cell? ⟨w.heap.size+1+1+1,12,none⟩=some (.slice none 0 0):=fun A B=>zB (HQ.out A B) 12;have c13:∀A B:Obj,((w4.alloc A).alloc B).cell? ⟨w.heap.size+1+1+1,13,none⟩=some (.slice none 0 0):=fun A B=>zB (HQ.out A B) 13;have c14:∀A B:Obj,((w4.alloc A).alloc B).cell? ⟨w.heap.size+1+1+1,14,none⟩=some (.slice none 0 0):=fun A B=>zB (HQ.out A B) 14;have HX0:=zA x0;have HX1:=zA x1;have HX2:=zA x2;have HX3:=zA x3;have hs4':w.heap.size+4<=w4.heap.size:=by omega
 clear hw4' hs4 x0 x1 x2 x3
 go_cut [7] from 17 to 30 (fun v7 wx=>v7=.pointer (some ⟨w.heap.size+1+1+1,0,none⟩)/\∃gi gh,Hid (ZY w wx x y I.length H gi gh (jW I x.1 y.1) (.slice none 0 0) (.slice none 0 0) [] [] (mK I 0) (mL x.1 y.1 0)))
 case first =>
  go_region
  all_goals
   go_wp2_with fail
   go_meet
  ·exact⟨rfl,w4.heap.size,w4.heap.size+1,zA ((HFr.out (n:=I.length) (gi:=w4.heap.size) (gh:=w4.heap.size+1) HX0.out HX1.out HX2.out HX3.out HB4.out hs4' ((gb (j1 _) _).alloc (by simp) _) (zS (zG _ _)) (yS _ _ _ (by simp)) (by omega) (by omega)).below (pj (tg _ _)))⟩
  ·exact⟨rfl,w4.heap.size+1,w4.heap.size,zA ((HFr.out (n:=I.length) (gi:=w4.heap.size+1) (gh:=w4.heap.size) HX0.out HX1.out HX2.out HX3.out HB4.out hs4' ((gb (j1 _) _).alloc (by simp) _) (yS _ _ _ (by simp)) (zS (zG _ _)) (by omega) (by omega)).below (pj (tg _ _)))⟩
 case rest =>
  obtain⟨rfl,gi,gh,HS⟩:=hcut;generalize hwA:wc=wA at *;clear hwA HX0 HX1 HX2 HX3 HB4 k0 k1 l3 l4 HQ f12 f13 f14 c12 c13 c14 hmI hmH hs4' HFr;have HMd:Hid (∀wr,Below w.heap.size w wr->wr.cell? ⟨b,o,none⟩=some (.slice ia I.length ic)/\wr.cell? ⟨b,o+1,none⟩=some (.slice ca H cc)):=fun wr hb=>⟨(hb.cell (p:=⟨b,o,none⟩) lb).trans h0,(hb.cell (p:=⟨b,o+1,none⟩) lb).trans h1⟩;obtain⟨k0,k1⟩:=HMd.out wA HS.out.ns.bel;clear h0 h1 h1' lb1;go_wp2_with fail
  go_loopw [36] (fun iv wr=>∃(i:Nat) (nv sv:Value) (L:List NE),i<=I.length/\iv=.int .i64 i/\Hid (ZY w wr x y I.length H gi gh (jW I x.1 y.1) nv sv L (uU I x.1 y.1 i) (mK I i) (mL x.1 y.1 0))/\Hid (L.map NE.place=pU I x.1 y.1 i)) (fun iv _=>I.length-(intOf iv).toNat)
  case atStart=>exact⟨0,_,_,[],p7 _,rfl,HS,zA rfl⟩
  case round =>
   obtain⟨i,nv,sv,L,hi,rfl,HN,HP⟩:=hrel;have zL8:=HN.out.ns.sz;by_cases zKZ:i<I.length
   ·obtain⟨g,rfl,n0,n1,n2,n3⟩:=zLS.out wr HN.out.ns.bel i zKZ
    obtain⟨-,-,⟨-,-,d12,-⟩,-⟩:=HCx.out _ _ _ _ _ _ _ _ _ _ _ HN.out;have ii:(i:Int)<(I.length:Int):=by omega
    have lg:=yF n0;have ng:wr.heap.size≠g:=by omega
    have m3:w.heap.size+1+1+1<wr.heap.size:=by omega
    have m3':wr.heap.size≠w.heap.size+1+1+1:=by omega
    have ci:wr.cell? ⟨gi,i,none⟩=some (.int .i64 (mK I i i)):=HN.out.ns.rI.cell zKZ;have fi:wr.frozen? ⟨gi,i,none⟩=false:=HN.out.ns.rI.free i;have lgi:=yF ci;have ngi:wr.heap.size≠gi:=by omega
    have ngi':gi≠wr.heap.size:=by omega
    have HSet:Hid (ZY w (wr.setCell ⟨gi,i,none⟩ (.int .i64 (kT I i).low)) x y I.length H gi gh (jW I x.1 y.1) nv sv L (uU I x.1 y.1 i) (mK I (i+1)) (mL x.1 y.1 0)):=HN.out.setI zKZ _ (HIs.out i).1 (fun r _ hr=>(HIs.out i).2 r hr);have HAI1i:=zA (fun w' hb=>HAI1.out w' hb i);have HAI2i:=zA (fun w' hb=>HAI2.out w' hb i);have HBd1i:=zA (fun w' hb=>HBd1.out w' hb i);have HBd2i:=zA (fun w' hb=>HBd2.out w' hb i);have HZoi:=zA (fun w'=>HZo.out w' i);have HBl1i:=HBl1.out i;have HBl2i:=HBl2.out i;have HNsi:=zA (HNs.out i);have HS1i:=zA (HS1.out i);have hNl:=HNl.out i;have hS1l:=HS1l.out i;have hLl:L.length<=i:=by have:=congrArg List.length HP.out;rw[pi]at this;omega
    rw[HAb.out i,HIf.out i]at HNsi HS1i;have hzl:=HZf.out i;have HNeC:Hid (∀za zc,zGC (jW I x.1 y.1) ⟨i,za,zc⟩=[.int .i64 (i:Nat),.slice za (jW I x.1 y.1 i).length zc,.int .i64 0,.int .i64 0,.int .i64 0]):=fun _ _=>rfl;generalize mK I i i=old at *;generalize kT I i=xi at *;obtain⟨xin,xif,xil,xih⟩:=xi;simp only[ZQ]at n0 n1 n2 n3 HSet HNsi HS1i HZoi;generalize tL x.1 i=q1 at *;generalize tL y.1 i=q2 at *
    go_upto_region 7 with fail
    have HN7:Hid (ZY w ((wr.setCell ⟨gi,i,none⟩ (.int .i64 xil)).alloc (.cells #[.string ⟨xin.toArray⟩,.bool xif,.int .i64 xil,.int .i64 xih] 204)) x y I.length H gi gh (jW I x.1 y.1) nv sv L (uU I x.1 y.1 i) (mK I (i+1)) (mL x.1 y.1 0)):=HSet.out.below (gb (j1 _) _);have HI7:Hid (((wr.setCell ⟨gi,i,none⟩ (.int .i64 xil)).alloc (.cells #[.string ⟨xin.toArray⟩,.bool xif,.int .i64 xil,.int .i64 xih] 204)).heap[wr.heap.size]? = some (.cells #[.string ⟨xin.toArray⟩,.bool xif,.int .i64 xil,.int .i64 xih] 204 (0,0))):=yS _ _ _ (by simp[World.setCell]);generalize (wr.setCell ⟨gi,i,none⟩ (.int .i64 xil)).alloc (.cells #[.string ⟨xin.toArray⟩,.bool xif,.int .i64 xil,.int .i64 xih] 204)=w7 at *;clear HSet n0 n1 n2 n3 ci fi lgi ngi ngi' d12 HN zL8 m3 m3' lg ng;obtain⟨⟨a0,a1,a2,a3,a4⟩,-,-,-⟩:=HCx.out _ _ _ _ _ _ _ _ _ _ _ HN7.out;have HAI1w:=zA (HAI1i.out w7 HN7.out.ns.bel)
    have HYc:Hid (∀w8,Below w7.heap.size w7 w8->Below w.heap.size w w8/\w8.cell? ⟨w.heap.size+1,0,none⟩=some (.string ⟨yl.toArray⟩)/\w8.cell? ⟨w.heap.size+1,1,none⟩=some (.int .i64 yc)/\w8.cell? ⟨w.heap.size+1,2,none⟩=some (.slice pa' yn pc')/\w8.cell? ⟨w.heap.size+1,3,none⟩=some (.slice ga' ym gc')/\w8.cell? ⟨w.heap.size+1,4,none⟩=some (.int .i64 yr)):=fun w8 hb=>by
     have k:=HN7.out.below hb;obtain⟨-,h9,-,-⟩:=HCx.out _ _ _ _ _ _ _ _ _ _ _ k;exact⟨k.ns.bel,h9⟩
    go_cut [57] from 48 to 57 (fun v57 wx=>v57=.bool (!(q1 || q2))/\Hid (Below w7.heap.size w7 wx))
    case first =>
     cases q1
     ·go_wp2_with fail
      refine HAI1w.out.mono ?_;rintro e w8 ⟨rfl,hb8⟩;obtain⟨p1,p2,p3,p4,p5,p6⟩:=HYc.out w8 hb8;have HA2w:=zA (HAI2i.out w8 p1);have HB8:=zA hb8;clear hb8 p1 a0 a1 a2 a3 a4;go_wp2_with fail
      refine HA2w.out.mono ?_;rintro e w9 ⟨rfl,hb9⟩;have HB9:Hid (Below w7.heap.size w7 w9):=HB8.out.trans (hb9.mono HB8.out.size);clear hb9;cases q2
      ·go_wp2_with fail
       go_meet
       exact⟨rfl,HB9⟩
      ·go_wp2_with fail
       go_meet
       exact⟨rfl,HB9⟩
     ·go_wp2_with fail
      refine HAI1w.out.mono ?_;rintro e w8 ⟨rfl,hb8⟩;have HB8:=zA hb8;clear hb8;go_wp2_with fail
      go_meet
      exact⟨rfl,HB8⟩
    case rest =>
     obtain⟨rfl,HB8⟩:=hcut;generalize hwB:wc=w8 at *;clear hwB a0 a1 a2 a3 a4 HAI1w HAI1i HAI2i HYc;have HN8:=zA (HN7.out.below HB8.out);have HI8:Hid (w8.heap[wr.heap.size]? = some (.cells #[.string ⟨xin.toArray⟩,.bool xif,.int .i64 xil,.int .i64 xih] 204 (0,0))):=by unfold Hid;rw[HB8.out.block _ (zJ HI7.out)];exact HI7.out
     clear HN7 HI7 HB8;generalize (q1 || q2)=qq at *;cases qq
     ·have HE1:Hid (uU I x.1 y.1 (i+1)=uU I x.1 y.1 i):=by have:=HS1i.out;unfold Hid;simpa using this
      have HE2:Hid (pU I x.1 y.1 (i+1)=pU I x.1 y.1 i):=by have:=HNsi.out;unfold Hid;simpa using this
      go_wp2_with fail
      go_roundw
      case rel=>exact⟨i+1,nv,sv,L,by omega,by go_num,by rw[HE1.out];exact HN8,by rw[HE2.out];exact HP⟩
      case measure=>simp[intOf];omega
     ·have u0:w8.cell? ⟨wr.heap.size,0,none⟩=some (.string ⟨xin.toArray⟩):=zB HI8.out 0
      have u1:w8.cell? ⟨wr.heap.size,1,none⟩=some (.bool xif):=zB HI8.out 1;have u2:w8.cell? ⟨wr.heap.size,2,none⟩=some (.int .i64 xil):=zB HI8.out 2;have u3:w8.cell? ⟨wr.heap.size,3,none⟩=some (.int .i64 xih):=zB HI8.out 3;obtain⟨⟨a0,a1,a2,a3,a4⟩,⟨b0,b1,b2,b3,b4⟩,⟨d10,d11,d12,d13⟩,dF⟩:=HCx.out _ _ _ _ _ _ _ _ _ _ _ HN8.out;have hs8:=HN8.out.ns.sz;have m3:w.heap.size+1+1+1<w8.heap.size:=by omega
      have m3':w8.heap.size≠w.heap.size+1+1+1:=by omega
      cases xif
      ·have HE1:Hid (uU I x.1 y.1 (i+1)=uU I x.1 y.1 i):=by have:=HS1i.out;unfold Hid;simpa using this
       have HE2:Hid (pU I x.1 y.1 (i+1)=pU I x.1 y.1 i++[i]):=by have:=HNsi.out;unfold Hid;simpa using this
       have HB1w:=zA (HBd1i.out w8 HN8.out.ns.bel);go_wp2_with fail
       refine HB1w.out.mono ?_;rintro e w9 ⟨v9,rfl,ho9,hb9⟩;have HN9:=zA (HN8.out.below hb9);obtain⟨ea,ec,rfl,hcel9,-,-⟩:=gY ho9;have HIa:Hid (jT w9 ea (xM x.1 i)):=⟨hcel9,HBl1i⟩;have HI9:Hid (w9.heap[wr.heap.size]? = some (.cells #[.string ⟨xin.toArray⟩,.bool false,.int .i64 xil,.int .i64 xih] 204 (0,0))):=by unfold Hid;rw[hb9.block _ (zJ HI8.out)];exact HI8.out
       obtain⟨-,⟨e0,e1,e2,e3,e4⟩,-,-⟩:=HCx.out _ _ _ _ _ _ _ _ _ _ _ HN9.out;have HB2w:=zA (HBd2i.out w9 HN9.out.ns.bel);clear ho9 hb9 hcel9 u0 u1 u2 u3 a0 a1 a2 a3 a4 b0 b1 b2 b3 b4 d10 d11 d12 d13 dF m3 m3' hs8 HN8 HI8 HB1w;generalize xM x.1 i=be at *;go_wp2_with fail
       refine HB2w.out.mono ?_;rintro e w10 ⟨v10,rfl,ho10,hb10⟩;have HN10:=zA (HN9.out.below hb10);obtain⟨la,lc,rfl,hcel10,-,-⟩:=gY ho10;have HIb:Hid (jT w10 la (xM y.1 i)):=⟨hcel10,HBl2i⟩;have HIa2:=zA (HIa.out.below hb10);have HI10:Hid (w10.heap[wr.heap.size]? = some (.cells #[.string ⟨xin.toArray⟩,.bool false,.int .i64 xil,.int .i64 xih] 204 (0,0))):=by unfold Hid;rw[hb10.block _ (zJ HI9.out)];exact HI9.out
       have u0:w10.cell? ⟨wr.heap.size,0,none⟩=some (.string ⟨xin.toArray⟩):=zB HI10.out 0;have u1:w10.cell? ⟨wr.heap.size,1,none⟩=some (.bool false):=zB HI10.out 1;have u2:w10.cell? ⟨wr.heap.size,2,none⟩=some (.int .i64 xil):=zB HI10.out 2;have u3:w10.cell? ⟨wr.heap.size,3,none⟩=some (.int .i64 xih):=zB HI10.out 3;have HZw:=zA (HZoi.out w10 ea la ec lc HIa2.out HIb.out);clear ho10 hb10 hcel10 e0 e1 e2 e3 e4 HN9 HI9 HB2w HIa HIa2 HIb;generalize xM y.1 i=bl at *;go_wp2_with fail
       refine HZw.out.mono ?_;rintro e w11 ⟨v11,rfl,ho11,hb11⟩;have HN11:=zA (HN10.out.below hb11);obtain⟨za,zc,rfl,hcT⟩:=vR ho11;have HCT:=zA hcT;obtain⟨-,-,⟨d10,d11,d12,d13⟩,dF⟩:=HCx.out _ _ _ _ _ _ _ _ _ _ _ HN11.out;have hs11:=HN11.out.ns.sz;have m3:w.heap.size+1+1+1<w11.heap.size:=by omega
       have m3':w11.heap.size≠w.heap.size+1+1+1:=by omega
       clear ho11 hb11 hcT u0 u1 u2 u3 HN10 HI10 HZw;have HNum:=zA (fun (ob:Obj) (wy:World) (v':Value) (zL1:wy.ownsRow (w.heap.size+4) 223 5 v' (L.length+1) (aT (jW I x.1 y.1) L++zGC (jW I x.1 y.1) ⟨i,za,zc⟩)) (hg:(w11.alloc ob).grownBy wy nv.ownBlock)=>(HN11.out.below (gb (j1 _) ob)).num ⟨i,za,zc⟩ (HCT.out.below (gb (j1 _) ob)) zL1 hg);obtain⟨na,nc,rfl⟩:=zP HN11.out.nums;have HOn:=zA HN11.out.nums;have HPl:Hid ((L++[(⟨i,za,zc⟩:NE)]).map NE.place=pU I x.1 y.1 (i+1)):=by unfold Hid;rw[bi,HP.out,HE2.out];rfl
       rw[HNeC.out za zc]at HNum;generalize (jW I x.1 y.1 i).length=zl at *
       go_wp2_with (at_builtin;refine wpList_append_own _ rfl _ _ 164 rfl (w.heap.size+4) 223 j0 _ 5 56 Tryz.underlying164 hj0 hj1 hj2 hj3 rfl (by decide) _ _ _ rfl (HOn.out.alloc _) ⟨w11.heap.size,0,none⟩ 1 1 [.int .i64 (i:Nat),.slice za zl zc,.int .i64 0,.int .i64 0,.int .i64 0] rfl rfl ?c1k1 ?c1k2 ?c1k3 ?c1k4 ?c1k5 ?_)
       try (case c1k1=>first|exact zM _ _ _ _ rfl|exact fun _ _ h=>h)
       try (case c1k2=>first|exact⟨rfl,rfl,rfl,rfl,rfl⟩|(intro u hu;simp at hu;rcases hu with rfl|rfl|rfl <;> rfl)|simp[Value.oneCell'])
       try (case c1k3=>unfold maxLen;omega)
       try (case c1k4=>omega)
       try (case c1k5=>first|omega|(simp;omega))
       intro v12 w12 hown12 hgrow12 _;have HN12:=zA (HNum.out _ w12 v12 hown12 hgrow12)
       have e10:w12.cell? ⟨w.heap.size+1+1+1,10,none⟩=some (.slice na L.length nc):=by
        have hb:=hgrow12.block (w.heap.size+1+1+1) (by simp;omega) (fun e=>by have:=(zZ HOn.out _ e.symm).1;omega);rw[bm (w:=w11.alloc _) (a:=⟨w.heap.size+1+1+1,10,none⟩) hb,bm (w:=w11) (a:=⟨w.heap.size+1+1+1,10,none⟩) (li _ _ _ m3)];exact d10
       have f10:w12.frozen? ⟨w.heap.size+1+1+1,10,none⟩=false:=by
        have hb:=hgrow12.block (w.heap.size+1+1+1) (by simp;omega) (fun e=>by have:=(zZ HOn.out _ e.symm).1;omega);rw[dk (w:=w11.alloc _) (a:=⟨w.heap.size+1+1+1,10,none⟩) hb,dk (w:=w11) (a:=⟨w.heap.size+1+1+1,10,none⟩) (li _ _ _ m3)];exact dF 10
       obtain⟨va,vc,rfl⟩:=zP hown12;clear hown12 hgrow12 d10 d11 d12 d13 dF;go_wp2_with fail
       go_roundw
       case rel=>exact⟨i+1,_,sv,L++[⟨i,za,zc⟩],by omega,by go_num,by rw[HE1.out];exact HN12,HPl⟩
       case measure=>simp[intOf];omega
      ·have HE1:Hid (uU I x.1 y.1 (i+1)=uU I x.1 y.1 i++[⟨true,i⟩]):=by have:=HS1i.out;unfold Hid;simpa using this
       have HE2:Hid (pU I x.1 y.1 (i+1)=pU I x.1 y.1 i):=by have:=HNsi.out;unfold Hid;simpa using this
       have HTg:=zA (fun (ob:Obj) (wy:World) (v':Value) (zL1:wy.ownsRow (w.heap.size+4) 216 2 v' ((uU I x.1 y.1 i).length+1) (YC (uU I x.1 y.1 i)++[.bool true,.int .i64 (i:Nat)])) (hg:(w8.alloc ob).grownBy wy sv.ownBlock)=>(HN8.out.below (gb (j1 _) ob)).tog ⟨true,i⟩ zL1 hg);obtain⟨sa,sc,rfl⟩:=zP HN8.out.sws;have HOs:=zA HN8.out.sws;clear u0 u2 u3 a0 a1 a2 a3 a4 b0 b1 b2 b3 b4
       go_wp2_with (at_builtin;refine wpList_append_own _ rfl _ _ 165 rfl (w.heap.size+4) 216 i0 _ 2 16 Tryz.underlying165 hi0 hz0 hz1 hz2 rfl (by decide) _ _ _ rfl (HOs.out.alloc _) ⟨w8.heap.size,0,none⟩ 1 1 [.bool true,.int .i64 (i:Nat)] rfl rfl ?c2k1 ?c2k2 ?c2k3 ?c2k4 ?c2k5 ?_)
       try (case c2k1=>first|exact zM _ _ _ _ rfl|exact fun _ _ h=>h)
       try (case c2k2=>first|exact⟨rfl,rfl⟩|(intro u hu;simp at hu;rcases hu with rfl|rfl <;> rfl)|simp[Value.oneCell'])
       try (case c2k3=>unfold maxLen;omega)
       try (case c2k4=>omega)
       try (case c2k5=>first|omega|(simp;omega))
       intro v12 w12 hown12 hgrow12 _;have HN12:=zA (HTg.out _ w12 v12 hown12 hgrow12)
       have e11:w12.cell? ⟨w.heap.size+1+1+1,11,none⟩=some (.slice sa (uU I x.1 y.1 i).length sc):=by
        have hb:=hgrow12.block (w.heap.size+1+1+1) (by simp;omega) (fun e=>by have:=(zZ HOs.out _ e.symm).1;omega);rw[bm (w:=w8.alloc _) (a:=⟨w.heap.size+1+1+1,11,none⟩) hb,bm (w:=w8) (a:=⟨w.heap.size+1+1+1,11,none⟩) (li _ _ _ m3)];exact d11
       have f11:w12.frozen? ⟨w.heap.size+1+1+1,11,none⟩=false:=by
        have hb:=hgrow12.block (w.heap.size+1+1+1) (by simp;omega) (fun e=>by have:=(zZ HOs.out _ e.symm).1;omega);rw[dk (w:=w8.alloc _) (a:=⟨w.heap.size+1+1+1,11,none⟩) hb,dk (w:=w8) (a:=⟨w.heap.size+1+1+1,11,none⟩) (li _ _ _ m3)];exact dF 11
       obtain⟨va,vc,rfl⟩:=zP hown12;clear hown12 hgrow12 d10 d11 d12 d13 dF;go_wp2_with fail
       go_roundw
       case rel=>exact⟨i+1,nv,_,L,by omega,by go_num,by rw[HE1.out];exact HN12,by rw[HE2.out];exact HP⟩
       case measure=>simp[intOf];omega
   ·obtain rfl:i=I.length:=by omega
    have ii:¬(I.length:Int)<(I.length:Int):=by omega
    obtain⟨wq,hwq⟩:∃wq,wq=wr:=⟨_,rfl⟩;rw[<-hwq]at HN ⊢;clear hwq zL8 k0 k1;obtain⟨k0,k1⟩:=HMd.out wq HN.out.ns.bel
    have HN0:Hid (ZY w wq x y I.length H gi gh (jW I x.1 y.1) nv sv L (uU I x.1 y.1 I.length++uH x.1 y.1 0) (mK I I.length) (mL x.1 y.1 0)):=by
     have e:uU I x.1 y.1 I.length++uH x.1 y.1 0=uU I x.1 y.1 I.length:=mt _;unfold Hid;rw[e];exact HN.out
    have hTl:=HS1l.out I.length;clear HN HNs HS1 HNl HS1l HIs HBl1 HBl2 HZo HBd1 HBd2 HAI1 HAI2 zLS HIf HAb HZf;go_wp2_with fail
    generalize hT1:uU I x.1 y.1 I.length=T1 at *;have HT1:=zA hT1;clear hT1
    go_loopw [91] (fun iv wr=>∃(c:Nat) (sv:Value),c<=H/\iv=.int .i64 c/\Hid (ZY w wr x y I.length H gi gh (jW I x.1 y.1) nv sv L (T1++uH x.1 y.1 c) (mK I I.length) (mL x.1 y.1 c))) (fun iv _=>H-(intOf iv).toNat)
    case atStart=>exact⟨0,_,p7 _,rfl,HN0⟩
    case round =>
     obtain⟨c,sv,hc,rfl,HN⟩:=hrel;by_cases zKZ:c<H
     ·have jj:(c:Int)<(H:Int):=by omega
      obtain⟨⟨a0,a1,a2,a3,a4⟩,-,-,-⟩:=HCx.out _ _ _ _ _ _ _ _ _ _ _ HN.out;have HNd1w:=zA (HNd1.out wr HN.out.ns.bel c);have HNd2i:=zA (fun w' hb=>HNd2.out w' hb c);have HAH1i:=zA (fun w' hb=>HAH1.out w' hb c);have HAH2i:=zA (fun w' hb=>HAH2.out w' hb c);have HS2i:=zA (HS2.out c);have HHi:=zA (HHs.out c);have hS2l:=HS2l.out c;rw[HNb.out c]at HS2i HHi
      have HYc:Hid (∀w8,Below wr.heap.size wr w8->(Below w.heap.size w w8/\w8.cell? ⟨w.heap.size+1,0,none⟩=some (.string ⟨yl.toArray⟩)/\w8.cell? ⟨w.heap.size+1,1,none⟩=some (.int .i64 yc)/\w8.cell? ⟨w.heap.size+1,2,none⟩=some (.slice pa' yn pc')/\w8.cell? ⟨w.heap.size+1,3,none⟩=some (.slice ga' ym gc')/\w8.cell? ⟨w.heap.size+1,4,none⟩=some (.int .i64 yr))/\w8.cell? ⟨w.heap.size,0,none⟩=some (.string ⟨xl.toArray⟩)/\w8.cell? ⟨w.heap.size,1,none⟩=some (.int .i64 xc)/\w8.cell? ⟨w.heap.size,2,none⟩=some (.slice pa xn pc)/\w8.cell? ⟨w.heap.size,3,none⟩=some (.slice ga xm gc)/\w8.cell? ⟨w.heap.size,4,none⟩=some (.int .i64 xr)):=fun w8 hb=>by
       have k:=HN.out.below hb;obtain⟨h8,h9,-,-⟩:=HCx.out _ _ _ _ _ _ _ _ _ _ _ k;exact⟨⟨k.ns.bel,h9⟩,h8⟩
      generalize pX x.1 c=q1 at *;generalize pX y.1 c=q2 at *;generalize vP x.1 c=q3 at *;generalize vP y.1 c=q4 at *
      go_upto_region 18 with fail
      go_cut [101] from 94 to 101 (fun v wx=>v=.bool (q1 || q2)/\Hid (Below wr.heap.size wr wx))
      case first =>
       cases q1
       ·go_wp2_with fail
        refine HNd1w.out.mono ?_;rintro e w8 ⟨rfl,hb8⟩;obtain⟨⟨p1,p2,p3,p4,p5,p6⟩,-⟩:=HYc.out w8 hb8;have HA2w:=zA (HNd2i.out w8 p1);have HB8:=zA hb8;clear hb8 p1 a0 a1 a2 a3 a4;go_wp2_with fail
        refine HA2w.out.mono ?_;rintro e w9 ⟨rfl,hb9⟩;have HB9:Hid (Below wr.heap.size wr w9):=HB8.out.trans (hb9.mono HB8.out.size);clear hb9;go_wp2_with fail
        go_meet
        exact⟨rfl,HB9⟩
       ·go_wp2_with fail
        refine HNd1w.out.mono ?_;rintro e w8 ⟨rfl,hb8⟩;have HB8:=zA hb8;clear hb8;go_wp2_with fail
        go_meet
        exact⟨rfl,HB8⟩
      case rest =>
       obtain⟨rfl,HB8⟩:=hcut;generalize hwB:wc=w8 at *;clear hwB a0 a1 a2 a3 a4 HNd1w HNd2i;generalize (q1 || q2)=qq at *;cases qq
       ·have HHe:Hid (mL x.1 y.1 (c+1)=mL x.1 y.1 c):=by
         unfold Hid;funext r;by_cases hr:r=c
         ·subst hr;rw[HHi.out.1];unfold mL;rw[ty (by omega)];rfl
         ·exact HHi.out.2 r hr
        obtain⟨⟨p1,-⟩,a0,a1,a2,a3,a4⟩:=HYc.out w8 HB8.out;have HAH1w:=zA (HAH1i.out w8 p1);clear p1
        go_upto_region 20 with fail
        go_cut [114] from 107 to 114 (fun v wx=>v=.bool (q3 || q4)/\Hid (Below wr.heap.size wr wx))
        case first =>
         cases q3
         ·go_wp2_with fail
          refine HAH1w.out.mono ?_;rintro e w9 ⟨rfl,hb9⟩;have HB9:Hid (Below wr.heap.size wr w9):=HB8.out.trans (hb9.mono HB8.out.size);obtain⟨⟨p1,p2,p3,p4,p5,p6⟩,-⟩:=HYc.out w9 HB9.out;have HA2w:=zA (HAH2i.out w9 p1);clear hb9 p1 a0 a1 a2 a3 a4;go_wp2_with fail
          refine HA2w.out.mono ?_;rintro e w10 ⟨rfl,hb10⟩;have HB10:Hid (Below wr.heap.size wr w10):=HB9.out.trans (hb10.mono HB9.out.size);clear hb10;go_wp2_with fail
          go_meet
          exact⟨rfl,HB10⟩
         ·go_wp2_with fail
          refine HAH1w.out.mono ?_;rintro e w9 ⟨rfl,hb9⟩;have HB9:Hid (Below wr.heap.size wr w9):=HB8.out.trans (hb9.mono HB8.out.size);clear hb9;go_wp2_with fail
          go_meet
          exact⟨rfl,HB9⟩
        case rest =>
         obtain⟨rfl,HB9⟩:=hcut;generalize hwB:wc=w9 at *;clear hwB a0 a1 a2 a3 a4 HAH1w HAH1i HAH2i HYc HB8;have HN9:=zA (HN.out.below HB9.out);clear HN HB9;generalize (q3 || q4)=qh at *;cases qh
         ·have HE1:Hid (uH x.1 y.1 (c+1)=uH x.1 y.1 c):=by have:=HS2i.out;unfold Hid;simpa using this
          go_wp2_with fail
          go_roundw
          case rel=>exact⟨c+1,sv,by omega,by go_num,by rw[HE1.out,HHe.out];exact HN9⟩
          case measure=>simp[intOf];omega
         ·have HE1:Hid (T1++uH x.1 y.1 (c+1)=(T1++uH x.1 y.1 c)++[⟨false,c⟩]):=by have:=HS2i.out;unfold Hid;rw[this];simp
          have hTT:(T1++uH x.1 y.1 c).length<=20000:=by rw[tm];omega
          obtain⟨-,-,⟨d10,d11,d12,d13⟩,dF⟩:=HCx.out _ _ _ _ _ _ _ _ _ _ _ HN9.out;have hs9:=HN9.out.ns.sz;have m3:w.heap.size+1+1+1<w9.heap.size:=by omega
          have m3':w9.heap.size≠w.heap.size+1+1+1:=by omega
          have HTg:=zA (fun (ob:Obj) (wy:World) (v':Value) (zL1:wy.ownsRow (w.heap.size+4) 216 2 v' ((T1++uH x.1 y.1 c).length+1) (YC (T1++uH x.1 y.1 c)++[.bool false,.int .i64 (c:Nat)])) (hg:(w9.alloc ob).grownBy wy sv.ownBlock)=>(HN9.out.below (gb (j1 _) ob)).tog ⟨false,c⟩ zL1 hg);obtain⟨sa,sc,rfl⟩:=zP HN9.out.sws;have HOs:=zA HN9.out.sws;generalize hTe:T1++uH x.1 y.1 c=TT at *;clear hTe
          go_wp2_with (at_builtin;refine wpList_append_own _ rfl _ _ 165 rfl (w.heap.size+4) 216 i0 _ 2 16 Tryz.underlying165 hi0 hz0 hz1 hz2 rfl (by decide) _ _ _ rfl (HOs.out.alloc _) ⟨w9.heap.size,0,none⟩ 1 1 [.bool false,.int .i64 (c:Nat)] rfl rfl ?c1k1 ?c1k2 ?c1k3 ?c1k4 ?c1k5 ?_)
          try (case c1k1=>first|exact zM _ _ _ _ rfl|exact fun _ _ h=>h)
          try (case c1k2=>first|exact⟨rfl,rfl⟩|(intro u hu;simp at hu;rcases hu with rfl|rfl <;> rfl)|simp[Value.oneCell'])
          try (case c1k3=>unfold maxLen;omega)
          try (case c1k4=>omega)
          try (case c1k5=>first|omega|(simp;omega))
          intro v12 w12 hown12 hgrow12 _;have HN12:=zA (HTg.out _ w12 v12 hown12 hgrow12)
          have e11:w12.cell? ⟨w.heap.size+1+1+1,11,none⟩=some (.slice sa TT.length sc):=by
           have hb:=hgrow12.block (w.heap.size+1+1+1) (by simp;omega) (fun e=>by have:=(zZ HOs.out _ e.symm).1;omega);rw[bm (w:=w9.alloc _) (a:=⟨w.heap.size+1+1+1,11,none⟩) hb,bm (w:=w9) (a:=⟨w.heap.size+1+1+1,11,none⟩) (li _ _ _ m3)];exact d11
          have f11:w12.frozen? ⟨w.heap.size+1+1+1,11,none⟩=false:=by
           have hb:=hgrow12.block (w.heap.size+1+1+1) (by simp;omega) (fun e=>by have:=(zZ HOs.out _ e.symm).1;omega);rw[dk (w:=w9.alloc _) (a:=⟨w.heap.size+1+1+1,11,none⟩) hb,dk (w:=w9) (a:=⟨w.heap.size+1+1+1,11,none⟩) (li _ _ _ m3)];exact dF 11
          obtain⟨va,vc,rfl⟩:=zP hown12;clear hown12 hgrow12 d10 d11 d12 d13 dF;go_wp2_with fail
          go_roundw
          case rel=>exact⟨c+1,_,by omega,by go_num,by rw[HE1.out,HHe.out];exact HN12⟩
          case measure=>simp[intOf];omega
       ·have HE1:Hid (uH x.1 y.1 (c+1)=uH x.1 y.1 c):=by have:=HS2i.out;unfold Hid;simpa using this
        have HN8:=zA (HN.out.below HB8.out);obtain⟨-,-,⟨-,-,-,d13⟩,-⟩:=HCx.out _ _ _ _ _ _ _ _ _ _ _ HN8.out;have ch:w8.cell? ⟨gh,c,none⟩=some (.bool (mL x.1 y.1 c c)):=HN8.out.ns.rH.cell zKZ;have fh:w8.frozen? ⟨gh,c,none⟩=false:=HN8.out.ns.rH.free c
        have HN9:Hid (ZY w (w8.setCell ⟨gh,c,none⟩ (.bool true)) x y I.length H gi gh (jW I x.1 y.1) nv sv L (T1++uH x.1 y.1 (c+1)) (mK I I.length) (mL x.1 y.1 (c+1))):=by
         unfold Hid;rw[HE1.out];exact HN8.out.setH zKZ _ HHi.out.1 (fun r _ hr=>HHi.out.2 r hr)
        generalize mL x.1 y.1 c c=old at *;go_wp2_with fail
        go_roundw
        case rel=>exact⟨c+1,sv,by omega,by go_num,HN9⟩
        case measure=>simp[intOf];omega
     ·obtain rfl:c=H:=by omega
      have jj:¬(c:Int)<(c:Int):=by omega
      obtain⟨na,nc,rfl⟩:=zP HN.out.nums;obtain⟨sa,sc,rfl⟩:=zP HN.out.sws;have HAl:=zA (HOne.out (.slice na L.length nc) (.slice sa (T1++uH x.1 y.1 c).length sc) (.slice (some ⟨gi,0,none⟩) I.length I.length) (.slice (some ⟨gh,0,none⟩) c c) rfl rfl rfl rfl);have HRes:=zA HN.out.ns.res;have HHd:=zA HN.out.ns.hd;have HFn:=zA (HPo.out _ gi gh _ _ L (HN.out.done (UN x y (.slice na L.length nc) (.slice sa (T1++uH x.1 y.1 c).length sc) (.slice (some ⟨gi,0,none⟩) I.length I.length) (.slice (some ⟨gh,0,none⟩) c c))) HP.out);have HIf:=zA (vm x y (.slice na L.length nc) (.slice sa (T1++uH x.1 y.1 c).length sc) (.slice (some ⟨gi,0,none⟩) I.length I.length) (.slice (some ⟨gh,0,none⟩) c c));have HSz:Hid ((UN x y (.slice na L.length nc) (.slice sa (T1++uH x.1 y.1 c).length sc) (.slice (some ⟨gi,0,none⟩) I.length I.length) (.slice (some ⟨gh,0,none⟩) c c)).size=15):=rfl;generalize UN x y (.slice na L.length nc) (.slice sa (T1++uH x.1 y.1 c).length sc) (.slice (some ⟨gi,0,none⟩) I.length I.length) (.slice (some ⟨gh,0,none⟩) c c)=SR at *;clear HN
      go_wp2_with (first
       | (refine wpList_load_row ?zLA 170 (.tmp 7) ?ho (w.heap.size+1+1+1) ?hx 170 SR (0,0) _ HHd.out Tryz.underlying170 rfl HIf.out ?_
          case ho=>rfl
          case zLA=>rfl
          case hx=>rfl)
       | (refine wpList_store_row ?zLA 170 (.tmp 6) (.tmp 123) ?ho (w.heap.size+1+1) SR ?hx ?hy 170 CF HRes.out HIf.out ?zLB HAl.out ?_
          case ho=>rfl
          case zLA=>rfl
          case hx=>rfl
          case hy=>rfl
          case zLB=>rw[HSz.out];rfl))
      refine pe (v:=.agg SR) (results_cell_row Tryz.results66 _ _ (w.heap.size+1+1) 170 SR (0,0) _ rfl (cg _ _ CF _ _ _ HRes.out) Tryz.underlying170 rfl HIf.out) rfl HFn.out
def sX:NE:=⟨0,none,0⟩
def zBY(I:List zQ)(H:Nat)(e l:xJ):Prop:=∃y,ZE I H y/\qJ e y=true/\qJ l y=true
structure rQ(I:List zQ):Prop where
 num:∀i,i<I.length->xW I i=true->0<=(kT I i).low/\(kT I i).low<=(kT I i).high/\(kT I i).high<=9999
 flag:∀i,i<I.length->xW I i=false->(kT I i).low=0
 few:I.length<=100
def dN(w:World)(b:Nat)(I:List zQ)(H:Nat)(x y:MX)(L:List NE)(na:Option Addr)(gn nc:Nat)(sa:Option Addr)(sc gi gh:Nat):SK :=
 ⟨w.heap.size,b,x,y,L.length,fun p=>(L.getD p sX).place,fun p=>jW I x.1 y.1 (L.getD p sX).place,fun p=>(L.getD p sX).za,fun p=>(L.getD p sX).zc,na,gn,nc,uU I x.1 y.1 I.length++uH x.1 y.1 H,sa,sc,gi,gh,I.length,H⟩
def vj(I:List zQ)(H:Nat)(x y:MX):vS:=⟨fun _=>(0,0),fun _=>0,mK I I.length,mL x.1 y.1 H⟩
theorem YG{t:jC}(h:t∈uU I e l I.length++uH e l H):(t.flag=true/\t.place<I.length/\qP e l t.place=true/\xW I t.place=false)\/(t.flag=false/\t.place<H/\uE e l t.place=false/\(vP e t.place || vP l t.place)=true):=by
 rcases pu.1 h with h|h
 ·obtain⟨i,hi,rfl⟩:=p9.1 h
  have:=mj.1 hi;simp only[py,pq,Bool.not_eq_true']at this;exact .inl ⟨rfl,this.1,this.2.1,this.2.2⟩
 ·obtain⟨i,hi,rfl⟩:=p9.1 h
  have:=mj.1 hi;simp only[py,pq,Bool.not_eq_true']at this;exact .inr ⟨rfl,this.1,this.2.1,this.2.2⟩
theorem CR{i:Nat}(h1:i<I.length)(h2:qP e l i=true)(h3:xW I i=false):(⟨true,i⟩:jC)∈uU I e l I.length++uH e l H :=
 pu.2 (.inl (p9.2 ⟨i,mj.2 ⟨by simpa using h1,by simp[h2,h3]⟩,rfl⟩))
theorem zHH{c:Nat}(h1:c<H)(h2:uE e l c=false)(h3:(vP e c || vP l c)=true):(⟨false,c⟩:jC)∈uU I e l I.length++uH e l H :=
 pu.2 (.inr (p9.2 ⟨c,mj.2 ⟨by simpa using h1,by rw[h2,h3];rfl⟩,rfl⟩))
theorem kX(h:L.map NE.place=xS I e l)(hp:p<L.length):(L.getD p sX).place=(xS I e l).getD p 0:=by
 rw[<-h];simp[List.getD,hp]
theorem Vh{q:Nat}(hp:p<(xS I e l).length)(hq:q<(xS I e l).length)(h:(xS I e l).getD p 0=(xS I e l).getD q 0):p=q:=by
 have hnd:(xS I e l).Nodup:=List.Pairwise.filter _ List.nodup_range;rw[pd,pd,pb hp,pb hq]at h;exact(List.getElem_inj hnd).1 h
theorem zK0{b:Nat}(hL:L.map NE.place=xS I x.1 y.1)(hI:rQ I)(fH:H<=10000)(hzf:∀i,(jW I x.1 y.1 i).length<=100000)(l1:w.heap.size<=b)(l2:w.heap.size<=gi)(l3:w.heap.size<=gh)(l4:0<L.length->w.heap.size<=gn):XW (dN w b I H x y L na gn nc sa sc gi gh):=by
 have hl:L.length=(xS I x.1 y.1).length:=by rw[<-hL,pi]
 have zL6:(xS I x.1 y.1).length<=I.length:=YY I x.1 y.1 I.length;have h1:=Qz I x.1 y.1 I.length;have h2:=Qy x.1 y.1 H;have hf:=hI.few
 have hm:∀p,p<L.length->(L.getD p sX).place<I.length/\qP x.1 y.1 (L.getD p sX).place=true/\xW I (L.getD p sX).place=true:=fun p hp=>by
  rw[kX hL hp];exact pT.1 (nB (by omega))
 refine⟨l1,l2,l3,l4,by show L.length<=100;omega,by show I.length<=10000;omega,fH,by show (_++_:List jC).length<=20000;rw[tm];omega,fun p _=>hzf _,fun p hp=>(hm p hp).1,fun p q hp hq e=>?_,fun p hp t ht h=>?_,fun t ht hf=>?_,fun t ht hf=>?_⟩
 ·have e':(xS I x.1 y.1).getD p 0=(xS I x.1 y.1).getD q 0:=by rw[<-kX hL hp,<-kX hL hq];exact e
  exact Vh (hl ▸ hp) (hl ▸ hq) e'
 ·rcases YG ht with ⟨_,_,_,h9⟩|⟨h9,_⟩
  ·rw[h.2]at h9;have:=(hm p hp).2.2;rw[show (dN w b I H x y L na gn nc sa sc gi gh).P p=(L.getD p sX).place from rfl,this]at h9;cases h9
  ·rw[h.1]at h9;cases h9
 ·rcases YG ht with ⟨_,h9,_⟩|⟨h9,_⟩
  ·exact h9
  ·rw[hf]at h9;cases h9
 ·rcases YG ht with ⟨h9,_⟩|⟨_,h9,_⟩
  ·rw[hf]at h9;cases h9
  ·exact h9
theorem je(l:List Bool)(c:Nat):kS l (c:Int)=(decide (c<l.length)&&l.getD c false):=by
 unfold kS;rw[tu (show (0:Int)<=(c:Int) by omega),mz];by_cases h:c<l.length
 ·rw[tu h,tu (show (c:Int)<(l.length:Int) by omega)];rfl
 ·rw[ty h,ty (show ¬(c:Int)<(l.length:Int) by omega)];rfl
theorem zD7{b:Nat}(hL:L.map NE.place=xS I x.1 y.1)(hI:rQ I)(hpe:eK x.1 I.length (xW I))(hpl:eK y.1 I.length (xW I))(hneH:∀c,uE x.1 y.1 c=true->c<H)(haH:∀c,(vP x.1 c || vP y.1 c)=true->c<H)
 (h:rK (uY (dN w b I H x y L na gn nc sa sc gi gh)) L.length (fun p=>(L.getD p sX).place) (fun p=>jW I x.1 y.1 (L.getD p sX).place) (uU I x.1 y.1 I.length++uH x.1 y.1 H) 0 (vj I H x y) s' false):¬zBY I H x.1 y.1:=by
 rintro⟨v,hv,h1,h2⟩;have hl:L.length=(xS I x.1 y.1).length:=by rw[<-hL,pi]
 obtain⟨Z,hZl,hZ,rk,hrl,hrr,o,ho,ht⟩:=KN hpe hpl (fun i hi hn=>⟨(hI.num i hi hn).1,(hI.num i hi hn).2.2⟩) hv h1 h2
 obtain⟨F,hF⟩:∃F:Nat->Int,(∀p,p<L.length->F (L.getD p sX).place=o.getD (rk.getD p 0) 0)/\∀i,(∀p,p<L.length->(L.getD p sX).place≠i)->F i=if qP x.1 y.1 i=true/\xW I i=false/\i<I.length then v.inputs.getD i 0 else mK I I.length i:=by
  refine⟨fun i=>if hq:∃p,p<L.length/\(L.getD p sX).place=i then o.getD (rk.getD (Classical.choose hq) 0) 0 else if qP x.1 y.1 i=true/\xW I i=false/\i<I.length then v.inputs.getD i 0 else mK I I.length i,fun p hp=>?_,fun i hi=>?_⟩
  ·have hq:∃q,q<L.length/\(L.getD q sX).place=(L.getD p sX).place:=⟨p,hp,rfl⟩
   simp only[hq,dite_true];have hc:=Classical.choose_spec hq;have e':(xS I x.1 y.1).getD (Classical.choose hq) 0=(xS I x.1 y.1).getD p 0:=by rw[<-kX hL hc.1,<-kX hL hp];exact hc.2
   rw[Vh (hl ▸ hc.1) (hl ▸ hp) e']
  ·have hq:¬ ∃p,p<L.length/\(L.getD p sX).place=i:=fun ⟨p,hp,e⟩=>hi p hp e
   simp only[hq,dite_false]
 obtain⟨t,htd⟩:∃t:vS,t=⟨fun _=>(0,0),fun _=>0,F,fun c=>uE x.1 y.1 c || ((vP x.1 c || vP y.1 c)&&kS v.has (c:Int))⟩:=⟨_,rfl⟩;have hoff:∀i,FL (uU I x.1 y.1 I.length++uH x.1 y.1 H) i->¬(qP x.1 y.1 i=true/\xW I i=false/\i<I.length):=fun i hi hh=>hi _ (CR hh.2.2 hh.1 hh.2.1) ⟨rfl,rfl⟩
 have hrest:pP L.length (fun p=>(L.getD p sX).place) (uU I x.1 y.1 I.length++uH x.1 y.1 H) (vj I H x y) t:=by
  rw[htd];refine⟨fun i hp hi=>?_,fun c hc=>?_⟩
  ·show F i=mK I I.length i
   rw[hF.2 i hp,tb (hoff i hi)]
  ·show (uE x.1 y.1 c || ((vP x.1 c || vP y.1 c)&&kS v.has (c:Int)))=mL x.1 y.1 H c
   unfold mL;cases hn:uE x.1 y.1 c
   ·cases ha:(vP x.1 c || vP y.1 c)
    ·simp
    ·exact absurd ⟨rfl,rfl⟩ (hc _ (zHH (haH c ha) hn ha))
   ·rw[tu (hneH c hn)];simp
 have hno:=h.no rfl (fun p=>Z.getD p (0,0)) (fun p hp=>absurd hp (by omega)) (fun p hp=>by rw[kX hL hp];exact hZ p (by omega)) (fun p=>rk.getD p 0) (fun p hp=>by
  have hp2:p<rk.length:=by omega
  have:=hrr (rk.getD p 0) (by simp[List.getD,hp2])
  omega) o (by
  have e:mP L.length (fun p=>Z.getD p (0,0)) (fun p=>rk.getD p 0)=fR Z rk:=by unfold mP fR;rw[hZl,hl]
  rw[e];exact ho) t hrest (fun p hp=>by rw[htd];exact hF.1 p hp) (fun q hq hqf=>by
  rcases YG hq with ⟨_,g1,g2,g3⟩|⟨g1,_⟩
  ·have hpn:∀p,p<L.length->(L.getD p sX).place≠q.place:=fun p hp e=>by
    rw[kX hL hp]at e;have:=(pT.1 (nB (I:=I) (e:=x.1) (l:=y.1) (p:=p) (by omega))).2.2;rw[e,g3]at this;cases this
   rw[htd];show F q.place=0\/F q.place=1;rw[hF.2 _ hpn,tl ⟨g2,g3,g1⟩];exact hv.flag _ g1 g3
  ·rw[hqf]at g1;cases g1)
 have htry:zGT I x.1 y.1 rk o v (aM (dN w b I H x y L na gn nc sa sc gi gh) t):=by
  have zL9:∀i,i<I.length->(aM (dN w b I H x y L na gn nc sa sc gi gh) t).inputs.getD i 0=t.inp i:=fun i hi=>by simp[aM,dN,List.getD,hi]
  have hhas:∀c:Nat,kS (aM (dN w b I H x y L na gn nc sa sc gi gh) t).has (c:Int)=(decide (c<H)&&t.has c):=fun c=>by
   rw[je];by_cases hc:c<H
   ·simp[aM,dN,List.getD,hc]
   ·simp[aM,dN,hc]
  refine⟨by simp[aM,dN],fun p hp=>?_,fun i hi ha hn=>?_,fun c hc=>?_,fun c hc ha=>?_⟩
  ·have hm:=pT.1 (nB hp)
   rw[zL9 _ hm.1,htd,<-kX hL (show p<L.length by omega)];exact hF.1 p (by omega)
  ·have hpn:∀p,p<L.length->(L.getD p sX).place≠i:=fun p hp e=>by
    rw[kX hL hp]at e;have:=(pT.1 (nB (I:=I) (e:=x.1) (l:=y.1) (p:=p) (by omega))).2.2;rw[e,hn]at this;cases this
   rw[zL9 i hi,htd];show F i=_;rw[hF.2 i hpn,tl ⟨ha,hn,hi⟩]
  ·rw[hhas,tu (hneH c hc),htd]
   show (true&&(uE x.1 y.1 c || _))=true;rw[hc];rfl
  ·rw[hhas,tu (haH c ha),htd]
   show (true&&(uE x.1 y.1 c || ((vP x.1 c || vP y.1 c)&&kS v.has (c:Int))))=_;rw[hc,ha];simp
 have:=ht _ htry;unfold uY at hno;rw[show (dN w b I H x y L na gn nc sa sc gi gh).e.1=x.1 from rfl,show (dN w b I H x y L na gn nc sa sc gi gh).l.1=y.1 from rfl,this.1,this.2]at hno;cases hno
theorem ua{b:Nat}(hL:L.map NE.place=xS I x.1 y.1)(hI:rQ I)
 (h:rK (uY (dN w b I H x y L na gn nc sa sc gi gh)) L.length (fun p=>(L.getD p sX).place) (fun p=>jW I x.1 y.1 (L.getD p sX).place) (uU I x.1 y.1 I.length++uH x.1 y.1 H) 0 (vj I H x y) s' true):ZE I H (aM (dN w b I H x y L na gn nc sa sc gi gh) s')/\qJ x.1 (aM (dN w b I H x y L na gn nc sa sc gi gh) s')=true/\qJ y.1 (aM (dN w b I H x y L na gn nc sa sc gi gh) s')=true:=by
 have hl:L.length=(xS I x.1 y.1).length:=by rw[<-hL,pi]
 obtain⟨hb,hbit,Z,rk,o,hZ,hrk,ho,hn⟩:=h.yes rfl;have zL9:∀i,i<I.length->(aM (dN w b I H x y L na gn nc sa sc gi gh) s').inputs.getD i 0=s'.inp i:=fun i hi=>by simp[aM,dN,List.getD,hi]
 have hlow:∀i,i<I.length->(∀p,p<L.length->(L.getD p sX).place≠i)->¬(qP x.1 y.1 i=true/\xW I i=false)->s'.inp i=(kT I i).low:=fun i hi hp hna=>by
  rw[h.rest.inp i hp (fun t ht hh=>by
   rcases YG ht with ⟨_,g1,g2,g3⟩|⟨g1,_⟩
   ·exact hna ⟨hh.2 ▸ g2,hh.2 ▸ g3⟩
   ·rw[hh.1]at g1;cases g1)]
  show mK I I.length i=_;unfold mK;rw[tl hi]
 refine⟨⟨by simp[aM,dN],by simp[aM,dN],fun i hi hnum=>?_,fun i hi hfl=>?_⟩,?_⟩
 ·rw[zL9 i hi]
  have hr:=hI.num i hi hnum;by_cases ha:qP x.1 y.1 i=true
  ·obtain⟨p,hp,e⟩:=Yn hi ha hnum
   have hp2:p<L.length:=by omega
   have e2:=kX hL hp2;rw[e]at e2
   have hs:=YM (L:=mP L.length Z rk) (fun z hz=>by
    obtain⟨q,hq,rfl⟩:=p9.1 hz;rw[rS];exact hrk q (by simpa using hq)) ho ⟨(Z p).1,(Z p).2,rk p⟩ (p9.2 ⟨p,by simpa using hp2,rfl⟩)
   have hnp:=hn p hp2;simp only at hnp hs;rw[e2]at hnp;rw[hnp];have hzo:=(Y2 (kT I i).low (kT I i).high (xM x.1 i) (xM y.1 i)).sub (Z p) (by have:=hZ p hp2;rw[e2]at this;exact this);omega
  ·rw[hlow i hi (fun p hp e=>ha (by
    have:=(pT.1 (nB (I:=I) (e:=x.1) (l:=y.1) (p:=p) (by omega))).2.1;rw[kX hL hp]at e;rw[e]at this;exact this)) (fun hh=>ha hh.1)]
   omega
 ·rw[zL9 i hi]
  by_cases ha:qP x.1 y.1 i=true
  ·exact hbit _ (CR hi ha hfl) rfl
  ·rw[hlow i hi (fun p hp e=>ha (by
    have:=(pT.1 (nB (I:=I) (e:=x.1) (l:=y.1) (p:=p) (by omega))).2.1;rw[kX hL hp]at e;rw[e]at this;exact this)) (fun hh=>ha hh.1)]
   exact .inl (hI.flag i hi hfl)
 ·unfold uY at hb
  rw[pq]at hb;exact hb
def zJP:MX:=(⟨[],0,[],[],0⟩,.slice none 0 0,.slice none 0 0)
def kP(rs:List MX)(i:Nat):MX:=rs.getD i zJP
structure Qw(w:World)(b o:Nat)(I:List zQ)(C:List (Bs × Nat))(rs:List MX)(G:List Bool):Prop where
 inp:∃a c,w.cell? ⟨b,o,none⟩=some (.slice a I.length c)/\yZ w 204 a (I.flatMap uI)
 con:∃a c,w.cell? ⟨b,o+1,none⟩=some (.slice a C.length c)/\yZ w 208 a (Zj C)
 rul:∃a c,w.cell? ⟨b,o+2,none⟩=some (.slice a rs.length c)/\yZ w 162 a (rs.flatMap jL)
 rows:∀x∈rs,uL w x
 gr:zFY w b (o+3) G
 few1:I.length<=100
 few2:C.length<=10000
 few3:rs.length<=10000
theorem Qw.below{b o:Nat}{C:List (Bs × Nat)}(h:Qw w b o I C rs G)(hb:Below w.heap.size w w'):Qw w' b o I C rs G:=by
 obtain⟨a1,c1,p1,q1⟩:=h.inp;obtain⟨a2,c2,p2,q2⟩:=h.con;obtain⟨a3,c3,p3,q3⟩:=h.rul;exact⟨⟨a1,c1,(hb.cell (p:=⟨b,o,none⟩) (yQ p1)).trans p1,q1.below hb⟩,⟨a2,c2,(hb.cell (p:=⟨b,o+1,none⟩) (yQ p2)).trans p2,q2.below hb⟩,⟨a3,c3,(hb.cell (p:=⟨b,o+2,none⟩) (yQ p3)).trans p3,q3.below hb⟩,fun x hx=>(h.rows x hx).below hb,h.gr.below hb,h.few1,h.few2,h.few3⟩
theorem iF{a:Option Addr}(h:tZ w a (rs.flatMap jL)){i:Nat}(hi:i<rs.length):∃g,a=some ⟨g,0,none⟩/\w.cell? ⟨g,i*5,none⟩=some (.string ⟨(kP rs i).1.label.toArray⟩)/\w.cell? ⟨g,i*5+1,none⟩=some (.int .i64 (kP rs i).1.conc)/\w.cell? ⟨g,i*5+2,none⟩=some (kP rs i).2.1/\w.cell? ⟨g,i*5+3,none⟩=some (kP rs i).2.2/\w.cell? ⟨g,i*5+4,none⟩=some (.int .i64 (kP rs i).1.root):=by
 obtain⟨g,e,c0⟩:=h.at ((zN jL 5 (fun _=>rfl) zJP rs i 0 hi (by decide)).trans rfl);obtain⟨g1,e1,c1⟩:=h.at ((zN jL 5 (fun _=>rfl) zJP rs i 1 hi (by decide)).trans rfl);obtain⟨g2,e2,c2⟩:=h.at ((zN jL 5 (fun _=>rfl) zJP rs i 2 hi (by decide)).trans rfl);obtain⟨g3,e3,c3⟩:=h.at ((zN jL 5 (fun _=>rfl) zJP rs i 3 hi (by decide)).trans rfl);obtain⟨g4,e4,c4⟩:=h.at ((zN jL 5 (fun _=>rfl) zJP rs i 4 hi (by decide)).trans rfl);obtain rfl:g=g1:=by rw[e]at e1;simpa using e1
 obtain rfl:g=g2:=by rw[e]at e2;simpa using e2
 obtain rfl:g=g3:=by rw[e]at e3;simpa using e3
 obtain rfl:g=g4:=by rw[e]at e4;simpa using e4
 exact⟨g,e,c0,c1,c2,c3,c4⟩
theorem sD{i:Nat}(h:i<rs.length):kP rs i∈rs:=by simp[kP,List.getD,h]
def KV(rs:List MX)(G:List Bool)(i j:Nat):Bool:=decide ((kP rs i).1.conc=(kP rs j).1.conc)&&(!nK G (i:Int) (j:Int) && !nK G (j:Int) (i:Int))
theorem Um(w:World)(b o:Nat)(I:List zQ)(C:List (Bs × Nat))(rs:List MX)(G:List Bool)(i j:Nat)(h:Qw w b o I C rs G)(hi:i<rs.length)(hj:j<rs.length) :
 Calls Tryz.prog 65 #[.pointer (some ⟨b,o,none⟩),.int .i64 (i:Nat),.int .i64 (j:Nat)] w fun e w'=>e=.returned (.bool (KV rs G i j))/\Below w.heap.size w w':=by
 obtain⟨a,c,h2,hr⟩:=h.rul;obtain⟨g,rfl,-,ci,-,-,-⟩:=iF hr.cel hi;obtain⟨g',e',-,cj,-,-,-⟩:=iF hr.cel hj;obtain rfl:g=g':=by simpa using e'
 have hf:=h.few3;have ii:(i:Int)<(rs.length:Int):=by omega
 have jj:(j:Int)<(rs.length:Int):=by omega
 have HR:Hid (KV rs G i j=(decide ((kP rs i).1.conc=(kP rs j).1.conc)&&(!nK G (i:Int) (j:Int) && !nK G (j:Int) (i:Int)))):=rfl;have HS1:=zA (fun w' (hb:Below w.heap.size w w')=>fN w' b o G (i:Int) (j:Int) (h.gr.below hb));have HS2:=zA (fun w' (hb:Below w.heap.size w w')=>fN w' b o G (j:Int) (i:Int) (h.gr.below hb));clear h hr e';generalize KV rs G i j=ans at *;generalize nK G (i:Int) (j:Int)=s1 at *;generalize nK G (j:Int) (i:Int)=s2 at *;generalize (kP rs i).1.conc=k1 at *;generalize (kP rs j).1.conc=k2 at *
 go_enter Tryz.func65,Tryz.ntmps65
 by_cases hk:k1=k2
 ·have HR2:Hid (ans=(!s1 && !s2)):=by have:=HR.out;rw[tu hk,mz]at this;exact this
  subst hk;go_wp2_with fail
  go_quiet (fail)
  have HBq:Hid (Below w.heap.size w (w.drewN nq)):=xR (tg _ _) nq;generalize w.drewN nq=wq at *;have HS1w:=zA (HS1.out wq HBq.out);have HS2w:=zA (HS2.out wq HBq.out);clear HS1 HS2 HR;cases s1
  ·have HR3:Hid (ans = !s2):=by have:=HR2.out;simpa[Hid] using this
   go_wp2_with fail
   refine HS1w.out.mono ?_;rintro e w' ⟨rfl,hw⟩;obtain rfl:=hw.symm;go_wp2_with fail
   refine HS2w.out.mono ?_;rintro e w' ⟨rfl,hw⟩;obtain rfl:=hw.symm;go_wp2_with fail
   go_ret
   exact⟨zF HR3.out.symm,HBq.out⟩
  ·have HR3:Hid (ans=false):=by have:=HR2.out;simpa[Hid] using this
   go_wp2_with fail
   refine HS1w.out.mono ?_;rintro e w' ⟨rfl,hw⟩;obtain rfl:=hw.symm;go_wp2_with fail
   go_ret
   exact⟨zF HR3.out.symm,HBq.out⟩
 ·have HR2:Hid (ans=false):=by have:=HR.out;rw[ty hk,cp]at this;exact this
  have b1:(k1==k2)=false:=by simpa using hk
  have b2:(k1 != k2)=true:=by simp only[bne,b1];rfl
  clear hk;go_wp2_with fail
  go_quiet (fail)
  go_wp2_with fail
  go_ret
  exact⟨zF HR2.out.symm,xR (tg _ _) _⟩
def U0(I:List zQ)(H:Nat)(rs:List MX)(G:List Bool)(i j:Nat):Prop:=i<j/\j<rs.length/\KV rs G i j=true/\zBY I H (kP rs i).1 (kP rs j).1
structure XX(I:List zQ)(H:Nat)(r:xJ):Prop where
 pl:eK r I.length (xW I)
 nd:∀c,pX r c=true->c<H
 ah:∀c,vP r c=true->c<H
 bd:∀i z,z∈xM r i -> -1000000<=z/\z<=1000000
theorem CE(I:List zQ)(x y:xJ)(h1:x.guard.length<=10000)(h2:y.guard.length<=10000)(i:Nat):(jW I x y i).length<=100000:=by
 unfold jW gT;have a1:=cK (JY (kT I i).low (kT I i).high) (xM x i) (xM x i).length (j1 _);rw[bw]at a1;have a2:=cK a1.1 (xM y i) (xM y i).length (j1 _);rw[bw]at a2;have:=a1.2;have:=a2.2;have:=nM x i;have:=nM y i;simp only[pf,List.length_nil]at *;omega
def zGO(I:List zQ)(H:Nat)(e l:xJ)(t:vS):Bool:=qJ e ⟨(List.range I.length).map t.inp,(List.range H).map t.has,[]⟩&&qJ l ⟨(List.range I.length).map t.inp,(List.range H).map t.has,[]⟩
def zBW(I:List zQ)(H:Nat)(e l:xJ)(f:Nat->Int)(g:Nat->Bool):Prop:=∃s',rK (zGO I H e l) (xS I e l).length (fun p=>(xS I e l).getD p 0) (fun p=>jW I e l ((xS I e l).getD p 0)) (uU I e l I.length++uH e l H) 0 ⟨fun _=>(0,0),fun _=>0,mK I I.length,mL e l H⟩ s' true/\f=s'.inp/\g=s'.has
structure Uv(I:List zQ)(H:Nat)(e l:xJ)(f:Nat->Int)(g:Nat->Bool):Prop where
 room:ZE I H ⟨(List.range I.length).map f,(List.range H).map g,[]⟩
 found:zBW I H e l f g
def XV(I:List zQ)(H:Nat)(x y:MX)(B b gi gh:Nat)(w w':World)(e:Ending):Prop:=∃r,e=.returned (.bool r)/\Below B w w'/\(r=false->¬zBY I H x.1 y.1)/\(r=true->∃(f:Nat->Int) (g:Nat->Bool),(w'.cell? ⟨b,12,none⟩=some (.slice (some ⟨gi,0,none⟩) I.length I.length)/\w'.cell? ⟨b,13,none⟩=some (.slice (some ⟨gh,0,none⟩) H H)/\w'.cell? ⟨b,14,none⟩=some (.slice none 0 0))/\vY w' gi 3 I.length (fun i=>.int .i64 (f i))/\vY w' gh 4 H (fun c=>.bool (g c))/\Uv I H x.1 y.1 f g/\qJ x.1 ⟨(List.range I.length).map f,(List.range H).map g,[]⟩=true/\qJ y.1 ⟨(List.range I.length).map f,(List.range H).map g,[]⟩=true)
theorem zI0(F:Nat->List (Int × Int))(L:List NE)(p:Nat)(hp:p<L.length)(r:Nat)(hr:r<5):(aT F L)[p*5+r]? = (zGC F (L.getD p sX))[r]? := zN (zGC F) 5 (fun _=>rfl) sX L p r hp hr
theorem zHP(w wr:World)(b:Nat)(I:List zQ)(H:Nat)(x y:MX)(gi gh:Nat)(nv sv:Value)(L:List NE)(hN:zJI w wr I.length H gi gh (jW I x.1 y.1) nv sv L (uU I x.1 y.1 I.length++uH x.1 y.1 H) (mK I I.length) (mL x.1 y.1 H))(hL:L.map NE.place=xS I x.1 y.1)(hb:wr.heap[b]? = some (.cells (UN x y nv sv (.slice (some ⟨gi,0,none⟩) I.length I.length) (.slice (some ⟨gh,0,none⟩) H H)) 170 (0,0)))(hlb:w.heap.size<=b)(hI:rQ I)(fH:H<=10000)(hx:uL w x)(hy:uL w y)(ox:XX I H x.1)(oy:XX I H y.1) :
 Calls Tryz.prog 67 #[.pointer (some ⟨b,0,none⟩),.int .i64 0] wr fun e w'=>XV I H x y w.heap.size b gi gh wr w' e:=by
 obtain⟨na,nc,rfl⟩:=zP hN.nums;obtain⟨sa,sc,rfl,hsw⟩:=vR hN.sws;have hzf:=CE I x.1 y.1 hx.few2 hy.few2
 obtain⟨gn,hgn1,hgn2⟩:∃gn,(0<L.length->na=some ⟨gn,0,none⟩/\vY wr gn 223 (5*L.length) (fun j=>(aT (jW I x.1 y.1) L).getD j (.slice none 0 0)))/\(0<L.length->w.heap.size<=gn):=by
  rcases hN.nums.2 with ⟨_,k2⟩|⟨g,cap,yK,k1,k2,k3,k4,k5,k6,k7⟩
  ·exact⟨0,fun h=>absurd h (by omega),fun h=>absurd h (by omega)⟩
  ·simp only[cr]at k1
   refine⟨g,fun _=>⟨k1.1,yK,k3,fun j hj=>?_⟩,fun _=>by omega⟩;have hl:(aT (jW I x.1 y.1) L).length=L.length*5:=hN.nums.1;have hj2:j<(aT (jW I x.1 y.1) L).length:=by omega
   have:=xO k3 (n:=L.length*5) k7 (pb hj2);rw[zB k3 j]at this;rw[this];simp[List.getD,hj2]
 have ok:=zK0 (b:=b) (na:=na) (gn:=gn) (nc:=nc) (sa:=sa) (sc:=sc) (gi:=gi) (gh:=gh) hL hI fH hzf hlb hN.loi hN.loh hgn2
 have hM:kU wr (dN w b I H x y L na gn nc sa sc gi gh) (vj I H x y):=by
  refine⟨hb,fun h0=>⟨(hgn1 h0).1,?_⟩,hN.rI,hN.rH,hsw,fun p hp=>?_,hx.below hN.bel,hy.below hN.bel⟩
  ·obtain⟨cs,q1,q2⟩:=(hgn1 h0).2
   refine⟨cs,q1,fun j hj=>?_⟩;rw[q2 j hj];have hj5:j/5<L.length:=by have:j<5*L.length:=hj;omega
   have hr:j%5<5:=Nat.mod_lt _ (by decide);have hat:=zI0 (jW I x.1 y.1) L (j/5) hj5 (j%5) hr;rw[show j/5*5+j%5=j by omega]at hat;show some ((aT (jW I x.1 y.1) L).getD j (.slice none 0 0))=_;rw[pd,hat];unfold sN dN vj;rcases(show j%5=0\/j%5=1\/j%5=2\/j%5=3\/j%5=4 by omega) with h|h|h|h|h <;> rw[h] <;> simp[zGC]
  ·have hm:L.getD p sX∈L:=by simp[List.getD,show p<L.length from hp]
   exact hN.zn _ hm
 refine(Qs _ ok L.length 0 wr _ (by show 0+L.length=L.length;omega) (fun p hp=>absurd hp (by omega)) hM).mono ?_;rintro e w' ⟨r,s',rfl,h1,h2,h3⟩;refine⟨r,rfl,h2,fun hr=>?_,fun hr=>?_⟩
 ·subst hr
  refine zD7 hL hI ox.pl oy.pl (fun c hc=>?_) (fun c hc=>?_) h3
  ·unfold uE at hc;rcases(ba _ _).mp hc with h|h
   ·exact ox.nd c h
   ·exact oy.nd c h
  ·rcases(ba _ _).mp hc with h|h
   ·exact ox.ah c h
   ·exact oy.ah c h
 ·subst hr
  obtain⟨k1,k2,k3⟩:=ua hL hI h3
  have eP:(fun p=>(L.getD p sX).place)=fun p=>(xS I x.1 y.1).getD p 0:=funext fun p=>by
   rw[<-hL];by_cases hp:p<L.length
   ·simp[List.getD,hp]
   ·simp[List.getD,hp,sX]
  have hfd:zBW I H x.1 y.1 s'.inp s'.has:=by
   have q:rK (zGO I H x.1 y.1) L.length (fun p=>(L.getD p sX).place) (fun p=>jW I x.1 y.1 ((fun p=>(L.getD p sX).place) p)) (uU I x.1 y.1 I.length++uH x.1 y.1 H) 0 ⟨fun _=>(0,0),fun _=>0,mK I I.length,mL x.1 y.1 H⟩ s' true:=h3;rw[eP,show L.length=(xS I x.1 y.1).length by rw[<-hL,pi]]at q;exact⟨s',q,rfl,rfl⟩
  exact⟨s'.inp,s'.has,⟨h1.cells 12,h1.cells 13,h1.cells 14⟩,h1.rI,h1.rH,⟨k1,hfd⟩,k2,k3⟩
theorem zJI.below{inp:Nat->Int}(k:zJI w wr n h gi gh F nv sv L T inp has)(hb:Below wr.heap.size wr wy):zJI w wy n h gi gh F nv sv L T inp has :=
 ⟨k.bel.trans (hb.mono k.bel.size),iB k.nums hb,fun q hq=>(k.zn q hq).below hb,iB k.sws hb,k.rI.below hb,k.rH.below hb,k.loi,k.loh⟩
theorem ub(w w2:World)(I:List zQ)(H:Nat)(x y:MX)(e:Ending)(hp:Kq I H x y w w2 e)(hI:rQ I)(fH:H<=10000)(hx:uL w x)(hy:uL w y)(ox:XX I H x.1)(oy:XX I H y.1):∃SR gi gh,e=.returned (.agg SR)/\SR.size=15/\(Tryz.prog.info? 170).map (·.size)=some SR.size/\SR.all (·.oneCell')=true/\Below w.heap.size w w2/\∀(b:Nat) (wr:World),Below w2.heap.size w2 wr->w2.heap.size<=b->wr.heap[b]? = some (.cells SR 170 (0,0))->Calls Tryz.prog 67 #[.pointer (some ⟨b,0,none⟩),.int .i64 0] wr fun e w'=>XV I H x y w.heap.size b gi gh wr w' e:=by
 obtain⟨gi,gh,nv,sv,L,rfl,hN,hL⟩:=hp;have hb:=hN.bel;obtain⟨a1,c1,e1,-⟩:=hx.sum;obtain⟨a2,c2,e2,-⟩:=hx.guard;obtain⟨a3,c3,e3,-⟩:=hy.sum;obtain⟨a4,c4,e4,-⟩:=hy.guard;obtain⟨na,nc,e5⟩:=zP hN.nums;obtain⟨sa,sc,e6⟩:=zP hN.sws;refine⟨_,gi,gh,rfl,rfl,vm _ _ _ _ _ _,CU (by rw[e1];rfl) (by rw[e2];rfl) (by rw[e3];rfl) (by rw[e4];rfl) (by rw[e5];rfl) (by rw[e6];rfl) rfl rfl,hb,fun b wr h1 h2 h3=>zHP w wr b I H x y gi gh nv sv L (hN.below h1) hL h3 (by have:=hb.size;omega) hI fH hx hy ox oy⟩
theorem zDS(h:vL ls){x:zE}(hx:x∈ls)(hk:x.kind=3):∀y∈x.nd,vF ls y=true:=by
 obtain⟨i,hi,rfl⟩:=Zh hx;have he:=h.err i hi;unfold mM at he;rw[tb (by omega),tb (by omega),tl hk]at he;unfold lP at he
 have hb:(uR (ls.take i) 3 (lA ls i).name || ((lA ls i).sum.any (fun x => !qL ls x) || (lA ls i).nd.any (fun x => !vF ls x)))=false:=by
  cases hc:(uR (ls.take i) 3 (lA ls i).name || ((lA ls i).sum.any (fun x => !qL ls x) || (lA ls i).nd.any (fun x => !vF ls x))) with
  | false=>rfl
  | true=>rw[hc,tl rfl]at he;exact absurd he (by decide)
 rw[bp,bp]at hb;intro y hy;have:=dy.1 hb.2.2 y hy;simpa using this
theorem zDW{y:zT}(h:vF ls y=true)(k:y.kind=6):uR ls 2 y.name=true:=by unfold vF at h;rwa [tb (by omega),tl k]at h
theorem qi{y:zT}(h:vF ls y=true)(k:y.kind=7):uR ls 1 y.name=true/\(y.other≠[]->uR ls 1 y.other=true):=by
 unfold vF at h;rw[tb (by omega),tb (by omega),tl k,pq,ba,pw]at h;exact⟨h.2,fun ho=>h.1.resolve_left ho⟩
theorem JS(h:vL ls){nm:Bs}{k:Int}(hk:k=1\/k=2)(hh:uR ls k nm=true):∃i:Nat,zH (vX ls) nm=i/\i<(zX ls).length/\xW (zX ls) i=decide (k=1):=by
 obtain⟨z,z1,z2,z3⟩:=zK7 hh;have hz:z∈zu ls:=zKB z1 (by omega);have hm:nm∈vX ls:=by rw[X0];exact p9.2 ⟨z,hz,z3⟩
 have h0:=(gK _ _).2 hm;have h1:=jP (vX ls) nm;obtain⟨i,hi⟩:∃i:Nat,zH (vX ls) nm=i:=⟨(zH (vX ls) nm).toNat,by omega⟩;have zKZ:i<(zX ls).length:=by rw[<-zHZ];omega
 have hat:=((Jg nm (vX ls) (Xv h) 0 i).1 (by rw[cx];exact hi)).2;obtain⟨x,x1,-,x3,x4⟩:=Xy zKZ;have e:x=z:=zIH h x1 hz (by rw[<-x4,hat,z3]);refine⟨i,hi,zKZ,?_⟩;unfold xW;rw[x3,e,aV (JQ hz),z2]
theorem zI1{N:List zT}(hg:dK N){y:zT}(hy:y∈N)(hk:y.kind=7):0<=y.num/\y.num<=9999:=by
 obtain⟨a,ha,rfl⟩:=cq hy;have e:pM N a=N[a]:=by unfold pM;simp[List.getD,ha]
 have:=(hg a ha).2.2.2 (by rw[e];omega) (by rw[e];omega) (by rw[e];omega);rw[e]at this;exact this.2
theorem zHS(h:vL ls){x:zE}(hx:x∈ls)(hk:x.kind=3)(hg:gO x):XX (zX ls) (zO ls).length (qG (vX ls) (zO ls) x):=by
 have hN:=zDS h hx hk;have mem:∀y∈(qG (vX ls) (zO ls) x).guard,∃z∈x.nd,pY (vX ls) (zO ls) z=y:=fun y hy=>p9.1 hy;refine⟨⟨fun y hy hyk=>?_,fun y hy hyk=>?_,fun y hy hyk ht=>?_⟩,fun c hc=>?_,fun c hc=>?_,fun i z hz=>?_⟩
 ·obtain⟨z,hz,rfl⟩:=mem y hy
  have hzk:z.kind=6:=hyk;obtain⟨i,h1,h2,h3⟩:=JS h (.inr rfl) (zDW (hN z hz) hzk);refine⟨i,h2,?_,h3⟩;show U5 (vX ls) (zO ls) z=_;unfold U5;rw[tb (by omega),tl (.inl hzk),h1]
 ·obtain⟨z,hz,rfl⟩:=mem y hy
  have hzk:z.kind=7:=hyk;obtain⟨i,h1,h2,h3⟩:=JS h (.inl rfl) (qi (hN z hz) hzk).1;refine⟨i,h2,?_,h3⟩;show U5 (vX ls) (zO ls) z=_;unfold U5;rw[tb (by omega),tl (.inr hzk),h1]
 ·obtain⟨z,hz,rfl⟩:=mem y hy
  have hzk:z.kind=7:=hyk;have ho:z.other≠[]:=ce ht;obtain⟨i,h1,h2,h3⟩:=JS h (.inl rfl) ((qi (hN z hz) hzk).2 ho);refine⟨i,h2,?_,h3⟩;show zGD (vX ls) z=_;unfold zGD;rw[tb ho,h1]
 ·obtain⟨p,hp,e⟩:=me.1 hc
  rw[pq,pw,pw]at e;obtain⟨q,hq,rfl⟩:=p9.1 hp;have e1:JD (vX ls) q=3:=e.1;have e2:zr (vX ls) (zO ls) q=(c:Int):=e.2;unfold JD at e1;unfold zr at e2;by_cases hq0:q.name=[]
  ·rw[tl hq0]at e1;exact absurd e1 (by decide)
  ·rw[tb hq0]at e1 e2
   by_cases hq1:zH (vX ls) q.name<0
   ·rw[tl hq1]at e2
    have:=jP (zO ls) q.name;omega
   ·rw[tb hq1]at e1;exact absurd e1 (by decide)
 ·obtain⟨y,hy,e⟩:=me.1 hc
  rw[pq,pw,pw]at e;obtain⟨z,hz,rfl⟩:=mem y hy;have e1:z.kind=5:=e.1;have e2:U5 (vX ls) (zO ls) z=(c:Int):=e.2;unfold U5 at e2;rw[tl e1]at e2;have:=jP (zO ls) z.name;omega
 ·obtain⟨y,hy,rfl⟩:=p9.1 hz
  obtain⟨h1,h2⟩:=mj.1 hy;rw[pq,pw]at h2;obtain⟨v,hv,rfl⟩:=mem y h1;have:=zI1 hg.nodes hv h2.1;show -1000000<=v.num/\v.num<=1000000;omega
theorem zEJ(h:vL ls)(hg:∀x∈ls,gO x):rQ (zX ls):=by
 refine⟨fun i hi hn=>?_,fun i hi hn=>?_,by have:=V7 h;omega⟩
 ·obtain⟨x,x1,x2,x3,-⟩:=Xy hi
  have hk:x.kind=1:=by unfold xW at hn;rw[x3,aV (JQ x1)]at hn;exact ce hn
  have hp:=hg x x2;have:=kw h x2 hk;have e1:=hp.lo0;have e2:=hp.hi1;rw[x3];unfold mB;rw[tl hk];exact⟨e1,this,e2⟩
 ·obtain⟨x,x1,x2,x3,-⟩:=Xy hi
  have hk:¬x.kind=1:=by unfold xW at hn;rw[x3,aV (JQ x1)]at hn;exact of_decide_eq_false hn
  rw[x3];unfold mB;rw[tb hk]
theorem zEO:(Tryz.prog.info? 95).map (fun i=>(i.zero,i.size,i.bytes))=some (some (.agg #[.string ⟨#[]⟩,.int .i64 0]),2,24):=by kernel_rfl
def pE(I:List zQ)(f:Nat->Int)(i:Nat):List Value:=(List.range i).flatMap fun j=>[.string ⟨(kT I j).name.toArray⟩,.int .i64 (f j)]
def bM(C:List (Bs × Nat))(g:Nat->Bool)(c:Nat):List Value:=(List.range c).flatMap fun j=>[.string ⟨(C.getD j ([],0)).1.toArray⟩,.int .i64 (if g j=true then 1 else 0)]
theorem UV(I:List zQ)(f:Nat->Int)(i:Nat):pE I f (i+1)=pE I f i++[.string ⟨(kT I i).name.toArray⟩,.int .i64 (f i)]:=by unfold pE;rw[lq,lu];simp
theorem UX(C:List (Bs × Nat))(g:Nat->Bool)(c:Nat):bM C g (c+1)=bM C g c++[.string ⟨(C.getD c ([],0)).1.toArray⟩,.int .i64 (if g c=true then 1 else 0)]:=by unfold bM;rw[lq,lu];simp
theorem kq{a:Option Addr}{C:List (Bs × Nat)}(h:tZ w a (Zj C)){i:Nat}(hi:i<C.length):∃g,a=some ⟨g,0,none⟩/\w.cell? ⟨g,i*2,none⟩=some (.string ⟨(C.getD i ([],0)).1.toArray⟩)/\w.cell? ⟨g,i*2+1,none⟩=some (.int .i64 ((C.getD i ([],0)).2:Nat)):=by
 obtain⟨g,e,q1⟩:=h.at ((zN (fun x:Bs × Nat=>[Value.string ⟨x.1.toArray⟩,.int .i64 (x.2:Nat)]) 2 (fun _=>rfl) ([],0) C i 0 hi (by decide)).trans rfl);obtain⟨g',e',q2⟩:=h.at ((zN (fun x:Bs × Nat=>[Value.string ⟨x.1.toArray⟩,.int .i64 (x.2:Nat)]) 2 (fun _=>rfl) ([],0) C i 1 hi (by decide)).trans rfl);obtain rfl:g=g':=by rw[e]at e';simpa using e'
 exact⟨g,e,q1,q2⟩
theorem KK(w:World)(b o:Nat)(I:List zQ)(C:List (Bs × Nat))(rs:List MX)(G:List Bool)(gi gh:Nat)(f:Nat->Int)(gg:Nat->Bool)(h:Qw w b o I C rs G)(hI:vY w gi 3 I.length (fun i=>.int .i64 (f i)))(hH:vY w gh 4 C.length (fun c=>.bool (gg c))) :
 Calls Tryz.prog 68 #[.pointer (some ⟨b,o,none⟩),.agg #[.slice (some ⟨gi,0,none⟩) I.length I.length,.slice (some ⟨gh,0,none⟩) C.length C.length,.slice none 0 0]] w fun e w'=>∃v,e=.returned v/\w'.ownsRow w.heap.size 95 2 v (I.length+C.length) (pE I f I.length++bM C gg C.length)/\Below w.heap.size w w':=by
 obtain⟨i0,hi0,hz0,hz1,hz2⟩:=info_parts zEO;obtain⟨ia,ic,c0,hia⟩:=h.inp;obtain⟨ca,cc,c1,hca⟩:=h.con;have fI:=h.few1;have fC:=h.few2;have zLS:=zA (fun w' (hb:Below w.heap.size w w') i (hi:i<I.length)=>QS (hia.below hb).cel hi);have HCo:=zA (fun w' (hb:Below w.heap.size w w') i (hi:i<C.length)=>kq (hca.below hb).cel hi);have HMd:Hid (∀w',Below w.heap.size w w'->w'.cell? ⟨b,o,none⟩=some (.slice ia I.length ic)/\w'.cell? ⟨b,o+1,none⟩=some (.slice ca C.length cc)):=fun w' hb=>⟨(hb.cell (p:=⟨b,o,none⟩) (yQ c0)).trans c0,(hb.cell (p:=⟨b,o+1,none⟩) (yQ c1)).trans c1⟩;have HRI:Hid (∀w',Below w.heap.size w w'->∀i,i<I.length->w'.cell? ⟨gi,i,none⟩=some (.int .i64 (f i))):=fun w' hb i hi=>(hI.below hb).cell hi;have HRH:Hid (∀w',Below w.heap.size w w'->∀i,i<C.length->w'.cell? ⟨gh,i,none⟩=some (.bool (gg i))):=fun w' hb i hi=>(hH.below hb).cell hi;have lb:=yQ c0;clear h hia hca hI hH c0 c1
 go_enter Tryz.func68,Tryz.ntmps68
 go_upto_region 2 with fail
 have HB0:Hid (Below w.heap.size w ((w.alloc (.cells #[.slice (some ⟨gi,0,none⟩) I.length I.length,.slice (some ⟨gh,0,none⟩) C.length C.length,.slice none 0 0] 168)).alloc (.cells #[] 95))):=(gb (j1 _) _).alloc (by simp) _;have HX0:Hid (((w.alloc (.cells #[.slice (some ⟨gi,0,none⟩) I.length I.length,.slice (some ⟨gh,0,none⟩) C.length C.length,.slice none 0 0] 168)).alloc (.cells #[] 95)).heap[w.heap.size]? = some (.cells #[.slice (some ⟨gi,0,none⟩) I.length I.length,.slice (some ⟨gh,0,none⟩) C.length C.length,.slice none 0 0] 168 (0,0))):=zS (zG _ _);have HO0:Hid (((w.alloc (.cells #[.slice (some ⟨gi,0,none⟩) I.length I.length,.slice (some ⟨gh,0,none⟩) C.length C.length,.slice none 0 0] 168)).alloc (.cells #[] 95)).ownsRow (w.heap.size+1) 95 2 (.slice (some ⟨w.heap.size+1,0,none⟩) 0 0) 0 (pE I f 0)):=⟨rfl,.inr ⟨w.heap.size+1,0,#[],rfl,j1 _,yS _ _ _ (by simp),j1 _,p7 _,rfl,rfl⟩⟩;have hs0:w.heap.size+1<=((w.alloc (.cells #[.slice (some ⟨gi,0,none⟩) I.length I.length,.slice (some ⟨gh,0,none⟩) C.length C.length,.slice none 0 0] 168)).alloc (.cells #[] 95)).heap.size:=by simp
 generalize (w.alloc (.cells #[.slice (some ⟨gi,0,none⟩) I.length I.length,.slice (some ⟨gh,0,none⟩) C.length C.length,.slice none 0 0] 168)).alloc (.cells #[] 95)=w0 at *;generalize Value.slice (some ⟨w.heap.size+1,0,none⟩) 0 0=v0 at *;have HG:Hid (∀wr,Below (w.heap.size+1) w0 wr->Below w.heap.size w wr/\wr.heap[w.heap.size]? = some (.cells #[.slice (some ⟨gi,0,none⟩) I.length I.length,.slice (some ⟨gh,0,none⟩) C.length C.length,.slice none 0 0] 168 (0,0))):=fun wr hb=>⟨HB0.out.trans (hb.mono (mw _)),(hb.block _ (l8 _)).trans HX0.out⟩;obtain⟨d0,d1⟩:=HMd.out w0 HB0.out;clear HB0 HX0;go_wp2_with fail
 go_loopw [5,17] (fun ov iv wr=>∃(i:Nat),i<=I.length/\iv=.int .i64 i/\Hid (Below (w.heap.size+1) w0 wr)/\Hid (wr.ownsRow (w.heap.size+1) 95 2 ov i (pE I f i))) (fun _ iv _=>I.length-(intOf iv).toNat)
 case atStart=>exact⟨0,p7 _,rfl,zA (tg _ _),HO0⟩
 case round =>
  obtain⟨i,hi,rfl,HB,HO⟩:=hrel;have zLD:=HB.out.size;obtain⟨hBw,hX⟩:=HG.out wr HB.out;by_cases zKZ:i<I.length
  ·have ii:(i:Int)<(I.length:Int):=by omega
   obtain⟨g,rfl,n0,n1,n2,n3⟩:=zLS.out wr hBw i zKZ;have ci:=HRI.out wr hBw i zKZ;have x0:wr.cell? ⟨w.heap.size,0,none⟩=some (.slice (some ⟨gi,0,none⟩) I.length I.length):=zB hX 0;have lg:=yQ n0;have lgi:=yQ ci;have lx:=yQ x0;have m1:wr.heap.size≠g:=by omega
   have m2:wr.heap.size≠gi:=by omega
   have m3:wr.heap.size≠w.heap.size:=by omega
   obtain⟨oa,oc,rfl⟩:=zP HO.out;have HVs:=zA (UV I f i);have HO1:Hid (∀ob,(wr.alloc ob).ownsRow (w.heap.size+1) 95 2 (.slice oa i oc) i (pE I f i)):=fun ob=>HO.out.alloc ob;have HB1:Hid (∀ob,Below (w.heap.size+1) w0 (wr.alloc ob)):=fun ob=>HB.out.alloc (by omega) ob;clear hX hBw;generalize kT I i=xi at *;obtain⟨xn,xf,xl,xh⟩:=xi;simp only at n0 n1 n2 n3 HVs;generalize f i=fv at *
   go_upto_region 5 with fail
   have c5a:(wr.alloc (.cells #[.string ⟨xn.toArray⟩,.bool xf,.int .i64 xl,.int .i64 xh] 204)).cell? ⟨wr.heap.size,0,none⟩=some (.string ⟨xn.toArray⟩):=zB (zG _ _) 0;have c5b:(wr.alloc (.cells #[.string ⟨xn.toArray⟩,.bool xf,.int .i64 xl,.int .i64 xh] 204)).cell? ⟨w.heap.size,0,none⟩=some (.slice (some ⟨gi,0,none⟩) I.length I.length):=(((tg wr.heap.size wr).alloc (j1 _) _).cell (p:=⟨w.heap.size,0,none⟩) lx).trans x0;have c5c:(wr.alloc (.cells #[.string ⟨xn.toArray⟩,.bool xf,.int .i64 xl,.int .i64 xh] 204)).cell? ⟨gi,i,none⟩=some (.int .i64 fv):=(((tg wr.heap.size wr).alloc (j1 _) _).cell (p:=⟨gi,i,none⟩) lgi).trans ci;have HO5:=zA (HO1.out (.cells #[.string ⟨xn.toArray⟩,.bool xf,.int .i64 xl,.int .i64 xh] 204));have HB5:=zA (HB1.out (.cells #[.string ⟨xn.toArray⟩,.bool xf,.int .i64 xl,.int .i64 xh] 204));have hs5:w.heap.size+1<=(wr.alloc (.cells #[.string ⟨xn.toArray⟩,.bool xf,.int .i64 xl,.int .i64 xh] 204)).heap.size:=by simp;omega
   clear n0 n1 n2 n3 x0 ci HO1 HB1;generalize wr.alloc (.cells #[.string ⟨xn.toArray⟩,.bool xf,.int .i64 xl,.int .i64 xh] 204)=w5 at *;go_wp2_with fail
   go_region_law ((refine step_append_lies _ (by rfl) _ _ _ (by rfl) (w.heap.size+1) 95 i0 _ 2 24 Tryz.underlying71 hi0 hz0 hz1 hz2 rfl (by decide) (.slice oa i oc) i (pE I f i) (by rfl) (HO5.out.drew.alloc _) ⟨w5.heap.size,0,none⟩ 1 1 [.string ⟨xn.toArray⟩,.int .i64 fv] (by rfl) (by rfl) (zM _ _ _ _ rfl) (by simp[Value.oneCell']) (by decide) (by unfold maxLen;omega) (by omega) (by simp;omega) (w5.heap.size+1) (by simp) ?_;intro g2 cap w6 zL5 zL2 hat hlt5))
   all_goals
    have HB6:Hid (Below (w.heap.size+1) w0 w6):=(HB5.out.drew.alloc hs5 _).grown zL2 (by show w.heap.size+1<=(w5.drew.alloc _).heap.size;simp;omega) (zU HO5.out);have HO6:Hid (w6.ownsRow (w.heap.size+1) 95 2 (.slice (some ⟨g2,0,none⟩) (i+1) cap) (i+1) (pE I f (i+1))):=by unfold Hid;rw[HVs.out];exact zL5
    clear zL2 zL5 hat hlt5;go_wp2_with fail
    go_roundw
    case rel=>exact⟨i+1,by omega,by go_num,HB6,HO6⟩
    case measure=>simp[intOf];omega
  ·obtain rfl:i=I.length:=by omega
   have ii:¬(I.length:Int)<(I.length:Int):=by omega
   obtain⟨k0,k1⟩:=HMd.out wr hBw
   have HO1:Hid (∀ov,wr.ownsRow (w.heap.size+1) 95 2 ov I.length (pE I f I.length)->wr.ownsRow (w.heap.size+1) 95 2 ov (I.length+0) (pE I f I.length++bM C gg 0)):=fun ov h=>by
    have e:pE I f I.length++bM C gg 0=pE I f I.length:=mt _;rw[e];exact h
   have HO2:=zA (HO1.out _ HO.out);clear HO1 HO hX hBw d0 d1;generalize hSI:pE I f I.length=SI at *;have HSI:=zA hSI;clear hSI;generalize hwr:wr=wq at *;clear hwr;go_wp2_with fail
   go_loopw [5,39] (fun ov iv wr=>∃(c:Nat),c<=C.length/\iv=.int .i64 c/\Hid (Below (w.heap.size+1) w0 wr)/\Hid (wr.ownsRow (w.heap.size+1) 95 2 ov (I.length+c) (SI++bM C gg c))) (fun _ iv _=>C.length-(intOf iv).toNat)
   case atStart=>exact⟨0,p7 _,rfl,HB,HO2⟩
   case round =>
    obtain⟨c,hc,rfl,HBc,HOc⟩:=hrel;have hszc:=HBc.out.size;obtain⟨hBw,hX⟩:=HG.out wr HBc.out;obtain⟨oa,oc,rfl⟩:=zP HOc.out;by_cases hltc:c<C.length
    ·have jj:(c:Int)<(C.length:Int):=by omega
     obtain⟨g,rfl,n0,n1⟩:=HCo.out wr hBw c hltc;have ch:=HRH.out wr hBw c hltc;have x1:wr.cell? ⟨w.heap.size,1,none⟩=some (.slice (some ⟨gh,0,none⟩) C.length C.length):=zB hX 1;have lg:=yQ n0;have lgh:=yQ ch;have lx:=yQ x1;have m1:wr.heap.size≠g:=by omega
     have m2:wr.heap.size≠gh:=by omega
     have m3:wr.heap.size≠w.heap.size:=by omega
     have HVs:=zA (UX C gg c);have HO1:Hid (∀ob,(wr.alloc ob).ownsRow (w.heap.size+1) 95 2 (.slice oa (I.length+c) oc) (I.length+c) (SI++bM C gg c)):=fun ob=>HOc.out.alloc ob;have HB1:Hid (∀ob,Below (w.heap.size+1) w0 (wr.alloc ob)):=fun ob=>HBc.out.alloc (by omega) ob;clear hX hBw;generalize (C.getD c ([],0)).1=cn at *;generalize (C.getD c ([],0)).2=cl at *;generalize gg c=gv at *;cases gv
     ·rw[tb (by simp)]at HVs
      go_upto_region 13 with fail
      have c5a:(wr.alloc (.cells #[.string ⟨cn.toArray⟩,.int .i64 (cl:Nat)] 208)).cell? ⟨wr.heap.size,0,none⟩=some (.string ⟨cn.toArray⟩):=zB (zG _ _) 0;have HO5:=zA (HO1.out (.cells #[.string ⟨cn.toArray⟩,.int .i64 (cl:Nat)] 208));have HB5:=zA (HB1.out (.cells #[.string ⟨cn.toArray⟩,.int .i64 (cl:Nat)] 208));have hs5:w.heap.size+1<=(wr.alloc (.cells #[.string ⟨cn.toArray⟩,.int .i64 (cl:Nat)] 208)).heap.size:=by simp;omega
      clear n0 n1 x1 ch HO1 HB1;generalize wr.alloc (.cells #[.string ⟨cn.toArray⟩,.int .i64 (cl:Nat)] 208)=w5 at *
      go_wp2_with (at_builtin;refine wpList_append_own _ rfl _ _ 71 rfl (w.heap.size+1) 95 i0 _ 2 24 Tryz.underlying71 hi0 hz0 hz1 hz2 rfl (by decide) _ _ _ rfl (HO5.out.alloc _) ⟨w5.heap.size,0,none⟩ 1 1 [.string ⟨cn.toArray⟩,.int .i64 0] rfl rfl ?c1k1 ?c1k2 ?c1k3 ?c1k4 ?c1k5 ?_)
      try (case c1k1=>first|exact zM _ _ _ _ rfl|exact fun _ _ h=>h)
      try (case c1k2=>first|exact⟨rfl,rfl⟩|(intro u hu;simp at hu;rcases hu with rfl|rfl <;> rfl))
      try (case c1k3=>unfold maxLen;omega)
      try (case c1k4=>omega)
      try (case c1k5=>first|omega|(simp;omega))
      intro v6 w6 zL0 zKY _;have HB6:Hid (Below (w.heap.size+1) w0 w6):=(HB5.out.alloc hs5 _).grown zKY (by simp;omega) (zU HO5.out);have HO6:Hid (w6.ownsRow (w.heap.size+1) 95 2 v6 (I.length+(c+1)) (SI++bM C gg (c+1))):=by unfold Hid;rw[HVs.out,<-dc];first|exact zL0|(rw[<-pt];exact zL0)
      clear zL0 zKY;go_wp2_with fail
      go_roundw
      case rel=>exact⟨c+1,by omega,by go_num,HB6,HO6⟩
      case measure=>simp[intOf];omega
     ·rw[tl rfl]at HVs
      go_upto_region 13 with fail
      have c5a:(wr.alloc (.cells #[.string ⟨cn.toArray⟩,.int .i64 (cl:Nat)] 208)).cell? ⟨wr.heap.size,0,none⟩=some (.string ⟨cn.toArray⟩):=zB (zG _ _) 0;have HO5:=zA (HO1.out (.cells #[.string ⟨cn.toArray⟩,.int .i64 (cl:Nat)] 208));have HB5:=zA (HB1.out (.cells #[.string ⟨cn.toArray⟩,.int .i64 (cl:Nat)] 208));have hs5:w.heap.size+1<=(wr.alloc (.cells #[.string ⟨cn.toArray⟩,.int .i64 (cl:Nat)] 208)).heap.size:=by simp;omega
      clear n0 n1 x1 ch HO1 HB1;generalize wr.alloc (.cells #[.string ⟨cn.toArray⟩,.int .i64 (cl:Nat)] 208)=w5 at *
      go_wp2_with (at_builtin;refine wpList_append_own _ rfl _ _ 71 rfl (w.heap.size+1) 95 i0 _ 2 24 Tryz.underlying71 hi0 hz0 hz1 hz2 rfl (by decide) _ _ _ rfl (HO5.out.alloc _) ⟨w5.heap.size,0,none⟩ 1 1 [.string ⟨cn.toArray⟩,.int .i64 1] rfl rfl ?c2k1 ?c2k2 ?c2k3 ?c2k4 ?c2k5 ?_)
      try (case c2k1=>first|exact zM _ _ _ _ rfl|exact fun _ _ h=>h)
      try (case c2k2=>first|exact⟨rfl,rfl⟩|(intro u hu;simp at hu;rcases hu with rfl|rfl <;> rfl))
      try (case c2k3=>unfold maxLen;omega)
      try (case c2k4=>omega)
      try (case c2k5=>first|omega|(simp;omega))
      intro v6 w6 zL0 zKY _;have HB6:Hid (Below (w.heap.size+1) w0 w6):=(HB5.out.alloc hs5 _).grown zKY (by simp;omega) (zU HO5.out);have HO6:Hid (w6.ownsRow (w.heap.size+1) 95 2 v6 (I.length+(c+1)) (SI++bM C gg (c+1))):=by unfold Hid;rw[HVs.out,<-dc];first|exact zL0|(rw[<-pt];exact zL0)
      clear zL0 zKY;go_wp2_with fail
      go_roundw
      case rel=>exact⟨c+1,by omega,by go_num,HB6,HO6⟩
      case measure=>simp[intOf];omega
    ·obtain rfl:c=C.length:=by omega
     have jj:¬(C.length:Int)<(C.length:Int):=by omega
     have HFn:=zA (yT HOc.out (mw w.heap.size));have HBf:=zA hBw;clear HOc hX hBw;go_wp2_with fail
     go_ret
     exact⟨_,rfl,by rw[HSI.out];exact HFn.out,HBf.out⟩
def KD(I:List zQ)(H:Nat)(f:Nat->Int)(g:Nat->Bool):yX:=⟨(List.range I.length).map f,(List.range H).map g,[]⟩
def Qc(I:List zQ)(C:List (Bs × Nat))(rs:List MX)(G:List Bool)(w w':World)(e:Ending):Prop:=Below w.heap.size w w'/\((∃(i j:Nat) (f:Nat->Int) (g:Nat->Bool) (la:Option Addr) (sv:Value),CD (U0 I C.length rs G) i j/\e=.returned (.agg #[.slice la 2 2,sv])/\tZ w' la [.string ⟨(kP rs i).1.label.toArray⟩,.string ⟨(kP rs j).1.label.toArray⟩]/\(∃sa sc,sv=.slice sa (I.length+C.length) sc/\rR w.heap.size w' 95 sa (pE I f I.length++bM C g C.length))/\Uv I C.length (kP rs i).1 (kP rs j).1 f g/\qJ (kP rs i).1 (KD I C.length f g)=true/\qJ (kP rs j).1 (KD I C.length f g)=true)\/((∀i j,¬U0 I C.length rs G i j)/\e=.returned (.agg #[.slice none 0 0,.slice none 0 0])))
theorem JP(a b:Value):(Tryz.prog.info? 132).map (·.size)=some (#[a,b]:Array Value).size:=by
 show _=some 2
 kernel_rfl
theorem J4{a b c:Value}(h:w.heap[p]? = some (.cells #[a,b] t (0,0))):((w.setCell ⟨p,0,none⟩ c).setCell ⟨p,1,none⟩ d).heap[p]? = some (.cells #[c,d] t (0,0)):=by
 have q1:=tr w _ 0 _ _ c h;have q2:=tr _ _ 1 _ _ d q1;rw[q2];simp
theorem zFH{a b c:Value}{a':Option Addr}(h:w.heap[p]? = some (.cells #[a,b] t (0,0)))(hc:yZ w t' a' xs)(zL4:t'≠t):yZ ((w.setCell ⟨p,0,none⟩ c).setCell ⟨p,1,none⟩ d) t' a' xs:=(hc.set h zL4).set (tr w _ 0 _ _ c h) zL4
theorem Ud{a b c:Value}{a':Option Addr}(h:w.heap[p]? = some (.cells #[a,b] t (0,0)))(hc:rR B w t' a' xs)(zL4:t'≠t):rR B ((w.setCell ⟨p,0,none⟩ c).setCell ⟨p,1,none⟩ d) t' a' xs:=(hc.set h zL4).set (tr w _ 0 _ _ c h) zL4
theorem Dw{x y:Value}(h:w.heap[g]? = some (.cells #[x,y] t (0,0))):yZ w t (some ⟨g,0,none⟩) [x,y]:=.inr ⟨g,_,_,rfl,h,fun j hj=>match j,hj with
 | 0,_=>rfl
 | 1,_=>rfl
 | j+2,hj=>absurd hj (by simp)⟩
theorem zBX(w:World)(b o:Nat)(I:List zQ)(C:List (Bs × Nat))(rs:List MX)(G:List Bool)(h:Qw w b o I C rs G)(hI:rQ I)(hr:∀x∈rs,XX I C.length x.1) :
 Calls Tryz.prog 51 #[.pointer (some ⟨b,o,none⟩)] w fun e w'=>Qc I C rs G w w' e:=by
 have hf:=h.few3;have hfC:=h.few2;have hfI:=h.few1;have HMd:=zA (fun w' (hb:Below w.heap.size w w')=>(h.below hb));have HRl:=zA (fun w' (hb:Below w.heap.size w w')=>(h.below hb).rul);have HRv:=zA (fun w' (hb:Below w.heap.size w w') (i j:Nat) (hi:i<rs.length) (hj:j<rs.length)=>Um w' b o I C rs G i j (h.below hb) hi hj)
 have HNw:Hid (∀w' (_:Below w.heap.size w w') (i j:Nat) (_:i<rs.length) (_:j<rs.length),Calls Tryz.prog 66 #[.pointer (some ⟨b,o,none⟩),uC (kP rs i),uC (kP rs j)] w' fun e w2=>∃SR gi gh,e=.returned (.agg SR)/\SR.size=15/\(Tryz.prog.info? 170).map (·.size)=some SR.size/\SR.all (·.oneCell')=true/\Below w'.heap.size w' w2/\∀(b:Nat) (wr:World),Below w2.heap.size w2 wr->w2.heap.size<=b->wr.heap[b]? = some (.cells SR 170 (0,0))->Calls Tryz.prog 67 #[.pointer (some ⟨b,0,none⟩),.int .i64 0] wr fun e w3=>XV I C.length (kP rs i) (kP rs j) w'.heap.size b gi gh wr w3 e):=fun w' hb i j hi hj=>by
  have hm:=h.below hb;obtain⟨a1,c1,p1,q1⟩:=hm.inp;obtain⟨a2,c2,p2,q2⟩:=hm.con;have hx:=hm.rows _ (sD hi);have hy:=hm.rows _ (sD hj);have ox:=hr _ (sD hi);have oy:=hr _ (sD hj);refine(Vj w' b o I C.length (kP rs i) (kP rs j) a1 a2 c1 c2 p1 p2 q1 hx hy (by omega) hfC (fun k z hz=>?_) (CE I _ _ hx.few2 hy.few2)).mono ?_
  ·rcases List.mem_append.mp hz with h|h
   ·exact ox.bd k z h
   ·exact oy.bd k z h
  ·intro e w2 hp
   exact ub w' w2 I C.length (kP rs i) (kP rs j) e hp hI hfC hx hy ox oy
 have HSe:=zA (fun w' (hb:Below w.heap.size w w') (gi gh:Nat) (f:Nat->Int) (g:Nat->Bool) (h1:vY w' gi 3 I.length (fun i=>.int .i64 (f i))) (h2:vY w' gh 4 C.length (fun c=>.bool (g c)))=>KK w' b o I C rs G gi gh f g (h.below hb) h1 h2)
 have HSl:Hid (∀i,i<rs.length->(∃a c,(kP rs i).2.1=.slice a (kP rs i).1.sum.length c)/\∃a c,(kP rs i).2.2=.slice a (kP rs i).1.guard.length c):=fun i hi=>by
  obtain⟨a,c,e,-⟩:=(h.rows _ (sD hi)).sum;obtain⟨a',c',e',-⟩:=(h.rows _ (sD hi)).guard;exact⟨⟨a,c,e⟩,a',c',e'⟩
 have HCl:Hid (∀i k,U0 I C.length rs G i k ↔ (i<k/\k<rs.length/\KV rs G i k=true/\zBY I C.length (kP rs i).1 (kP rs k).1)):=fun _ _=>Iff.rfl;have HFp:Hid (∀w' e,Below w.heap.size w w'->((∃(i j:Nat) (f:Nat->Int) (g:Nat->Bool) (la:Option Addr) (sv:Value),CD (U0 I C.length rs G) i j/\e=.returned (.agg #[.slice la 2 2,sv])/\tZ w' la [.string ⟨(kP rs i).1.label.toArray⟩,.string ⟨(kP rs j).1.label.toArray⟩]/\(∃sa sc,sv=.slice sa (I.length+C.length) sc/\rR w.heap.size w' 95 sa (pE I f I.length++bM C g C.length))/\Uv I C.length (kP rs i).1 (kP rs j).1 f g/\qJ (kP rs i).1 (KD I C.length f g)=true/\qJ (kP rs j).1 (KD I C.length f g)=true)\/((∀i j,¬U0 I C.length rs G i j)/\e=.returned (.agg #[.slice none 0 0,.slice none 0 0])))->Qc I C rs G w w' e):=fun w' e h1 h2=>⟨h1,h2⟩;clear h hI hr HMd;generalize U0 I C.length rs G=R at *;generalize Qc I C rs G w=Q at *
 go_enter Tryz.func51,Tryz.ntmps51
 obtain⟨ra,rc,d2,-⟩:=HRl.out w (tg _ _);have lb:=yQ d2;have m0:w.heap.size≠b:=by omega
 have HB0:Hid (Below w.heap.size w (w.alloc (.cells #[.slice none 0 0,.slice none 0 0] 132))):=gb (j1 _) _;have HX0:Hid ((w.alloc (.cells #[.slice none 0 0,.slice none 0 0] 132)).heap[w.heap.size]? = some (.cells #[.slice none 0 0,.slice none 0 0] 132 (0,0))):=zG _ _;have hs0:(w.alloc (.cells #[.slice none 0 0,.slice none 0 0] 132)).heap.size=w.heap.size+1:=by simp
 go_wp2_with fail
 generalize w.alloc (.cells #[.slice none 0 0,.slice none 0 0] 132)=w0 at *;have HG:Hid (∀wr,Below (w.heap.size+1) w0 wr->Below w.heap.size w wr/\wr.heap[w.heap.size]? = some (.cells #[.slice none 0 0,.slice none 0 0] 132 (0,0))):=fun wr hb=>⟨HB0.out.trans (hb.mono (mw _)),(hb.block _ (l8 _)).trans HX0.out⟩;clear HB0 HX0
 go_loopw [13] (fun iv wr=>∃(i:Nat),i<=rs.length/\iv=.int .i64 i/\Hid (Below (w.heap.size+1) w0 wr)/\Hid (∀i' k',R i' k'->i<=i')) (fun iv _=>rs.length-(intOf iv).toNat)
 case atStart=>exact⟨0,p7 _,rfl,zA (tg _ _),zA fun _ _ _=>p7 _⟩
 case round =>
  obtain⟨i,hi,rfl,HB,HM⟩:=hrel;have zLD:=HB.out.size;obtain⟨hBw,hX⟩:=HG.out wr HB.out;obtain⟨ra',rc',d2',zLP⟩:=HRl.out wr hBw
  obtain⟨e1,e2⟩:ra'=ra/\rc'=rc:=by
   have:=(hBw.cell (p:=⟨b,o+2,none⟩) lb).trans d2;rw[this]at d2';simp only[ld,cr]at d2';exact⟨d2'.1.symm,d2'.2.2.symm⟩
  subst e1 e2;by_cases zKZ:i<rs.length
  ·have ii:(i:Int)<(rs.length:Int):=by omega
   have HM1:Hid (∀i' k',R i' k'->i<i'\/(i=i'/\0<=k')):=fun i' k' h=>by
    have:=HM.out i' k' h;omega
   obtain⟨g,rfl,i0,i1,i2,i3,i4⟩:=iF zLP.cel zKZ;obtain⟨⟨p1,p2,e1⟩,p3,p4,e2⟩:=HSl.out i zKZ;rw[e1]at i2;rw[e2]at i3;have lg:=yQ i0;have lbr:b<wr.heap.size:=by have:=hBw.size;omega
   have m1:wr.heap.size≠g:=by omega
   have m2:wr.heap.size≠b:=by omega
   have HEq:Hid (uC (kP rs i)=.agg #[.string ⟨(kP rs i).1.label.toArray⟩,.int .i64 (kP rs i).1.conc,.slice p1 (kP rs i).1.sum.length p2,.slice p3 (kP rs i).1.guard.length p4,.int .i64 (kP rs i).1.root]):=by
    show uC (kP rs i)=_;unfold uC;rw[e1,e2]
   have HLi:Hid (∃l,l=(kP rs i).1.label):=⟨_,rfl⟩;clear hX hBw zLP e1 e2;generalize hxl:(kP rs i).1.label=xl at *;generalize (kP rs i).1.conc=xc at *;generalize (kP rs i).1.sum.length=xn at *;generalize (kP rs i).1.guard.length=xm at *;generalize (kP rs i).1.root=xr at *;have HBe:=zA (HB.out.alloc (show w.heap.size+1<=wr.heap.size by omega) (.cells #[.string ⟨xl.toArray⟩,.int .i64 xc,.slice p1 xn p2,.slice p3 xm p4,.int .i64 xr] 162));have HXe:Hid ((wr.alloc (.cells #[.string ⟨xl.toArray⟩,.int .i64 xc,.slice p1 xn p2,.slice p3 xm p4,.int .i64 xr] 162)).heap[wr.heap.size]? = some (.cells #[.string ⟨xl.toArray⟩,.int .i64 xc,.slice p1 xn p2,.slice p3 xm p4,.int .i64 xr] 162 (0,0))):=zG _ _;have hse:(wr.alloc (.cells #[.string ⟨xl.toArray⟩,.int .i64 xc,.slice p1 xn p2,.slice p3 xm p4,.int .i64 xr] 162)).heap.size=wr.heap.size+1:=by simp
   go_wp2_with fail
   generalize wr.alloc (.cells #[.string ⟨xl.toArray⟩,.int .i64 xc,.slice p1 xn p2,.slice p3 xm p4,.int .i64 xr] 162)=wE at *;clear i0 i1 i2 i3 i4 d2' m1 m2;have hsw:w.heap.size+1<=wr.heap.size:=by omega
   generalize wr.heap.size=eb at *;have HGe:Hid (∀wx,Below (eb+1) wE wx->Below (w.heap.size+1) w0 wx/\wx.heap[eb]? = some (.cells #[.string ⟨xl.toArray⟩,.int .i64 xc,.slice p1 xn p2,.slice p3 xm p4,.int .i64 xr] 162 (0,0))):=fun wx hb=>⟨HBe.out.trans (hb.mono (by omega)),(hb.block _ (l8 _)).trans HXe.out⟩;clear HBe HXe
   go_loopw [23] (fun kv wy=>∃(k:Nat),k<=rs.length/\kv=.int .i64 k/\Hid (Below (eb+1) wE wy)/\Hid (∀i' k',R i' k'->i<i'\/(i=i'/\k<=k'))) (fun kv _=>rs.length-(intOf kv).toNat)
   case atStart=>exact⟨0,p7 _,rfl,zA (tg _ _),HM1⟩
   case round =>
    obtain⟨k,hk,rfl,HBy,HMk⟩:=hrel;have hszy:=HBy.out.size;by_cases hltk:k<rs.length
    ·have kk:(k:Int)<(rs.length:Int):=by omega
     obtain⟨hB0,hE⟩:=HGe.out wr HBy.out;obtain⟨hBw,hX⟩:=HG.out wr hB0;obtain⟨ra2,rc2,d3,zLP⟩:=HRl.out wr hBw
     obtain⟨e1,e2⟩:ra2=some ⟨g,0,none⟩/\rc2=rc':=by
      have:=(hBw.cell (p:=⟨b,o+2,none⟩) lb).trans d2;rw[this]at d3;simp only[ld,cr]at d3;exact⟨d3.1.symm,d3.2.2.symm⟩
     subst e1 e2;obtain⟨g',e',k0,k1,k2,k3,k4⟩:=iF zLP.cel hltk;obtain rfl:g=g':=by simpa using e'
     obtain⟨⟨q1,q2,e1⟩,q3,q4,e2⟩:=HSl.out k hltk;rw[e1]at k2;rw[e2]at k3;have lg2:=yQ k0;have m1:wr.heap.size≠g:=by omega
     have HKq:Hid (uC (kP rs k)=.agg #[.string ⟨(kP rs k).1.label.toArray⟩,.int .i64 (kP rs k).1.conc,.slice q1 (kP rs k).1.sum.length q2,.slice q3 (kP rs k).1.guard.length q4,.int .i64 (kP rs k).1.root]):=by
      show uC (kP rs k)=_;unfold uC;rw[e1,e2]
     have HCk:=zA (HCl.out i k)
     have HNx:Hid (¬R i k->∀i' k',R i' k'->i<i'\/(i=i'/\k+1<=k')):=fun hn i' k' h=>by
      have h1:=HMk.out i' k' h;rcases h1 with h1|⟨h1,h2⟩
      ·exact .inl h1
      ·by_cases hkk:k=k'
       ·subst h1 hkk;exact absurd h hn
       ·exact .inr ⟨h1,by omega⟩
     have HYs:Hid (R i k->∀w' (la:Option Addr) (sv:Value) (f:Nat->Int) (gg:Nat->Bool),Below w.heap.size w w'->tZ w' la [.string ⟨xl.toArray⟩,.string ⟨(kP rs k).1.label.toArray⟩]->(∃sa sc,sv=.slice sa (I.length+C.length) sc/\rR w.heap.size w' 95 sa (pE I f I.length++bM C gg C.length))->Uv I C.length (kP rs i).1 (kP rs k).1 f gg->qJ (kP rs i).1 (KD I C.length f gg)=true->qJ (kP rs k).1 (KD I C.length f gg)=true->Q w' (.returned (.agg #[.slice la 2 2,sv]))):=fun h w' la sv f gg hb h1 h2 h3 h4 h5=>HFp.out w' _ hb (.inl ⟨i,k,f,gg,la,sv,⟨h,HMk.out⟩,rfl,by rw[hxl];exact h1,h2,h3,h4,h5⟩);have HRk:=zA (fun w' hb=>HRv.out w' hb i k zKZ hltk);have HNk:=zA (fun w' hb=>HNw.out w' hb i k zKZ hltk);rw[HEq.out,HKq.out]at HNk;clear zLP e' e1 e2 hE hX hB0 hBw HKq;generalize (kP rs k).1.label=yl at *;generalize (kP rs k).1.conc=yc at *;generalize (kP rs k).1.sum.length=yn at *;generalize (kP rs k).1.guard.length=ym at *;generalize (kP rs k).1.root=yr at *;generalize KV rs G i k=rv at *;have HBl:=zA (HBy.out.alloc (show eb+1<=wr.heap.size by omega) (.cells #[.string ⟨yl.toArray⟩,.int .i64 yc,.slice q1 yn q2,.slice q3 ym q4,.int .i64 yr] 162));have HXl:Hid ((wr.alloc (.cells #[.string ⟨yl.toArray⟩,.int .i64 yc,.slice q1 yn q2,.slice q3 ym q4,.int .i64 yr] 162)).heap[wr.heap.size]? = some (.cells #[.string ⟨yl.toArray⟩,.int .i64 yc,.slice q1 yn q2,.slice q3 ym q4,.int .i64 yr] 162 (0,0))):=zG _ _;have hsl:(wr.alloc (.cells #[.string ⟨yl.toArray⟩,.int .i64 yc,.slice q1 yn q2,.slice q3 ym q4,.int .i64 yr] 162)).heap.size=wr.heap.size+1:=by simp
     go_upto_region 7 with fail
     generalize wr.alloc (.cells #[.string ⟨yl.toArray⟩,.int .i64 yc,.slice q1 yn q2,.slice q3 ym q4,.int .i64 yr] 162)=wL at *;clear k0 k1 k2 k3 k4 d3 m1;have hse2:eb+1<=wr.heap.size:=by omega
     generalize wr.heap.size=lb2 at *
     have HGl:Hid (∀wx,Below (lb2+1) wL wx->Below (eb+1) wE wx/\Below w.heap.size w wx/\wx.heap[w.heap.size]? = some (.cells #[.slice none 0 0,.slice none 0 0] 132 (0,0))/\wx.heap[eb]? = some (.cells #[.string ⟨xl.toArray⟩,.int .i64 xc,.slice p1 xn p2,.slice p3 xm p4,.int .i64 xr] 162 (0,0))/\wx.heap[lb2]? = some (.cells #[.string ⟨yl.toArray⟩,.int .i64 yc,.slice q1 yn q2,.slice q3 ym q4,.int .i64 yr] 162 (0,0))):=fun wx hb=>by
      have h1:=HBl.out.trans (hb.mono (by omega));obtain⟨h2,h3⟩:=HGe.out wx h1;obtain⟨h4,h5⟩:=HG.out wx h2;exact⟨h1,h4,h5,h3,(hb.block _ (l8 _)).trans HXl.out⟩
     clear HBl HXl;have HB7:=zA (HGl.out wL (tg _ _)).1;by_cases hik:i<k
     ·have gg:¬(k:Int)<=(i:Int):=by omega
      have HRw:=zA (HRk.out wL (HGl.out wL (tg _ _)).2.1);go_wp2_with fail
      refine HRw.out.mono ?_;rintro e w2 ⟨rfl,hb2⟩;have HB2:Hid (Below (lb2+1) wL w2):=by rw[hsl]at hb2;exact hb2
      clear hb2 HRw;cases rv
      ·have HNn:=zA (HNx.out (fun h=>by have:=(HCk.out.1 h).2.2.1;cases this))
       have HBn:=zA (HGl.out w2 HB2.out).1;go_wp2_with fail
       go_roundw
       case rel=>exact⟨k+1,by omega,by go_num,HBn,HNn⟩
       case measure=>simp[intOf];omega
      ·obtain⟨-,hBw2,-,hE2,hL2⟩:=HGl.out w2 HB2.out
       have x0:w2.cell? ⟨eb,0,none⟩=some (.string ⟨xl.toArray⟩):=(zB hE2 0).trans rfl;have x1:w2.cell? ⟨eb,1,none⟩=some (.int .i64 xc):=(zB hE2 1).trans rfl;have x2:w2.cell? ⟨eb,2,none⟩=some (.slice p1 xn p2):=(zB hE2 2).trans rfl;have x3:w2.cell? ⟨eb,3,none⟩=some (.slice p3 xm p4):=(zB hE2 3).trans rfl;have x4:w2.cell? ⟨eb,4,none⟩=some (.int .i64 xr):=(zB hE2 4).trans rfl;have y0:w2.cell? ⟨lb2,0,none⟩=some (.string ⟨yl.toArray⟩):=(zB hL2 0).trans rfl;have y1:w2.cell? ⟨lb2,1,none⟩=some (.int .i64 yc):=(zB hL2 1).trans rfl;have y2:w2.cell? ⟨lb2,2,none⟩=some (.slice q1 yn q2):=(zB hL2 2).trans rfl;have y3:w2.cell? ⟨lb2,3,none⟩=some (.slice q3 ym q4):=(zB hL2 3).trans rfl;have y4:w2.cell? ⟨lb2,4,none⟩=some (.int .i64 yr):=(zB hL2 4).trans rfl;have HNz:=zA (HNk.out w2 hBw2);have hs2:lb2+1<=w2.heap.size:=by have:=HB2.out.size;omega
       clear hBw2 hE2 hL2 HNk HRk HNw HRv;go_wp2_with fail
       refine HNz.out.mono ?_;rintro e w3 ⟨SR,gi,gh,rfl,zL8,hinf,hone,hb3,hsk⟩;have HIf:=zA hinf;have HSz:=zA zL8;have HAl:=zA hone;have HB3:=zA hb3;have HSk:=zA hsk;have hs3:=hb3.size;clear hinf zL8 hone hb3 hsk HNz x0 x1 x2 x3 x4 y0 y1 y2 y3 y4;have HZr:Hid ((w3.alloc (.cells #[.string ⟨#[]⟩,.int .i64 0,.slice none 0 0,.slice none 0 0,.int .i64 0,.string ⟨#[]⟩,.int .i64 0,.slice none 0 0,.slice none 0 0,.int .i64 0,.slice none 0 0,.slice none 0 0,.slice none 0 0,.slice none 0 0,.slice none 0 0] 170)).heap[w3.heap.size]? = some (.cells CF 170 (0,0))):=zG _ _;have HBs:Hid (Below w3.heap.size w3 ((w3.alloc (.cells CF 170)).setRow w3.heap.size SR)):=xI (gb (j1 _) _) (j1 _) _;have HXs:Hid (((w3.alloc (.cells CF 170)).setRow w3.heap.size SR).heap[w3.heap.size]? = some (.cells SR 170 (0,0))):=cg _ _ CF _ _ _ (zG w3 _);unfold CF at HBs HXs
       go_wp2_with (refine wpList_store_row ?zLA 170 (.tmp 7) (.tmp 41) ?ho w3.heap.size SR ?hx ?hy 170 CF HZr.out HIf.out ?zLB HAl.out ?_
                    case ho=>rfl
                    case zLA=>rfl
                    case hx=>rfl
                    case hy=>rfl
                    case zLB=>rw[HSz.out];rfl)
       generalize (w3.alloc (.cells #[.string ⟨#[]⟩,.int .i64 0,.slice none 0 0,.slice none 0 0,.int .i64 0,.string ⟨#[]⟩,.int .i64 0,.slice none 0 0,.slice none 0 0,.int .i64 0,.slice none 0 0,.slice none 0 0,.slice none 0 0,.slice none 0 0,.slice none 0 0] 170)).setRow w3.heap.size SR=wS at *;refine(HSk.out w3.heap.size wS HBs.out (j1 _) HXs.out).mono ?_;rintro e w4 ⟨r,rfl,hb4,hno,hyes⟩;have HB4:Hid (Below (lb2+1) wL w4):=(HB2.out.trans ((HB3.out.trans (HBs.out.mono hs3)).mono hs2)).trans (hb4.mono hs2);clear HIf HSz HAl HSk HZr HBs HXs hb4;cases r
       ·have HNn:=zA (HNx.out (fun h=>hno rfl (HCk.out.1 h).2.2.2))
        have HBn:=zA (HGl.out w4 HB4.out).1;clear hno hyes;go_wp2_with fail
        go_roundw
        case rel=>exact⟨k+1,by omega,by go_num,HBn,HNn⟩
        case measure=>simp[intOf];omega
       ·obtain⟨f,gg,⟨s12,s13,s14⟩,hrI,hrH,hroom,ha1,ha2⟩:=hyes rfl
        have hRik:R i k:=HCk.out.2 ⟨hik,hltk,by first|trivial|rfl,_,hroom.room,ha1,ha2⟩;obtain⟨-,hBw4,hX4,hE4,hL4⟩:=HGl.out w4 HB4.out;have hsw4:=hBw4.size;have HPo:=zA (fun w' la sv hb h1 h2=>HYs.out hRik w' la sv f gg hb h1 h2 hroom ha1 ha2)
        have HSw:Hid (∀w',Below w4.heap.size w4 w'->Calls Tryz.prog 68 #[.pointer (some ⟨b,o,none⟩),.agg #[.slice (some ⟨gi,0,none⟩) I.length I.length,.slice (some ⟨gh,0,none⟩) C.length C.length,.slice none 0 0]] w' fun e w5=>∃sa sc,e=.returned (.slice sa (I.length+C.length) sc)/\rR w.heap.size w5 95 sa (pE I f I.length++bM C gg C.length)/\Below w'.heap.size w' w5):=fun w' hb=>by
         refine(HSe.out w' (hBw4.trans (hb.mono hsw4)) gi gh f gg (hrI.below hb) (hrH.below hb)).mono ?_;rintro e w5 ⟨v,rfl,h1,h2⟩;obtain⟨sa,sc,rfl⟩:=zP h1;exact⟨sa,sc,rfl,zB6 h1 (hBw4.trans (hb.mono hsw4)).size,h2⟩
        have lsb:=yQ s12;have lsb2:lb2<w3.heap.size:=by omega
        have lre:=zJ hX4;have lee:=zJ hE4;have lle:=zJ hL4
        have HAf:Hid (∀w5,Below w4.heap.size w4 w5->(w5.cell? ⟨eb,0,none⟩=some (.string ⟨xl.toArray⟩)/\w5.cell? ⟨lb2,0,none⟩=some (.string ⟨yl.toArray⟩)/\w5.cell? ⟨w3.heap.size,12,none⟩=some (.slice (some ⟨gi,0,none⟩) I.length I.length)/\w5.cell? ⟨w3.heap.size,13,none⟩=some (.slice (some ⟨gh,0,none⟩) C.length C.length)/\w5.cell? ⟨w3.heap.size,14,none⟩=some (.slice none 0 0))/\(w5.cell? ⟨w.heap.size,0,none⟩=some (.slice none 0 0)/\w5.cell? ⟨w.heap.size,1,none⟩=some (.slice none 0 0)/\w5.frozen? ⟨w.heap.size,0,none⟩=false/\w5.frozen? ⟨w.heap.size,1,none⟩=false)/\Below w.heap.size w w5/\w5.heap[w.heap.size]? = some (.cells #[.slice none 0 0,.slice none 0 0] 132 (0,0))/\w.heap.size<w5.heap.size):=fun w5 hb=>by
         have hR5:=(hb.block _ lre).trans hX4;have hE5:=(hb.block _ lee).trans hE4;have hL5:=(hb.block _ lle).trans hL4;exact⟨⟨(zB hE5 0).trans rfl,(zB hL5 0).trans rfl,(hb.cell (p:=⟨w3.heap.size,12,none⟩) lsb).trans s12,(hb.cell (p:=⟨w3.heap.size,13,none⟩) lsb).trans s13,(hb.cell (p:=⟨w3.heap.size,14,none⟩) lsb).trans s14⟩,⟨(zB hR5 0).trans rfl,(zB hR5 1).trans rfl,by simp[World.frozen?,hR5],by simp[World.frozen?,hR5]⟩,hBw4.trans (hb.mono hsw4),hR5,zJ hR5⟩
        obtain⟨⟨t0,t1,t2,t3,t4⟩,⟨t5,t6,t7,t8⟩,-,-,-⟩:=HAf.out w4 (tg _ _);clear hroom ha1 ha2 hrI hrH s12 s13 s14 hX4 hE4 hL4 hBw4 hno hyes HYs HCk HSe;generalize pE I f I.length++bM C gg C.length=SV at *;generalize w3.heap.size=sb at *;have n1:w4.heap.size≠eb:=by omega
        have n2:w4.heap.size≠lb2:=by omega
        have n3:w4.heap.size≠sb:=by omega
        have n4:w4.heap.size≠w.heap.size:=by omega
        have a1:w.heap.size≠eb:=by omega
        have a2:w.heap.size≠lb2:=by omega
        have a3:w.heap.size≠sb:=by omega
        have a4:eb≠w.heap.size:=by omega
        have a5:lb2≠w.heap.size:=by omega
        have a6:sb≠w.heap.size:=by omega
        go_upto_region 10 with fail
        go_region_held3 (fun w'=>w'.cell? ⟨eb,0,none⟩=some (.string ⟨xl.toArray⟩)/\w'.cell? ⟨lb2,0,none⟩=some (.string ⟨yl.toArray⟩)/\w'.cell? ⟨sb,12,none⟩=some (.slice (some ⟨gi,0,none⟩) I.length I.length)/\w'.cell? ⟨sb,13,none⟩=some (.slice (some ⟨gh,0,none⟩) C.length C.length)/\w'.cell? ⟨sb,14,none⟩=some (.slice none 0 0)) (go_keep) (
         (go_at_call 68;first
          | (refine(HSw.out _ (pj (tg _ _))).mono ?_;rintro e w5 ⟨sa,sc,rfl,hcv,hb5⟩;obtain⟨⟨r0,r1,r2,r3,r4⟩,⟨z0,z1,z2,z3⟩,hB5,hR5,hl5⟩:=HAf.out w5 ((pj (tg _ _)).trans hb5);have hs45:w4.heap.size<=w5.heap.size:=((pj (tg w4.heap.size w4)).trans hb5).size;have n5:w5.heap.size≠eb:=(by omega);have n6:w5.heap.size≠w.heap.size:=(by omega);have n7:w5.heap.size≠lb2:=(by omega);have n8:w5.heap.size≠sb:=(by omega))
          | (refine(HSw.out _ ((tg w4.heap.size w4).drew.alloc (j1 _) _)).mono ?_;rintro e w5 ⟨sa,sc,rfl,hcv,hb5⟩;obtain⟨⟨r0,r1,r2,r3,r4⟩,⟨z0,z1,z2,z3⟩,hB5,hR5,hl5⟩:=HAf.out w5 (((tg w4.heap.size w4).drew.alloc (j1 _) _).trans (hb5.mono (by simp))))))
        ·have hlab:w5.heap[w4.heap.size]? = some (.cells #[.string ⟨xl.toArray⟩,.string ⟨yl.toArray⟩] 9 (0,0)):=(hb5.block _ (zV _ _)).trans (zG _ _)
         have HQ:=zA (HPo.out ((w5.setCell ⟨w.heap.size,0,none⟩ (.slice (some ⟨w4.heap.size,0,none⟩) 2 2)).setCell ⟨w.heap.size,1,none⟩ (.slice sa (I.length+C.length) sc)) (some ⟨w4.heap.size,0,none⟩) (.slice sa (I.length+C.length) sc) ((hB5.setCell (by simp) _).setCell (by simp) _) (zFH hR5 (Dw hlab) (by decide)).cel ⟨sa,sc,rfl,Ud hR5 hcv (by decide)⟩);have HFr:=zA (J4 (c:=.slice (some ⟨w4.heap.size,0,none⟩) 2 2) (d:=.slice sa (I.length+C.length) sc) hR5);go_wp2_with fail
         refine pe (v:=.agg #[.slice (some ⟨w4.heap.size,0,none⟩) 2 2,.slice sa (I.length+C.length) sc]) (results_cell_row Tryz.results51 _ _ w.heap.size 132 #[.slice (some ⟨w4.heap.size,0,none⟩) 2 2,.slice sa (I.length+C.length) sc] (0,0) _ rfl HFr.out Tryz.underlying132 rfl (JP _ _)) rfl HQ.out
        ·have hlab:(((w5.setCell ⟨w.heap.size,0,none⟩ (.slice (some ⟨w5.heap.size,0,none⟩) 2 2)).setCell ⟨w.heap.size,1,none⟩ (.slice sa (I.length+C.length) sc)).alloc (.cells #[.string ⟨xl.toArray⟩,.string ⟨yl.toArray⟩] 9)).heap[w5.heap.size]? = some (.cells #[.string ⟨xl.toArray⟩,.string ⟨yl.toArray⟩] 9 (0,0)):=yS _ _ _ (by simp)
         have hbe:Below w.heap.size w ((w5.setCell ⟨w.heap.size,0,none⟩ (.slice (some ⟨w5.heap.size,0,none⟩) 2 2)).setCell ⟨w.heap.size,1,none⟩ (.slice sa (I.length+C.length) sc)):=(hB5.setCell (by simp) _).setCell (by simp) _;have HQ:=zA (HPo.out (((w5.setCell ⟨w.heap.size,0,none⟩ (.slice (some ⟨w5.heap.size,0,none⟩) 2 2)).setCell ⟨w.heap.size,1,none⟩ (.slice sa (I.length+C.length) sc)).alloc (.cells #[.string ⟨xl.toArray⟩,.string ⟨yl.toArray⟩] 9)) (some ⟨w5.heap.size,0,none⟩) (.slice sa (I.length+C.length) sc) (hbe.alloc hbe.size _) (Dw hlab).cel ⟨sa,sc,rfl,(Ud hR5 hcv (by decide)).below (gb (j1 _) _)⟩);have HFr:Hid ((((w5.setCell ⟨w.heap.size,0,none⟩ (.slice (some ⟨w5.heap.size,0,none⟩) 2 2)).setCell ⟨w.heap.size,1,none⟩ (.slice sa (I.length+C.length) sc)).alloc (.cells #[.string ⟨xl.toArray⟩,.string ⟨yl.toArray⟩] 9)).heap[w.heap.size]? = some (.cells #[.slice (some ⟨w5.heap.size,0,none⟩) 2 2,.slice sa (I.length+C.length) sc] 132 (0,0))):=zS (J4 hR5);clear hlab hbe;go_wp2_with fail
         refine pe (v:=.agg #[.slice (some ⟨w5.heap.size,0,none⟩) 2 2,.slice sa (I.length+C.length) sc]) (results_cell_row Tryz.results51 _ _ w.heap.size 132 #[.slice (some ⟨w5.heap.size,0,none⟩) 2 2,.slice sa (I.length+C.length) sc] (0,0) _ rfl HFr.out Tryz.underlying132 rfl (JP _ _)) rfl HQ.out
     ·have gg:(k:Int)<=(i:Int):=by omega
      have HNn:=zA (HNx.out (fun h=>hik (HCk.out.1 h).1));go_wp2_with fail
      go_roundw
      case rel=>exact⟨k+1,by omega,by go_num,HB7,HNn⟩
      case measure=>simp[intOf];omega
    ·obtain rfl:k=rs.length:=by omega
     have kk:¬(rs.length:Int)<(rs.length:Int):=by omega
     have HNo:Hid (∀i' k',R i' k'->i+1<=i'):=fun i' k' h=>by
      have h1:=HMk.out i' k' h;have h2:=((HCl.out i' k').1 h).2.1;omega
     have HBn:=zA (HGe.out _ HBy.out).1;go_wp2_with fail
     go_roundw
     case rel=>exact⟨i+1,by omega,by go_num,HBn,HNo⟩
     case measure=>simp[intOf];omega
  ·obtain rfl:i=rs.length:=by omega
   have ii:¬(rs.length:Int)<(rs.length:Int):=by omega
   have HQ:=zA (HFp.out ((wr.setCell ⟨w.heap.size,0,none⟩ (.slice none 0 0)).setCell ⟨w.heap.size,1,none⟩ (.slice none 0 0)) (.returned (.agg #[.slice none 0 0,.slice none 0 0])) ((hBw.setCell (by simp) _).setCell (by simp) _) (.inr ⟨fun i' k' h=>by
    have h1:=HM.out i' k' h;have h2:=(HCl.out i' k').1 h;omega,rfl⟩))
   have HFr:=zA (J4 (c:=.slice none 0 0) (d:=.slice none 0 0) hX);have z0:wr.cell? ⟨w.heap.size,0,none⟩=some (.slice none 0 0):=(zB hX 0).trans rfl;have z1:wr.cell? ⟨w.heap.size,1,none⟩=some (.slice none 0 0):=(zB hX 1).trans rfl;have y0:wr.frozen? ⟨w.heap.size,0,none⟩=false:=by simp[World.frozen?,hX]
   have y1:wr.frozen? ⟨w.heap.size,1,none⟩=false:=by simp[World.frozen?,hX]
   go_wp2_with fail
   refine pe (v:=.agg #[.slice none 0 0,.slice none 0 0]) (results_cell_row Tryz.results51 _ _ w.heap.size 132 #[.slice none 0 0,.slice none 0 0] (0,0) _ rfl HFr.out Tryz.underlying132 rfl (JP _ _)) rfl HQ.out
theorem Yq{cv rv:Value}(k:Int)(hj:j<3+G.length):(dX iv cv rv G k)[j]? = (dM iv cv rv G)[j]? := by
 unfold dX;rw[fj (by rw[mA];exact hj)]
theorem Qw.made{b:Nat}{cv rv:Value}{C:List (Bs × Nat)}(h:w.heap[b]? = some (U6 iv cv rv G 0))(hG:G.length=64)(hc:bZ w iv cv rv I C rs)(hf:I.length<=100):Qw w b 0 I C rs G:=by
 unfold U6 at h;obtain⟨g0,g1,g2⟩:=JH iv cv rv G;obtain⟨a1,c1,e1,k1⟩:=hc.inp;obtain⟨a2,c2,e2,k2⟩:=hc.con;obtain⟨a3,c3,e3,k3⟩:=hc.rul;refine⟨⟨a1,c1,?_,k1⟩,⟨a2,c2,?_,k2⟩,⟨a3,c3,?_,k3⟩,hc.rows,fun k hk=>?_,hf,hc.few2,hc.few3⟩
 ·rw[<-e1];exact((zB h 0).trans (Yq 0 (by omega))).trans g0
 ·rw[<-e2];exact((zB h 1).trans (Yq 0 (by omega))).trans g1
 ·rw[<-e3];exact((zB h 2).trans (Yq 0 (by omega))).trans g2
 ·rw[cx];exact((zB h (3+k)).trans (Yq 0 (by omega))).trans (Xi iv cv rv G k (by omega))
def X4(F:List zE):List Bool:=yB (uW (vD F) F gZ)
theorem Yw(F:List zE):(X4 F).length=64:=by unfold X4 yB;rw[oD,lT];exact xK
structure DS(F:List zE):Prop where
 few:(zX F).length<=100
 inp:rQ (zX F)
 rul:∀x∈uQ ((zX F).map zQ.name) ((yY F).map Prod.fst) F,XX (zX F) (yY F).length x
def XT(F:List zE)(w w':World)(e:Ending):Prop:=∃rs:List MX,rs.map Prod.fst=uQ ((zX F).map zQ.name) ((yY F).map Prod.fst) F/\Below w.heap.size w w'/\((∃b:Nat,e=.returned (.tuple #[.pointer (some ⟨b,0,none⟩),.int .i64 0])/\bA w' b F rs/\∀i j,¬U0 (zX F) (yY F).length rs (X4 F) i j)\/(e=.returned (.tuple #[.pointer none,.int .i64 8])/\∃i j,U0 (zX F) (yY F).length rs (X4 F) i j))
theorem Qu(l:Bs)(w:World)(F:List zE)(hO:DS F)(hR:Calls Tryz.prog 50 #[.string ⟨l.toArray⟩] w fun e w'=>fO F w w' e) :
 Calls Tryz.prog 27 #[.string ⟨l.toArray⟩,.bool true] w fun e w'=>XT F w w' e:=by
 have HR:=zA hR;clear hR;have HGL:=zA (Yw F);have HRN:Hid (∀w' e,fO F w w' e->∃iv cv rv rs,e=.returned (.agg (dX iv cv rv (X4 F) 0))/\rs.map Prod.fst=uQ ((zX F).map zQ.name) ((yY F).map Prod.fst) F/\bZ w' iv cv rv (zX F) (yY F) rs/\Below w.heap.size w w'):=fun w' e h=>h;have HSI:Hid (∀w' e (rs:List MX),rs.map Prod.fst=uQ ((zX F).map zQ.name) ((yY F).map Prod.fst) F->Below w.heap.size w w'->((∃b:Nat,e=.returned (.tuple #[.pointer (some ⟨b,0,none⟩),.int .i64 0])/\bA w' b F rs/\∀i j,¬U0 (zX F) (yY F).length rs (X4 F) i j)\/(e=.returned (.tuple #[.pointer none,.int .i64 8])/\∃i j,U0 (zX F) (yY F).length rs (X4 F) i j))->XT F w w' e):=fun w' e rs h1 h2 h3=>⟨rs,h1,h2,h3⟩;have HBN:Hid (∀w' b iv cv rv rs,w'.heap[b]? = some (.cells (zB9 iv cv rv (X4 F)) 136 (0,0))->rs.map Prod.fst=uQ ((zX F).map zQ.name) ((yY F).map Prod.fst) F->bZ w' iv cv rv (zX F) (yY F) rs->bA w' b F rs):=fun w' b iv cv rv rs h1 h2 h3=>⟨⟨iv,cv,rv,h1,h3⟩,h2⟩
 have HFd:Hid (∀w' b rs iv cv rv,rs.map Prod.fst=uQ ((zX F).map zQ.name) ((yY F).map Prod.fst) F->w'.heap[b]? = some (U6 iv cv rv (X4 F) 0)->bZ w' iv cv rv (zX F) (yY F) rs->Calls Tryz.prog 51 #[.pointer (some ⟨b,0,none⟩)] w' fun e w2=>Below w'.heap.size w' w2/\((∃la sa sn sc,e=.returned (.agg #[.slice la 2 2,.slice sa sn sc])/\∃i j,U0 (zX F) (yY F).length rs (X4 F) i j)\/(e=.returned (.agg #[.slice none 0 0,.slice none 0 0])/\∀i j,¬U0 (zX F) (yY F).length rs (X4 F) i j))):=fun w' b rs iv cv rv h1 h2 h3=>by
  refine(zBX w' b 0 (zX F) (yY F) rs (X4 F) (Qw.made h2 (Yw F) h3 hO.few) hO.inp (fun x hx=>hO.rul x.1 ?_)).mono ?_
  ·rw[<-h1];exact List.mem_map_of_mem hx
  ·rintro e w2 ⟨hb,⟨i,j,f,g,la,sv,hfp,rfl,-,⟨sa,sc,rfl,-⟩,-,-,-⟩|⟨hn,rfl⟩⟩
   ·exact⟨hb,.inl ⟨la,sa,_,sc,rfl,i,j,hfp.1⟩⟩
   ·exact⟨hb,.inr ⟨rfl,hn⟩⟩
 clear hO;generalize X4 F=G at *;generalize XT F w=Q at *
 go_enter Tryz.func27,Tryz.ntmps27
 go_wp2_with fail
 refine HR.out.mono ?_;rintro e w1 hri;obtain⟨iv,cv,rv,rs,rfl,hrs,hmc,hb⟩:=HRN.out _ _ hri;obtain⟨o1,o2,o3⟩:=hmc.one;have HB:=zA hb;have HMc:=zA hmc;have hs:=hb.size;have HSJ:=zA (fun w' e=>HSI.out w' e rs hrs);have HFe:=zA (fun w' b=>HFd.out w' b rs iv cv rv hrs);have HBe:=zA (fun w' b h1 h2=>HBN.out w' b iv cv rv rs h1 hrs h2);clear hb HR hri hmc hrs HRN HSI HFd HBN;have zLL:Hid ((w1.alloc (.cells Tryz.zeroCells129 129)).heap[w1.heap.size]? = some (.cells Tryz.zeroCells129 129 (0,0))):=zG _ _;have HM:Hid (((w1.alloc (.cells Tryz.zeroCells129 129)).setRow w1.heap.size (dX iv cv rv G 0)).heap[w1.heap.size]? = some (U6 iv cv rv G 0)):=cg _ _ _ _ _ _ zLL.out;have c67:((w1.alloc (.cells Tryz.zeroCells129 129)).setRow w1.heap.size (dX iv cv rv G 0)).cell? ⟨w1.heap.size,67,none⟩=some (.int .i64 0):=by have h8:=HM.out;unfold U6 at h8;exact(zB h8 67).trans (Do HGL.out 0)
 have HBm:Hid (Below w1.heap.size w1 ((w1.alloc (.cells Tryz.zeroCells129 129)).setRow w1.heap.size (dX iv cv rv G 0))):=xI (gb (j1 _) _) (j1 _) _
 go_wp2_with (refine wpList_store_row ?zLA 129 (.tmp 6) (.tmp 9) ?ho w1.heap.size (dX iv cv rv G 0) ?hx ?hy 129 Tryz.zeroCells129 zLL.out (Zg HGL.out _ _ _ _) ?zLB (Yp o1 o2 o3 _ _) ?_
              case ho=>rfl
              case zLA=>rfl
              case hx=>rfl
              case hy=>rfl
              case zLB=>rw[JF,pZ,pZ,xK,HGL.out])
 have HMm:=zA (HMc.out.below HBm.out);have zLJ:Hid (Below w.heap.size w ((w1.alloc (.cells Tryz.zeroCells129 129)).setRow w1.heap.size (dX iv cv rv G 0))):=HB.out.trans (HBm.out.mono hs);clear zLL c67 HBm HMc;generalize (w1.alloc (.cells Tryz.zeroCells129 129)).setRow w1.heap.size (dX iv cv rv G 0)=wM at *;have lm:=zJ HM.out;refine(HFe.out wM w1.heap.size HM.out HMm.out).mono ?_;rintro e w2 ⟨hb2,⟨la,sa,sn,sc,rfl,hex⟩|⟨rfl,hno⟩⟩
 ·have HB2:Hid (Below w.heap.size w w2):=zLJ.out.trans (hb2.mono zLJ.out.size)
  have HEx:=zA hex;have hs2:=HB2.out.size;clear hex hb2 HFe HMm HM;have HQ:=zA (HSJ.out (w2.alloc (.cells #[.slice la 2 2,.slice sa sn sc] 132)) _ (HB2.out.alloc hs2 _) (.inr ⟨rfl,HEx.out⟩));go_wp2_with fail
  exact HQ.out
 ·have HB2:Hid (Below w.heap.size w w2):=zLJ.out.trans (hb2.mono zLJ.out.size)
  have HNo:=zA hno;have hs2:=HB2.out.size;have HM2:Hid (w2.heap[w1.heap.size]? = some (U6 iv cv rv G 0)):=(hb2.block _ lm).trans HM.out;have lm2:=zJ HM2.out
  have HRg:Hid ((w2.alloc (.cells #[.slice none 0 0,.slice none 0 0] 132)).rangeAt w1.heap.size 0 (dM iv cv rv G).toList):=fun j v hv=>by
   have h8:(w2.alloc (.cells #[.slice none 0 0,.slice none 0 0] 132)).heap[w1.heap.size]? = some (U6 iv cv rv G 0):=zS HM2.out;unfold U6 dX at h8;have hj:j<(dM iv cv rv G).size:=by have:=(List.getElem?_eq_some_iff.1 hv).1;simpa using this
   rw[cx];refine(zB h8 j).trans ?_;rw[fj hj];rw[<-hv,du]
  have HMz:=zA (fun (o1 o2:Obj)=>((HMm.out.below hb2).below (gb (j1 _) o1)).below (gb (j1 _) o2));clear hno hb2 HFe HMm HM HM2
  go_wp2_with (first
   | (refine wpList_load_mid ?zLA 127 (.tmp 22) ?ho w1.heap.size 0 ?hx (dM iv cv rv G).toList _ HRg.out Tryz.underlying127 rfl ?hi ?_
      case ho=>rfl
      case zLA=>rfl
      case hx=>rfl
      case hi=>rw[Array.length_toList];exact iG HGL.out _ _ _)
   | (refine wpList_buildTo rfl 136 #[(0,.const (.bool true)),(1,.tmp 23)] rfl (some 24) rfl (zB9 iv cv rv G) (by rw[Array.toList_map];exact zB8 iv cv rv G HGL.out) ?_))
  exact HSJ.out _ _ ((HB2.out.alloc hs2 _).alloc (by simp;omega) _) (.inl ⟨w2.heap.size+1,rfl,HBe.out _ _ (by rw[show w2.heap.size+1=(w2.alloc (.cells #[.slice none 0 0,.slice none 0 0] 132)).heap.size by simp];exact zG _ _) (HMz.out _ _),HNo.out⟩)
theorem iK{F:List zE}(h:vL F):(yY F).map Prod.fst=zO F:=by
 rw[iJ F h.heads h.nam];unfold XG;rw[List.map_map];refine List.ext_getElem (by simp) fun i h1 h2=>?_;simp only[List.getElem_map,List.getElem_range,Function.comp];rw[pd,pb h2];rfl
theorem Xk{F:List zE}(h:vL F):(yY F).length=(zO F).length:=by rw[<-iK h,pi]
theorem VG{i:Nat}(hi:i<8)(hj:j<8):nK G (i:Int) (j:Int)=gA G i j:=by
 unfold nK;rw[tu (show (0:Int)<=(i:Int) by omega),tu (show (i:Int)<8 by omega),tu (show (0:Int)<=(j:Int) by omega),tu (show (j:Int)<8 by omega)];simp
theorem qo(h:vL ls)(hr:rs.map Prod.fst=uQ ((zX ls).map zQ.name) ((yY ls).map Prod.fst) ls):rs.length=(fQ ls).length/\∀i,i<(fQ ls).length->(kP rs i).1=qG (vX ls) (zO ls) ((fQ ls).getD i Ym):=by
 rw[iK h,rX]at hr;have hl:rs.length=(fQ ls).length:=by have:=congrArg List.length hr;simpa using this
 refine⟨hl,fun i hi=>?_⟩;have h1:i<rs.length:=by omega
 have e1:(rs.map Prod.fst).getD i (qG [] [] Ym)=(kP rs i).1:=by simp[kP,List.getD,h1]
 rw[<-e1,hr];exact X5 _ _ _ _ _ hi
theorem zI4(h:vL ls)(hg:∀x∈ls,gO x):DS ls:=by
 refine⟨by have:=V7 h;omega,zEJ h hg,fun r hr=>?_⟩;rw[iK h,rX]at hr;obtain⟨x,hx,rfl⟩:=p9.1 hr;obtain⟨h1,h2⟩:=mj.1 hx;rw[Xk h];exact zHS h h1 (ce h2) (hg x h1)
def Y1(F:List zE)(w w':World)(e:Ending):Prop:=∃rs:List MX,rs.map Prod.fst=uQ ((zX F).map zQ.name) ((yY F).map Prod.fst) F/\Below w.heap.size w w'/\((e=.returned (.tuple #[.slice none 0 0,.slice none 0 0,.int .i64 9])/\∀i j,¬U0 (zX F) (yY F).length rs (X4 F) i j)\/(∃(i j:Nat) (f:Nat->Int) (g:Nat->Bool) (la sa:Option Addr) (sc:Nat),e=.returned (.tuple #[.slice la 2 2,.slice sa ((zX F).length+(yY F).length) sc,.int .i64 0])/\CD (U0 (zX F) (yY F).length rs (X4 F)) i j/\tZ w' la [.string ⟨(kP rs i).1.label.toArray⟩,.string ⟨(kP rs j).1.label.toArray⟩]/\rR w.heap.size w' 95 sa (pE (zX F) f (zX F).length++bM (yY F) g (yY F).length)/\Uv (zX F) (yY F).length (kP rs i).1 (kP rs j).1 f g/\qJ (kP rs i).1 (KD (zX F) (yY F).length f g)=true/\qJ (kP rs j).1 (KD (zX F) (yY F).length f g)=true))
theorem Kj(l:Bs)(w:World)(F:List zE)(hO:DS F)(hR:Calls Tryz.prog 50 #[.string ⟨l.toArray⟩] w fun e w'=>fO F w w' e) :
 Calls Tryz.prog 29 #[.string ⟨l.toArray⟩] w fun e w'=>Y1 F w w' e:=by
 have HR:=zA hR;clear hR;have HGL:=zA (Yw F);have HRN:Hid (∀w' e,fO F w w' e->∃iv cv rv rs,e=.returned (.agg (dX iv cv rv (X4 F) 0))/\rs.map Prod.fst=uQ ((zX F).map zQ.name) ((yY F).map Prod.fst) F/\bZ w' iv cv rv (zX F) (yY F) rs/\Below w.heap.size w w'):=fun w' e h=>h
 have HFd:Hid (∀w' b rs iv cv rv,rs.map Prod.fst=uQ ((zX F).map zQ.name) ((yY F).map Prod.fst) F->w'.heap[b]? = some (U6 iv cv rv (X4 F) 0)->bZ w' iv cv rv (zX F) (yY F) rs->Below w.heap.size w w'->Calls Tryz.prog 51 #[.pointer (some ⟨b,0,none⟩)] w' fun e w2=>((∃la sa sn sc,e=.returned (.agg #[.slice la 2 2,.slice sa sn sc])/\∀w3,Below w2.heap.size w2 w3->Y1 F w w3 (.returned (.tuple #[.slice la 2 2,.slice sa sn sc,.int .i64 0])))\/(e=.returned (.agg #[.slice none 0 0,.slice none 0 0])/\∀w3,Below w2.heap.size w2 w3->Y1 F w w3 (.returned (.tuple #[.slice none 0 0,.slice none 0 0,.int .i64 9]))))):=fun w' b rs iv cv rv h1 h2 h3 h4=>by
  refine(zBX w' b 0 (zX F) (yY F) rs (X4 F) (Qw.made h2 (Yw F) h3 hO.few) hO.inp (fun x hx=>hO.rul x.1 ?_)).mono ?_
  ·rw[<-h1];exact List.mem_map_of_mem hx
  ·rintro e w2 ⟨hb,⟨i,j,f,g,la,sv,hfp,rfl,hl,⟨sa,sc,rfl,hs⟩,hrm,ha1,ha2⟩|⟨hn,rfl⟩⟩
   ·have hb2:=h4.trans (hb.mono h4.size)
    exact .inl ⟨la,sa,_,sc,rfl,fun w3 h3=>⟨rs,h1,hb2.trans (h3.mono hb2.size),.inr ⟨i,j,f,g,la,sa,sc,rfl,hfp,hl.below h3,(hs.mono h4.size).below h3,hrm,ha1,ha2⟩⟩⟩
   ·have hb2:=h4.trans (hb.mono h4.size)
    exact .inr ⟨rfl,fun w3 h3=>⟨rs,h1,hb2.trans (h3.mono hb2.size),.inl ⟨rfl,hn⟩⟩⟩
 clear hO;generalize X4 F=G at *;generalize Y1 F w=Q at *
 go_enter Tryz.func29,Tryz.ntmps29
 go_wp2_with fail
 refine HR.out.mono ?_;rintro e w1 hri;obtain⟨iv,cv,rv,rs,rfl,hrs,hmc,hb⟩:=HRN.out _ _ hri;obtain⟨o1,o2,o3⟩:=hmc.one;have HB:=zA hb;have HMc:=zA hmc;have hs:=hb.size;have HFe:=zA (fun w' b=>HFd.out w' b rs iv cv rv hrs);clear hb HR hri hmc hrs HRN HFd;have zLL:Hid ((w1.alloc (.cells Tryz.zeroCells129 129)).heap[w1.heap.size]? = some (.cells Tryz.zeroCells129 129 (0,0))):=zG _ _;have HM:Hid (((w1.alloc (.cells Tryz.zeroCells129 129)).setRow w1.heap.size (dX iv cv rv G 0)).heap[w1.heap.size]? = some (U6 iv cv rv G 0)):=cg _ _ _ _ _ _ zLL.out;have c67:((w1.alloc (.cells Tryz.zeroCells129 129)).setRow w1.heap.size (dX iv cv rv G 0)).cell? ⟨w1.heap.size,67,none⟩=some (.int .i64 0):=by have h8:=HM.out;unfold U6 at h8;exact(zB h8 67).trans (Do HGL.out 0)
 have HBm:Hid (Below w1.heap.size w1 ((w1.alloc (.cells Tryz.zeroCells129 129)).setRow w1.heap.size (dX iv cv rv G 0))):=xI (gb (j1 _) _) (j1 _) _
 go_wp2_with (refine wpList_store_row ?zLA 129 (.tmp 5) (.tmp 8) ?ho w1.heap.size (dX iv cv rv G 0) ?hx ?hy 129 Tryz.zeroCells129 zLL.out (Zg HGL.out _ _ _ _) ?zLB (Yp o1 o2 o3 _ _) ?_
              case ho=>rfl
              case zLA=>rfl
              case hx=>rfl
              case hy=>rfl
              case zLB=>rw[JF,pZ,pZ,xK,HGL.out])
 have HMm:=zA (HMc.out.below HBm.out);have zLJ:Hid (Below w.heap.size w ((w1.alloc (.cells Tryz.zeroCells129 129)).setRow w1.heap.size (dX iv cv rv G 0))):=HB.out.trans (HBm.out.mono hs);clear zLL c67 HBm HMc;generalize (w1.alloc (.cells Tryz.zeroCells129 129)).setRow w1.heap.size (dX iv cv rv G 0)=wM at *;refine(HFe.out wM w1.heap.size HM.out HMm.out zLJ.out).mono ?_;rintro e w2 (⟨la,sa,sn,sc,rfl,hex⟩|⟨rfl,hno⟩)
 ·have HQ:=zA hex
  clear hex HFe HMm HM;go_wp2_with fail
  go_quiet (fail)
  go_wp2_with fail
  go_ret3
  exact HQ.out _ (xR (gb (j1 _) _) _)
 ·have HQ:=zA (hno _ ((tg w2.heap.size w2).alloc (j1 _) (.cells #[.slice none 0 0,.slice none 0 0] 132)))
  clear hno HFe HMm HM;go_wp2_with fail
  first|exact HQ.out|(go_ret3;exact HQ.out)
end Go.Proofs.YtnbpdffdnphbeabGreatDoor
