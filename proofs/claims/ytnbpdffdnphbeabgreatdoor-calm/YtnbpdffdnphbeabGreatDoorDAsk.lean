import Derived.Test.YtnbpdffdnphbeabGreatDoorDAbove
set_option maxHeartbeats 2000000
set_option maxRecDepth 100000
namespace Go.Proofs.YtnbpdffdnphbeabGreatDoor
open Go.RowKit
variable{b:Int}{ls:List zE}{I:List zP}{i:Nat}{s' s:xA}{r l e:xO}{x:zE}
theorem wY(X:List Int)(h:X≠[]):∃m∈X,∀x∈X,x<=m:=by
 induction X with
 | nil=>exact absurd rfl h
 | cons a r ih =>
   by_cases hr:r=[]
   ·subst hr;exact⟨a,by simp,by simp⟩
   ·obtain⟨m,h1,h2⟩:=ih hr
    by_cases hm:a<=m
    ·exact⟨m,by simp[h1],fun x hx=>by rcases mz.1 hx with rfl|hx;exact hm;exact h2 x hx⟩
    ·exact⟨a,by simp,fun x hx=>by rcases mz.1 hx with rfl|hx;exact l9 _;have:=h2 x hx;omega⟩
theorem zGQ(L:Int->Int):∀(n:Nat) (X:List Int),X.length<=n->(∀x∈X,L x<=x)->∃g:Int->Int,(∀x∈X,L x<=g x/\g x<=x/\∃y∈X,∃j:Nat,j<X.length/\g x=L y+j)/\∀x∈X,∀y∈X,x<y->g x<g y:=by
 intro n
 induction n with
 | zero =>
   intro X h _;obtain rfl:X=[]:=lj (by omega);exact⟨id,by simp,by simp⟩
 | succ n ih =>
   intro X h hL;by_cases h0:X=[]
   ·subst h0;exact⟨id,by simp,by simp⟩
   obtain⟨m,hm,hmax⟩:=wY X h0
   have zKA:(X.filter fun x=>decide (x<m)).length<X.length:=by
    rcases mc (X.filter fun x=>decide (x<m)).length X.length with h1|h1
    ·exact h1
    ·have h2:(X.filter fun x=>decide (x<m)).length=X.length:=Nat.le_antisymm (da _ _) h1
     have:=List.length_filter_eq_length_iff.1 h2 m hm;simp at this
   obtain⟨g,g1,g2⟩:=ih (X.filter fun x=>decide (x<m)) (by omega) (fun x hx=>hL x (mj.1 hx).1);have zKF:∀x∈X,x<m->x∈X.filter fun x=>decide (x<m):=fun x hx zK4=>mj.2 ⟨hx,by simpa using zK4⟩;generalize hX':(X.filter fun x=>decide (x<m))=X' at *;have hsub:∀x∈X',x∈X/\x<m:=fun x hx=>by rw[<-hX']at hx;have:=mj.1 hx;exact⟨this.1,by simpa using this.2⟩
   have hv:∃v,L m<=v/\v<=m/\(∃y∈X,∃j:Nat,j<X.length/\v=L y+j)/\∀x∈X',g x<v:=by
    by_cases h1:X'=[]
    ·exact⟨L m,l9 _,hL m hm,⟨m,hm,0,by omega,by omega⟩,by simp[h1]⟩
    ·obtain⟨M,hM,hM2⟩:=wY (X'.map g) (by simpa using h1)
     obtain⟨z,hz,rfl⟩:=p8.1 hM;obtain⟨z1,z2,y,hy,j,hj,hz3⟩:=g1 z hz;have hz4:=(hsub z hz).2;have hall:∀x∈X',g x<=g z:=fun x hx=>hM2 _ (p8.2 ⟨x,hx,rfl⟩);by_cases h2:g z<L m
     ·exact⟨L m,l9 _,hL m hm,⟨m,hm,0,by omega,by omega⟩,fun x hx=>by have:=hall x hx;omega⟩
     ·exact⟨g z+1,by omega,by omega,⟨y,(hsub y hy).1,j+1,by omega,by omega⟩,fun x hx=>by have:=hall x hx;omega⟩
   obtain⟨v,v1,v2,v3,v4⟩:=hv;refine⟨fun x=>if x<m then g x else v,fun x hx=>?_,fun x hx y hy zK4=>?_⟩
   ·by_cases hxm:x<m
    ·simp only[tm hxm]
     obtain⟨a,b,y,hy,j,hj,e⟩:=g1 x (zKF x hx hxm);exact⟨a,b,y,(hsub y hy).1,j,by omega,e⟩
    ·obtain rfl:x=m:=by have:=hmax x hx;omega
     simp only[tb hxm];exact⟨v1,v2,v3⟩
   ·have h3:=hmax y hy
    by_cases hym:y<m
    ·simp only[tm hym,tm (show x<m by omega)]
     exact g2 x (zKF x hx (by omega)) y (zKF y hy hym) zK4
    ·simp only[tb hym,tm (show x<m by omega)]
     exact v4 x (zKF x hx (by omega))
theorem Vs(B:List Int)(x lo:Int)(hlo:lo∈B)(hx:lo<=x):∃l,l<=x/\lo<=l/\(∃b∈B,l=b\/l=b+1)/\∀c∈B,(c<=x->c<=l)/\(c<x->c<l):=by
 by_cases hB:x∈B
 ·exact⟨x,l9 _,hx,⟨x,hB,.inl rfl⟩,fun c _=>⟨id,id⟩⟩
 ·obtain⟨m,hm,hmax⟩:=wY (B.filter fun b=>decide (b<=x)) (fun h=>by have:lo∈B.filter fun b=>decide (b<=x):=mj.2 ⟨hlo,by simpa using hx⟩;rw[h]at this;simp at this)
  have h1:=mj.1 hm;have h2:m<=x:=by simpa using h1.2
  have h3:m≠x:=fun e=>hB (e ▸ h1.1);have h4:∀c∈B,c<=x->c<=m:=fun c hc hcx=>hmax c (mj.2 ⟨hc,by simpa using hcx⟩);exact⟨m+1,by omega,by have:=h4 lo hlo hx;omega,⟨m,h1.1,.inr rfl⟩,fun c hc=>⟨fun h=>by have:=h4 c hc h;omega,fun h=>by have:=h4 c hc (by omega);omega⟩⟩
theorem moved(B X:List Int)(hlo:∀x∈X,∃lo∈B,lo<=x):∃g:Int->Int,(∀x∈X,g x<=x/\(∃b∈B,∃j:Nat,j<=X.length/\g x=b+j)/\(∀c∈B,(c<=x->c<=g x)/\(x<c ↔ g x<c)/\(x=c ↔ g x=c)))/\∀x∈X,∀y∈X,(x<y ↔ g x<g y)/\(x=y ↔ g x=g y):=by
 have hL:∀x,∃l,x∈X->l<=x/\(∃b∈B,l=b\/l=b+1)/\∀c∈B,(c<=x->c<=l)/\(c<x->c<l):=fun x=>by
  rcases Classical.em (x∈X) with hx|hx
  ·obtain⟨lo,h1,h2⟩:=hlo x hx
   obtain⟨l,a1,_,a3,a4⟩:=Vs B x lo h1 h2;exact⟨l,fun _=>⟨a1,a3,a4⟩⟩
  ·exact⟨0,fun h=>absurd h hx⟩
 have hf:∃L:Int->Int,∀x,x∈X->L x<=x/\(∃b∈B,L x=b\/L x=b+1)/\∀c∈B,(c<=x->c<=L x)/\(c<x->c<L x):=⟨fun x=>Classical.choose (hL x),fun x=>Classical.choose_spec (hL x)⟩;obtain⟨L,hLs⟩:=hf;obtain⟨g,g1,g2⟩:=zGQ L X.length X (j1 _) (fun x hx=>(hLs x hx).1);refine⟨g,fun x hx=>?_,fun x hx y hy=>?_⟩
 ·obtain⟨a1,a2,y,hy,j,hj,a3⟩:=g1 x hx
  refine⟨a2,?_,fun c hc=>?_⟩
  ·obtain⟨b,hb,hb2⟩:=(hLs y hy).2.1
   rcases hb2 with e|e
   ·exact⟨b,hb,j,by omega,by omega⟩
   ·exact⟨b,hb,j+1,by omega,by omega⟩
  ·obtain⟨c1,c2⟩:=(hLs x hx).2.2 c hc
   refine⟨fun h=>by have:=c1 h;omega,⟨fun h=>by omega,fun h=>?_⟩,⟨fun h=>?_,fun h=>?_⟩⟩
   ·rcases cp x c with h1|h1
    ·exact h1
    ·have:=c1 h1;omega
   ·have:=c1 (by omega);omega
   ·rcases cp c x with h1|h1
    ·have:=c2 h1;omega
    ·omega
 ·have p1:=g2 x hx y hy
  have p2:=g2 y hy x hx;constructor
  ·constructor
   ·exact p1
   ·intro h
    rcases cp x y with h1|h1
    ·exact h1
    ·rcases cp y x with h2|h2
     ·have:=p2 h2;omega
     ·have:x=y:=by omega
      subst this;omega
  ·constructor
   ·intro h;rw[h]
   ·intro h
    rcases cp x y with h1|h1
    ·have:=p1 h1;omega
    ·rcases cp y x with h2|h2
     ·have:=p2 h2;omega
     ·omega
def qW(z:Int × Int)(b:Int):List (Int × Int) :=
 if b<z.1\/z.2<b then [z] else ((if z.1<b then [(z.1,b-1)] else [])++[(b,b)])++(if b<z.2 then [(b+1,z.2)] else [])
def xY(zs:List (Int × Int))(b:Int):List (Int × Int):=zs.flatMap fun z=>qW z b
def xN(zs:List (Int × Int))(bs:List Int):List (Int × Int):=bs.foldl xY zs
def gF(lo hi:Int)(b1 b2:List Int):List (Int × Int):=xN (xN [(lo,hi)] b1) b2
def zAS(z:Int × Int)(b:Int):Prop:=z.2<b\/(z.1=b/\z.2=b)\/b<z.1
theorem gJ{z x:Int × Int}(h:x∈qW z b):z.1<=x.1/\x.2<=z.2/\zAS x b:=by
 unfold qW at h;unfold zAS;by_cases h1:b<z.1\/z.2<b
 ·rw[tm h1]at h;simp at h;subst h;omega
 ·rw[tb h1]at h
  simp only[pu,pw]at h;rcases h with (h|h)|h
  ·by_cases h2:z.1<b
   ·rw[tm h2]at h;simp at h;subst h;simp;omega
   ·rw[tb h2]at h;simp at h
  ·subst h;simp;omega
  ·by_cases h2:b<z.2
   ·rw[tm h2]at h;simp at h;subst h;simp;omega
   ·rw[tb h2]at h;simp at h
theorem Jt{z:Int × Int}{y:Int}(h:z.1<=y/\y<=z.2):∃x∈qW z b,x.1<=y/\y<=x.2:=by
 unfold qW;by_cases h1:b<z.1\/z.2<b
 ·rw[tm h1];exact⟨z,by simp,h⟩
 ·rw[tb h1]
  rcases Int.lt_trichotomy y b with h2|h2|h2
  ·exact⟨(z.1,b-1),by simp[show z.1<b by omega],by simp;omega⟩
  ·exact⟨(b,b),by simp,by simp;omega⟩
  ·exact⟨(b+1,z.2),by simp[show b<z.2 by omega],by simp;omega⟩
structure zFX(lo hi:Int)(bs:List Int)(zs:List (Int × Int)):Prop where
 sub:∀z∈zs,lo<=z.1/\z.2<=hi
 cover:∀y,lo<=y->y<=hi->∃z∈zs,z.1<=y/\y<=z.2
 side:∀z∈zs,∀b∈bs,∀y,z.1<=y->y<=z.2->∀x,z.1<=x->x<=z.2->(x<b ↔ y<b)/\(x=b ↔ y=b)
theorem zFX.split{lo hi:Int}{bs:List Int}{zs:List (Int × Int)}(h:zFX lo hi bs zs)(b:Int):zFX lo hi (bs++[b]) (xY zs b):=by
 refine⟨fun z hz=>?_,fun y h1 h2=>?_,fun z hz c hc y h1 h2 x h3 h4=>?_⟩
 ·obtain⟨z0,hz0,hz1⟩:=bh.1 hz
  have:=h.sub z0 hz0;have:=gJ hz1;omega
 ·obtain⟨z,hz,hy⟩:=h.cover y h1 h2
  obtain⟨x,hx,hxy⟩:=Jt (b:=b) hy;exact⟨x,bh.2 ⟨z,hz,hx⟩,hxy⟩
 ·obtain⟨z0,hz0,hz1⟩:=bh.1 hz
  have hs:=gJ hz1;rcases pu.1 hc with hc|hc
  ·exact h.side z0 hz0 c hc y (by omega) (by omega) x (by omega) (by omega)
  ·simp at hc;subst hc
   have:=hs.2.2;unfold zAS at this;omega
theorem zFX.splits{lo hi:Int}(b2:List Int):∀ {bs:List Int} {zs:List (Int × Int)},zFX lo hi bs zs->zFX lo hi (bs++b2) (xN zs b2):=by
 induction b2 with
 | nil=>intro bs zs h;simpa[xN] using h
 | cons b r ih =>
   intro bs zs h;have:=ih (h.split b);rw[pr]at this;exact this
theorem Yr(lo hi:Int)(b1 b2:List Int):zFX lo hi (b1++b2) (gF lo hi b1 b2):=by
 have h0:zFX lo hi [] [(lo,hi)]:=⟨fun z hz=>by simp at hz;subst hz;simp,fun y h1 h2=>⟨(lo,hi),by simp,h1,h2⟩,fun z _ b hb=>by simp at hb⟩;have:=(h0.splits b1).splits b2;unfold gF;simpa using this
theorem BY{α:Type}(p q:α->Bool)(h:∀x,¬(p x=true/\q x=true))(l:List α):(l.filter p).length+(l.filter q).length<=l.length:=by
 induction l with
 | nil=>simp
 | cons x r ih =>
   have hx:=h x;cases hp:p x <;> cases hq:q x <;> simp[hp,hq]at hx ⊢ <;> omega
theorem DV(l:List Int):∃T:List Int,T.Pairwise (· < ·)/\(∀x,x∈T ↔ x∈l)/\T.length<=l.length:=by
 induction l with
 | nil=>exact⟨[],List.Pairwise.nil,fun x=>Iff.rfl,j1 _⟩
 | cons a r ih =>
   obtain⟨T,h1,h2,h3⟩:=ih;refine⟨T.filter (fun x=>decide (x<a))++a::T.filter (fun x=>decide (a<x)),?_,fun x=>?_,?_⟩
   ·rw[List.pairwise_append,List.pairwise_cons]
    refine⟨h1.filter _,⟨fun x hx=>by simpa using (mj.1 hx).2,h1.filter _⟩,fun x hx y hy=>?_⟩;have hx2:x<a:=by simpa using (mj.1 hx).2
    rcases mz.1 hy with rfl|hy
    ·exact hx2
    ·have:a<y:=by simpa using (mj.1 hy).2
     omega
   ·simp only[pu,mz,mj,pt,h2]
    constructor
    ·rintro(h|h|h)
     ·exact .inr h.1
     ·exact .inl h
     ·exact .inr h.1
    ·rintro(h|h)
     ·exact .inr (.inl h)
     ·rcases Int.lt_trichotomy x a with h4|h4|h4
      ·exact .inl ⟨h,h4⟩
      ·exact .inr (.inl h4)
      ·exact .inr (.inr ⟨h,h4⟩)
   ·have:=BY (fun x:Int=>decide (x<a)) (fun x=>decide (a<x)) (fun x=>by simp;omega) T
    simp;omega
structure mK where
 lo:Int
 hi:Int
 rank:Nat
def qF(r:Nat):List mK->Int × Int->Int × Int
 | [],s=>s
 | n::L,s=>qF r L (if n.rank=r then (if s.1<n.lo then n.lo else s.1,if n.hi<s.2 then n.hi else s.2) else s)
def vQ(L:List mK)(r:Nat):Int × Int:=qF r L (0,9999)
def bR(r:Nat):List mK->Nat
 | []=>0
 | n::L=>(if n.rank=r then 1 else 0)+bR r L
def wT(L:List mK):Nat->Nat->Int->Nat->List Int->Option (List Int)
 | 0,_,_,_,out=>some out
 | f+1,r,xV,placed,out =>
   if placed=L.length then some out
   else if (vQ L r).2<(if (vQ L r).1<xV then xV else (vQ L r).1) then none
   else if bR r L=0 then none
   else wT L f (r+1) ((if (vQ L r).1<xV then xV else (vQ L r).1)+1) (placed+bR r L) (out++[if (vQ L r).1<xV then xV else (vQ L r).1])
def nQ(L:List mK):Option (List Int):=wT L L.length 0 0 0 []
theorem aI(r:Nat)(L:List mK):∀s,s.1<=(qF r L s).1/\(qF r L s).2<=s.2/\∀n∈L,n.rank=r->n.lo<=(qF r L s).1/\(qF r L s).2<=n.hi:=by
 induction L with
 | nil=>intro s;exact⟨l9 _,l9 _,fun n hn=>by simp at hn⟩
 | cons m L ih =>
   intro s;rw[qF];obtain⟨h1,h2,h3⟩:=ih (if m.rank=r then (if s.1<m.lo then m.lo else s.1,if m.hi<s.2 then m.hi else s.2) else s);by_cases hr:m.rank=r
   ·rw[tm hr]at h1 h2 h3 ⊢
    generalize qF r L (if s.1<m.lo then m.lo else s.1,if m.hi<s.2 then m.hi else s.2)=q at h1 h2 h3 ⊢;simp only at h1 h2;refine⟨by split at h1 <;> omega,by split at h2 <;> omega,fun n hn hnr=>?_⟩;rcases mz.1 hn with rfl|hn
    ·exact⟨by split at h1 <;> omega,by split at h2 <;> omega⟩
    ·exact h3 n hn hnr
   ·rw[tb hr]at h1 h2 h3 ⊢
    refine⟨h1,h2,fun n hn hnr=>?_⟩;rcases mz.1 hn with rfl|hn
    ·exact absurd hnr hr
    ·exact h3 n hn hnr
theorem U8(r:Nat)(v:Int)(L:List mK):∀s:Int × Int,s.1<=v->v<=s.2->(∀n∈L,n.rank=r->n.lo<=v/\v<=n.hi)->(qF r L s).1<=v/\v<=(qF r L s).2:=by
 induction L with
 | nil=>intro s h1 h2 _;exact⟨h1,h2⟩
 | cons m L ih =>
   intro s h1 h2 h;rw[qF];by_cases hr:m.rank=r
   ·rw[tm hr]
    have:=h m (by simp) hr;exact ih _ (by simp only;split <;> omega) (by simp only;split <;> omega) fun n hn=>h n (by simp[hn])
   ·rw[tb hr];exact ih _ h1 h2 fun n hn=>h n (by simp[hn])
def pJ(r:Nat):List mK->Nat
 | []=>0
 | n::L=>(if n.rank<r then 1 else 0)+pJ r L
theorem aX(r:Nat)(L:List mK):pJ (r+1) L=pJ r L+bR r L:=by
 induction L with
 | nil=>rfl
 | cons n L ih=>rw[pJ,pJ,bR,ih];split <;> split <;> split <;> omega
theorem aW(L:List mK):pJ 0 L=0:=by
 induction L with
 | nil=>rfl
 | cons n L ih=>rw[pJ,ih];simp
theorem Zm(r:Nat)(L:List mK):pJ r L<=L.length/\((∀n∈L,n.rank<r)->pJ r L=L.length):=by
 induction L with
 | nil=>simp[pJ]
 | cons n L ih =>
   rw[pJ,pd];refine⟨by have:=ih.1;split <;> omega,fun h=>?_⟩;rw[ih.2 fun m hm=>h m (by simp[hm]),tm (h n (by simp))];omega
theorem zA9{r:Nat}{L:List mK}(h:∃n∈L,n.rank=r):bR r L≠0:=by
 induction L with
 | nil=>obtain⟨n,hn,_⟩:=h;simp at hn
 | cons m L ih =>
   obtain⟨n,hn,hr⟩:=h;rw[bR];rcases mz.1 hn with rfl|hn
   ·rw[tm hr];omega
   ·have:=ih ⟨n,hn,hr⟩;omega
structure XL(L:List mK)(r:Nat)(xV:Int)(out:List Int):Prop where
 len:out.length=r
 zone:∀n∈L,n.rank<r->n.lo<=out.getD n.rank 0/\out.getD n.rank 0<=n.hi
 up:∀a b,a<b->b<r->out.getD a 0<out.getD b 0
 last:∀a,a<r->out.getD a 0<xV
theorem XL.snoc{L:List mK}{r:Nat}{xV v:Int}{out:List Int}(h:XL L r xV out)(hv:xV<=v)(hz:∀n∈L,n.rank=r->n.lo<=v/\v<=n.hi):XL L (r+1) (v+1) (out++[v]):=by
 have hl:=h.len;have e1:∀a,a<r->(out++[v]).getD a 0=out.getD a 0:=fun a ha=>by simp[List.getD,mt (show a<out.length by omega)]
 have e2:(out++[v]).getD r 0=v:=by simp[List.getD,<-hl]
 refine⟨by simp[hl],fun n hn hr=>?_,fun a b hab hb=>?_,fun a ha=>?_⟩
 ·by_cases hr2:n.rank<r
  ·rw[e1 _ hr2];exact h.zone n hn hr2
  ·have hr3:n.rank=r:=by omega
   rw[hr3,e2];exact hz n hn hr3
 ·by_cases hb2:b<r
  ·rw[e1 _ hb2,e1 _ (by omega)];exact h.up a b hab hb2
  ·have hb3:b=r:=by omega
   rw[hb3,e2,e1 _ (by omega)];have:=h.last a (by omega);omega
 ·by_cases ha2:a<r
  ·rw[e1 _ ha2];have:=h.last a ha2;omega
  ·have ha3:a=r:=by omega
   rw[ha3,e2];omega
theorem UE(L:List mK):∀f r xV placed out,placed=pJ r L->XL L r xV out->∀o,wT L f r xV placed out=some o->∃r' l',r<=r'/\(r'=r+f\/pJ r' L=L.length)/\XL L r' l' o:=by
 intro f
 induction f with
 | zero=>intro r xV placed out _ h o ho;rw[wT]at ho;obtain rfl:=dn ho;exact⟨r,xV,j1 _,.inl rfl,h⟩
 | succ f ih =>
   intro r xV placed out hp h o ho;rw[wT]at ho;by_cases h1:placed=L.length
   ·rw[tm h1]at ho;obtain rfl:=dn ho;exact⟨r,xV,j1 _,.inr (by rw[<-hp,h1]),h⟩
   ·rw[tb h1]at ho
    have hg:=aI r L (0,9999);have hs:qF r L (0,9999)=vQ L r:=rfl;rw[hs]at hg;generalize hv:(if (vQ L r).1<xV then xV else (vQ L r).1)=v at ho;have hv2:xV<=v/\(vQ L r).1<=v:=by rw[<-hv];split <;> omega
    by_cases h2:(vQ L r).2<v
    ·rw[tm h2]at ho;exact absurd ho (by simp)
    ·rw[tb h2]at ho
     by_cases h3:bR r L=0
     ·rw[tm h3]at ho;exact absurd ho (by simp)
     ·rw[tb h3]at ho
      obtain⟨r',l',q1,q2,q3⟩:=ih (r+1) (v+1) _ _ (by rw[aX,hp]) (h.snoc hv2.1 fun n hn hr=>by have:=hg.2.2 n hn hr;omega) o ho;exact⟨r',l',by omega,by rcases q2 with q2|q2;exact .inl (by omega);exact .inr q2,q3⟩
theorem aY{r:Nat}{L:List mK}(h:pJ r L=L.length):∀n∈L,n.rank<r:=by
 induction L with
 | nil=>intro n hn;simp at hn
 | cons m L ih =>
   rw[pJ,pd]at h;have hl:=(Zm r L).1;intro n hn;by_cases hm:m.rank<r
   ·rw[tm hm]at h
    rcases mz.1 hn with rfl|hn
    ·exact hm
    ·exact ih (by omega) n hn
   ·rw[tb hm]at h;omega
theorem YD{L:List mK}(hr:∀n∈L,n.rank<L.length){o:List Int}(h:nQ L=some o):∀n∈L,n.lo<=o.getD n.rank 0/\o.getD n.rank 0<=n.hi:=by
 obtain⟨r',l',_,h2,h3⟩:=UE L L.length 0 0 0 [] (aW L).symm ⟨rfl,fun n _ h=>absurd h (by omega),fun a b _ h=>absurd h (by omega),fun a h=>absurd h (by omega)⟩ o h;intro n hn;refine h3.zone n hn ?_;rcases h2 with h2|h2
 ·have:=hr n hn;omega
 ·exact aY h2 n hn
theorem Fb(L:List mK)(T:List Int)(hT:T.Pairwise (· < ·))(zKF:∀n∈L,n.rank<T.length/\n.lo<=T.getD n.rank 0/\T.getD n.rank 0<=n.hi)(hall:∀r,r<T.length->∃n∈L,n.rank=r)(h0:∀x∈T,0<=x/\x<=9999) :
 ∀f r xV placed out,T.length-r<=f->placed=pJ r L->r<=T.length->(r<T.length->xV<=T.getD r 0)->XL L r xV out->∃o l',wT L f r xV placed out=some o/\XL L T.length l' o:=by
 intro f
 induction f with
 | zero=>intro r xV placed out hf _ hr _ h;obtain rfl:r=T.length:=by omega
         exact⟨out,xV,by rw[wT],h⟩
 | succ f ih =>
   intro r xV placed out hf hp hr hl h;by_cases zK4:r<T.length
   ·obtain⟨n0,hn0,hr0⟩:=hall r zK4
    have hpl:placed≠L.length:=fun e=>by
     have:=aY (r:=r) (L:=L) (by rw[<-hp,e]) n0 hn0;omega
    have hm:T.getD r 0∈T:=by simp[List.getD,zK4]
    have hle:=U8 r (T.getD r 0) L (0,9999) (h0 _ hm).1 (h0 _ hm).2 fun n hn hnr=>by have:=zKF n hn;rw[hnr]at this;exact this.2
    have hg:=aI r L (0,9999);have hs:qF r L (0,9999)=vQ L r:=rfl;rw[hs]at hle hg;rw[wT,tb hpl];generalize hv:(if (vQ L r).1<xV then xV else (vQ L r).1)=v;have hll:=hl zK4;have hv2:xV<=v/\(vQ L r).1<=v/\v<=T.getD r 0:=by rw[<-hv];split <;> omega
    rw[tb (by omega),tb (zA9 ⟨n0,hn0,hr0⟩)];refine ih (r+1) (v+1) _ _ (by omega) (by rw[aX,hp]) zK4 (fun h2=>?_) (h.snoc hv2.1 fun n hn hnr=>by have:=hg.2.2 n hn hnr;omega)
    have:T.getD r 0<T.getD (r+1) 0:=by
     have:=List.pairwise_iff_getElem.1 hT r (r+1) zK4 h2 (by omega);simpa[List.getD,zK4,h2] using this
    omega
   ·obtain rfl:r=T.length:=by omega
    have:placed=L.length:=by rw[hp];exact(Zm _ L).2 fun n hn=>(zKF n hn).1
    exact⟨out,xV,by rw[wT,tm this],h⟩
theorem CO{T:List Int}(hT:T.Pairwise (· < ·)){a b:Nat}(ha:a<T.length)(hb:b<T.length):(T.getD a 0<T.getD b 0 ↔ a<b)/\(T.getD a 0=T.getD b 0->a=b):=by
 have key:∀a b,a<T.length->b<T.length->a<b->T.getD a 0<T.getD b 0:=fun a b ha hb hab=>by
  have:=List.pairwise_iff_getElem.1 hT a b ha hb hab;simpa[List.getD,ha,hb] using this
 have h1:=key a b ha hb;have h2:=key b a hb ha;rcases Nat.lt_trichotomy a b with h|h|h
 ·have:=h1 h;omega
 ·subst h;simp
 ·have:=h2 h;omega
def fJ(Z:List (Int × Int))(rk:List Nat):List mK:=(List.range Z.length).map fun i=>⟨(Z.getD i (0,0)).1,(Z.getD i (0,0)).2,rk.getD i 0⟩
theorem Qz(Z:List (Int × Int))(rk:List Nat):(fJ Z rk).length=Z.length:=by simp[fJ]
theorem Qy{Z:List (Int × Int)}{rk:List Nat}{n:mK}(h:n∈fJ Z rk):∃i,i<Z.length/\n=⟨(Z.getD i (0,0)).1,(Z.getD i (0,0)).2,rk.getD i 0⟩:=by
 obtain⟨i,hi,rfl⟩:=p8.1 h;exact⟨i,by simpa using hi,rfl⟩
theorem KO{Z:List (Int × Int)}(rk:List Nat)(hi:i<Z.length):(⟨(Z.getD i (0,0)).1,(Z.getD i (0,0)).2,rk.getD i 0⟩:mK)∈fJ Z rk:=p8.2 ⟨i,by simpa using hi,rfl⟩
theorem DZ(Z:List (Int × Int))(y:List Int)(hl:y.length=Z.length)(h:∀i,i<Z.length->(Z.getD i (0,0)).1<=y.getD i 0/\y.getD i 0<=(Z.getD i (0,0)).2)(h0:∀x∈y,0<=x/\x<=9999) :
 ∃rk:List Nat,rk.length=Z.length/\(∀r∈rk,r<Z.length)/\∃o,nQ (fJ Z rk)=some o/\∀i j,i<Z.length->j<Z.length->(o.getD (rk.getD i 0) 0<o.getD (rk.getD j 0) 0 ↔ y.getD i 0<y.getD j 0):=by
 obtain⟨T,hT,hm,zKA⟩:=DV y
 have hex:∀x∈y,∃r,r<T.length/\T.getD r 0=x:=fun x hx=>by
  obtain⟨r,hr,e⟩:=ct ((hm x).2 hx);exact⟨r,hr,by simp[List.getD,hr,e]⟩
 obtain⟨g,hg⟩:∃g:Int->Nat,∀x∈y,g x<T.length/\T.getD (g x) 0=x:=by
  refine⟨fun x=>if hx:x∈y then Classical.choose (hex x hx) else 0,fun x hx=>?_⟩;simp only[hx,dite_true];exact Classical.choose_spec (hex x hx)
 have hyi:∀i,i<Z.length->y.getD i 0∈y:=fun i hi=>by simp[List.getD,show i<y.length by omega]
 have hri:∀i,i<Z.length->(y.map g).getD i 0=g (y.getD i 0):=fun i hi=>by simp[List.getD,show i<y.length by omega]
 refine⟨y.map g,by simp[hl],fun r hr=>?_,?_⟩
 ·obtain⟨x,hx,rfl⟩:=p8.1 hr
  have:=(hg x hx).1;omega
 have zKF:∀n∈fJ Z (y.map g),n.rank<T.length/\n.lo<=T.getD n.rank 0/\T.getD n.rank 0<=n.hi:=fun n hn=>by
  obtain⟨i,hi,rfl⟩:=Qy hn;simp only;rw[hri i hi];have h1:=hg _ (hyi i hi);rw[h1.2];exact⟨h1.1,h i hi⟩
 have hall:∀r,r<T.length->∃n∈fJ Z (y.map g),n.rank=r:=fun r hr=>by
  have hx:T.getD r 0∈y:=(hm _).1 (by simp[List.getD,hr]);obtain⟨i,hi,e⟩:=ct hx;have hi2:i<Z.length:=by omega
  refine⟨_,KO (y.map g) hi2,?_⟩;simp only;rw[hri i hi2];have e2:y.getD i 0=T.getD r 0:=by simp[List.getD,hi,e]
  have h1:=hg _ (hyi i hi2);rw[e2]at h1 ⊢;exact(CO hT h1.1 hr).2 h1.2
 obtain⟨o,l',ho,zKG⟩:=Fb (fJ Z (y.map g)) T hT zKF hall (fun x hx=>h0 x ((hm x).1 hx)) (fJ Z (y.map g)).length 0 0 0 [] (by rw[Qz];omega) (aW _).symm (ty _) (fun hh=>(h0 _ ((hm _).1 (by simp[List.getD,hh]))).1) ⟨rfl,fun n _ h=>absurd h (by omega),fun a b _ h=>absurd h (by omega),fun a h=>absurd h (by omega)⟩;refine⟨o,ho,fun i j hi hj=>?_⟩;rw[hri i hi,hri j hj];have a1:=hg _ (hyi i hi);have a2:=hg _ (hyi j hj);have hp:=(CO hT a1.1 a2.1).1;rw[a1.2,a2.2]at hp;rw[hp];constructor
 ·intro h3
  rcases Nat.lt_trichotomy (g (y.getD i 0)) (g (y.getD j 0)) with h4|h4|h4
  ·exact h4
  ·rw[h4]at h3;omega
  ·have:=zKG.up _ _ h4 a1.1;omega
 ·intro h3;exact zKG.up _ _ h3 a2.1
def C0(R:Nat->Nat->Prop)(i k:Nat):Prop:=R i k/\∀i' k',R i' k'->i<i'\/(i=i'/\k<=k')
structure zG2(r:xO)(s s':xA):Prop where
 sum:∀p∈r.sum,p.kind=3->kP s.has p.place=kP s'.has p.place
 has:∀y∈r.guard,y.kind=5->kP s.has y.place=kP s'.has y.place
 flag:∀y∈r.guard,y.kind=6->(kF s.inputs y.place=1 ↔ kF s'.inputs y.place=1)
 cmp:∀y∈r.guard,y.kind=7->Qh y s=Qh y s'
theorem G6(h:zG2 r s s'):qU r s=qU r s':=by
 have h1:jD s r.sum=jD s' r.sum:=by
  unfold jD
  exact Jh fun p hp=>by
   by_cases k:p.kind=3
   ·rw[h.sum p hp k]
   ·rw[tq k];rfl
 have h2:∀(N:List qV) hs,(∀y∈N,y∈r.guard)->cU s N hs=cU s' N hs:=by
  intro N
  induction N with
  | nil=>intro hs _;rfl
  | cons y t ih =>
    intro hs hy;rw[cU,cU];have hm:=hy y (by simp)
    have e:Kt y s hs=Kt y s' hs:=by
     unfold Kt;by_cases k5:y.kind=5
     ·simp only[k5];exact h.has y hm k5
     ·by_cases k6:y.kind=6
      ·have:=h.flag y hm k6
       have e6:decide (kF s.inputs y.place=1)=decide (kF s'.inputs y.place=1):=by rw[dg];simpa using this
       rw[e6];simp[k6]
      ·by_cases k7:y.kind=7
       ·rw[h.cmp y hm k7];simp[k7]
       ·simp[k5,k6,k7]
    rw[e];exact ih _ fun z hz=>hy z (by simp[hz])
 unfold qU;rw[h1,h2 r.guard [] fun y hy=>hy]
def pY(r:xO)(c:Nat):Bool:=r.sum.any fun p=>decide (p.kind=3)&&decide (p.place=(c:Int))
def vL(r:xO)(c:Nat):Bool:=r.guard.any fun y=>decide (y.kind=5)&&decide (y.place=(c:Int))
def tP(r:xO)(i:Nat):Bool:=r.guard.any fun y=>if y.kind=6 then decide (y.place=(i:Int)) else if y.kind=7 then decide (y.place=(i:Int)) || (y.two&&decide (y.other=(i:Int))) else false
def xK(r:xO)(i:Nat):List Int:=(r.guard.filter fun y=>decide (y.kind=7)&&(!y.two&&decide (y.place=(i:Int)))).map qV.num
theorem Jf(h:qU r s=true){c:Nat}(hc:pY r c=true):kP s.has (c:Int)=true:=by
 unfold qU at h;rw[pj]at h;obtain⟨p,hp,h1⟩:=md.1 hc;rw[pj,pt,pt]at h1;have h2:=List.all_eq_true.1 h.1 p hp;rw[h1.2,tu h1.1]at h2;simpa using h2
structure zB4(r:xO)(isNum:Nat->Bool)(s s':xA):Prop where
 len:s.inputs.length=s'.inputs.length
 has:∀c:Nat,(pY r c || vL r c)=true->kP s.has (c:Int)=kP s'.has (c:Int)
 flag:∀i:Nat,i<s.inputs.length->tP r i=true->isNum i=false->s.inputs.getD i 0=s'.inputs.getD i 0
 side:∀i:Nat,i<s.inputs.length->isNum i=true->∀b∈xK r i,(s.inputs.getD i 0<b ↔ s'.inputs.getD i 0<b)/\(s.inputs.getD i 0=b ↔ s'.inputs.getD i 0=b)
 order:∀i j:Nat,i<s.inputs.length->j<s.inputs.length->tP r i=true->tP r j=true->isNum i=true->isNum j=true->(s.inputs.getD i 0<s.inputs.getD j 0 ↔ s'.inputs.getD i 0<s'.inputs.getD j 0)
structure eG(r:xO)(n:Nat)(isNum:Nat->Bool):Prop where
 flag:∀y∈r.guard,y.kind=6->∃i,i<n/\y.place=(i:Nat)/\isNum i=false
 cmp:∀y∈r.guard,y.kind=7->∃i,i<n/\y.place=(i:Nat)/\isNum i=true
 two:∀y∈r.guard,y.kind=7->y.two=true->∃i,i<n/\y.other=(i:Nat)/\isNum i=true
theorem Dh{l:List Bool}{a:Int}(h:a<0):kP l a=false:=by unfold kP;rw[tq (by omega)];rfl
theorem rX{l:List Int}(h:i<l.length):kF l (i:Int)=l.getD i 0:=by unfold kF;rw[tm ⟨by omega,by omega⟩];rfl
theorem Cp{isNum:Nat->Bool}(hp:eG r s.inputs.length isNum)(h:zB4 r isNum s s'):zG2 r s s':=by
 have hT:∀a:Int,(∀c:Nat,a=(c:Int)->(pY r c || vL r c)=true)->kP s.has a=kP s'.has a:=fun a ha=>by
  rcases cp a 0 with h0|h0
  ·rw[Dh h0,Dh h0]
  ·obtain⟨c,rfl⟩:∃c:Nat,a=(c:Int):=⟨a.toNat,by omega⟩
   exact h.has c (ha c rfl)
 refine⟨fun p hpm k=>hT _ fun c e=>?_,fun y hy k=>hT _ fun c e=>?_,fun y hy k=>?_,fun y hy k=>?_⟩
 ·rw[lq];exact .inl (md.2 ⟨p,hpm,by simp[k,e]⟩)
 ·rw[lq];exact .inr (md.2 ⟨y,hy,by simp[k,e]⟩)
 ·obtain⟨i,hi,e,hn⟩:=hp.flag y hy k
  rw[e,rX hi,rX (by rw[<-h.len];exact hi),h.flag i hi (md.2 ⟨y,hy,by simp[k,e]⟩) hn]
 ·obtain⟨i,hi,e,hn⟩:=hp.cmp y hy k
  have ha:tP r i=true:=md.2 ⟨y,hy,by simp[k,e]⟩;unfold Qh;rw[e,rX hi,rX (show i<s'.inputs.length by rw[<-h.len];exact hi)];cases h2:y.two
  ·have hb:y.num∈xK r i:=p8.2 ⟨y,mj.2 ⟨hy,by simp[k,h2,e]⟩,rfl⟩
   have hs:=h.side i hi hn _ hb;simp only[Bool.false_eq_true,if_false];generalize s.inputs.getD i 0=a at *;generalize s'.inputs.getD i 0=a' at *;by_cases c1:a<y.num
   ·rw[tm c1,tm (hs.1.1 c1)]
   ·rw[tb c1,tb (fun c=>c1 (hs.1.2 c))]
    by_cases c2:y.num<a
    ·rw[tm c2,tm (by omega)]
    ·rw[tb c2,tb (by omega)]
  ·obtain⟨j,hj,e2,hn2⟩:=hp.two y hy k h2
   have ha2:tP r j=true:=md.2 ⟨y,hy,by simp[k,h2,e2]⟩;have o1:=h.order i j hi hj ha ha2 hn hn2;have o2:=h.order j i hj hi ha2 ha hn2 hn;simp only[f9];rw[e2,rX hj,rX (show j<s'.inputs.length by rw[<-h.len];exact hj)];generalize s.inputs.getD i 0=a at *;generalize s'.inputs.getD i 0=a' at *;generalize s.inputs.getD j 0=b at *;generalize s'.inputs.getD j 0=b' at *;by_cases c1:a<b
   ·rw[tm c1,tm (o1.1 c1)]
   ·rw[tb c1,tb (fun c=>c1 (o1.2 c))]
    by_cases c2:b<a
    ·rw[tm c2,tm (o2.1 c2)]
    ·rw[tb c2,tb (fun c=>c2 (o2.2 c))]
theorem Ji{isNum:Nat->Bool}(hp:eG r s.inputs.length isNum)(h:zB4 r isNum s s'):qU r s=qU r s':=G6 (Cp hp h)
theorem Vm{α:Type}(d:α)(P:Nat->α->Prop):∀n,(∀p,p<n->∃z,P p z)->∃Z:List α,Z.length=n/\∀p,p<n->P p (Z.getD p d):=by
 intro n
 induction n with
 | zero=>intro _;exact⟨[],rfl,fun p h=>absurd h (by omega)⟩
 | succ n ih =>
   intro h;obtain⟨Z,h1,h2⟩:=ih fun p hp=>h p (by omega);obtain⟨z,hz⟩:=h n (by omega);refine⟨Z++[z],by simp[h1],fun p hp=>?_⟩;by_cases hp2:p<n
   ·have:(Z++[z]).getD p d=Z.getD p d:=by simp[List.getD,mt (show p<Z.length by omega)]
    rw[this];exact h2 p hp2
   ·obtain rfl:p=n:=by omega
    have:(Z++[z]).getD p d=z:=by simp[List.getD,<-h1]
    rw[this];exact hz
def kU(I:List zP)(i:Nat):zP:=I.getD i eX
def xQ(I:List zP)(i:Nat):Bool := !(kU I i).isFlag
structure fD(I:List zP)(H:Nat)(y:xA):Prop where
 inl:y.inputs.length=I.length
 hal:y.has.length=H
 num:∀i,i<I.length->xQ I i=true->(kU I i).low<=y.inputs.getD i 0/\y.inputs.getD i 0<=(kU I i).high
 flag:∀i,i<I.length->xQ I i=false->y.inputs.getD i 0=0\/y.inputs.getD i 0=1
def qM(e l:xO)(i:Nat):Bool:=tP e i || tP l i
def uG(e l:xO)(c:Nat):Bool:=pY e c || pY l c
def vD(I:List zP)(e l:xO):List Nat:=(List.range I.length).filter fun i=>qM e l i&&xQ I i
theorem pU:i∈vD I e l ↔ i<I.length/\qM e l i=true/\xQ I i=true:=by
 unfold vD;rw[mj,pq,pj]
theorem gM{p:Nat}(h:p<(vD I e l).length):(vD I e l).getD p 0∈vD I e l:=by simp[List.getD,h]
theorem Yd(hi:i<I.length)(ha:qM e l i=true)(hn:xQ I i=true):∃p,p<(vD I e l).length/\(vD I e l).getD p 0=i:=by
 obtain⟨p,hp,e⟩:=ct (pU.2 ⟨hi,ha,hn⟩);exact⟨p,hp,by simp[List.getD,hp,e]⟩
def tQ(I:List zP)(e l:xO)(i:Nat):List (Int × Int):=gF (kU I i).low (kU I i).high (xK e i) (xK l i)
structure zFZ(I:List zP)(e l:xO)(rk:List Nat)(o:List Int)(y t:xA):Prop where
 inl:t.inputs.length=I.length
 num:∀p,p<(vD I e l).length->t.inputs.getD ((vD I e l).getD p 0) 0=o.getD (rk.getD p 0) 0
 flag:∀i,i<I.length->qM e l i=true->xQ I i=false->t.inputs.getD i 0=y.inputs.getD i 0
 need:∀c:Nat,uG e l c=true->kP t.has (c:Int)=true
 has:∀c:Nat,uG e l c=false->(vL e c || vL l c)=true->kP t.has (c:Int)=kP y.has (c:Int)
theorem VW(h:b∈xK r i):tP r i=true:=by
 obtain⟨y,hy,_⟩:=p8.1 h;have hf:=mj.1 hy;have h2:=hf.2;simp only[pj,pt]at h2;exact md.2 ⟨y,hf.1,by simp[h2.1,h2.2.2]⟩
theorem KD{H:Nat}(hpe:eG e I.length (xQ I))(hpl:eG l I.length (xQ I))(hr:∀i,i<I.length->xQ I i=true->0<=(kU I i).low/\(kU I i).high<=9999){y:xA}(hy:fD I H y)(he:qU e y=true)(hl:qU l y=true) :
 ∃Z:List (Int × Int),Z.length=(vD I e l).length/\(∀p,p<(vD I e l).length->Z.getD p (0,0)∈tQ I e l ((vD I e l).getD p 0))/\∃rk:List Nat,rk.length=Z.length/\(∀r∈rk,r<Z.length)/\∃o,nQ (fJ Z rk)=some o/\∀t,zFZ I e l rk o y t->qU e t=true/\qU l t=true:=by
 obtain⟨Z,hZl,hZ⟩:=Vm (0,0) (fun p z=>z∈tQ I e l ((vD I e l).getD p 0)/\z.1<=y.inputs.getD ((vD I e l).getD p 0) 0/\y.inputs.getD ((vD I e l).getD p 0) 0<=z.2) (vD I e l).length (fun p hp=>by
  obtain⟨hi,_,hn⟩:=pU.1 (gM hp);have hrm:=hy.num _ hi hn;obtain⟨z,hz,h1⟩:=(Yr (kU I ((vD I e l).getD p 0)).low (kU I ((vD I e l).getD p 0)).high (xK e ((vD I e l).getD p 0)) (xK l ((vD I e l).getD p 0))).cover _ hrm.1 hrm.2;exact⟨z,hz,h1⟩)
 have hYg:∀p,p<(vD I e l).length->((vD I e l).map fun i=>y.inputs.getD i 0).getD p 0=y.inputs.getD ((vD I e l).getD p 0) 0:=fun p hp=>by simp[List.getD,hp]
 obtain⟨rk,hrl,hrr,o,ho,hord⟩:=DZ Z ((vD I e l).map fun i=>y.inputs.getD i 0) (by simp[hZl]) (fun p hp=>by
  rw[hYg p (by omega)];exact(hZ p (by omega)).2) (fun x hx=>by
  obtain⟨i,hi,rfl⟩:=p8.1 hx;obtain⟨h1,_,h3⟩:=pU.1 hi;have:=hr i h1 h3;have:=hy.num i h1 h3;show 0<=y.inputs.getD i 0/\y.inputs.getD i 0<=9999;omega)
 refine⟨Z,hZl,fun p hp=>(hZ p hp).1,rk,hrl,hrr,o,ho,fun t ht=>?_⟩
 have hsound:=YD (L:=fJ Z rk) (fun n hn=>by
  obtain⟨i,hi,rfl⟩:=Qy hn;rw[Qz];exact hrr _ (by simp[List.getD,show i<rk.length by omega])) ho
 have zKF:∀p,p<(vD I e l).length->(Z.getD p (0,0)).1<=t.inputs.getD ((vD I e l).getD p 0) 0/\t.inputs.getD ((vD I e l).getD p 0) 0<=(Z.getD p (0,0)).2:=fun p hp=>by
  rw[ht.num p hp];exact hsound _ (KO rk (show p<Z.length by omega))
 have hal:∀r:xO,(r=e\/r=l)->zB4 r (xQ I) y t:=fun r hre=>by
  have hask:∀i,tP r i=true->qM e l i=true:=fun i h=>by unfold qM;rcases hre with rfl|rfl <;> rw[h] <;> simp
  have hnd:∀c,pY r c=true->uG e l c=true:=fun c h=>by unfold uG;rcases hre with rfl|rfl <;> rw[h] <;> simp
  have hah:∀c,vL r c=true->(vL e c || vL l c)=true:=fun c h=>by rcases hre with rfl|rfl <;> rw[h] <;> simp
  have hny:∀c,uG e l c=true->kP y.has (c:Int)=true:=fun c h=>by
   unfold uG at h;rcases(lq _ _).mp h with h|h
   ·exact Jf he h
   ·exact Jf hl h
  refine⟨by rw[hy.inl,ht.inl],fun c hc=>?_,fun i hi ha hn=>?_,fun i hi hn b hb=>?_,fun i j hi hj ha ha2 hn hn2=>?_⟩
  ·cases hnc:uG e l c
   ·rcases(lq _ _).mp hc with hc|hc
    ·rw[hnd c hc]at hnc;exact absurd hnc (by decide)
    ·exact(ht.has c hnc (hah c hc)).symm
   ·rw[hny c hnc,ht.need c hnc]
  ·exact(ht.flag i (by rw[<-hy.inl];exact hi) (hask i ha) hn).symm
  ·obtain⟨p,hp,e1⟩:=Yd (by rw[<-hy.inl];exact hi) (hask i (VW hb)) hn
   have hz:=hZ p hp;have ht2:=zKF p hp;rw[e1]at hz ht2;have:=(Yr (kU I i).low (kU I i).high (xK e i) (xK l i)).side _ hz.1 b (by rcases hre with rfl|rfl <;> simp[hb]) _ ht2.1 ht2.2 _ hz.2.1 hz.2.2;exact this
  ·obtain⟨p,hp,e1⟩:=Yd (by rw[<-hy.inl];exact hi) (hask i ha) hn
   obtain⟨q,hq,e2⟩:=Yd (by rw[<-hy.inl];exact hj) (hask j ha2) hn2;have h1:=hord p q (by omega) (by omega);rw[hYg p hp,hYg q hq,e1,e2]at h1;have h2:=ht.num p hp;have h3:=ht.num q hq;rw[e1]at h2;rw[e2]at h3;rw[h2,h3];exact h1.symm
 exact⟨by rw[<-Ji (hy.inl ▸ hpe) (hal e (.inl rfl))];exact he,by rw[<-Ji (hy.inl ▸ hpl) (hal l (.inr rfl))];exact hl⟩
theorem zDN{l:List zE}(h:(l.map zE.name).Nodup):∀x∈l,∀z∈l,x.name=z.name->x=z:=by
 induction l with
 | nil=>intro x hx;cases hx
 | cons a r ih =>
   rw[dq,List.nodup_cons]at h;intro x hx z hz e;rcases mz.1 hx with h1|h1
   ·rcases mz.1 hz with h2|h2
    ·rw[h1,h2]
    ·rw[h1]at e;exact absurd (p8.2 ⟨z,h2,e.symm⟩) h.1
   ·rcases mz.1 hz with h2|h2
    ·rw[h2]at e;exact absurd (p8.2 ⟨x,h1,e⟩) h.1
    ·exact ih h.2 x h1 z h2 e
theorem zHN(h:vJ ls){z:zE}(hx:x∈GM ls)(hz:z∈GM ls)(e:x.name=z.name):x=z:=zDN (by rw[<-Xo];exact Xk h) x hx z hz e
theorem Xn(hi:i<(zR ls).length):∃x,x∈GM ls/\x∈ls/\kU (zR ls) i=mC x/\(uC ls).getD i []=x.name:=by
 rw[Xm,pi]at hi;have hm:(GM ls).getD i Yc∈GM ls:=VB _ hi;refine⟨(GM ls).getD i Yc,hm,(mj.1 hm).1,?_,?_⟩
 ·unfold kU;rw[Xm];exact Xt _ _ _ _ _ hi
 ·rw[Xo];exact Xt _ _ _ _ _ hi
theorem zJI(h:x∈ls)(hk:x.kind=1\/x.kind=2):x∈GM ls:=mj.2 ⟨h,tu hk⟩
theorem zJE{nm:Bs}{k:Int}(h:uR ls k nm=true):∃x∈ls,x.kind=k/\x.name=nm:=by
 obtain⟨x,h1,h2⟩:=md.1 h;unfold Zb at h2;rw[pj,pt,pt]at h2;exact⟨x,h1,h2.1,h2.2⟩
theorem aO(hk:x.kind=1\/x.kind=2):(!(mC x).isFlag)=decide (x.kind=1):=by
 unfold mC;rcases hk with h|h
 ·rw[tm h,tu h];rfl
 ·rw[tb (by omega),tq (by omega)];rfl
theorem VK{k:Int}{m:Nat}(hl:ZS k=m)(h:∀i,i<ls.length->tJ ls i=false):xZ k ls<=m:=by
 have key:∀n,n<=ls.length->xZ k (ls.take n)<=m:=by
  intro n
  induction n with
  | zero=>intro _;simp[xZ]
  | succ n ih =>
    intro hn;rw[bJ ls n (by omega),VR];have ih:=ih (by omega);by_cases hk:(lA ls n).kind=k
    ·have hm:=h n (by omega)
     unfold tJ at hm;rw[bp,db,hk,hl]at hm;simp only[xZ,hk,f9];omega
    ·simp only[xZ,tb hk];omega
 have:=key ls.length (j1 _)
 rwa [bt]at this
theorem qp(ls:List zE):(zR ls).length=xZ 1 ls+xZ 2 ls:=by
 rw[Xm,pi];unfold GM
 induction ls with
 | nil=>simp[xZ]
 | cons x r ih =>
   rw[List.filter_cons,xZ,xZ];by_cases h1:x.kind=1
   ·rw[tu (.inl h1),tm rfl,tm h1,tb (by omega),pd,ih];omega
   ·by_cases h2:x.kind=2
    ·rw[tu (.inr h2),tm rfl,tb h1,tm h2,pd,ih];omega
    ·rw[tq (by omega),tb (by simp),tb h1,tb h2,ih];omega
theorem V0(h:vJ ls):(zR ls).length<=6:=by
 have h1:=VK (k:=1) (m:=3) (by decide) h.many;have h2:=VK (k:=2) (m:=3) (by decide) h.many;rw[qp];omega
theorem zH4(ls:List zE):(uC ls).length=(zR ls).length:=by unfold uC;rw[pi]
theorem uu(h:vJ ls)(hx:x∈ls)(hk:x.kind=1):x.low<=x.high:=by
 obtain⟨i,hi,rfl⟩:=YW hx;have he:=h.err i hi;unfold lB at he;rw[tm hk]at he;unfold wX at he;by_cases h0:oV ls i=0
 ·rw[tm h0]at he
  rcases cp (lA ls i).high (lA ls i).low with h1|h1
  ·rw[tm h1]at he;exact absurd he (by decide)
  ·exact h1
 ·rw[tb h0]at he;exact absurd he h0
theorem Zr{α:Type}(p:α->Bool)(d:α)(l:List α)(i:Nat)(h:i<l.length):(l.drop i).any p=(p (l.getD i d) || (l.drop (i+1)).any p):=by
 rw[pm h,cr];simp[List.getD,h]
theorem JZ{α:Type}(p:α->Bool)(l:List α)(i:Nat)(h:¬i<l.length):(l.drop i).any p=false:=by
 rw[pf (by omega)];rfl
def pW(i:Nat)(y:qV):Bool:=if y.kind=6 then decide (y.place=(i:Int)) else if y.kind=7 then decide (y.place=(i:Int)) || (y.two&&decide (y.other=(i:Int))) else false
theorem D8(w:World)(x:MX)(c:Nat)(hx:uL w x) :
 Calls Tryz.prog 98 #[uE x,.int .i64 (c:Int)] w fun e w'=>e=.returned (.bool (pY x.1 c))/\Below w.heap.size w w':=by
 obtain⟨pa,pc,e1,hp⟩:=hx.sum;obtain⟨ga,gc,e2,hg⟩:=hx.guard;have HP:=zA hp.cel;have zKI:=hx.few1;obtain⟨⟨lab,cc,ps,gd,root⟩,pv,gv⟩:=x;simp only at e1 e2 HP zKI;subst e1 e2;simp only[uE];have HE0:Hid (∀b,ps.any (fun p=>decide (p.kind=3)&&decide (p.place=(c:Int)))=b->pY ⟨lab,cc,ps,gd,root⟩ c=b):=fun b h=>h;generalize pY ⟨lab,cc,ps,gd,root⟩ c=ans at *;clear hx hp hg
 go_enter Tryz.func98,Tryz.ntmps98
 go_wp2_with fail
 generalize hO1:Obj.cells #[.string ⟨lab.toArray⟩,.int .i64 cc,.slice pa ps.length pc,.slice ga gd.length gc,.int .i64 root] 162=O1 at *;clear hO1;have HB0:Hid (Below w.heap.size w (w.alloc O1)):=fj (j1 _) _;generalize w.alloc O1=w0 at *
 go_loopw [10] (fun iv wr=>∃(i:Nat),i<=ps.length/\iv=.int .i64 i/\Hid (Below w.heap.size w wr)/\Hid ((ps.drop i).any (fun p=>decide (p.kind=3)&&decide (p.place=(c:Int)))=ps.any (fun p=>decide (p.kind=3)&&decide (p.place=(c:Int))))) (fun iv _=>ps.length-(intOf iv).toNat)
 case atStart=>exact⟨0,ty _,rfl,HB0,zA rfl⟩
 case round =>
  obtain⟨i,hi,rfl,HB,HE⟩:=hrel;have zKH:=HB.out.size;by_cases zK4:i<ps.length
  ·have ii:(i:Int)<(ps.length:Int):=by omega
   have hpr:=HP.out.below HB.out;obtain⟨gp,rfl,q0⟩:=hpr.at ((zN tY 3 (fun _=>rfl) Bq ps i 0 zK4 (by decide)).trans rfl);have hq:=fun j hj v hv=>(hpr.at ((zN tY 3 (fun _=>rfl) Bq ps i j zK4 hj).trans hv)).elim fun g' h=>(show gp=g' by simpa using h.1) ▸ (show w.heap.size<=wr.heap.size/\wr.cell? ⟨g',i*3+j,none⟩=some v from ⟨zKH,h.2⟩).2;have q1:=hq 1 (by decide) _ rfl;have q2:=hq 2 (by decide) _ rfl;rw[l6]at q0;have lgp:=yF q0;have mgp:wr.heap.size≠gp:=by omega
   have hE:=HE.out;rw[Zr (fun p=>decide (p.kind=3)&&decide (p.place=(c:Int))) Bq ps i zK4]at hE;have HE2:=zA hE;have HBa:Hid (∀o,Below w.heap.size w (wr.alloc o)):=fun o=>HB.out.alloc zKH o;clear HE hE hpr hq;generalize ps.getD i Bq=y at *;obtain⟨yk,yn,yp⟩:=y;simp only at q0 q1 q2 HE2;by_cases k1:yk=3
   ·subst k1
    simp only[decide_true,mu]at HE2;by_cases k2:yp=(c:Int)
    ·subst k2
     have HE3:Hid (ans=true):=HE0.out _ (by rw[<-HE2.out];simp);go_wp2_with fail
     go_ret
     exact⟨zF HE3.out.symm,HBa.out _⟩
    ·have b2:(yp==(c:Int))=false:=by simpa using k2
     have HE3:Hid ((ps.drop (i+1)).any (fun p=>decide (p.kind=3)&&decide (p.place=(c:Int)))=ps.any (fun p=>decide (p.kind=3)&&decide (p.place=(c:Int)))):=by have:=HE2.out;rw[tq k2,lu]at this;exact this
     clear k2;go_wp2_with fail
     go_roundw
     case rel=>exact⟨i+1,by omega,by go_num,zA (HBa.out _),HE3⟩
     case measure=>simp[intOf];omega
   ·have b1:(yk==3)=false:=by simpa using k1
    have HE3:Hid ((ps.drop (i+1)).any (fun p=>decide (p.kind=3)&&decide (p.place=(c:Int)))=ps.any (fun p=>decide (p.kind=3)&&decide (p.place=(c:Int)))):=by have:=HE2.out;rw[tq k1,ce,lu]at this;exact this
    clear k1;go_wp2_with fail
    go_roundw
    case rel=>exact⟨i+1,by omega,by go_num,zA (HBa.out _),HE3⟩
    case measure=>simp[intOf];omega
  ·have ii:¬(i:Int)<(ps.length:Int):=by omega
   have HE2:Hid (ans=false):=HE0.out _ (by rw[<-HE.out];exact JZ _ _ _ zK4);go_wp2_with fail
   go_ret
   exact⟨zF HE2.out.symm,HB.out⟩
theorem Jo(w:World)(x:MX)(c:Nat)(hx:uL w x) :
 Calls Tryz.prog 99 #[uE x,.int .i64 (c:Int)] w fun e w'=>e=.returned (.bool (vL x.1 c))/\Below w.heap.size w w':=by
 obtain⟨pa,pc,e1,hp⟩:=hx.sum;obtain⟨ga,gc,e2,hg⟩:=hx.guard;have HP:=zA hg.cel;have zKI:=hx.few2;obtain⟨⟨lab,cc,ps,gd,root⟩,pv,gv⟩:=x;simp only at e1 e2 HP zKI;subst e1 e2;simp only[uE];have HE0:Hid (∀b,gd.any (fun y=>decide (y.kind=5)&&decide (y.place=(c:Int)))=b->vL ⟨lab,cc,ps,gd,root⟩ c=b):=fun b h=>h;generalize vL ⟨lab,cc,ps,gd,root⟩ c=ans at *;clear hx hp hg
 go_enter Tryz.func99,Tryz.ntmps99
 go_wp2_with fail
 generalize hO1:Obj.cells #[.string ⟨lab.toArray⟩,.int .i64 cc,.slice pa ps.length pc,.slice ga gd.length gc,.int .i64 root] 162=O1 at *;clear hO1;have HB0:Hid (Below w.heap.size w (w.alloc O1)):=fj (j1 _) _;generalize w.alloc O1=w0 at *
 go_loopw [10] (fun iv wr=>∃(i:Nat),i<=gd.length/\iv=.int .i64 i/\Hid (Below w.heap.size w wr)/\Hid ((gd.drop i).any (fun y=>decide (y.kind=5)&&decide (y.place=(c:Int)))=gd.any (fun y=>decide (y.kind=5)&&decide (y.place=(c:Int))))) (fun iv _=>gd.length-(intOf iv).toNat)
 case atStart=>exact⟨0,ty _,rfl,HB0,zA rfl⟩
 case round =>
  obtain⟨i,hi,rfl,HB,HE⟩:=hrel;have zKH:=HB.out.size;by_cases zK4:i<gd.length
  ·have ii:(i:Int)<(gd.length:Int):=by omega
   have hpr:=HP.out.below HB.out;obtain⟨gp,rfl,q0⟩:=hpr.at ((zN qL 10 (fun _=>rfl) oN gd i 0 zK4 (by decide)).trans rfl);have hq:=fun j hj v hv=>(hpr.at ((zN qL 10 (fun _=>rfl) oN gd i j zK4 hj).trans hv)).elim fun g' h=>(show gp=g' by simpa using h.1) ▸ (show w.heap.size<=wr.heap.size/\wr.cell? ⟨g',i*10+j,none⟩=some v from ⟨zKH,h.2⟩).2;have q1:=hq 1 (by decide) _ rfl;have q2:=hq 2 (by decide) _ rfl;have q3:=hq 3 (by decide) _ rfl;have q4:=hq 4 (by decide) _ rfl;have q5:=hq 5 (by decide) _ rfl;have q6:=hq 6 (by decide) _ rfl;have q7:=hq 7 (by decide) _ rfl;have q8:=hq 8 (by decide) _ rfl;have q9:=hq 9 (by decide) _ rfl;rw[l6]at q0;have lgp:=yF q0;have mgp:wr.heap.size≠gp:=by omega
   have hE:=HE.out;rw[Zr (fun y=>decide (y.kind=5)&&decide (y.place=(c:Int))) oN gd i zK4]at hE;have HE2:=zA hE;have HBa:Hid (∀o,Below w.heap.size w (wr.alloc o)):=fun o=>HB.out.alloc zKH o;clear HE hE hpr hq;generalize gd.getD i oN=y at *;obtain⟨yk,yl,yr,yp,y2,yo,yn,yb1,yb2,yb3⟩:=y;simp only at q0 q1 q2 q3 q4 q5 q6 q7 q8 q9 HE2;by_cases k1:yk=5
   ·subst k1
    simp only[decide_true,mu]at HE2;by_cases k2:yp=(c:Int)
    ·subst k2
     have HE3:Hid (ans=true):=HE0.out _ (by rw[<-HE2.out];simp);go_wp2_with fail
     go_ret
     exact⟨zF HE3.out.symm,HBa.out _⟩
    ·have b2:(yp==(c:Int))=false:=by simpa using k2
     have HE3:Hid ((gd.drop (i+1)).any (fun y=>decide (y.kind=5)&&decide (y.place=(c:Int)))=gd.any (fun y=>decide (y.kind=5)&&decide (y.place=(c:Int)))):=by have:=HE2.out;rw[tq k2,lu]at this;exact this
     clear k2;go_wp2_with fail
     go_roundw
     case rel=>exact⟨i+1,by omega,by go_num,zA (HBa.out _),HE3⟩
     case measure=>simp[intOf];omega
   ·have b1:(yk==5)=false:=by simpa using k1
    have HE3:Hid ((gd.drop (i+1)).any (fun y=>decide (y.kind=5)&&decide (y.place=(c:Int)))=gd.any (fun y=>decide (y.kind=5)&&decide (y.place=(c:Int)))):=by have:=HE2.out;rw[tq k1,ce,lu]at this;exact this
    clear k1;go_wp2_with fail
    go_roundw
    case rel=>exact⟨i+1,by omega,by go_num,zA (HBa.out _),HE3⟩
    case measure=>simp[intOf];omega
  ·have ii:¬(i:Int)<(gd.length:Int):=by omega
   have HE2:Hid (ans=false):=HE0.out _ (by rw[<-HE.out];exact JZ _ _ _ zK4);go_wp2_with fail
   go_ret
   exact⟨zF HE2.out.symm,HB.out⟩
theorem ZP(w:World)(x:MX)(c:Nat)(hx:uL w x) :
 Calls Tryz.prog 95 #[uE x,.int .i64 (c:Int)] w fun e w'=>e=.returned (.bool (tP x.1 c))/\Below w.heap.size w w':=by
 obtain⟨pa,pc,e1,hp⟩:=hx.sum;obtain⟨ga,gc,e2,hg⟩:=hx.guard;have HP:=zA hg.cel;have zKI:=hx.few2;obtain⟨⟨lab,cc,ps,gd,root⟩,pv,gv⟩:=x;simp only at e1 e2 HP zKI;subst e1 e2;simp only[uE];have HE0:Hid (∀b,gd.any (pW c)=b->tP ⟨lab,cc,ps,gd,root⟩ c=b):=fun b h=>h;generalize tP ⟨lab,cc,ps,gd,root⟩ c=ans at *;clear hx hp hg
 go_enter Tryz.func95,Tryz.ntmps95
 go_wp2_with fail
 generalize hO1:Obj.cells #[.string ⟨lab.toArray⟩,.int .i64 cc,.slice pa ps.length pc,.slice ga gd.length gc,.int .i64 root] 162=O1 at *;clear hO1;have HB0:Hid (Below w.heap.size w (w.alloc O1)):=fj (j1 _) _;generalize w.alloc O1=w0 at *
 go_loopw [10] (fun iv wr=>∃(i:Nat),i<=gd.length/\iv=.int .i64 i/\Hid (Below w.heap.size w wr)/\Hid ((gd.drop i).any (pW c)=gd.any (pW c))) (fun iv _=>gd.length-(intOf iv).toNat)
 case atStart=>exact⟨0,ty _,rfl,HB0,zA rfl⟩
 case round =>
  obtain⟨i,hi,rfl,HB,HE⟩:=hrel;have zKH:=HB.out.size;by_cases zK4:i<gd.length
  ·have ii:(i:Int)<(gd.length:Int):=by omega
   have hpr:=HP.out.below HB.out;obtain⟨gp,rfl,q0⟩:=hpr.at ((zN qL 10 (fun _=>rfl) oN gd i 0 zK4 (by decide)).trans rfl);have hq:=fun j hj v hv=>(hpr.at ((zN qL 10 (fun _=>rfl) oN gd i j zK4 hj).trans hv)).elim fun g' h=>(show gp=g' by simpa using h.1) ▸ (show w.heap.size<=wr.heap.size/\wr.cell? ⟨g',i*10+j,none⟩=some v from ⟨zKH,h.2⟩).2;have q1:=hq 1 (by decide) _ rfl;have q2:=hq 2 (by decide) _ rfl;have q3:=hq 3 (by decide) _ rfl;have q4:=hq 4 (by decide) _ rfl;have q5:=hq 5 (by decide) _ rfl;have q6:=hq 6 (by decide) _ rfl;have q7:=hq 7 (by decide) _ rfl;have q8:=hq 8 (by decide) _ rfl;have q9:=hq 9 (by decide) _ rfl;rw[l6]at q0;have lgp:=yF q0;have mgp:wr.heap.size≠gp:=by omega
   have hE:=HE.out;rw[Zr (pW c) oN gd i zK4]at hE;have HE2:=zA hE;have HBa:Hid (∀o,Below w.heap.size w (wr.alloc o)):=fun o=>HB.out.alloc zKH o;clear HE hE hpr hq;generalize gd.getD i oN=y at *;obtain⟨yk,yl,yr,yp,y2,yo,yn,yb1,yb2,yb3⟩:=y;simp only at q0 q1 q2 q3 q4 q5 q6 q7 q8 q9;unfold pW at HE2;simp only at HE2;have HTr:Hid (∀b,((b || (gd.drop (i+1)).any (pW c))=gd.any (pW c))->b=true->ans=true):=fun b h1 h2=>HE0.out _ (by rw[<-h1,h2];rfl);have HFa:Hid (∀b,((b || (gd.drop (i+1)).any (pW c))=gd.any (pW c))->b=false->(gd.drop (i+1)).any (pW c)=gd.any (pW c)):=fun b h1 h2=>by rw[h2,lu]at h1;exact h1
   by_cases k1:yk=6
   ·subst k1
    simp only[f9]at HE2;by_cases k2:yp=(c:Int)
    ·have HE3:=zA (HTr.out _ HE2.out (tu k2))
     subst k2;clear HTr HFa HE2;go_wp2_with fail
     go_ret
     exact⟨zF HE3.out.symm,HBa.out _⟩
    ·have b2:(yp==(c:Int))=false:=by simpa using k2
     have HE3:=zA (HFa.out _ HE2.out (tq k2));clear k2 HTr HFa HE2;go_wp2_with fail
     go_roundw
     case rel=>exact⟨i+1,by omega,by go_num,zA (HBa.out _),HE3⟩
     case measure=>simp[intOf];omega
   rw[tb k1]at HE2;have b1:(yk==6)=false:=by simpa using k1
   clear k1;by_cases k3:yk=7
   ·subst k3
    simp only[f9]at HE2;by_cases k2:yp=(c:Int)
    ·have HE3:=zA (HTr.out _ HE2.out (by rw[tu k2];rfl))
     subst k2;clear HTr HFa HE2;go_wp2_with fail
     go_ret
     exact⟨zF HE3.out.symm,HBa.out _⟩
    ·have b2:(yp==(c:Int))=false:=by simpa using k2
     rw[tq k2,lu]at HE2;clear k2;cases y2
     ·have HE3:=zA (HFa.out _ HE2.out (by rfl))
      clear HTr HFa HE2;go_wp2_with fail
      go_roundw
      case rel=>exact⟨i+1,by omega,by go_num,zA (HBa.out _),HE3⟩
      case measure=>simp[intOf];omega
     ·by_cases k4:yo=(c:Int)
      ·have HE3:=zA (HTr.out _ HE2.out (by rw[tu k4];rfl))
       subst k4;clear HTr HFa HE2;go_wp2_with fail
       go_ret
       exact⟨zF HE3.out.symm,HBa.out _⟩
      ·have b4:(yo==(c:Int))=false:=by simpa using k4
       have HE3:=zA (HFa.out _ HE2.out (by rw[tq k4];rfl));clear k4 HTr HFa HE2;go_wp2_with fail
       go_roundw
       case rel=>exact⟨i+1,by omega,by go_num,zA (HBa.out _),HE3⟩
       case measure=>simp[intOf];omega
   ·have b3:(yk==7)=false:=by simpa using k3
    have HE3:=zA (HFa.out _ HE2.out (by rw[tb k3]));clear k3 HTr HFa HE2;go_wp2_with fail
    go_roundw
    case rel=>exact⟨i+1,by omega,by go_num,zA (HBa.out _),HE3⟩
    case measure=>simp[intOf];omega
  ·have ii:¬(i:Int)<(gd.length:Int):=by omega
   have HE2:Hid (ans=false):=HE0.out _ (by rw[<-HE.out];exact JZ _ _ _ zK4);go_wp2_with fail
   go_ret
   exact⟨zF HE2.out.symm,HB.out⟩
def G1(i:Nat)(y:qV):Bool:=decide (y.kind=7)&&(!y.two&&decide (y.place=(i:Int)))
def cW(l:List qV)(i:Nat):List Int:=(l.filter (G1 i)).map qV.num
theorem G2(l:List qV)(c i:Nat)(h:i<l.length):cW (l.take (i+1)) c=cW (l.take i) c++(if G1 c (l.getD i oN)=true then [(l.getD i oN).num] else []):=by
 unfold cW;rw[cw,dk,bg];congr 1
 rw[p9 h,show l.getD i oN=l[i] by simp[List.getD,h]];show ([l[i]].filter (G1 c)).map qV.num=_;rw[List.filter_cons,dy];split <;> rfl
theorem zAD(l:List qV)(c:Nat):(cW l c).length<=l.length:=by unfold cW;rw[pi];exact da _ _
theorem Uq(w:World)(x:MX)(c:Nat)(hx:uL w x) :
 Calls Tryz.prog 96 #[uE x,.int .i64 (c:Int)] w fun e w'=>∃v,e=.returned v/\w'.ownsRow w.heap.size 3 1 v (xK x.1 c).length (tT (xK x.1 c))/\Below w.heap.size w w':=by
 obtain⟨i0,hi0,hz0,hz1,hz2⟩:=info_parts fO;obtain⟨pa,pc,e1,hp⟩:=hx.sum;obtain⟨ga,gc,e2,hg⟩:=hx.guard;have HP:=zA hg.cel;have zKI:=hx.few2;obtain⟨⟨lab,cc,ps,gd,root⟩,pv,gv⟩:=x;simp only at e1 e2 HP zKI;subst e1 e2;simp only[uE];have HE0:Hid (xK ⟨lab,cc,ps,gd,root⟩ c=cW gd c):=rfl;rw[HE0.out];clear hx hp hg
 go_enter Tryz.func96,Tryz.ntmps96
 go_wp2_with fail
 generalize hO1:Obj.cells #[.string ⟨lab.toArray⟩,.int .i64 cc,.slice pa ps.length pc,.slice ga gd.length gc,.int .i64 root] 162=O1 at *;clear hO1;have HB0:Hid (Below w.heap.size w (w.alloc O1)):=fj (j1 _) _;have hs0:(w.alloc O1).heap.size=w.heap.size+1:=by simp
 have HO0:Hid (((w.alloc O1).alloc (.cells #[] 3)).ownsRow w.heap.size 3 1 (.slice (some ⟨w.heap.size+1,0,none⟩) 0 0) 0 (tT (cW (gd.take 0) c))):=⟨rfl,.inr ⟨w.heap.size+1,0,#[],rfl,mw _,yW _ _ _ hs0,j1 _,ty _,rfl,rfl⟩⟩;have HB1:Hid (Below w.heap.size w ((w.alloc O1).alloc (.cells #[] 3))):=HB0.out.alloc (by omega) _;generalize (w.alloc O1).alloc (.cells #[] 3)=w0 at *
 go_loopw [5,12] (fun ov iv wr=>∃(i:Nat),i<=gd.length/\iv=.int .i64 i/\Hid (Below w.heap.size w wr)/\Hid (wr.ownsRow w.heap.size 3 1 ov (cW (gd.take i) c).length (tT (cW (gd.take i) c)))) (fun _ iv _=>gd.length-(intOf iv).toNat)
 case atStart=>exact⟨0,ty _,rfl,HB1,HO0⟩
 case round =>
  obtain⟨i,hi,rfl,HB,HO⟩:=hrel;have zKH:=HB.out.size;obtain⟨oa,oc,rfl⟩:=zQ HO.out;have hle:(cW (gd.take i) c).length<=i:=p7 (zAD _ _) (by simp;omega);by_cases zK4:i<gd.length
  ·have ii:(i:Int)<(gd.length:Int):=by omega
   have hpr:=HP.out.below HB.out;obtain⟨gp,rfl,q0⟩:=hpr.at ((zN qL 10 (fun _=>rfl) oN gd i 0 zK4 (by decide)).trans rfl);have hq:=fun j hj v hv=>(hpr.at ((zN qL 10 (fun _=>rfl) oN gd i j zK4 hj).trans hv)).elim fun g' h=>(show gp=g' by simpa using h.1) ▸ (show w.heap.size<=wr.heap.size/\wr.cell? ⟨g',i*10+j,none⟩=some v from ⟨zKH,h.2⟩).2;have q1:=hq 1 (by decide) _ rfl;have q2:=hq 2 (by decide) _ rfl;have q3:=hq 3 (by decide) _ rfl;have q4:=hq 4 (by decide) _ rfl;have q5:=hq 5 (by decide) _ rfl;have q6:=hq 6 (by decide) _ rfl;have q7:=hq 7 (by decide) _ rfl;have q8:=hq 8 (by decide) _ rfl;have q9:=hq 9 (by decide) _ rfl;rw[l6]at q0;have lgp:=yF q0;have mgp:wr.heap.size≠gp:=by omega
   have HBa:Hid (∀o,Below w.heap.size w (wr.alloc o)):=fun o=>HB.out.alloc zKH o;have HOa:Hid (∀o,(wr.alloc o).ownsRow w.heap.size 3 1 (.slice oa (cW (gd.take i) c).length oc) (cW (gd.take i) c).length (tT (cW (gd.take i) c))):=fun o=>HO.out.alloc o;have zKV:=zA (G2 gd c i zK4);have HNo:Hid (G1 c (gd.getD i oN)=false->cW (gd.take (i+1)) c=cW (gd.take i) c):=fun h=>by rw[zKV.out,h];simp
   have HYes:Hid (G1 c (gd.getD i oN)=true->cW (gd.take (i+1)) c=cW (gd.take i) c++[(gd.getD i oN).num]):=fun h=>by rw[zKV.out,tm h]
   clear hpr hq zKV;generalize gd.getD i oN=y at *;obtain⟨yk,yl,yr,yp,y2,yo,yn,yb1,yb2,yb3⟩:=y;unfold G1 at HNo HYes;simp only at q0 q1 q2 q3 q4 q5 q6 q7 q8 q9 HYes HNo;have no:∀(b:Bool),(decide (yk=7)&&(!y2&&decide (yp=(c:Int))))=false->cW (gd.take (i+1)) c=cW (gd.take i) c:=fun _ h=>HNo.out h;have HNO:=zA no;clear no;by_cases k1:yk=7
   ·subst k1
    cases y2
    ·by_cases k2:yp=(c:Int)
     ·have HE3:=zA (HYes.out (by rw[tu k2];rfl))
      subst k2;clear HYes HNo HNO
      go_upto_region 6 with fail
      generalize hOn:Obj.cells #[Value.int .i64 7,.int .i64 yl,.int .i64 yr,.int .i64 (c:Int),.bool false,.int .i64 yo,.int .i64 yn,.bool yb1,.bool yb2,.bool yb3] 263=On at *;have hcn:(wr.alloc On).cell? ⟨wr.heap.size,6,none⟩=some (.int .i64 yn):=by rw[<-hOn];exact(zB (zG _ _) 6).trans rfl
      have HBn:=zA (HBa.out On);have HOn2:=zA (HOa.out On);have hsn:(wr.alloc On).heap.size=wr.heap.size+1:=by simp
      clear hOn;generalize wr.alloc On=wn at *;have hszn:w.heap.size<=wn.heap.size:=by omega
      clear hsn
      go_wp2_with (at_builtin;refine wpList_append_own _ rfl _ _ 22 rfl w.heap.size 3 i0 _ 1 8 Tryz.underlying22 hi0 hz0 hz1 hz2 rfl (by decide) _ _ _ rfl (HOn2.out.alloc _) ⟨wn.heap.size,0,none⟩ 1 1 [.int .i64 yn] rfl rfl ?c1 ?c2 ?c3 ?c4 ?c5 ?_)
      case c1=>exact zM _ _ _ _ rfl
      case c2=>intro u hu;simp at hu;subst hu;rfl
      case c3=>unfold maxLen;omega
      case c4=>omega
      case c5=>simp;omega
      intro v' w5 zKE zK7 _;have HB5:Hid (Below w.heap.size w w5):=(HBn.out.alloc hszn _).grown zK7 (by simp;omega) (zV HOn2.out);have HO5:Hid (w5.ownsRow w.heap.size 3 1 v' (cW (gd.take (i+1)) c).length (tT (cW (gd.take (i+1)) c))):=by unfold Hid;rw[HE3.out,FN,tl];exact zKE
      clear zK7 zKE;go_wp2_with fail
      go_roundw
      case rel=>exact⟨i+1,by omega,by go_num,HB5,HO5⟩
      case measure=>simp[intOf];omega
     ·have b2:(yp==(c:Int))=false:=by simpa using k2
      have HE3:=zA (HNO.out true (by rw[tq k2];simp));clear HYes HNo HNO k2;go_wp2_with fail
      go_roundw
      case rel=>exact⟨i+1,by omega,by go_num,zA (HBa.out _),by rw[HE3.out];exact zA (HOa.out _)⟩
      case measure=>simp[intOf];omega
    ·have HE3:=zA (HNO.out true (by simp))
     clear HYes HNo HNO;go_wp2_with fail
     go_roundw
     case rel=>exact⟨i+1,by omega,by go_num,zA (HBa.out _),by rw[HE3.out];exact zA (HOa.out _)⟩
     case measure=>simp[intOf];omega
   ·have b1:(yk==7)=false:=by simpa using k1
    have HE3:=zA (HNO.out true (by rw[tq k1];rfl));clear HYes HNo HNO k1;go_wp2_with fail
    go_roundw
    case rel=>exact⟨i+1,by omega,by go_num,zA (HBa.out _),by rw[HE3.out];exact zA (HOa.out _)⟩
    case measure=>simp[intOf];omega
  ·have ii:¬(i:Int)<(gd.length:Int):=by omega
   have HE3:Hid (cW (gd.take i) c=cW gd c):=by unfold Hid;rw[du (by omega)]
   go_wp2_with fail
   go_ret
   exact⟨_,rfl,by rw[<-HE3.out];exact HO.out,HB.out⟩
end Go.Proofs.YtnbpdffdnphbeabGreatDoor
