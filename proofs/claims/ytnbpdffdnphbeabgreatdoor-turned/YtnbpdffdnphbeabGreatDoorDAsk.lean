import Derived.Test.YtnbpdffdnphbeabGreatDoorDAbove
import Derived.Maps.AppendAt
import Derived.Test.YtnbpdffdnphbeabGreatDoorMLoad
set_option maxHeartbeats 2000000
set_option maxRecDepth 100000
namespace Go.Proofs.YtnbpdffdnphbeabGreatDoor
open Go.RowKit
variable{cs:Array Value}{z:Int × Int}{zs:List (Int × Int)}{G:List Bool}{rs:List MX}{xs ys:List Value}{ls:List zE}{I:List zO}{x y:MX}{B p a k sc h j np gh m H gi gn nc g:Nat}{fz:Nat × Nat}{has:Nat->Bool}{Z:Nat->Int × Int}{F:Nat->List (Int × Int)}{rk P:Nat->Nat}{f:Nat->Value}{sa na:Option Addr}{t' t:TypeId}{v' sv nv iv:Value}{wr wx w' w wy:World}{e l:xK}
theorem Z9(X:List Int)(h:X≠[]):∃m∈X,∀x∈X,x<=m:=by
 induction X with
 | nil=>exact absurd rfl h
 | cons a r ih =>
   by_cases hr:r=[]
   ·subst hr;exact⟨a,by simp,by simp⟩
   ·obtain⟨m,h1,h2⟩:=ih hr
    by_cases hm:a<=m
    ·exact⟨m,by simp[h1],fun x hx=>by rcases l6.1 hx with rfl|hx;exact hm;exact h2 x hx⟩
    ·exact⟨a,by simp,fun x hx=>by rcases l6.1 hx with rfl|hx;exact lh _;have:=h2 x hx;omega⟩
theorem zIC(L:Int->Int):∀(n:Nat) (X:List Int),X.length<=n->(∀x∈X,L x<=x)->∃g:Int->Int,(∀x∈X,L x<=g x/\g x<=x/\∃y∈X,∃j:Nat,j<X.length/\g x=L y+j)/\∀x∈X,∀y∈X,x<y->g x<g y:=by
 intro n
 induction n with
 | zero =>
   intro X h _;obtain rfl:X=[]:=l9 (by omega);exact⟨id,by simp,by simp⟩
 | succ n ih =>
   intro X h hL;by_cases h0:X=[]
   ·subst h0;exact⟨id,by simp,by simp⟩
   obtain⟨m,hm,hmax⟩:=Z9 X h0
   have hlen:(X.filter fun x=>decide (x<m)).length<X.length:=by
    rcases me (X.filter fun x=>decide (x<m)).length X.length with h1|h1
    ·exact h1
    ·have h2:(X.filter fun x=>decide (x<m)).length=X.length:=Nat.le_antisymm (dj _ _) h1
     have:=List.length_filter_eq_length_iff.1 h2 m hm;simp at this
   obtain⟨g,g1,g2⟩:=ih (X.filter fun x=>decide (x<m)) (by omega) (fun x hx=>hL x (mh.1 hx).1);have zLT:∀x∈X,x<m->x∈X.filter fun x=>decide (x<m):=fun x hx zLL=>mh.2 ⟨hx,by simpa using zLL⟩;generalize hX':(X.filter fun x=>decide (x<m))=X' at *;have hsub:∀x∈X',x∈X/\x<m:=fun x hx=>by rw[<-hX']at hx;have:=mh.1 hx;exact⟨this.1,by simpa using this.2⟩
   have hv:∃v,L m<=v/\v<=m/\(∃y∈X,∃j:Nat,j<X.length/\v=L y+j)/\∀x∈X',g x<v:=by
    by_cases h1:X'=[]
    ·exact⟨L m,lh _,hL m hm,⟨m,hm,0,by omega,by omega⟩,by simp[h1]⟩
    ·obtain⟨M,hM,hM2⟩:=Z9 (X'.map g) (by simpa using h1)
     obtain⟨z,hz,rfl⟩:=p7.1 hM;obtain⟨z1,z2,y,hy,j,hj,hz3⟩:=g1 z hz;have hz4:=(hsub z hz).2;have zM6:∀x∈X',g x<=g z:=fun x hx=>hM2 _ (p7.2 ⟨x,hx,rfl⟩);by_cases h2:g z<L m
     ·exact⟨L m,lh _,hL m hm,⟨m,hm,0,by omega,by omega⟩,fun x hx=>by have:=zM6 x hx;omega⟩
     ·exact⟨g z+1,by omega,by omega,⟨y,(hsub y hy).1,j+1,by omega,by omega⟩,fun x hx=>by have:=zM6 x hx;omega⟩
   obtain⟨v,v1,v2,v3,v4⟩:=hv;refine⟨fun x=>if x<m then g x else v,fun x hx=>?_,fun x hx y hy zLL=>?_⟩
   ·by_cases hxm:x<m
    ·simp only[tl hxm]
     obtain⟨a,b,y,hy,j,hj,e⟩:=g1 x (zLT x hx hxm);exact⟨a,b,y,(hsub y hy).1,j,by omega,e⟩
    ·obtain rfl:x=m:=by have:=hmax x hx;omega
     simp only[tb hxm];exact⟨v1,v2,v3⟩
   ·have h3:=hmax y hy
    by_cases hym:y<m
    ·simp only[tl hym,tl (show x<m by omega)]
     exact g2 x (zLT x hx (by omega)) y (zLT y hy hym) zLL
    ·simp only[tb hym,tl (show x<m by omega)]
     exact v4 x (zLT x hx (by omega))
theorem VN(B:List Int)(x lo:Int)(hlo:lo∈B)(hx:lo<=x):∃l,l<=x/\lo<=l/\(∃b∈B,l=b\/l=b+1)/\∀c∈B,(c<=x->c<=l)/\(c<x->c<l):=by
 by_cases hB:x∈B
 ·exact⟨x,lh _,hx,⟨x,hB,.inl rfl⟩,fun c _=>⟨id,id⟩⟩
 ·obtain⟨m,hm,hmax⟩:=Z9 (B.filter fun b=>decide (b<=x)) (fun h=>by have:lo∈B.filter fun b=>decide (b<=x):=mh.2 ⟨hlo,by simpa using hx⟩;rw[h]at this;simp at this)
  have h1:=mh.1 hm;have h2:m<=x:=by simpa using h1.2
  have h3:m≠x:=fun e=>hB (e ▸ h1.1);have h4:∀c∈B,c<=x->c<=m:=fun c hc hcx=>hmax c (mh.2 ⟨hc,by simpa using hcx⟩);exact⟨m+1,by omega,by have:=h4 lo hlo hx;omega,⟨m,h1.1,.inr rfl⟩,fun c hc=>⟨fun h=>by have:=h4 c hc h;omega,fun h=>by have:=h4 c hc (by omega);omega⟩⟩
theorem moved(B X:List Int)(hlo:∀x∈X,∃lo∈B,lo<=x):∃g:Int->Int,(∀x∈X,g x<=x/\(∃b∈B,∃j:Nat,j<=X.length/\g x=b+j)/\(∀c∈B,(c<=x->c<=g x)/\(x<c ↔ g x<c)/\(x=c ↔ g x=c)))/\∀x∈X,∀y∈X,(x<y ↔ g x<g y)/\(x=y ↔ g x=g y):=by
 have hL:∀x,∃l,x∈X->l<=x/\(∃b∈B,l=b\/l=b+1)/\∀c∈B,(c<=x->c<=l)/\(c<x->c<l):=fun x=>by
  rcases Classical.em (x∈X) with hx|hx
  ·obtain⟨lo,h1,h2⟩:=hlo x hx
   obtain⟨l,a1,_,a3,a4⟩:=VN B x lo h1 h2;exact⟨l,fun _=>⟨a1,a3,a4⟩⟩
  ·exact⟨0,fun h=>absurd h hx⟩
 have hf:∃L:Int->Int,∀x,x∈X->L x<=x/\(∃b∈B,L x=b\/L x=b+1)/\∀c∈B,(c<=x->c<=L x)/\(c<x->c<L x):=⟨fun x=>Classical.choose (hL x),fun x=>Classical.choose_spec (hL x)⟩;obtain⟨L,hLs⟩:=hf;obtain⟨g,g1,g2⟩:=zIC L X.length X (j1 _) (fun x hx=>(hLs x hx).1);refine⟨g,fun x hx=>?_,fun x hx y hy=>?_⟩
 ·obtain⟨a1,a2,y,hy,j,hj,a3⟩:=g1 x hx
  refine⟨a2,?_,fun c hc=>?_⟩
  ·obtain⟨b,hb,hb2⟩:=(hLs y hy).2.1
   rcases hb2 with e|e
   ·exact⟨b,hb,j,by omega,by omega⟩
   ·exact⟨b,hb,j+1,by omega,by omega⟩
  ·obtain⟨c1,c2⟩:=(hLs x hx).2.2 c hc
   refine⟨fun h=>by have:=c1 h;omega,⟨fun h=>by omega,fun h=>?_⟩,⟨fun h=>?_,fun h=>?_⟩⟩
   ·rcases cy x c with h1|h1
    ·exact h1
    ·have:=c1 h1;omega
   ·have:=c1 (by omega);omega
   ·rcases cy c x with h1|h1
    ·have:=c2 h1;omega
    ·omega
 ·have p1:=g2 x hx y hy
  have p2:=g2 y hy x hx;constructor
  ·constructor
   ·exact p1
   ·intro h
    rcases cy x y with h1|h1
    ·exact h1
    ·rcases cy y x with h2|h2
     ·have:=p2 h2;omega
     ·have:x=y:=by omega
      subst this;omega
  ·constructor
   ·intro h;rw[h]
   ·intro h
    rcases cy x y with h1|h1
    ·have:=p1 h1;omega
    ·rcases cy y x with h2|h2
     ·have:=p2 h2;omega
     ·omega
def kF(z:Int × Int)(b:Int):List (Int × Int) :=
 if b<z.1\/z.2<b then [z] else ((if z.1<b then [(z.1,b-1)] else [])++[(b,b)])++(if b<z.2 then [(b+1,z.2)] else [])
def vH(zs:List (Int × Int))(b:Int):List (Int × Int):=zs.flatMap fun z=>kF z b
def xQ(zs:List (Int × Int))(bs:List Int):List (Int × Int):=bs.foldl vH zs
def gX(lo hi:Int)(b1 b2:List Int):List (Int × Int):=xQ (xQ [(lo,hi)] b1) b2
def zCJ(z:Int × Int)(b:Int):Prop:=z.2<b\/(z.1=b/\z.2=b)\/b<z.1
theorem nE{x:Int × Int}{b:Int}(h:x∈kF z b):z.1<=x.1/\x.2<=z.2/\zCJ x b:=by
 unfold kF at h;unfold zCJ;by_cases h1:b<z.1\/z.2<b
 ·rw[tl h1]at h;simp at h;subst h;omega
 ·rw[tb h1]at h
  simp only[pt,pu]at h;rcases h with (h|h)|h
  ·by_cases h2:z.1<b
   ·rw[tl h2]at h;simp at h;subst h;simp;omega
   ·rw[tb h2]at h;simp at h
  ·subst h;simp;omega
  ·by_cases h2:b<z.2
   ·rw[tl h2]at h;simp at h;subst h;simp;omega
   ·rw[tb h2]at h;simp at h
theorem JR{b y:Int}(h:z.1<=y/\y<=z.2):∃x∈kF z b,x.1<=y/\y<=x.2:=by
 unfold kF;by_cases h1:b<z.1\/z.2<b
 ·rw[tl h1];exact⟨z,by simp,h⟩
 ·rw[tb h1]
  rcases Int.lt_trichotomy y b with h2|h2|h2
  ·exact⟨(z.1,b-1),by simp[show z.1<b by omega],by simp;omega⟩
  ·exact⟨(b,b),by simp,by simp;omega⟩
  ·exact⟨(b+1,z.2),by simp[show b<z.2 by omega],by simp;omega⟩
structure zHJ(lo hi:Int)(bs:List Int)(zs:List (Int × Int)):Prop where
 sub:∀z∈zs,lo<=z.1/\z.2<=hi
 cover:∀y,lo<=y->y<=hi->∃z∈zs,z.1<=y/\y<=z.2
 side:∀z∈zs,∀b∈bs,∀y,z.1<=y->y<=z.2->∀x,z.1<=x->x<=z.2->(x<b ↔ y<b)/\(x=b ↔ y=b)
theorem zHJ.split{lo hi:Int}{bs:List Int}(h:zHJ lo hi bs zs)(b:Int):zHJ lo hi (bs++[b]) (vH zs b):=by
 refine⟨fun z hz=>?_,fun y h1 h2=>?_,fun z hz c hc y h1 h2 x h3 h4=>?_⟩
 ·obtain⟨z0,hz0,hz1⟩:=bj.1 hz
  have:=h.sub z0 hz0;have:=nE hz1;omega
 ·obtain⟨z,hz,hy⟩:=h.cover y h1 h2
  obtain⟨x,hx,hxy⟩:=JR (b:=b) hy;exact⟨x,bj.2 ⟨z,hz,hx⟩,hxy⟩
 ·obtain⟨z0,hz0,hz1⟩:=bj.1 hz
  have hs:=nE hz1;rcases pt.1 hc with hc|hc
  ·exact h.side z0 hz0 c hc y (by omega) (by omega) x (by omega) (by omega)
  ·simp at hc;subst hc
   have:=hs.2.2;unfold zCJ at this;omega
theorem zHJ.splits{lo hi:Int}(b2:List Int):∀ {bs:List Int} {zs:List (Int × Int)},zHJ lo hi bs zs->zHJ lo hi (bs++b2) (xQ zs b2):=by
 induction b2 with
 | nil=>intro bs zs h;simpa[xQ] using h
 | cons b r ih =>
   intro bs zs h;have:=ih (h.split b);rw[pr]at this;exact this
theorem YJ(lo hi:Int)(b1 b2:List Int):zHJ lo hi (b1++b2) (gX lo hi b1 b2):=by
 have h0:zHJ lo hi [] [(lo,hi)]:=⟨fun z hz=>by simp at hz;subst hz;simp,fun y h1 h2=>⟨(lo,hi),by simp,h1,h2⟩,fun z _ b hb=>by simp at hb⟩;have:=(h0.splits b1).splits b2;unfold gX;simpa using this
theorem CB{α:Type}(p q:α->Bool)(h:∀x,¬(p x=true/\q x=true))(l:List α):(l.filter p).length+(l.filter q).length<=l.length:=by
 induction l with
 | nil=>simp
 | cons x r ih =>
   have hx:=h x;cases hp:p x <;> cases hq:q x <;> simp[hp,hq]at hx ⊢ <;> omega
theorem FS9(l:List Int):∃T:List Int,T.Pairwise (· < ·)/\(∀x,x∈T ↔ x∈l)/\T.length<=l.length:=by
 induction l with
 | nil=>exact⟨[],List.Pairwise.nil,fun x=>Iff.rfl,j1 _⟩
 | cons a r ih =>
   obtain⟨T,h1,h2,h3⟩:=ih;refine⟨T.filter (fun x=>decide (x<a))++a::T.filter (fun x=>decide (a<x)),?_,fun x=>?_,?_⟩
   ·rw[List.pairwise_append,List.pairwise_cons]
    refine⟨h1.filter _,⟨fun x hx=>by simpa using (mh.1 hx).2,h1.filter _⟩,fun x hx y hy=>?_⟩;have hx2:x<a:=by simpa using (mh.1 hx).2
    rcases l6.1 hy with rfl|hy
    ·exact hx2
    ·have:a<y:=by simpa using (mh.1 hy).2
     omega
   ·simp only[pt,l6,mh,po,h2]
    constructor
    ·rintro(h|h|h)
     ·exact .inr h.1
     ·exact .inl h
     ·exact .inr h.1
    ·rintro(h|h)
     ·exact .inr (.inl h)
     ·rcases Int.lt_trichotomy x a with h4|h4|h4
      ·exact .inl ⟨h,h4⟩
      ·exact .inr (.inl h4)
      ·exact .inr (.inr ⟨h,h4⟩)
   ·have:=CB (fun x:Int=>decide (x<a)) (fun x=>decide (a<x)) (fun x=>by simp;omega) T
    simp;omega
structure mQ where
 lo:Int
 hi:Int
 rank:Nat
def qH(r:Nat):List mQ->Int × Int->Int × Int
 | [],s=>s
 | n::L,s=>qH r L (if n.rank=r then (if s.1<n.lo then n.lo else s.1,if n.hi<s.2 then n.hi else s.2) else s)
def vW(L:List mQ)(r:Nat):Int × Int:=qH r L (0,9999)
def bT(r:Nat):List mQ->Nat
 | []=>0
 | n::L=>(if n.rank=r then 1 else 0)+bT r L
def Zz(L:List mQ):Nat->Nat->Int->Nat->List Int->Option (List Int)
 | 0,_,_,_,out=>some out
 | f+1,r,vF,placed,out =>
   if placed=L.length then some out
   else if (vW L r).2<(if (vW L r).1<vF then vF else (vW L r).1) then none
   else if bT r L=0 then none
   else Zz L f (r+1) ((if (vW L r).1<vF then vF else (vW L r).1)+1) (placed+bT r L) (out++[if (vW L r).1<vF then vF else (vW L r).1])
def dL(L:List mQ):Option (List Int):=Zz L L.length 0 0 0 []
theorem eI(r:Nat)(L:List mQ):∀s,s.1<=(qH r L s).1/\(qH r L s).2<=s.2/\∀n∈L,n.rank=r->n.lo<=(qH r L s).1/\(qH r L s).2<=n.hi:=by
 induction L with
 | nil=>intro s;exact⟨lh _,lh _,fun n hn=>by simp at hn⟩
 | cons m L ih =>
   intro s;rw[qH];obtain⟨h1,h2,h3⟩:=ih (if m.rank=r then (if s.1<m.lo then m.lo else s.1,if m.hi<s.2 then m.hi else s.2) else s);by_cases hr:m.rank=r
   ·rw[tl hr]at h1 h2 h3 ⊢
    generalize qH r L (if s.1<m.lo then m.lo else s.1,if m.hi<s.2 then m.hi else s.2)=q at h1 h2 h3 ⊢;simp only at h1 h2;refine⟨by split at h1 <;> omega,by split at h2 <;> omega,fun n hn hnr=>?_⟩;rcases l6.1 hn with rfl|hn
    ·exact⟨by split at h1 <;> omega,by split at h2 <;> omega⟩
    ·exact h3 n hn hnr
   ·rw[tb hr]at h1 h2 h3 ⊢
    refine⟨h1,h2,fun n hn hnr=>?_⟩;rcases l6.1 hn with rfl|hn
    ·exact absurd hnr hr
    ·exact h3 n hn hnr
theorem Bl(r:Nat)(v:Int)(L:List mQ):∀s:Int × Int,s.1<=v->v<=s.2->(∀n∈L,n.rank=r->n.lo<=v/\v<=n.hi)->(qH r L s).1<=v/\v<=(qH r L s).2:=by
 induction L with
 | nil=>intro s h1 h2 _;exact⟨h1,h2⟩
 | cons m L ih =>
   intro s h1 h2 h;rw[qH];by_cases hr:m.rank=r
   ·rw[tl hr]
    have:=h m (by simp) hr;exact ih _ (by simp only;split <;> omega) (by simp only;split <;> omega) fun n hn=>h n (by simp[hn])
   ·rw[tb hr];exact ih _ h1 h2 fun n hn=>h n (by simp[hn])
def pO(r:Nat):List mQ->Nat
 | []=>0
 | n::L=>(if n.rank<r then 1 else 0)+pO r L
theorem iA(r:Nat)(L:List mQ):pO (r+1) L=pO r L+bT r L:=by
 induction L with
 | nil=>rfl
 | cons n L ih=>rw[pO,pO,bT,ih];split <;> split <;> split <;> omega
theorem eY(L:List mQ):pO 0 L=0:=by
 induction L with
 | nil=>rfl
 | cons n L ih=>rw[pO,ih];simp
theorem ZO(r:Nat)(L:List mQ):pO r L<=L.length/\((∀n∈L,n.rank<r)->pO r L=L.length):=by
 induction L with
 | nil=>simp[pO]
 | cons n L ih =>
   rw[pO,p9];refine⟨by have:=ih.1;split <;> omega,fun h=>?_⟩;rw[ih.2 fun m hm=>h m (by simp[hm]),tl (h n (by simp))];omega
theorem zC1{r:Nat}{L:List mQ}(h:∃n∈L,n.rank=r):bT r L≠0:=by
 induction L with
 | nil=>obtain⟨n,hn,_⟩:=h;simp at hn
 | cons m L ih =>
   obtain⟨n,hn,hr⟩:=h;rw[bT];rcases l6.1 hn with rfl|hn
   ·rw[tl hr];omega
   ·have:=ih ⟨n,hn,hr⟩;omega
structure Qq(L:List mQ)(r:Nat)(vF:Int)(out:List Int):Prop where
 len:out.length=r
 zone:∀n∈L,n.rank<r->n.lo<=out.getD n.rank 0/\out.getD n.rank 0<=n.hi
 up:∀a b,a<b->b<r->out.getD a 0<out.getD b 0
 last:∀a,a<r->out.getD a 0<vF
theorem Qq.snoc{L:List mQ}{r:Nat}{vF v:Int}{out:List Int}(h:Qq L r vF out)(hv:vF<=v)(hz:∀n∈L,n.rank=r->n.lo<=v/\v<=n.hi):Qq L (r+1) (v+1) (out++[v]):=by
 have hl:=h.len;have e1:∀a,a<r->(out++[v]).getD a 0=out.getD a 0:=fun a ha=>by simp[List.getD,mu (show a<out.length by omega)]
 have e2:(out++[v]).getD r 0=v:=by simp[List.getD,<-hl]
 refine⟨by simp[hl],fun n hn hr=>?_,fun a b hab hb=>?_,fun a ha=>?_⟩
 ·by_cases hr2:n.rank<r
  ·rw[e1 _ hr2];exact h.zone n hn hr2
  ·have hr3:n.rank=r:=by omega
   rw[hr3,e2];exact hz n hn hr3
 ·by_cases hb2:b<r
  ·rw[e1 _ hb2,e1 _ (by omega)];exact h.up a b hab hb2
  ·have hb3:b=r:=by omega
   rw[hb3,e2,e1 _ (by omega)];have:=h.last a (by omega);omega
 ·by_cases ha2:a<r
  ·rw[e1 _ ha2];have:=h.last a ha2;omega
  ·have ha3:a=r:=by omega
   rw[ha3,e2];omega
theorem Br(L:List mQ):∀f r vF placed out,placed=pO r L->Qq L r vF out->∀o,Zz L f r vF placed out=some o->∃r' l',r<=r'/\(r'=r+f\/pO r' L=L.length)/\Qq L r' l' o:=by
 intro f
 induction f with
 | zero=>intro r vF placed out _ h o ho;rw[Zz]at ho;obtain rfl:=Option.some.inj ho;exact⟨r,vF,j1 _,.inl rfl,h⟩
 | succ f ih =>
   intro r vF placed out hp h o ho;rw[Zz]at ho;by_cases h1:placed=L.length
   ·rw[tl h1]at ho;obtain rfl:=Option.some.inj ho;exact⟨r,vF,j1 _,.inr (by rw[<-hp,h1]),h⟩
   ·rw[tb h1]at ho
    have hg:=eI r L (0,9999);have hs:qH r L (0,9999)=vW L r:=rfl;rw[hs]at hg;generalize hv:(if (vW L r).1<vF then vF else (vW L r).1)=v at ho;have hv2:vF<=v/\(vW L r).1<=v:=by rw[<-hv];split <;> omega
    by_cases h2:(vW L r).2<v
    ·rw[tl h2]at ho;exact absurd ho (by simp)
    ·rw[tb h2]at ho
     by_cases h3:bT r L=0
     ·rw[tl h3]at ho;exact absurd ho (by simp)
     ·rw[tb h3]at ho
      obtain⟨r',l',q1,q2,q3⟩:=ih (r+1) (v+1) _ _ (by rw[iA,hp]) (h.snoc hv2.1 fun n hn hr=>by have:=hg.2.2 n hn hr;omega) o ho;exact⟨r',l',by omega,by rcases q2 with q2|q2;exact .inl (by omega);exact .inr q2,q3⟩
theorem iB{r:Nat}{L:List mQ}(h:pO r L=L.length):∀n∈L,n.rank<r:=by
 induction L with
 | nil=>intro n hn;simp at hn
 | cons m L ih =>
   rw[pO,p9]at h;have hl:=(ZO r L).1;intro n hn;by_cases hm:m.rank<r
   ·rw[tl hm]at h
    rcases l6.1 hn with rfl|hn
    ·exact hm
    ·exact ih (by omega) n hn
   ·rw[tb hm]at h;omega
theorem Xf{L:List mQ}(hr:∀n∈L,n.rank<L.length){o:List Int}(h:dL L=some o):∀n∈L,n.lo<=o.getD n.rank 0/\o.getD n.rank 0<=n.hi:=by
 obtain⟨r',l',_,h2,h3⟩:=Br L L.length 0 0 0 [] (eY L).symm ⟨rfl,fun n _ h=>absurd h (by omega),fun a b _ h=>absurd h (by omega),fun a h=>absurd h (by omega)⟩ o h;intro n hn;refine h3.zone n hn ?_;rcases h2 with h2|h2
 ·have:=hr n hn;omega
 ·exact iB h2 n hn
theorem Ga(L:List mQ)(T:List Int)(hT:T.Pairwise (· < ·))(zLT:∀n∈L,n.rank<T.length/\n.lo<=T.getD n.rank 0/\T.getD n.rank 0<=n.hi)(zM6:∀r,r<T.length->∃n∈L,n.rank=r)(h0:∀x∈T,0<=x/\x<=9999) :
 ∀f r vF placed out,T.length-r<=f->placed=pO r L->r<=T.length->(r<T.length->vF<=T.getD r 0)->Qq L r vF out->∃o l',Zz L f r vF placed out=some o/\Qq L T.length l' o:=by
 intro f
 induction f with
 | zero=>intro r vF placed out hf _ hr _ h;obtain rfl:r=T.length:=by omega
         exact⟨out,vF,by rw[Zz],h⟩
 | succ f ih =>
   intro r vF placed out hf hp hr hl h;by_cases zLL:r<T.length
   ·obtain⟨n0,hn0,hr0⟩:=zM6 r zLL
    have hpl:placed≠L.length:=fun e=>by
     have:=iB (r:=r) (L:=L) (by rw[<-hp,e]) n0 hn0;omega
    have hm:T.getD r 0∈T:=by simp[List.getD,zLL]
    have hle:=Bl r (T.getD r 0) L (0,9999) (h0 _ hm).1 (h0 _ hm).2 fun n hn hnr=>by have:=zLT n hn;rw[hnr]at this;exact this.2
    have hg:=eI r L (0,9999);have hs:qH r L (0,9999)=vW L r:=rfl;rw[hs]at hle hg;rw[Zz,tb hpl];generalize hv:(if (vW L r).1<vF then vF else (vW L r).1)=v;have hll:=hl zLL;have hv2:vF<=v/\(vW L r).1<=v/\v<=T.getD r 0:=by rw[<-hv];split <;> omega
    rw[tb (by omega),tb (zC1 ⟨n0,hn0,hr0⟩)];refine ih (r+1) (v+1) _ _ (by omega) (by rw[iA,hp]) zLL (fun h2=>?_) (h.snoc hv2.1 fun n hn hnr=>by have:=hg.2.2 n hn hnr;omega)
    have:T.getD r 0<T.getD (r+1) 0:=by
     have:=List.pairwise_iff_getElem.1 hT r (r+1) zLL h2 (by omega);simpa[List.getD,zLL,h2] using this
    omega
   ·obtain rfl:r=T.length:=by omega
    have:placed=L.length:=by rw[hp];exact(ZO _ L).2 fun n hn=>(zLT n hn).1
    exact⟨out,vF,by rw[Zz,tl this],h⟩
theorem D3{T:List Int}(hT:T.Pairwise (· < ·)){b:Nat}(ha:a<T.length)(hb:b<T.length):(T.getD a 0<T.getD b 0 ↔ a<b)/\(T.getD a 0=T.getD b 0->a=b):=by
 have key:∀a b,a<T.length->b<T.length->a<b->T.getD a 0<T.getD b 0:=fun a b ha hb hab=>by
  have:=List.pairwise_iff_getElem.1 hT a b ha hb hab;simpa[List.getD,ha,hb] using this
 have h1:=key a b ha hb;have h2:=key b a hb ha;rcases Nat.lt_trichotomy a b with h|h|h
 ·have:=h1 h;omega
 ·subst h;simp
 ·have:=h2 h;omega
def fS(Z:List (Int × Int))(rk:List Nat):List mQ:=(List.range Z.length).map fun i=>⟨(Z.getD i (0,0)).1,(Z.getD i (0,0)).2,rk.getD i 0⟩
theorem Jc(Z:List (Int × Int))(rk:List Nat):(fS Z rk).length=Z.length:=by simp[fS]
theorem Jb{Z:List (Int × Int)}{rk:List Nat}{n:mQ}(h:n∈fS Z rk):∃i,i<Z.length/\n=⟨(Z.getD i (0,0)).1,(Z.getD i (0,0)).2,rk.getD i 0⟩:=by
 obtain⟨i,hi,rfl⟩:=p7.1 h;exact⟨i,by simpa using hi,rfl⟩
theorem Vu{Z:List (Int × Int)}(rk:List Nat){i:Nat}(hi:i<Z.length):(⟨(Z.getD i (0,0)).1,(Z.getD i (0,0)).2,rk.getD i 0⟩:mQ)∈fS Z rk:=p7.2 ⟨i,by simpa using hi,rfl⟩
theorem FY(Z:List (Int × Int))(y:List Int)(hl:y.length=Z.length)(h:∀i,i<Z.length->(Z.getD i (0,0)).1<=y.getD i 0/\y.getD i 0<=(Z.getD i (0,0)).2)(h0:∀x∈y,0<=x/\x<=9999) :
 ∃rk:List Nat,rk.length=Z.length/\(∀r∈rk,r<Z.length)/\∃o,dL (fS Z rk)=some o/\∀i j,i<Z.length->j<Z.length->(o.getD (rk.getD i 0) 0<o.getD (rk.getD j 0) 0 ↔ y.getD i 0<y.getD j 0):=by
 obtain⟨T,hT,hm,hlen⟩:=FS9 y
 have hex:∀x∈y,∃r,r<T.length/\T.getD r 0=x:=fun x hx=>by
  obtain⟨r,hr,e⟩:=cw ((hm x).2 hx);exact⟨r,hr,by simp[List.getD,hr,e]⟩
 obtain⟨g,hg⟩:∃g:Int->Nat,∀x∈y,g x<T.length/\T.getD (g x) 0=x:=by
  refine⟨fun x=>if hx:x∈y then Classical.choose (hex x hx) else 0,fun x hx=>?_⟩;simp only[hx,dite_true];exact Classical.choose_spec (hex x hx)
 have hyi:∀i,i<Z.length->y.getD i 0∈y:=fun i hi=>by simp[List.getD,show i<y.length by omega]
 have hri:∀i,i<Z.length->(y.map g).getD i 0=g (y.getD i 0):=fun i hi=>by simp[List.getD,show i<y.length by omega]
 refine⟨y.map g,by simp[hl],fun r hr=>?_,?_⟩
 ·obtain⟨x,hx,rfl⟩:=p7.1 hr
  have:=(hg x hx).1;omega
 have zLT:∀n∈fS Z (y.map g),n.rank<T.length/\n.lo<=T.getD n.rank 0/\T.getD n.rank 0<=n.hi:=fun n hn=>by
  obtain⟨i,hi,rfl⟩:=Jb hn;simp only;rw[hri i hi];have h1:=hg _ (hyi i hi);rw[h1.2];exact⟨h1.1,h i hi⟩
 have zM6:∀r,r<T.length->∃n∈fS Z (y.map g),n.rank=r:=fun r hr=>by
  have hx:T.getD r 0∈y:=(hm _).1 (by simp[List.getD,hr]);obtain⟨i,hi,e⟩:=cw hx;have hi2:i<Z.length:=by omega
  refine⟨_,Vu (y.map g) hi2,?_⟩;simp only;rw[hri i hi2];have e2:y.getD i 0=T.getD r 0:=by simp[List.getD,hi,e]
  have h1:=hg _ (hyi i hi2);rw[e2]at h1 ⊢;exact(D3 hT h1.1 hr).2 h1.2
 obtain⟨o,l',ho,zLW⟩:=Ga (fS Z (y.map g)) T hT zLT zM6 (fun x hx=>h0 x ((hm x).1 hx)) (fS Z (y.map g)).length 0 0 0 [] (by rw[Jc];omega) (eY _).symm (tx _) (fun hh=>(h0 _ ((hm _).1 (by simp[List.getD,hh]))).1) ⟨rfl,fun n _ h=>absurd h (by omega),fun a b _ h=>absurd h (by omega),fun a h=>absurd h (by omega)⟩;refine⟨o,ho,fun i j hi hj=>?_⟩;rw[hri i hi,hri j hj];have a1:=hg _ (hyi i hi);have a2:=hg _ (hyi j hj);have hp:=(D3 hT a1.1 a2.1).1;rw[a1.2,a2.2]at hp;rw[hp];constructor
 ·intro h3
  rcases Nat.lt_trichotomy (g (y.getD i 0)) (g (y.getD j 0)) with h4|h4|h4
  ·exact h4
  ·rw[h4]at h3;omega
  ·have:=zLW.up _ _ h4 a1.1;omega
 ·intro h3;exact zLW.up _ _ h3 a2.1
def zCS(R:Nat->Nat->Prop)(i k:Nat):Prop:=R i k/\∀i' k',R i' k'->i<i'\/(i=i'/\k<=k')
structure zHM(r:xK)(s s':yZ):Prop where
 sum:∀p∈r.sum,p.kind=3->kY s.has p.place=kY s'.has p.place
 has:∀y∈r.guard,y.kind=5->kY s.has y.place=kY s'.has y.place
 flag:∀y∈r.guard,y.kind=6->(qK s.inputs y.place=1 ↔ qK s'.inputs y.place=1)
 cmp:∀y∈r.guard,y.kind=7->QJ y s=QJ y s'
theorem x8{r:xK}{s s':yZ}(h:zHM r s s'):kB r s=kB r s':=by
 have h1:jH s r.sum=jH s' r.sum:=by
  unfold jH
  exact JE fun p hp=>by
   by_cases k:p.kind=3
   ·rw[h.sum p hp k]
   ·rw[tu k];rfl
 have h2:∀(N:List kE) hs,(∀y∈N,y∈r.guard)->dB s N hs=dB s' N hs:=by
  intro N
  induction N with
  | nil=>intro hs _;rfl
  | cons y t ih =>
    intro hs hy;rw[dB,dB];have hm:=hy y (by simp)
    have e:KP y s hs=KP y s' hs:=by
     unfold KP;by_cases k5:y.kind=5
     ·simp only[k5];exact h.has y hm k5
     ·by_cases k6:y.kind=6
      ·have:=h.flag y hm k6
       have e6:decide (qK s.inputs y.place=1)=decide (qK s'.inputs y.place=1):=by rw[ct];simpa using this
       rw[e6];simp[k6]
      ·by_cases k7:y.kind=7
       ·rw[h.cmp y hm k7];simp[k7]
       ·simp[k5,k6,k7]
    rw[e];exact ih _ fun z hz=>hy z (by simp[hz])
 unfold kB;rw[h1,h2 r.guard [] fun y hy=>hy]
def mC(r:xK)(c:Nat):Bool:=r.sum.any fun p=>decide (p.kind=3)&&decide (p.place=(c:Int))
def vR(r:xK)(c:Nat):Bool:=r.guard.any fun y=>decide (y.kind=5)&&decide (y.place=(c:Int))
def tT(r:xK)(i:Nat):Bool:=r.guard.any fun y=>if y.kind=6 then decide (y.place=(i:Int)) else if y.kind=7 then decide (y.place=(i:Int)) || (y.two&&decide (y.other=(i:Int))) else false
def xO(r:xK)(i:Nat):List Int:=(r.guard.filter fun y=>decide (y.kind=7)&&(!y.two&&decide (y.place=(i:Int)))).map kE.num
theorem JC{r:xK}{s:yZ}(h:kB r s=true){c:Nat}(hc:mC r c=true):kY s.has (c:Int)=true:=by
 unfold kB at h;rw[pe]at h;obtain⟨p,hp,h1⟩:=ma.1 hc;rw[pe,po,po]at h1;have h2:=List.all_eq_true.1 h.1 p hp;rw[h1.2,tr h1.1]at h2;simpa using h2
structure zCX(r:xK)(isNum:Nat->Bool)(s s':yZ):Prop where
 len:s.inputs.length=s'.inputs.length
 has:∀c:Nat,(mC r c || vR r c)=true->kY s.has (c:Int)=kY s'.has (c:Int)
 flag:∀i:Nat,i<s.inputs.length->tT r i=true->isNum i=false->s.inputs.getD i 0=s'.inputs.getD i 0
 side:∀i:Nat,i<s.inputs.length->isNum i=true->∀b∈xO r i,(s.inputs.getD i 0<b ↔ s'.inputs.getD i 0<b)/\(s.inputs.getD i 0=b ↔ s'.inputs.getD i 0=b)
 order:∀i j:Nat,i<s.inputs.length->j<s.inputs.length->tT r i=true->tT r j=true->isNum i=true->isNum j=true->(s.inputs.getD i 0<s.inputs.getD j 0 ↔ s'.inputs.getD i 0<s'.inputs.getD j 0)
structure iJ(r:xK)(n:Nat)(isNum:Nat->Bool):Prop where
 flag:∀y∈r.guard,y.kind=6->∃i,i<n/\y.place=(i:Nat)/\isNum i=false
 cmp:∀y∈r.guard,y.kind=7->∃i,i<n/\y.place=(i:Nat)/\isNum i=true
 two:∀y∈r.guard,y.kind=7->y.two=true->∃i,i<n/\y.other=(i:Nat)/\isNum i=true
theorem DM{l:List Bool}{a:Int}(h:a<0):kY l a=false:=by unfold kY;rw[tu (by omega)];rfl
theorem sU{l:List Int}{i:Nat}(h:i<l.length):qK l (i:Int)=l.getD i 0:=by unfold qK;rw[tl ⟨by omega,by omega⟩];rfl
theorem CR{r:xK}{isNum:Nat->Bool}{s s':yZ}(hp:iJ r s.inputs.length isNum)(h:zCX r isNum s s'):zHM r s s':=by
 have hT:∀a:Int,(∀c:Nat,a=(c:Int)->(mC r c || vR r c)=true)->kY s.has a=kY s'.has a:=fun a ha=>by
  rcases cy a 0 with h0|h0
  ·rw[DM h0,DM h0]
  ·obtain⟨c,rfl⟩:∃c:Nat,a=(c:Int):=⟨a.toNat,by omega⟩
   exact h.has c (ha c rfl)
 refine⟨fun p hpm k=>hT _ fun c e=>?_,fun y hy k=>hT _ fun c e=>?_,fun y hy k=>?_,fun y hy k=>?_⟩
 ·rw[bg];exact .inl (ma.2 ⟨p,hpm,by simp[k,e]⟩)
 ·rw[bg];exact .inr (ma.2 ⟨y,hy,by simp[k,e]⟩)
 ·obtain⟨i,hi,e,hn⟩:=hp.flag y hy k
  rw[e,sU hi,sU (by rw[<-h.len];exact hi),h.flag i hi (ma.2 ⟨y,hy,by simp[k,e]⟩) hn]
 ·obtain⟨i,hi,e,hn⟩:=hp.cmp y hy k
  have ha:tT r i=true:=ma.2 ⟨y,hy,by simp[k,e]⟩;unfold QJ;rw[e,sU hi,sU (show i<s'.inputs.length by rw[<-h.len];exact hi)];cases h2:y.two
  ·have hb:y.num∈xO r i:=p7.2 ⟨y,mh.2 ⟨hy,by simp[k,h2,e]⟩,rfl⟩
   have hs:=h.side i hi hn _ hb;simp only[Bool.false_eq_true,if_false];generalize s.inputs.getD i 0=a at *;generalize s'.inputs.getD i 0=a' at *;by_cases c1:a<y.num
   ·rw[tl c1,tl (hs.1.1 c1)]
   ·rw[tb c1,tb (fun c=>c1 (hs.1.2 c))]
    by_cases c2:y.num<a
    ·rw[tl c2,tl (by omega)]
    ·rw[tb c2,tb (by omega)]
  ·obtain⟨j,hj,e2,hn2⟩:=hp.two y hy k h2
   have ha2:tT r j=true:=ma.2 ⟨y,hy,by simp[k,h2,e2]⟩;have o1:=h.order i j hi hj ha ha2 hn hn2;have o2:=h.order j i hj hi ha2 ha hn2 hn;simp only[dw];rw[e2,sU hj,sU (show j<s'.inputs.length by rw[<-h.len];exact hj)];generalize s.inputs.getD i 0=a at *;generalize s'.inputs.getD i 0=a' at *;generalize s.inputs.getD j 0=b at *;generalize s'.inputs.getD j 0=b' at *;by_cases c1:a<b
   ·rw[tl c1,tl (o1.1 c1)]
   ·rw[tb c1,tb (fun c=>c1 (o1.2 c))]
    by_cases c2:b<a
    ·rw[tl c2,tl (o2.1 c2)]
    ·rw[tb c2,tb (fun c=>c2 (o2.2 c))]
theorem JF{r:xK}{isNum:Nat->Bool}{s s':yZ}(hp:iJ r s.inputs.length isNum)(h:zCX r isNum s s'):kB r s=kB r s':=x8 (CR hp h)
theorem VI{α:Type}(d:α)(P:Nat->α->Prop):∀n,(∀p,p<n->∃z,P p z)->∃Z:List α,Z.length=n/\∀p,p<n->P p (Z.getD p d):=by
 intro n
 induction n with
 | zero=>intro _;exact⟨[],rfl,fun p h=>absurd h (by omega)⟩
 | succ n ih =>
   intro h;obtain⟨Z,h1,h2⟩:=ih fun p hp=>h p (by omega);obtain⟨z,hz⟩:=h n (by omega);refine⟨Z++[z],by simp[h1],fun p hp=>?_⟩;by_cases hp2:p<n
   ·have:(Z++[z]).getD p d=Z.getD p d:=by simp[List.getD,mu (show p<Z.length by omega)]
    rw[this];exact h2 p hp2
   ·obtain rfl:p=n:=by omega
    have:(Z++[z]).getD p d=z:=by simp[List.getD,<-h1]
    rw[this];exact hz
def kR(I:List zO)(i:Nat):zO:=I.getD i wK
def vB(I:List zO)(i:Nat):Bool := !(kR I i).isFlag
structure ZZ(I:List zO)(H:Nat)(y:yZ):Prop where
 inl:y.inputs.length=I.length
 hal:y.has.length=H
 num:∀i,i<I.length->vB I i=true->(kR I i).low<=y.inputs.getD i 0/\y.inputs.getD i 0<=(kR I i).high
 flag:∀i,i<I.length->vB I i=false->y.inputs.getD i 0=0\/y.inputs.getD i 0=1
def qQ(e l:xK)(i:Nat):Bool:=tT e i || tT l i
def uH(e l:xK)(c:Nat):Bool:=mC e c || mC l c
def xU(I:List zO)(e l:xK):List Nat:=(List.range I.length).filter fun i=>qQ e l i&&vB I i
theorem pY{i:Nat}:i∈xU I e l ↔ i<I.length/\qQ e l i=true/\vB I i=true:=by
 unfold xU;rw[mh,pm,pe]
theorem nJ(h:p<(xU I e l).length):(xU I e l).getD p 0∈xU I e l:=by simp[List.getD,h]
theorem Y7{i:Nat}(hi:i<I.length)(ha:qQ e l i=true)(hn:vB I i=true):∃p,p<(xU I e l).length/\(xU I e l).getD p 0=i:=by
 obtain⟨p,hp,e⟩:=cw (pY.2 ⟨hi,ha,hn⟩);exact⟨p,hp,by simp[List.getD,hp,e]⟩
def tF(I:List zO)(e l:xK)(i:Nat):List (Int × Int):=gX (kR I i).low (kR I i).high (xO e i) (xO l i)
structure zHL(I:List zO)(e l:xK)(rk:List Nat)(o:List Int)(y t:yZ):Prop where
 inl:t.inputs.length=I.length
 num:∀p,p<(xU I e l).length->t.inputs.getD ((xU I e l).getD p 0) 0=o.getD (rk.getD p 0) 0
 flag:∀i,i<I.length->qQ e l i=true->vB I i=false->t.inputs.getD i 0=y.inputs.getD i 0
 need:∀c:Nat,uH e l c=true->kY t.has (c:Int)=true
 has:∀c:Nat,uH e l c=false->(vR e c || vR l c)=true->kY t.has (c:Int)=kY y.has (c:Int)
theorem U0{r:xK}{i:Nat}{b:Int}(h:b∈xO r i):tT r i=true:=by
 obtain⟨y,hy,_⟩:=p7.1 h;have hf:=mh.1 hy;have h2:=hf.2;simp only[pe,po]at h2;exact ma.2 ⟨y,hf.1,by simp[h2.1,h2.2.2]⟩
theorem Vk(hpe:iJ e I.length (vB I))(hpl:iJ l I.length (vB I))(hr:∀i,i<I.length->vB I i=true->0<=(kR I i).low/\(kR I i).high<=9999){y:yZ}(hy:ZZ I H y)(he:kB e y=true)(hl:kB l y=true) :
 ∃Z:List (Int × Int),Z.length=(xU I e l).length/\(∀p,p<(xU I e l).length->Z.getD p (0,0)∈tF I e l ((xU I e l).getD p 0))/\∃rk:List Nat,rk.length=Z.length/\(∀r∈rk,r<Z.length)/\∃o,dL (fS Z rk)=some o/\∀t,zHL I e l rk o y t->kB e t=true/\kB l t=true:=by
 obtain⟨Z,hZl,hZ⟩:=VI (0,0) (fun p z=>z∈tF I e l ((xU I e l).getD p 0)/\z.1<=y.inputs.getD ((xU I e l).getD p 0) 0/\y.inputs.getD ((xU I e l).getD p 0) 0<=z.2) (xU I e l).length (fun p hp=>by
  obtain⟨hi,_,hn⟩:=pY.1 (nJ hp);have hrm:=hy.num _ hi hn;obtain⟨z,hz,h1⟩:=(YJ (kR I ((xU I e l).getD p 0)).low (kR I ((xU I e l).getD p 0)).high (xO e ((xU I e l).getD p 0)) (xO l ((xU I e l).getD p 0))).cover _ hrm.1 hrm.2;exact⟨z,hz,h1⟩)
 have hYg:∀p,p<(xU I e l).length->((xU I e l).map fun i=>y.inputs.getD i 0).getD p 0=y.inputs.getD ((xU I e l).getD p 0) 0:=fun p hp=>by simp[List.getD,hp]
 obtain⟨rk,hrl,hrr,o,ho,hord⟩:=FY Z ((xU I e l).map fun i=>y.inputs.getD i 0) (by simp[hZl]) (fun p hp=>by
  rw[hYg p (by omega)];exact(hZ p (by omega)).2) (fun x hx=>by
  obtain⟨i,hi,rfl⟩:=p7.1 hx;obtain⟨h1,_,h3⟩:=pY.1 hi;have:=hr i h1 h3;have:=hy.num i h1 h3;show 0<=y.inputs.getD i 0/\y.inputs.getD i 0<=9999;omega)
 refine⟨Z,hZl,fun p hp=>(hZ p hp).1,rk,hrl,hrr,o,ho,fun t ht=>?_⟩
 have hsound:=Xf (L:=fS Z rk) (fun n hn=>by
  obtain⟨i,hi,rfl⟩:=Jb hn;rw[Jc];exact hrr _ (by simp[List.getD,show i<rk.length by omega])) ho
 have zLT:∀p,p<(xU I e l).length->(Z.getD p (0,0)).1<=t.inputs.getD ((xU I e l).getD p 0) 0/\t.inputs.getD ((xU I e l).getD p 0) 0<=(Z.getD p (0,0)).2:=fun p hp=>by
  rw[ht.num p hp];exact hsound _ (Vu rk (show p<Z.length by omega))
 have hal:∀r:xK,(r=e\/r=l)->zCX r (vB I) y t:=fun r hre=>by
  have hask:∀i,tT r i=true->qQ e l i=true:=fun i h=>by unfold qQ;rcases hre with rfl|rfl <;> rw[h] <;> simp
  have hnd:∀c,mC r c=true->uH e l c=true:=fun c h=>by unfold uH;rcases hre with rfl|rfl <;> rw[h] <;> simp
  have hah:∀c,vR r c=true->(vR e c || vR l c)=true:=fun c h=>by rcases hre with rfl|rfl <;> rw[h] <;> simp
  have hny:∀c,uH e l c=true->kY y.has (c:Int)=true:=fun c h=>by
   unfold uH at h;rcases(bg _ _).mp h with h|h
   ·exact JC he h
   ·exact JC hl h
  refine⟨by rw[hy.inl,ht.inl],fun c hc=>?_,fun i hi ha hn=>?_,fun i hi hn b hb=>?_,fun i j hi hj ha ha2 hn hn2=>?_⟩
  ·cases hnc:uH e l c
   ·rcases(bg _ _).mp hc with hc|hc
    ·rw[hnd c hc]at hnc;exact absurd hnc (by decide)
    ·exact(ht.has c hnc (hah c hc)).symm
   ·rw[hny c hnc,ht.need c hnc]
  ·exact(ht.flag i (by rw[<-hy.inl];exact hi) (hask i ha) hn).symm
  ·obtain⟨p,hp,e1⟩:=Y7 (by rw[<-hy.inl];exact hi) (hask i (U0 hb)) hn
   have hz:=hZ p hp;have ht2:=zLT p hp;rw[e1]at hz ht2;have:=(YJ (kR I i).low (kR I i).high (xO e i) (xO l i)).side _ hz.1 b (by rcases hre with rfl|rfl <;> simp[hb]) _ ht2.1 ht2.2 _ hz.2.1 hz.2.2;exact this
  ·obtain⟨p,hp,e1⟩:=Y7 (by rw[<-hy.inl];exact hi) (hask i ha) hn
   obtain⟨q,hq,e2⟩:=Y7 (by rw[<-hy.inl];exact hj) (hask j ha2) hn2;have h1:=hord p q (by omega) (by omega);rw[hYg p hp,hYg q hq,e1,e2]at h1;have h2:=ht.num p hp;have h3:=ht.num q hq;rw[e1]at h2;rw[e2]at h3;rw[h2,h3];exact h1.symm
 exact⟨by rw[<-JF (hy.inl ▸ hpe) (hal e (.inl rfl))];exact he,by rw[<-JF (hy.inl ▸ hpl) (hal l (.inr rfl))];exact hl⟩
theorem zFB{l:List zE}(h:(l.map zE.name).Nodup):∀x∈l,∀z∈l,x.name=z.name->x=z:=by
 induction l with
 | nil=>intro x hx;cases hx
 | cons a r ih =>
   rw[dc,List.nodup_cons]at h;intro x hx z hz e;rcases l6.1 hx with h1|h1
   ·rcases l6.1 hz with h2|h2
    ·rw[h1,h2]
    ·rw[h1]at e;exact absurd (p7.2 ⟨z,h2,e.symm⟩) h.1
   ·rcases l6.1 hz with h2|h2
    ·rw[h2]at e;exact absurd (p7.2 ⟨x,h1,e⟩) h.1
    ·exact ih h.2 x h1 z h2 e
theorem zJ9(h:xX ls){x z:zE}(hx:x∈vm ls)(hz:z∈vm ls)(e:x.name=z.name):x=z:=zFB (by rw[<-XJ];exact XF h) x hx z hz e
theorem XH{i:Nat}(hi:i<(zV ls).length):∃x,x∈vm ls/\x∈ls/\kR (zV ls) i=jM x/\(xR ls).getD i []=x.name:=by
 rw[XG,pw]at hi;have hm:(vm ls).getD i Yw∈vm ls:=Ud _ hi;refine⟨(vm ls).getD i Yw,hm,(mh.1 hm).1,?_,?_⟩
 ·unfold kR;rw[XG];exact XP _ _ _ _ _ hi
 ·rw[XJ];exact XP _ _ _ _ _ hi
theorem zKX{x:zE}(h:x∈ls)(hk:x.kind=1\/x.kind=2):x∈vm ls:=mh.2 ⟨h,tr hk⟩
theorem zKT{nm:Bs}{k:Int}(h:vQ ls k nm=true):∃x∈ls,x.kind=k/\x.name=nm:=by
 obtain⟨x,h1,h2⟩:=ma.1 h;unfold iP at h2;rw[pe,po,po]at h2;exact⟨x,h1,h2.1,h2.2⟩
theorem eS{x:zE}(hk:x.kind=1\/x.kind=2):(!(jM x).isFlag)=decide (x.kind=1):=by
 unfold jM;rcases hk with h|h
 ·rw[tl h,tr h];rfl
 ·rw[tb (by omega),tu (by omega)];rfl
theorem Um{k:Int}(hl:Yy k=m)(h:∀i,i<ls.length->jL ls i=false):xT k ls<=m:=by
 have key:∀n,n<=ls.length->xT k (ls.take n)<=m:=by
  intro n
  induction n with
  | zero=>intro _;simp[xT]
  | succ n ih =>
    intro hn;rw[bN ls n (by omega),Uu];have ih:=ih (by omega);by_cases hk:(lA ls n).kind=k
    ·have hm:=h n (by omega)
     unfold jL at hm;rw[bh,dk,hk,hl]at hm;simp only[xT,hk,dw];omega
    ·simp only[xT,tb hk];omega
 have:=key ls.length (j1 _)
 rwa [ce]at this
theorem zAG(ls:List zE):(zV ls).length=xT 1 ls+xT 2 ls:=by
 rw[XG,pw];unfold vm
 induction ls with
 | nil=>simp[xT]
 | cons x r ih =>
   rw[List.filter_cons,xT,xT];by_cases h1:x.kind=1
   ·rw[tr (.inl h1),tl rfl,tl h1,tb (by omega),p9,ih];omega
   ·by_cases h2:x.kind=2
    ·rw[tr (.inr h2),tl rfl,tb h1,tl h2,p9,ih];omega
    ·rw[tu (by omega),tb (by simp),tb h1,tb h2,ih];omega
theorem VV(h:xX ls):(zV ls).length<=6:=by
 have h1:=Um (k:=1) (m:=3) (by decide) h.many;have h2:=Um (k:=2) (m:=3) (by decide) h.many;rw[zAG];omega
theorem zIQ(ls:List zE):(xR ls).length=(zV ls).length:=by unfold xR;rw[pw]
theorem jz(h:xX ls){x:zE}(hx:x∈ls)(hk:x.kind=1):x.low<=x.high:=by
 obtain⟨i,hi,rfl⟩:=fK hx;have he:=h.err i hi;unfold jQ at he;rw[tl hk]at he;unfold rE at he;by_cases h0:bE ls i=0
 ·rw[tl h0]at he
  rcases cy (lA ls i).high (lA ls i).low with h1|h1
  ·rw[tl h1]at he;exact absurd he (by decide)
  ·exact h1
 ·rw[tb h0]at he;exact absurd he h0
theorem ZS{α:Type}(p:α->Bool)(d:α)(l:List α)(i:Nat)(h:i<l.length):(l.drop i).any p=(p (l.getD i d) || (l.drop (i+1)).any p):=by
 rw[pq h,cg];simp[List.getD,h]
theorem K3{α:Type}(p:α->Bool)(l:List α)(i:Nat)(h:¬i<l.length):(l.drop i).any p=false:=by
 rw[ph (by omega)];rfl
def mA(i:Nat)(y:kE):Bool:=if y.kind=6 then decide (y.place=(i:Int)) else if y.kind=7 then decide (y.place=(i:Int)) || (y.two&&decide (y.other=(i:Int))) else false
theorem Fu(w:World)(x:MX)(c:Nat)(hx:uN w x) :
 Calls Tryz.prog 98 #[uF x,.int .i64 (c:Int)] w fun e w'=>e=.returned (.bool (mC x.1 c))/\Below w.heap.size w w':=by
 obtain⟨pa,pc,e1,hp⟩:=hx.sum;obtain⟨ga,gc,e2,hg⟩:=hx.guard;have HP:=zA hp.cel;have zLX:=hx.few1;obtain⟨⟨lab,cc,ps,gd,root⟩,pv,gv⟩:=x;simp only at e1 e2 HP zLX;subst e1 e2;simp only[uF];have HE0:Hid (∀b,ps.any (fun p=>decide (p.kind=3)&&decide (p.place=(c:Int)))=b->mC ⟨lab,cc,ps,gd,root⟩ c=b):=fun b h=>h;generalize mC ⟨lab,cc,ps,gd,root⟩ c=ans at *;clear hx hp hg
 go_enter Tryz.func98,Tryz.ntmps98
 go_wp2_with fail
 generalize hO1:Obj.cells #[.string ⟨lab.toArray⟩,.int .i64 cc,.slice pa ps.length pc,.slice ga gd.length gc,.int .i64 root] 162=O1 at *;clear hO1;have HB0:Hid (Below w.heap.size w (w.alloc O1)):=fw (j1 _) _;generalize w.alloc O1=w0 at *
 go_loopw [10] (fun iv wr=>∃(i:Nat),i<=ps.length/\iv=.int .i64 i/\Hid (Below w.heap.size w wr)/\Hid ((ps.drop i).any (fun p=>decide (p.kind=3)&&decide (p.place=(c:Int)))=ps.any (fun p=>decide (p.kind=3)&&decide (p.place=(c:Int))))) (fun iv _=>ps.length-(intOf iv).toNat)
 case atStart=>exact⟨0,tx _,rfl,HB0,zA rfl⟩
 case round =>
  obtain⟨i,hi,rfl,HB,HE⟩:=hrel;have zLV:=HB.out.size;by_cases zLL:i<ps.length
  ·have ii:(i:Int)<(ps.length:Int):=by omega
   have hpr:=HP.out.below HB.out;obtain⟨gp,rfl,q0⟩:=hpr.at ((zQ pC 3 (fun _=>rfl) BW ps i 0 zLL (by decide)).trans rfl);have hq:=fun j hj v hv=>(hpr.at ((zQ pC 3 (fun _=>rfl) BW ps i j zLL hj).trans hv)).elim fun g' h=>(show gp=g' by simpa using h.1) ▸ (show w.heap.size<=wr.heap.size/\wr.cell? ⟨g',i*3+j,none⟩=some v from ⟨zLV,h.2⟩).2;have q1:=hq 1 (by decide) _ rfl;have q2:=hq 2 (by decide) _ rfl;rw[ld]at q0;have lgp:=yR q0;have mgp:wr.heap.size≠gp:=by omega
   have hE:=HE.out;rw[ZS (fun p=>decide (p.kind=3)&&decide (p.place=(c:Int))) BW ps i zLL]at hE;have HE2:=zA hE;have HBa:Hid (∀o,Below w.heap.size w (wr.alloc o)):=fun o=>HB.out.alloc zLV o;clear HE hE hpr hq;generalize ps.getD i BW=y at *;obtain⟨yk,yn,yp⟩:=y;simp only at q0 q1 q2 HE2;by_cases k1:yk=3
   ·subst k1
    simp only[decide_true,my]at HE2;by_cases k2:yp=(c:Int)
    ·subst k2
     have HE3:Hid (ans=true):=HE0.out _ (by rw[<-HE2.out];simp);go_wp2_with fail
     go_ret
     exact⟨zF HE3.out.symm,HBa.out _⟩
    ·have b2:(yp==(c:Int))=false:=by simpa using k2
     have HE3:Hid ((ps.drop (i+1)).any (fun p=>decide (p.kind=3)&&decide (p.place=(c:Int)))=ps.any (fun p=>decide (p.kind=3)&&decide (p.place=(c:Int)))):=by have:=HE2.out;rw[tu k2,lu]at this;exact this
     clear k2;go_wp2_with fail
     go_roundw
     case rel=>exact⟨i+1,by omega,by go_num,zA (HBa.out _),HE3⟩
     case measure=>simp[intOf];omega
   ·have b1:(yk==3)=false:=by simpa using k1
    have HE3:Hid ((ps.drop (i+1)).any (fun p=>decide (p.kind=3)&&decide (p.place=(c:Int)))=ps.any (fun p=>decide (p.kind=3)&&decide (p.place=(c:Int)))):=by have:=HE2.out;rw[tu k1,bw,lu]at this;exact this
    clear k1;go_wp2_with fail
    go_roundw
    case rel=>exact⟨i+1,by omega,by go_num,zA (HBa.out _),HE3⟩
    case measure=>simp[intOf];omega
  ·have ii:¬(i:Int)<(ps.length:Int):=by omega
   have HE2:Hid (ans=false):=HE0.out _ (by rw[<-HE.out];exact K3 _ _ _ zLL);go_wp2_with fail
   go_ret
   exact⟨zF HE2.out.symm,HB.out⟩
theorem JL(w:World)(x:MX)(c:Nat)(hx:uN w x) :
 Calls Tryz.prog 99 #[uF x,.int .i64 (c:Int)] w fun e w'=>e=.returned (.bool (vR x.1 c))/\Below w.heap.size w w':=by
 obtain⟨pa,pc,e1,hp⟩:=hx.sum;obtain⟨ga,gc,e2,hg⟩:=hx.guard;have HP:=zA hg.cel;have zLX:=hx.few2;obtain⟨⟨lab,cc,ps,gd,root⟩,pv,gv⟩:=x;simp only at e1 e2 HP zLX;subst e1 e2;simp only[uF];have HE0:Hid (∀b,gd.any (fun y=>decide (y.kind=5)&&decide (y.place=(c:Int)))=b->vR ⟨lab,cc,ps,gd,root⟩ c=b):=fun b h=>h;generalize vR ⟨lab,cc,ps,gd,root⟩ c=ans at *;clear hx hp hg
 go_enter Tryz.func99,Tryz.ntmps99
 go_wp2_with fail
 generalize hO1:Obj.cells #[.string ⟨lab.toArray⟩,.int .i64 cc,.slice pa ps.length pc,.slice ga gd.length gc,.int .i64 root] 162=O1 at *;clear hO1;have HB0:Hid (Below w.heap.size w (w.alloc O1)):=fw (j1 _) _;generalize w.alloc O1=w0 at *
 go_loopw [10] (fun iv wr=>∃(i:Nat),i<=gd.length/\iv=.int .i64 i/\Hid (Below w.heap.size w wr)/\Hid ((gd.drop i).any (fun y=>decide (y.kind=5)&&decide (y.place=(c:Int)))=gd.any (fun y=>decide (y.kind=5)&&decide (y.place=(c:Int))))) (fun iv _=>gd.length-(intOf iv).toNat)
 case atStart=>exact⟨0,tx _,rfl,HB0,zA rfl⟩
 case round =>
  obtain⟨i,hi,rfl,HB,HE⟩:=hrel;have zLV:=HB.out.size;by_cases zLL:i<gd.length
  ·have ii:(i:Int)<(gd.length:Int):=by omega
   have hpr:=HP.out.below HB.out;obtain⟨gp,rfl,q0⟩:=hpr.at ((zQ qO 10 (fun _=>rfl) rJ gd i 0 zLL (by decide)).trans rfl);have hq:=fun j hj v hv=>(hpr.at ((zQ qO 10 (fun _=>rfl) rJ gd i j zLL hj).trans hv)).elim fun g' h=>(show gp=g' by simpa using h.1) ▸ (show w.heap.size<=wr.heap.size/\wr.cell? ⟨g',i*10+j,none⟩=some v from ⟨zLV,h.2⟩).2;have q1:=hq 1 (by decide) _ rfl;have q2:=hq 2 (by decide) _ rfl;have q3:=hq 3 (by decide) _ rfl;have q4:=hq 4 (by decide) _ rfl;have q5:=hq 5 (by decide) _ rfl;have q6:=hq 6 (by decide) _ rfl;have q7:=hq 7 (by decide) _ rfl;have q8:=hq 8 (by decide) _ rfl;have q9:=hq 9 (by decide) _ rfl;rw[ld]at q0;have lgp:=yR q0;have mgp:wr.heap.size≠gp:=by omega
   have hE:=HE.out;rw[ZS (fun y=>decide (y.kind=5)&&decide (y.place=(c:Int))) rJ gd i zLL]at hE;have HE2:=zA hE;have HBa:Hid (∀o,Below w.heap.size w (wr.alloc o)):=fun o=>HB.out.alloc zLV o;clear HE hE hpr hq;generalize gd.getD i rJ=y at *;obtain⟨yk,yl,yr,yp,y2,yo,yn,yb1,yb2,yb3⟩:=y;simp only at q0 q1 q2 q3 q4 q5 q6 q7 q8 q9 HE2;by_cases k1:yk=5
   ·subst k1
    simp only[decide_true,my]at HE2;by_cases k2:yp=(c:Int)
    ·subst k2
     have HE3:Hid (ans=true):=HE0.out _ (by rw[<-HE2.out];simp);go_wp2_with fail
     go_ret
     exact⟨zF HE3.out.symm,HBa.out _⟩
    ·have b2:(yp==(c:Int))=false:=by simpa using k2
     have HE3:Hid ((gd.drop (i+1)).any (fun y=>decide (y.kind=5)&&decide (y.place=(c:Int)))=gd.any (fun y=>decide (y.kind=5)&&decide (y.place=(c:Int)))):=by have:=HE2.out;rw[tu k2,lu]at this;exact this
     clear k2;go_wp2_with fail
     go_roundw
     case rel=>exact⟨i+1,by omega,by go_num,zA (HBa.out _),HE3⟩
     case measure=>simp[intOf];omega
   ·have b1:(yk==5)=false:=by simpa using k1
    have HE3:Hid ((gd.drop (i+1)).any (fun y=>decide (y.kind=5)&&decide (y.place=(c:Int)))=gd.any (fun y=>decide (y.kind=5)&&decide (y.place=(c:Int)))):=by have:=HE2.out;rw[tu k1,bw,lu]at this;exact this
    clear k1;go_wp2_with fail
    go_roundw
    case rel=>exact⟨i+1,by omega,by go_num,zA (HBa.out _),HE3⟩
    case measure=>simp[intOf];omega
  ·have ii:¬(i:Int)<(gd.length:Int):=by omega
   have HE2:Hid (ans=false):=HE0.out _ (by rw[<-HE.out];exact K3 _ _ _ zLL);go_wp2_with fail
   go_ret
   exact⟨zF HE2.out.symm,HB.out⟩
theorem Yv(w:World)(x:MX)(c:Nat)(hx:uN w x) :
 Calls Tryz.prog 95 #[uF x,.int .i64 (c:Int)] w fun e w'=>e=.returned (.bool (tT x.1 c))/\Below w.heap.size w w':=by
 obtain⟨pa,pc,e1,hp⟩:=hx.sum;obtain⟨ga,gc,e2,hg⟩:=hx.guard;have HP:=zA hg.cel;have zLX:=hx.few2;obtain⟨⟨lab,cc,ps,gd,root⟩,pv,gv⟩:=x;simp only at e1 e2 HP zLX;subst e1 e2;simp only[uF];have HE0:Hid (∀b,gd.any (mA c)=b->tT ⟨lab,cc,ps,gd,root⟩ c=b):=fun b h=>h;generalize tT ⟨lab,cc,ps,gd,root⟩ c=ans at *;clear hx hp hg
 go_enter Tryz.func95,Tryz.ntmps95
 go_wp2_with fail
 generalize hO1:Obj.cells #[.string ⟨lab.toArray⟩,.int .i64 cc,.slice pa ps.length pc,.slice ga gd.length gc,.int .i64 root] 162=O1 at *;clear hO1;have HB0:Hid (Below w.heap.size w (w.alloc O1)):=fw (j1 _) _;generalize w.alloc O1=w0 at *
 go_loopw [10] (fun iv wr=>∃(i:Nat),i<=gd.length/\iv=.int .i64 i/\Hid (Below w.heap.size w wr)/\Hid ((gd.drop i).any (mA c)=gd.any (mA c))) (fun iv _=>gd.length-(intOf iv).toNat)
 case atStart=>exact⟨0,tx _,rfl,HB0,zA rfl⟩
 case round =>
  obtain⟨i,hi,rfl,HB,HE⟩:=hrel;have zLV:=HB.out.size;by_cases zLL:i<gd.length
  ·have ii:(i:Int)<(gd.length:Int):=by omega
   have hpr:=HP.out.below HB.out;obtain⟨gp,rfl,q0⟩:=hpr.at ((zQ qO 10 (fun _=>rfl) rJ gd i 0 zLL (by decide)).trans rfl);have hq:=fun j hj v hv=>(hpr.at ((zQ qO 10 (fun _=>rfl) rJ gd i j zLL hj).trans hv)).elim fun g' h=>(show gp=g' by simpa using h.1) ▸ (show w.heap.size<=wr.heap.size/\wr.cell? ⟨g',i*10+j,none⟩=some v from ⟨zLV,h.2⟩).2;have q1:=hq 1 (by decide) _ rfl;have q2:=hq 2 (by decide) _ rfl;have q3:=hq 3 (by decide) _ rfl;have q4:=hq 4 (by decide) _ rfl;have q5:=hq 5 (by decide) _ rfl;have q6:=hq 6 (by decide) _ rfl;have q7:=hq 7 (by decide) _ rfl;have q8:=hq 8 (by decide) _ rfl;have q9:=hq 9 (by decide) _ rfl;rw[ld]at q0;have lgp:=yR q0;have mgp:wr.heap.size≠gp:=by omega
   have hE:=HE.out;rw[ZS (mA c) rJ gd i zLL]at hE;have HE2:=zA hE;have HBa:Hid (∀o,Below w.heap.size w (wr.alloc o)):=fun o=>HB.out.alloc zLV o;clear HE hE hpr hq;generalize gd.getD i rJ=y at *;obtain⟨yk,yl,yr,yp,y2,yo,yn,yb1,yb2,yb3⟩:=y;simp only at q0 q1 q2 q3 q4 q5 q6 q7 q8 q9;unfold mA at HE2;simp only at HE2;have HTr:Hid (∀b,((b || (gd.drop (i+1)).any (mA c))=gd.any (mA c))->b=true->ans=true):=fun b h1 h2=>HE0.out _ (by rw[<-h1,h2];rfl);have HFa:Hid (∀b,((b || (gd.drop (i+1)).any (mA c))=gd.any (mA c))->b=false->(gd.drop (i+1)).any (mA c)=gd.any (mA c)):=fun b h1 h2=>by rw[h2,lu]at h1;exact h1
   by_cases k1:yk=6
   ·subst k1
    simp only[dw]at HE2;by_cases k2:yp=(c:Int)
    ·have HE3:=zA (HTr.out _ HE2.out (tr k2))
     subst k2;clear HTr HFa HE2;go_wp2_with fail
     go_ret
     exact⟨zF HE3.out.symm,HBa.out _⟩
    ·have b2:(yp==(c:Int))=false:=by simpa using k2
     have HE3:=zA (HFa.out _ HE2.out (tu k2));clear k2 HTr HFa HE2;go_wp2_with fail
     go_roundw
     case rel=>exact⟨i+1,by omega,by go_num,zA (HBa.out _),HE3⟩
     case measure=>simp[intOf];omega
   rw[tb k1]at HE2;have b1:(yk==6)=false:=by simpa using k1
   clear k1;by_cases k3:yk=7
   ·subst k3
    simp only[dw]at HE2;by_cases k2:yp=(c:Int)
    ·have HE3:=zA (HTr.out _ HE2.out (by rw[tr k2];rfl))
     subst k2;clear HTr HFa HE2;go_wp2_with fail
     go_ret
     exact⟨zF HE3.out.symm,HBa.out _⟩
    ·have b2:(yp==(c:Int))=false:=by simpa using k2
     rw[tu k2,lu]at HE2;clear k2;cases y2
     ·have HE3:=zA (HFa.out _ HE2.out (by rfl))
      clear HTr HFa HE2;go_wp2_with fail
      go_roundw
      case rel=>exact⟨i+1,by omega,by go_num,zA (HBa.out _),HE3⟩
      case measure=>simp[intOf];omega
     ·by_cases k4:yo=(c:Int)
      ·have HE3:=zA (HTr.out _ HE2.out (by rw[tr k4];rfl))
       subst k4;clear HTr HFa HE2;go_wp2_with fail
       go_ret
       exact⟨zF HE3.out.symm,HBa.out _⟩
      ·have b4:(yo==(c:Int))=false:=by simpa using k4
       have HE3:=zA (HFa.out _ HE2.out (by rw[tu k4];rfl));clear k4 HTr HFa HE2;go_wp2_with fail
       go_roundw
       case rel=>exact⟨i+1,by omega,by go_num,zA (HBa.out _),HE3⟩
       case measure=>simp[intOf];omega
   ·have b3:(yk==7)=false:=by simpa using k3
    have HE3:=zA (HFa.out _ HE2.out (by rw[tb k3]));clear k3 HTr HFa HE2;go_wp2_with fail
    go_roundw
    case rel=>exact⟨i+1,by omega,by go_num,zA (HBa.out _),HE3⟩
    case measure=>simp[intOf];omega
  ·have ii:¬(i:Int)<(gd.length:Int):=by omega
   have HE2:Hid (ans=false):=HE0.out _ (by rw[<-HE.out];exact K3 _ _ _ zLL);go_wp2_with fail
   go_ret
   exact⟨zF HE2.out.symm,HB.out⟩
def yy(i:Nat)(y:kE):Bool:=decide (y.kind=7)&&(!y.two&&decide (y.place=(i:Int)))
def dD(l:List kE)(i:Nat):List Int:=(l.filter (yy i)).map kE.num
theorem yz(l:List kE)(c i:Nat)(h:i<l.length):dD (l.take (i+1)) c=dD (l.take i) c++(if yy c (l.getD i rJ)=true then [(l.getD i rJ).num] else []):=by
 unfold dD;rw[db,cq,bf];congr 1
 rw[pb h,show l.getD i rJ=l[i] by simp[List.getD,h]];show ([l[i]].filter (yy c)).map kE.num=_;rw[List.filter_cons,f8];split <;> rfl
theorem zC5(l:List kE)(c:Nat):(dD l c).length<=l.length:=by unfold dD;rw[pw];exact dj _ _
theorem UL(w:World)(x:MX)(c:Nat)(hx:uN w x) :
 Calls Tryz.prog 96 #[uF x,.int .i64 (c:Int)] w fun e w'=>∃v,e=.returned v/\w'.ownsRow w.heap.size 3 1 v (xO x.1 c).length (tX (xO x.1 c))/\Below w.heap.size w w':=by
 obtain⟨i0,hi0,hz0,hz1,hz2⟩:=info_parts gF;obtain⟨pa,pc,e1,hp⟩:=hx.sum;obtain⟨ga,gc,e2,hg⟩:=hx.guard;have HP:=zA hg.cel;have zLX:=hx.few2;obtain⟨⟨lab,cc,ps,gd,root⟩,pv,gv⟩:=x;simp only at e1 e2 HP zLX;subst e1 e2;simp only[uF];have HE0:Hid (xO ⟨lab,cc,ps,gd,root⟩ c=dD gd c):=rfl;rw[HE0.out];clear hx hp hg
 go_enter Tryz.func96,Tryz.ntmps96
 go_wp2_with fail
 generalize hO1:Obj.cells #[.string ⟨lab.toArray⟩,.int .i64 cc,.slice pa ps.length pc,.slice ga gd.length gc,.int .i64 root] 162=O1 at *;clear hO1;have HB0:Hid (Below w.heap.size w (w.alloc O1)):=fw (j1 _) _;have hs0:(w.alloc O1).heap.size=w.heap.size+1:=by simp
 have HO0:Hid (((w.alloc O1).alloc (.cells #[] 3)).ownsRow w.heap.size 3 1 (.slice (some ⟨w.heap.size+1,0,none⟩) 0 0) 0 (tX (dD (gd.take 0) c))):=⟨rfl,.inr ⟨w.heap.size+1,0,#[],rfl,mw _,yT _ _ _ hs0,j1 _,tx _,rfl,rfl⟩⟩;have HB1:Hid (Below w.heap.size w ((w.alloc O1).alloc (.cells #[] 3))):=HB0.out.alloc (by omega) _;generalize (w.alloc O1).alloc (.cells #[] 3)=w0 at *
 go_loopw [5,12] (fun ov iv wr=>∃(i:Nat),i<=gd.length/\iv=.int .i64 i/\Hid (Below w.heap.size w wr)/\Hid (wr.ownsRow w.heap.size 3 1 ov (dD (gd.take i) c).length (tX (dD (gd.take i) c)))) (fun _ iv _=>gd.length-(intOf iv).toNat)
 case atStart=>exact⟨0,tx _,rfl,HB1,HO0⟩
 case round =>
  obtain⟨i,hi,rfl,HB,HO⟩:=hrel;have zLV:=HB.out.size;obtain⟨oa,oc,rfl⟩:=zP HO.out;have hle:(dD (gd.take i) c).length<=i:=ty (zC5 _ _) (by simp;omega);by_cases zLL:i<gd.length
  ·have ii:(i:Int)<(gd.length:Int):=by omega
   have hpr:=HP.out.below HB.out;obtain⟨gp,rfl,q0⟩:=hpr.at ((zQ qO 10 (fun _=>rfl) rJ gd i 0 zLL (by decide)).trans rfl);have hq:=fun j hj v hv=>(hpr.at ((zQ qO 10 (fun _=>rfl) rJ gd i j zLL hj).trans hv)).elim fun g' h=>(show gp=g' by simpa using h.1) ▸ (show w.heap.size<=wr.heap.size/\wr.cell? ⟨g',i*10+j,none⟩=some v from ⟨zLV,h.2⟩).2;have q1:=hq 1 (by decide) _ rfl;have q2:=hq 2 (by decide) _ rfl;have q3:=hq 3 (by decide) _ rfl;have q4:=hq 4 (by decide) _ rfl;have q5:=hq 5 (by decide) _ rfl;have q6:=hq 6 (by decide) _ rfl;have q7:=hq 7 (by decide) _ rfl;have q8:=hq 8 (by decide) _ rfl;have q9:=hq 9 (by decide) _ rfl;rw[ld]at q0;have lgp:=yR q0;have mgp:wr.heap.size≠gp:=by omega
   have HBa:Hid (∀o,Below w.heap.size w (wr.alloc o)):=fun o=>HB.out.alloc zLV o;have HOa:Hid (∀o,(wr.alloc o).ownsRow w.heap.size 3 1 (.slice oa (dD (gd.take i) c).length oc) (dD (gd.take i) c).length (tX (dD (gd.take i) c))):=fun o=>HO.out.alloc o;have HTk:=zA (yz gd c i zLL);have HNo:Hid (yy c (gd.getD i rJ)=false->dD (gd.take (i+1)) c=dD (gd.take i) c):=fun h=>by rw[HTk.out,h];simp
   have HYes:Hid (yy c (gd.getD i rJ)=true->dD (gd.take (i+1)) c=dD (gd.take i) c++[(gd.getD i rJ).num]):=fun h=>by rw[HTk.out,tl h]
   clear hpr hq HTk;generalize gd.getD i rJ=y at *;obtain⟨yk,yl,yr,yp,y2,yo,yn,yb1,yb2,yb3⟩:=y;unfold yy at HNo HYes;simp only at q0 q1 q2 q3 q4 q5 q6 q7 q8 q9 HYes HNo;have no:∀(b:Bool),(decide (yk=7)&&(!y2&&decide (yp=(c:Int))))=false->dD (gd.take (i+1)) c=dD (gd.take i) c:=fun _ h=>HNo.out h;have HNO:=zA no;clear no;by_cases k1:yk=7
   ·subst k1
    cases y2
    ·by_cases k2:yp=(c:Int)
     ·have HE3:=zA (HYes.out (by rw[tr k2];rfl))
      subst k2;clear HYes HNo HNO
      go_upto_region 6 with fail
      generalize hOn:Obj.cells #[Value.int .i64 7,.int .i64 yl,.int .i64 yr,.int .i64 (c:Int),.bool false,.int .i64 yo,.int .i64 yn,.bool yb1,.bool yb2,.bool yb3] 263=On at *;have hcn:(wr.alloc On).cell? ⟨wr.heap.size,6,none⟩=some (.int .i64 yn):=by rw[<-hOn];exact(zB (zG _ _) 6).trans rfl
      have HBn:=zA (HBa.out On);have HOn2:=zA (HOa.out On);have hsn:(wr.alloc On).heap.size=wr.heap.size+1:=by simp
      clear hOn;generalize wr.alloc On=wn at *;have hszn:w.heap.size<=wn.heap.size:=by omega
      clear hsn
      go_wp2_with (at_builtin;refine wpList_append_own _ rfl _ _ 22 rfl w.heap.size 3 i0 _ 1 8 Tryz.underlying22 hi0 hz0 hz1 hz2 rfl (by decide) _ _ _ rfl (HOn2.out.alloc _) ⟨wn.heap.size,0,none⟩ 1 1 [.int .i64 yn] rfl rfl ?c1 ?c2 ?c3 ?c4 ?c5 ?_)
      case c1=>exact zN _ _ _ _ rfl
      case c2=>intro u hu;simp at hu;subst hu;rfl
      case c3=>unfold maxLen;omega
      case c4=>omega
      case c5=>simp;omega
      intro v' w5 zLR zLN _;have HB5:Hid (Below w.heap.size w w5):=(HBn.out.alloc hszn _).grown zLN (by simp;omega) (zS HOn2.out);have HO5:Hid (w5.ownsRow w.heap.size 3 1 v' (dD (gd.take (i+1)) c).length (tX (dD (gd.take (i+1)) c))):=by unfold Hid;rw[HE3.out,GP,tm];exact zLR
      clear zLN zLR;go_wp2_with fail
      go_roundw
      case rel=>exact⟨i+1,by omega,by go_num,HB5,HO5⟩
      case measure=>simp[intOf];omega
     ·have b2:(yp==(c:Int))=false:=by simpa using k2
      have HE3:=zA (HNO.out true (by rw[tu k2];simp));clear HYes HNo HNO k2;go_wp2_with fail
      go_roundw
      case rel=>exact⟨i+1,by omega,by go_num,zA (HBa.out _),by rw[HE3.out];exact zA (HOa.out _)⟩
      case measure=>simp[intOf];omega
    ·have HE3:=zA (HNO.out true (by simp))
     clear HYes HNo HNO;go_wp2_with fail
     go_roundw
     case rel=>exact⟨i+1,by omega,by go_num,zA (HBa.out _),by rw[HE3.out];exact zA (HOa.out _)⟩
     case measure=>simp[intOf];omega
   ·have b1:(yk==7)=false:=by simpa using k1
    have HE3:=zA (HNO.out true (by rw[tu k1];rfl));clear HYes HNo HNO k1;go_wp2_with fail
    go_roundw
    case rel=>exact⟨i+1,by omega,by go_num,zA (HBa.out _),by rw[HE3.out];exact zA (HOa.out _)⟩
    case measure=>simp[intOf];omega
  ·have ii:¬(i:Int)<(gd.length:Int):=by omega
   have HE3:Hid (dD (gd.take i) c=dD gd c):=by unfold Hid;rw[di (by omega)]
   go_wp2_with fail
   go_ret
   exact⟨_,rfl,by rw[<-HE3.out];exact HO.out,HB.out⟩
def uA(w:World)(g:Nat)(t:TypeId)(n:Nat)(f:Nat->Value):Prop:=∃cs,w.heap[g]? = some (.cells cs t (0,0))/\∀j,j<n->cs[j]? = some (f j)
theorem uA.cell{n:Nat}(h:uA w g t n f)(hj:j<n):w.cell? ⟨g,j,none⟩=some (f j):=by
 obtain⟨cs,h1,h2⟩:=h;exact(zB h1 j).trans (h2 j hj)
theorem uA.free{n:Nat}(h:uA w g t n f)(j:Nat):w.frozen? ⟨g,j,none⟩=false:=by
 obtain⟨cs,h1,_⟩:=h;simp[World.frozen?,h1]
theorem uA.lt{n:Nat}(h:uA w g t n f):g<w.heap.size:=by
 obtain⟨cs,h1,_⟩:=h;exact zM h1
theorem uA.below{n:Nat}(h:uA w g t n f)(hb:Below w.heap.size w w'):uA w' g t n f:=by
 obtain⟨cs,h1,h2⟩:=h;exact⟨cs,by rw[hb.block g (zM h1)];exact h1,h2⟩
theorem uA.other{n:Nat}(h:uA w g t n f){g':Nat}(v:Value)(zLO:g≠g'):uA (w.setCell ⟨g',j,none⟩ v) g t n f:=by
 obtain⟨cs,h1,h2⟩:=h;exact⟨cs,by rw[mc w ⟨g',j,none⟩ g v zLO];exact h1,h2⟩
theorem uA.set{n:Nat}{f':Nat->Value}(h:uA w g t n f)(v:Value)(hj:j<n)(e1:f' j=v)(e2:∀x,x<n->x≠j->f' x=f x):uA (w.setCell ⟨g,j,none⟩ v) g t n f':=by
 obtain⟨cs,h1,h2⟩:=h
 have zLQ:j<cs.size:=by
  rcases me j cs.size with h3|h3
  ·exact h3
  ·have:=h2 j hj;rw[md h3]at this;cases this
 refine⟨_,tq w g j cs t v h1,fun x hx=>?_⟩;by_cases hxj:x=j
 ·subst hxj;rw[e1];simp[zLQ]
 ·rw[e2 x hx hxj,Array.getElem?_setIfInBounds,tb (fun e=>hxj e.symm)];exact h2 x hx
theorem uA.cel{n:Nat}(h:uA w g t n f):jR w (some ⟨g,0,none⟩) ((List.range n).map f):=by
 right
 refine⟨g,rfl,fun j hj=>?_⟩;have hj':j<n:=by simpa using hj
 rw[h.cell hj'];simp[hj']
def zD5(z:Int × Int):List Value:=[.int .i64 z.1,.int .i64 z.2]
def dT(l:List (Int × Int)):List Value:=l.flatMap zD5
theorem pT(a b:List (Int × Int)):dT (a++b)=dT a++dT b:=by unfold dT;rw[lq]
theorem VW:(Tryz.prog.info? 221).map (fun i=>(i.zero,i.size,i.bytes))=some (some (.agg #[.int .i64 0,.int .i64 0]),2,16):=by kernel_rfl
theorem eG(z:Int × Int)(b:Int):(kF z b).length<=3:=by
 unfold kF;split
 ·simp
 ·simp only[tm];split <;> split <;> simp
theorem Vy{cs:List Value}(hg:w.heap[g]? = some (.cells cs.toArray t (0,0)))(hB:B<=g)(n:Nat)(hl:cs.length=n*k)(hn:n<=maxLen):w.ownsRow B t k (.slice (some ⟨g,0,none⟩) n n) n cs :=
 ⟨hl,.inr ⟨g,n,cs.toArray,rfl,hB,hg,j1 _,hn,by simp[hl],by simp[<-hl]⟩⟩
theorem zE1(w:World)(z:Int × Int)(b:Int)(hb : -1000000<=b/\b<=1000000) :
 Calls Tryz.prog 172 #[.agg #[.int .i64 z.1,.int .i64 z.2],.int .i64 b] w fun e w'=>∃v,e=.returned v/\w'.ownsRow w.heap.size 221 2 v (kF z b).length (dT (kF z b))/\Below w.heap.size w w':=by
 obtain⟨i0,hi0,hz0,hz1,hz2⟩:=info_parts VW;obtain⟨lo,hi⟩:=z;have hw1:wrap64 (b-1)=b-1:=by unfold wrap64;omega
 have hw2:wrap64 (b+1)=b+1:=by unfold wrap64;omega
 have HS:Hid (kF (lo,hi) b=if b<lo\/hi<b then [(lo,hi)] else ((if lo<b then [(lo,b-1)] else [])++[(b,b)])++(if b<hi then [(b+1,hi)] else [])):=rfl;simp only
 go_enter Tryz.func172,Tryz.ntmps172
 by_cases k0:b<lo\/hi<b
 ·have HE:Hid (kF (lo,hi) b=[(lo,hi)]):=by unfold Hid;rw[HS.out,tl k0]
  have HF:Hid (∀O:Obj,((w.alloc O).alloc (.cells #[.int .i64 lo,.int .i64 hi] 221)).ownsRow w.heap.size 221 2 (.slice (some ⟨w.heap.size+1,0,none⟩) 1 1) (kF (lo,hi) b).length (dT (kF (lo,hi) b))/\Below w.heap.size w ((w.alloc O).alloc (.cells #[.int .i64 lo,.int .i64 hi] 221))):=fun O=>by
   rw[HE.out];exact⟨Vy (cs:=[.int .i64 lo,.int .i64 hi]) (yT _ _ _ (by simp)) (mw _) 1 rfl (by unfold maxLen;omega),(fw (j1 _) _).alloc (by simp) _⟩
  by_cases k1:b<lo
  ·clear k0
   go_wp2_with fail
   go_ret
   exact⟨_,rfl,(HF.out _).1,(HF.out _).2⟩
  ·have k2:hi<b:=k0.resolve_left k1
   clear k0;go_wp2_with fail
   go_ret
   exact⟨_,rfl,(HF.out _).1,(HF.out _).2⟩
 ·have k1:¬b<lo:=fun h=>k0 (.inl h)
  have k2:¬hi<b:=fun h=>k0 (.inr h);have HE:Hid (kF (lo,hi) b=((if lo<b then [(lo,b-1)] else [])++[(b,b)])++(if b<hi then [(b+1,hi)] else [])):=by unfold Hid;rw[HS.out,tb k0]
  clear k0 HS
  go_upto_region 4 with fail
  generalize hOz:Obj.cells #[Value.int .i64 lo,.int .i64 hi] 221=Oz at *;have hs0:(w.alloc Oz).heap.size=w.heap.size+1:=by simp
  have HO0:Hid (((w.alloc Oz).alloc (.cells #[] 221)).ownsRow (w.heap.size+1) 221 2 (.slice (some ⟨w.heap.size+1,0,none⟩) 0 0) 0 (dT [])):=⟨rfl,.inr ⟨w.heap.size+1,0,#[],rfl,j1 _,yT _ _ _ hs0,j1 _,tx _,rfl,rfl⟩⟩;have HB0:Hid (Below w.heap.size w ((w.alloc Oz).alloc (.cells #[] 221))):=(fw (j1 _) _).alloc (by omega) _;have HZ0:Hid (((w.alloc Oz).alloc (.cells #[] 221)).heap[w.heap.size]? = some (Obj.cells #[Value.int .i64 lo,.int .i64 hi] 221)):=by unfold Hid;rw[hOz];exact zT (zG _ _)
  have hs1:w.heap.size+2<=((w.alloc Oz).alloc (.cells #[] 221)).heap.size:=by simp
  clear hOz hs0;generalize (w.alloc Oz).alloc (.cells #[] 221)=w0 at *;generalize Value.slice (some ⟨w.heap.size+1,0,none⟩) 0 0=v0 at *;have w0c0:w0.cell? ⟨w.heap.size,0,none⟩=some (.int .i64 lo):=(zB HZ0.out 0).trans rfl;have w0c1:w0.cell? ⟨w.heap.size,1,none⟩=some (.int .i64 hi):=(zB HZ0.out 1).trans rfl;by_cases k3:lo<b
  ·rw[tl k3]at HE
   by_cases k4:b<hi
   ·rw[tl k4]at HE
    go_wp2_with (at_builtin;refine wpList_append_own _ rfl _ _ 218 rfl (w.heap.size+1) 221 i0 _ 2 16 Tryz.underlying218 hi0 hz0 hz1 hz2 rfl (by decide) _ _ _ rfl (HO0.out.alloc _) ⟨w0.heap.size,0,none⟩ 1 1 [.int .i64 lo,.int .i64 (b-1)] rfl rfl ?c1k1 ?c1k2 ?c1k3 ?c1k4 ?c1k5 ?_)
    try (case c1k1=>first|exact zN _ _ _ _ rfl|exact fun _ _ h=>h)
    try (case c1k2=>first|exact⟨rfl,rfl⟩|rfl|(intro u hu;simp at hu;rcases hu with rfl|rfl <;> rfl))
    try (case c1k3=>unfold maxLen;omega)
    try (case c1k4=>omega)
    try (case c1k5=>first|omega|(simp;omega))
    intro v1 w1 zLM zLN _;have HBq1:Hid (Below w.heap.size w w1):=(HB0.out.alloc (by omega) _).grown zLN (by simp;omega) (fun k hk=>by have h1:=(zZ HO0.out k hk).1;omega);have HOq1:Hid (w1.ownsRow (w.heap.size+1) 221 2 v1 (0+1) (dT ([]++[(lo,(b-1))]))):=by unfold Hid;rw[pT];exact zLM
    have HZq1:Hid (w1.heap[w.heap.size]? = some (Obj.cells #[Value.int .i64 lo,.int .i64 hi] 221)):=by
     unfold Hid;rw[zLN.block w.heap.size (by simp;omega) (fun e=>by have h1:=(zZ HO0.out _ e.symm).1;omega)];exact zT HZ0.out
    have hsq1:w.heap.size+2<=w1.heap.size:=by have h1:=zLN.size;simp at h1;omega
    have w1c0:w1.cell? ⟨w.heap.size,0,none⟩=some (.int .i64 lo):=(zB HZq1.out 0).trans rfl;have w1c1:w1.cell? ⟨w.heap.size,1,none⟩=some (.int .i64 hi):=(zB HZq1.out 1).trans rfl;clear zLM zLN
    go_wp2_with (at_builtin;refine wpList_append_own _ rfl _ _ 218 rfl (w.heap.size+1) 221 i0 _ 2 16 Tryz.underlying218 hi0 hz0 hz1 hz2 rfl (by decide) _ _ _ rfl (HOq1.out.alloc _) ⟨w1.heap.size,0,none⟩ 1 1 [.int .i64 b,.int .i64 b] rfl rfl ?c2k1 ?c2k2 ?c2k3 ?c2k4 ?c2k5 ?_)
    try (case c2k1=>first|exact zN _ _ _ _ rfl|exact fun _ _ h=>h)
    try (case c2k2=>first|exact⟨rfl,rfl⟩|rfl|(intro u hu;simp at hu;rcases hu with rfl|rfl <;> rfl))
    try (case c2k3=>unfold maxLen;omega)
    try (case c2k4=>omega)
    try (case c2k5=>first|omega|(simp;omega))
    intro v2 w2 zLM zLN _;have HBq2:Hid (Below w.heap.size w w2):=(HBq1.out.alloc (by omega) _).grown zLN (by simp;omega) (fun k hk=>by have h1:=(zZ HOq1.out k hk).1;omega);have HOq2:Hid (w2.ownsRow (w.heap.size+1) 221 2 v2 (1+1) (dT (([]++[(lo,(b-1))])++[(b,b)]))):=by unfold Hid;rw[pT];exact zLM
    have HZq2:Hid (w2.heap[w.heap.size]? = some (Obj.cells #[Value.int .i64 lo,.int .i64 hi] 221)):=by
     unfold Hid;rw[zLN.block w.heap.size (by simp;omega) (fun e=>by have h1:=(zZ HOq1.out _ e.symm).1;omega)];exact zT HZq1.out
    have hsq2:w.heap.size+2<=w2.heap.size:=by have h1:=zLN.size;simp at h1;omega
    have w2c0:w2.cell? ⟨w.heap.size,0,none⟩=some (.int .i64 lo):=(zB HZq2.out 0).trans rfl;have w2c1:w2.cell? ⟨w.heap.size,1,none⟩=some (.int .i64 hi):=(zB HZq2.out 1).trans rfl;clear zLM zLN
    go_wp2_with (at_builtin;refine wpList_append_own _ rfl _ _ 218 rfl (w.heap.size+1) 221 i0 _ 2 16 Tryz.underlying218 hi0 hz0 hz1 hz2 rfl (by decide) _ _ _ rfl (HOq2.out.alloc _) ⟨w2.heap.size,0,none⟩ 1 1 [.int .i64 (b+1),.int .i64 hi] rfl rfl ?c3k1 ?c3k2 ?c3k3 ?c3k4 ?c3k5 ?_)
    try (case c3k1=>first|exact zN _ _ _ _ rfl|exact fun _ _ h=>h)
    try (case c3k2=>first|exact⟨rfl,rfl⟩|rfl|(intro u hu;simp at hu;rcases hu with rfl|rfl <;> rfl))
    try (case c3k3=>unfold maxLen;omega)
    try (case c3k4=>omega)
    try (case c3k5=>first|omega|(simp;omega))
    intro v3 w3 zLM zLN _;have HBq3:Hid (Below w.heap.size w w3):=(HBq2.out.alloc (by omega) _).grown zLN (by simp;omega) (fun k hk=>by have h1:=(zZ HOq2.out k hk).1;omega);have HOq3:Hid (w3.ownsRow (w.heap.size+1) 221 2 v3 (2+1) (dT ((([]++[(lo,(b-1))])++[(b,b)])++[((b+1),hi)]))):=by unfold Hid;rw[pT];exact zLM
    have HZq3:Hid (w3.heap[w.heap.size]? = some (Obj.cells #[Value.int .i64 lo,.int .i64 hi] 221)):=by
     unfold Hid;rw[zLN.block w.heap.size (by simp;omega) (fun e=>by have h1:=(zZ HOq2.out _ e.symm).1;omega)];exact zT HZq2.out
    have hsq3:w.heap.size+2<=w3.heap.size:=by have h1:=zLN.size;simp at h1;omega
    have w3c0:w3.cell? ⟨w.heap.size,0,none⟩=some (.int .i64 lo):=(zB HZq3.out 0).trans rfl;have w3c1:w3.cell? ⟨w.heap.size,1,none⟩=some (.int .i64 hi):=(zB HZq3.out 1).trans rfl;clear zLM zLN;go_wp2_with fail
    go_ret
    exact⟨_,rfl,by rw[HE.out];exact yS HOq3.out (mw _),HBq3.out⟩
   ·rw[tb k4]at HE
    go_wp2_with (at_builtin;refine wpList_append_own _ rfl _ _ 218 rfl (w.heap.size+1) 221 i0 _ 2 16 Tryz.underlying218 hi0 hz0 hz1 hz2 rfl (by decide) _ _ _ rfl (HO0.out.alloc _) ⟨w0.heap.size,0,none⟩ 1 1 [.int .i64 lo,.int .i64 (b-1)] rfl rfl ?c4k1 ?c4k2 ?c4k3 ?c4k4 ?c4k5 ?_)
    try (case c4k1=>first|exact zN _ _ _ _ rfl|exact fun _ _ h=>h)
    try (case c4k2=>first|exact⟨rfl,rfl⟩|rfl|(intro u hu;simp at hu;rcases hu with rfl|rfl <;> rfl))
    try (case c4k3=>unfold maxLen;omega)
    try (case c4k4=>omega)
    try (case c4k5=>first|omega|(simp;omega))
    intro v1 w1 zLM zLN _;have HBq1:Hid (Below w.heap.size w w1):=(HB0.out.alloc (by omega) _).grown zLN (by simp;omega) (fun k hk=>by have h1:=(zZ HO0.out k hk).1;omega);have HOq1:Hid (w1.ownsRow (w.heap.size+1) 221 2 v1 (0+1) (dT ([]++[(lo,(b-1))]))):=by unfold Hid;rw[pT];exact zLM
    have HZq1:Hid (w1.heap[w.heap.size]? = some (Obj.cells #[Value.int .i64 lo,.int .i64 hi] 221)):=by
     unfold Hid;rw[zLN.block w.heap.size (by simp;omega) (fun e=>by have h1:=(zZ HO0.out _ e.symm).1;omega)];exact zT HZ0.out
    have hsq1:w.heap.size+2<=w1.heap.size:=by have h1:=zLN.size;simp at h1;omega
    have w1c0:w1.cell? ⟨w.heap.size,0,none⟩=some (.int .i64 lo):=(zB HZq1.out 0).trans rfl;have w1c1:w1.cell? ⟨w.heap.size,1,none⟩=some (.int .i64 hi):=(zB HZq1.out 1).trans rfl;clear zLM zLN
    go_wp2_with (at_builtin;refine wpList_append_own _ rfl _ _ 218 rfl (w.heap.size+1) 221 i0 _ 2 16 Tryz.underlying218 hi0 hz0 hz1 hz2 rfl (by decide) _ _ _ rfl (HOq1.out.alloc _) ⟨w1.heap.size,0,none⟩ 1 1 [.int .i64 b,.int .i64 b] rfl rfl ?c5k1 ?c5k2 ?c5k3 ?c5k4 ?c5k5 ?_)
    try (case c5k1=>first|exact zN _ _ _ _ rfl|exact fun _ _ h=>h)
    try (case c5k2=>first|exact⟨rfl,rfl⟩|rfl|(intro u hu;simp at hu;rcases hu with rfl|rfl <;> rfl))
    try (case c5k3=>unfold maxLen;omega)
    try (case c5k4=>omega)
    try (case c5k5=>first|omega|(simp;omega))
    intro v2 w2 zLM zLN _;have HBq2:Hid (Below w.heap.size w w2):=(HBq1.out.alloc (by omega) _).grown zLN (by simp;omega) (fun k hk=>by have h1:=(zZ HOq1.out k hk).1;omega);have HOq2:Hid (w2.ownsRow (w.heap.size+1) 221 2 v2 (1+1) (dT (([]++[(lo,(b-1))])++[(b,b)]))):=by unfold Hid;rw[pT];exact zLM
    have HZq2:Hid (w2.heap[w.heap.size]? = some (Obj.cells #[Value.int .i64 lo,.int .i64 hi] 221)):=by
     unfold Hid;rw[zLN.block w.heap.size (by simp;omega) (fun e=>by have h1:=(zZ HOq1.out _ e.symm).1;omega)];exact zT HZq1.out
    have hsq2:w.heap.size+2<=w2.heap.size:=by have h1:=zLN.size;simp at h1;omega
    have w2c0:w2.cell? ⟨w.heap.size,0,none⟩=some (.int .i64 lo):=(zB HZq2.out 0).trans rfl;have w2c1:w2.cell? ⟨w.heap.size,1,none⟩=some (.int .i64 hi):=(zB HZq2.out 1).trans rfl;clear zLM zLN;go_wp2_with fail
    go_ret
    exact⟨_,rfl,by rw[HE.out];exact yS HOq2.out (mw _),HBq2.out⟩
  ·rw[tb k3]at HE
   by_cases k4:b<hi
   ·rw[tl k4]at HE
    go_wp2_with (at_builtin;refine wpList_append_own _ rfl _ _ 218 rfl (w.heap.size+1) 221 i0 _ 2 16 Tryz.underlying218 hi0 hz0 hz1 hz2 rfl (by decide) _ _ _ rfl (HO0.out.alloc _) ⟨w0.heap.size,0,none⟩ 1 1 [.int .i64 b,.int .i64 b] rfl rfl ?c6k1 ?c6k2 ?c6k3 ?c6k4 ?c6k5 ?_)
    try (case c6k1=>first|exact zN _ _ _ _ rfl|exact fun _ _ h=>h)
    try (case c6k2=>first|exact⟨rfl,rfl⟩|rfl|(intro u hu;simp at hu;rcases hu with rfl|rfl <;> rfl))
    try (case c6k3=>unfold maxLen;omega)
    try (case c6k4=>omega)
    try (case c6k5=>first|omega|(simp;omega))
    intro v1 w1 zLM zLN _;have HBq1:Hid (Below w.heap.size w w1):=(HB0.out.alloc (by omega) _).grown zLN (by simp;omega) (fun k hk=>by have h1:=(zZ HO0.out k hk).1;omega);have HOq1:Hid (w1.ownsRow (w.heap.size+1) 221 2 v1 (0+1) (dT ([]++[(b,b)]))):=by unfold Hid;rw[pT];exact zLM
    have HZq1:Hid (w1.heap[w.heap.size]? = some (Obj.cells #[Value.int .i64 lo,.int .i64 hi] 221)):=by
     unfold Hid;rw[zLN.block w.heap.size (by simp;omega) (fun e=>by have h1:=(zZ HO0.out _ e.symm).1;omega)];exact zT HZ0.out
    have hsq1:w.heap.size+2<=w1.heap.size:=by have h1:=zLN.size;simp at h1;omega
    have w1c0:w1.cell? ⟨w.heap.size,0,none⟩=some (.int .i64 lo):=(zB HZq1.out 0).trans rfl;have w1c1:w1.cell? ⟨w.heap.size,1,none⟩=some (.int .i64 hi):=(zB HZq1.out 1).trans rfl;clear zLM zLN
    go_wp2_with (at_builtin;refine wpList_append_own _ rfl _ _ 218 rfl (w.heap.size+1) 221 i0 _ 2 16 Tryz.underlying218 hi0 hz0 hz1 hz2 rfl (by decide) _ _ _ rfl (HOq1.out.alloc _) ⟨w1.heap.size,0,none⟩ 1 1 [.int .i64 (b+1),.int .i64 hi] rfl rfl ?c7k1 ?c7k2 ?c7k3 ?c7k4 ?c7k5 ?_)
    try (case c7k1=>first|exact zN _ _ _ _ rfl|exact fun _ _ h=>h)
    try (case c7k2=>first|exact⟨rfl,rfl⟩|rfl|(intro u hu;simp at hu;rcases hu with rfl|rfl <;> rfl))
    try (case c7k3=>unfold maxLen;omega)
    try (case c7k4=>omega)
    try (case c7k5=>first|omega|(simp;omega))
    intro v2 w2 zLM zLN _;have HBq2:Hid (Below w.heap.size w w2):=(HBq1.out.alloc (by omega) _).grown zLN (by simp;omega) (fun k hk=>by have h1:=(zZ HOq1.out k hk).1;omega);have HOq2:Hid (w2.ownsRow (w.heap.size+1) 221 2 v2 (1+1) (dT (([]++[(b,b)])++[((b+1),hi)]))):=by unfold Hid;rw[pT];exact zLM
    have HZq2:Hid (w2.heap[w.heap.size]? = some (Obj.cells #[Value.int .i64 lo,.int .i64 hi] 221)):=by
     unfold Hid;rw[zLN.block w.heap.size (by simp;omega) (fun e=>by have h1:=(zZ HOq1.out _ e.symm).1;omega)];exact zT HZq1.out
    have hsq2:w.heap.size+2<=w2.heap.size:=by have h1:=zLN.size;simp at h1;omega
    have w2c0:w2.cell? ⟨w.heap.size,0,none⟩=some (.int .i64 lo):=(zB HZq2.out 0).trans rfl;have w2c1:w2.cell? ⟨w.heap.size,1,none⟩=some (.int .i64 hi):=(zB HZq2.out 1).trans rfl;clear zLM zLN;go_wp2_with fail
    go_ret
    exact⟨_,rfl,by rw[HE.out];exact yS HOq2.out (mw _),HBq2.out⟩
   ·rw[tb k4]at HE
    go_wp2_with (at_builtin;refine wpList_append_own _ rfl _ _ 218 rfl (w.heap.size+1) 221 i0 _ 2 16 Tryz.underlying218 hi0 hz0 hz1 hz2 rfl (by decide) _ _ _ rfl (HO0.out.alloc _) ⟨w0.heap.size,0,none⟩ 1 1 [.int .i64 b,.int .i64 b] rfl rfl ?c8k1 ?c8k2 ?c8k3 ?c8k4 ?c8k5 ?_)
    try (case c8k1=>first|exact zN _ _ _ _ rfl|exact fun _ _ h=>h)
    try (case c8k2=>first|exact⟨rfl,rfl⟩|rfl|(intro u hu;simp at hu;rcases hu with rfl|rfl <;> rfl))
    try (case c8k3=>unfold maxLen;omega)
    try (case c8k4=>omega)
    try (case c8k5=>first|omega|(simp;omega))
    intro v1 w1 zLM zLN _;have HBq1:Hid (Below w.heap.size w w1):=(HB0.out.alloc (by omega) _).grown zLN (by simp;omega) (fun k hk=>by have h1:=(zZ HO0.out k hk).1;omega);have HOq1:Hid (w1.ownsRow (w.heap.size+1) 221 2 v1 (0+1) (dT ([]++[(b,b)]))):=by unfold Hid;rw[pT];exact zLM
    have HZq1:Hid (w1.heap[w.heap.size]? = some (Obj.cells #[Value.int .i64 lo,.int .i64 hi] 221)):=by
     unfold Hid;rw[zLN.block w.heap.size (by simp;omega) (fun e=>by have h1:=(zZ HO0.out _ e.symm).1;omega)];exact zT HZ0.out
    have hsq1:w.heap.size+2<=w1.heap.size:=by have h1:=zLN.size;simp at h1;omega
    have w1c0:w1.cell? ⟨w.heap.size,0,none⟩=some (.int .i64 lo):=(zB HZq1.out 0).trans rfl;have w1c1:w1.cell? ⟨w.heap.size,1,none⟩=some (.int .i64 hi):=(zB HZq1.out 1).trans rfl;clear zLM zLN;go_wp2_with fail
    go_ret
    exact⟨_,rfl,by rw[HE.out];exact yS HOq1.out (mw _),HBq1.out⟩
theorem Vg(zs:List (Int × Int))(b:Int)(i:Nat)(h:i<zs.length):vH (zs.take (i+1)) b=vH (zs.take i) b++kF (zs.getD i (0,0)) b:=by
 unfold vH;rw[db,lq,pb h,show zs.getD i (0,0)=zs[i] by simp[List.getD,h]];simp
theorem Bk(zs:List (Int × Int))(b:Int):(vH zs b).length<=3*zs.length:=by
 unfold vH
 induction zs with
 | nil=>simp
 | cons z r ih=>rw[bi,tm,p9];have:=eG z b;omega
theorem vq{a:Option Addr}{l:List (Int × Int)}(h:jR w a (dT l)){i:Nat}(hi:i<l.length):∃g,a=some ⟨g,0,none⟩/\w.cell? ⟨g,i*2,none⟩=some (.int .i64 (l.getD i (0,0)).1)/\w.cell? ⟨g,i*2+1,none⟩=some (.int .i64 (l.getD i (0,0)).2):=by
 obtain⟨g,e,c0⟩:=h.at ((zQ zD5 2 (fun _=>rfl) (0,0) l i 0 hi (by decide)).trans rfl);obtain⟨g',e',c1⟩:=h.at ((zQ zD5 2 (fun _=>rfl) (0,0) l i 1 hi (by decide)).trans rfl);obtain rfl:g=g':=by rw[e]at e';simpa using e'
 exact⟨g,e,c0,c1⟩
structure JH(zs:List (Int × Int)):Prop where
 ok:∀z∈zs,z.1<=z.2
 up:zs.Pairwise fun z z'=>z.2<z'.1
theorem Yf(h:z.1<=z.2)(b:Int):JH (kF z b):=by
 unfold kF;by_cases h1:b<z.1\/z.2<b
 ·rw[tl h1];exact⟨fun x hx=>by simp at hx;subst hx;exact h,List.pairwise_singleton _ _⟩
 ·rw[tb h1]
  by_cases h2:z.1<b <;> by_cases h3:b<z.2 <;> simp only[h2,h3,dw,if_false,da,ms,cd] <;>
   refine⟨fun x hx=>?_,?_⟩ <;> (try (simp at hx;(try rcases hx with rfl|rfl|rfl) <;> (try rcases hx with rfl|rfl) <;> (try subst hx) <;> simp <;> omega)) <;> simp <;> omega
theorem JH.split(h:JH zs)(b:Int):JH (vH zs b):=by
 refine⟨fun x hx=>?_,List.pairwise_flatMap.2 ⟨fun z hz=>(Yf (h.ok z hz) b).up,h.up.imp fun {z z'} hzz x hx y hy=>?_⟩⟩
 ·obtain⟨z,hz,hx⟩:=bj.1 hx
  exact(Yf (h.ok z hz) b).ok x hx
 ·have:=nE hx
  have:=nE hy;omega
theorem eF{b:Int}(h:b<z.1\/z.2<b):kF z b=[z]:=by unfold kF;rw[tl h]
theorem Vf{b:Int}(h:∀z∈zs,b<z.1):(vH zs b).length=zs.length:=by
 unfold vH
 induction zs with
 | nil=>rfl
 | cons z r ih=>rw[bi,eF (.inl (h z (by simp))),tm,ih fun x hx=>h x (by simp[hx])];simp;omega
theorem FR(h:JH zs)(b:Int):(vH zs b).length<=zs.length+2:=by
 induction zs with
 | nil=>simp[vH]
 | cons z r ih =>
   have hu:=List.pairwise_cons.1 h.up;have e:vH (z::r) b=kF z b++vH r b:=by unfold vH;rw[bi]
   rw[e,tm,p9];by_cases h1:b<z.1\/z.2<b
   ·rw[eF h1]
    have:=ih ⟨fun x hx=>h.ok x (by simp[hx]),hu.2⟩;simp;omega
   ·have h2:=Vf (zs:=r) (b:=b) fun x hx=>by have:=hu.1 x hx;omega
    have h3:=eG z b;omega
theorem iV(zs:List (Int × Int))(l:List Int)(x:Int):xQ zs (l++[x])=vH (xQ zs l) x:=by unfold xQ;rw[List.foldl_append];rfl
def xq(zs:List (Int × Int)):Prop:=JH zs\/∃z,zs=[z]/\z.2<z.1
theorem xq.split(h:xq zs)(b:Int):xq (vH zs b)/\(vH zs b).length<=zs.length+2:=by
 rcases h with h|⟨z,rfl,hz⟩
 ·exact⟨.inl (h.split b),FR h b⟩
 ·have e:vH [z] b=[z]:=by unfold vH;rw[bi,eF (by omega)];rfl
  rw[e];exact⟨.inr ⟨z,rfl,hz⟩,by simp⟩
theorem Kw(lo hi:Int):xq [(lo,hi)]:=by
 by_cases h:lo<=hi
 ·exact .inl ⟨fun z hz=>by simp at hz;subst hz;exact h,List.pairwise_singleton _ _⟩
 ·exact .inr ⟨_,rfl,by show hi<lo;omega⟩
theorem cI(h:xq zs)(l:List Int):∀i,i<=l.length->xq (xQ zs (l.take i))/\(xQ zs (l.take i)).length<=zs.length+2*i:=by
 intro i
 induction i with
 | zero=>intro _;simp only[List.take_zero];exact⟨h,by simp[xQ]⟩
 | succ i ih =>
   intro hi;obtain⟨h1,h2⟩:=ih (by omega);rw[db,pb (by omega),Option.toList_some,iV];obtain⟨h3,h4⟩:=h1.split l[i];exact⟨h3,by omega⟩
theorem Ye(zs:List (Int × Int))(l:List Int)(i:Nat)(h:i<l.length):xQ zs (l.take (i+1))=vH (xQ zs (l.take i)) (l.getD i 0):=by
 rw[db,pb h,Option.toList_some,iV];simp[List.getD,h]
theorem vu(l:List (Int × Int))(i:Nat)(h:i<l.length):dT (l.take (i+1))=dT (l.take i)++[.int .i64 (l.getD i (0,0)).1,.int .i64 (l.getD i (0,0)).2]:=by
 rw[db,pT,pb h];simp[dT,zD5,List.getD,h]
theorem Xd(w:World)(a:Option Addr)(c:Nat)(zs:List (Int × Int))(b:Int)(hb : -1000000<=b/\b<=1000000)(hz:jR w a (dT zs))(hf:zs.length<=100000) :
 Calls Tryz.prog 141 #[.slice a zs.length c,.int .i64 b] w fun e w'=>∃v,e=.returned v/\w'.ownsRow w.heap.size 221 2 v (vH zs b).length (dT (vH zs b))/\Below w.heap.size w w':=by
 obtain⟨i0,hi0,hz0,hz1,hz2⟩:=info_parts VW;have HZ:=zA hz;have HSp:=zA (fun w' z=>zE1 w' z b hb);clear hz hb
 go_enter Tryz.func141,Tryz.ntmps141
 go_wp2_with fail
 have HO0:Hid ((w.alloc (.cells #[] 221)).ownsRow w.heap.size 221 2 (.slice (some ⟨w.heap.size,0,none⟩) 0 0) (vH (zs.take 0) b).length (dT (vH (zs.take 0) b))):=⟨rfl,.inr ⟨w.heap.size,0,#[],rfl,j1 _,zG _ _,j1 _,tx _,rfl,rfl⟩⟩;have HB0:Hid (Below w.heap.size w (w.alloc (.cells #[] 221))):=fw (j1 _) _;generalize w.alloc (.cells #[] 221)=w0 at *
 go_loopw [5,13] (fun ov iv wr=>∃(i:Nat),i<=zs.length/\iv=.int .i64 i/\Hid (Below w.heap.size w wr)/\Hid (wr.ownsRow w.heap.size 221 2 ov (vH (zs.take i) b).length (dT (vH (zs.take i) b)))) (fun _ iv _=>zs.length-(intOf iv).toNat)
 case atStart=>exact⟨0,tx _,rfl,HB0,HO0⟩
 case round =>
  obtain⟨i,hi,rfl,HB,HO⟩:=hrel;have zLV:=HB.out.size;obtain⟨oa,oc,rfl⟩:=zP HO.out;by_cases zLL:i<zs.length
  ·have ii:(i:Int)<(zs.length:Int):=by omega
   obtain⟨g,rfl,q0,q1⟩:=vq (HZ.out.below HB.out) zLL;have lg:=yR q0;have ng:wr.heap.size≠g:=by omega
   have HTk:=zA (Vg zs b i zLL);have hle:(vH (zs.take i) b).length<=300000:=ty (Bk _ _) (by simp;omega);have hl3:=eG (zs.getD i (0,0)) b;have HS1:=zA (fun w'=>HSp.out w' (zs.getD i (0,0)));have HBa:Hid (∀o,Below w.heap.size w (wr.alloc o)):=fun o=>HB.out.alloc zLV o;have HOa:Hid (∀o,(wr.alloc o).ownsRow w.heap.size 221 2 (.slice oa (vH (zs.take i) b).length oc) (vH (zs.take i) b).length (dT (vH (zs.take i) b))):=fun o=>HO.out.alloc o;generalize vH (zs.take i) b=A0 at *;generalize kF (zs.getD i (0,0)) b=P at *;generalize zs.getD i (0,0)=z at *;obtain⟨zl,zh⟩:=z;simp only at q0 q1 HS1;go_wp2_with fail
   generalize hOz:Obj.cells #[Value.int .i64 zl,.int .i64 zh] 221=Oz at *;have HBn:=zA (HBa.out Oz);have HOn:=zA (HOa.out Oz);have hsn:w.heap.size<=(wr.alloc Oz).heap.size:=by simp;omega
   clear hOz HBa HOa;generalize wr.alloc Oz=wn at *;refine(HS1.out wn).mono ?_;rintro e w2 ⟨v,rfl,hp2,hb2⟩;obtain⟨pa,pc,rfl⟩:=zP hp2;have HB2:Hid (Below w.heap.size w w2):=HBn.out.trans (hb2.mono hsn);have hs2:=hb2.size
   have HO2:Hid (w2.ownsRow w.heap.size 221 2 (.slice oa A0.length oc) A0.length (dT (A0++P.take 0))):=by
    rw[List.take_zero,ms];refine⟨HOn.out.1,?_⟩;rcases HOn.out.2 with k|⟨g',cap,yL,k1,k2,k3,k4⟩
    ·exact .inl k
    ·exact .inr ⟨g',cap,yL,k1,k2,by rw[hb2.block g' (zM k3)];exact k3,k4⟩
   have HPb:Hid (∀j,j<P.length->∃pg,pa=some ⟨pg,0,none⟩/\wn.heap.size<=pg/\pg<w2.heap.size):=fun j hj=>by
    rcases hp2.2 with ⟨k1,k2⟩|⟨g',cap,yL,k1,k2,k3,k4⟩
    ·omega
    ·simp only[df]at k1
     exact⟨g',k1.1,k2,zM k3⟩
   obtain⟨pa',pc',e1,zM3,-,-⟩:=nH hp2;simp only[df]at e1;obtain⟨rfl,-,rfl⟩:=e1;have HCl:=zA zM3
   have zGL:Hid (∀k pg,(Value.slice oa A0.length oc).ownBlock=some k->pa=some ⟨pg,0,none⟩->k≠pg):=fun k pg h1 h2=>by
    have h3:=(zZ HOn.out k h1).2;intro e;rcases hp2.2 with ⟨k1,k2⟩|⟨g',cap,yL,k1,k2,k3,k4⟩
    ·simp only[df]at k1;rw[k1.1]at h2;cases h2
    ·simp only[df]at k1;rw[k1.1]at h2;simp at h2;(try omega)
   clear hp2 zM3 hb2;have hP3:=hl3;go_wp2_with fail
   generalize hwr:wr=wrr at *;clear hwr
   go_loopw [5,21] (fun ov iv wr=>∃(j:Nat),j<=P.length/\iv=.int .i64 j/\Hid (Below w.heap.size w wr)/\Hid (wr.ownsRow w.heap.size 221 2 ov (A0.length+j) (dT (A0++P.take j)))/\Hid (jR wr pa (dT P))/\Hid (∀k pg,ov.ownBlock=some k->pa=some ⟨pg,0,none⟩->k≠pg)/\w2.heap.size<=wr.heap.size) (fun _ iv _=>P.length-(intOf iv).toNat)
   case atStart=>exact⟨0,tx _,rfl,HB2,HO2,HCl,zGL,j1 _⟩
   case round =>
    obtain⟨j,hj,rfl,HBj,HOj,HCj,HNj,hsj⟩:=hrel;have hszj:=HBj.out.size;obtain⟨va,vc,rfl⟩:=zP HOj.out;by_cases zLY:j<P.length
    ·have jj:(j:Int)<(P.length:Int):=by omega
     obtain⟨pg,rfl,hpg1,hpg2⟩:=HPb.out j zLY;obtain⟨pg',e3,r0,r1⟩:=vq HCj.out zLY;obtain rfl:pg=pg':=by simpa using e3
     have lpg:=yR r0;have npg:wr.heap.size≠pg:=by omega
     have HPt:=zA (vu P j zLY);generalize P.getD j (0,0)=y at *;obtain⟨yl,yh⟩:=y;simp only at r0 r1 HPt;have HOa:Hid (∀o,(wr.alloc o).ownsRow w.heap.size 221 2 (.slice va (A0.length+j) vc) (A0.length+j) (dT (A0++P.take j))):=fun o=>HOj.out.alloc o;have HBa:Hid (∀o,Below w.heap.size w (wr.alloc o)):=fun o=>HBj.out.alloc hszj o;have HCa:Hid (∀o,jR (wr.alloc o) (some ⟨pg,0,none⟩) (dT P)):=fun o=>HCj.out.below (fw (j1 _) o)
     go_upto_region 8 with fail
     generalize hOy:Obj.cells #[Value.int .i64 yl,.int .i64 yh] 221=Oy at *;have hcy0:(wr.alloc Oy).cell? ⟨wr.heap.size,0,none⟩=some (.int .i64 yl):=by rw[<-hOy];exact(zB (zG _ _) 0).trans rfl
     have hcy1:(wr.alloc Oy).cell? ⟨wr.heap.size,1,none⟩=some (.int .i64 yh):=by rw[<-hOy];exact(zB (zG _ _) 1).trans rfl
     have HOy:=zA (HOa.out Oy);have HBy:=zA (HBa.out Oy);have HCy:=zA (HCa.out Oy);have hsy:(wr.alloc Oy).heap.size=wr.heap.size+1:=by simp
     have hsy2:w.heap.size<=(wr.alloc Oy).heap.size:=by omega
     have hsy3:pg<(wr.alloc Oy).heap.size:=by omega
     have hsy4:w2.heap.size<=(wr.alloc Oy).heap.size:=by omega
     clear hOy HOa HBa HCa hsy;generalize wr.alloc Oy=wy at *
     go_wp2_with (at_builtin;refine wpList_append_own_at _ rfl _ _ 218 rfl w.heap.size 221 i0 _ 2 16 Tryz.underlying218 hi0 hz0 hz1 hz2 rfl (by decide) _ _ _ rfl (HOy.out.alloc _) ⟨wy.heap.size,0,none⟩ 1 1 [.int .i64 yl,.int .i64 yh] rfl rfl ?c9k1 ?c9k2 ?c9k3 ?c9k4 ?c9k5 ?_)
     try (case c9k1=>first|exact zN _ _ _ _ rfl|exact fun _ _ h=>h)
     try (case c9k2=>first|exact⟨rfl,rfl⟩|rfl|(intro u hu;simp at hu;rcases hu with rfl|rfl <;> rfl))
     try (case c9k3=>unfold maxLen;omega)
     try (case c9k4=>omega)
     try (case c9k5=>first|omega|(simp;omega))
     intro v3 w3 zLM zLN _ hat;have HB3:Hid (Below w.heap.size w w3):=(HBy.out.alloc hsy2 _).grown zLN (by simp;omega) (zS HOy.out)
     have HO3:Hid (w3.ownsRow w.heap.size 221 2 v3 (A0.length+(j+1)) (dT (A0++P.take (j+1)))):=by
      unfold Hid;rw[pT,HPt.out,<-pr,<-pT,<-dg];exact zLM
     have HC3:Hid (jR w3 (some ⟨pg,0,none⟩) (dT P)):=by
      rcases HCy.out with k|⟨g',k1,k2⟩
      ·exact .inl k
      ·simp at k1;subst k1
       refine .inr ⟨pg,rfl,fun x hx=>?_⟩;rw[<-k2 x hx];rw[bm (w:=wy.alloc _) (a:=⟨pg,x,none⟩) (zLN.block pg (by simp;omega) (fun e=>HNj.out pg pg e.symm rfl rfl))];exact bm (w:=wy) (a:=⟨pg,x,none⟩) (l8 _ _ _ hsy3)
     have HN3:Hid (∀k pg',v3.ownBlock=some k->(some ⟨pg,0,none⟩:Option Addr)=some ⟨pg',0,none⟩->k≠pg'):=fun k pg' h1 h2=>by
      simp at h2;subst h2;rcases hat with h3|h3
      ·exact HNj.out k pg (h3 ▸ h1) rfl
      ·rw[h3]at h1;simp at h1;omega
     have hs3:w2.heap.size<=w3.heap.size:=by have:=zLN.size;simp at this;omega
     clear zLM zLN hat hcy0 hcy1;go_wp2_with fail
     go_roundw
     case rel=>exact⟨j+1,by omega,by go_num,HB3,HO3,HC3,HN3,hs3⟩
     case measure=>simp[intOf];omega
    ·have jj:¬(j:Int)<(P.length:Int):=by omega
     obtain rfl:j=P.length:=by omega
     have HO4:Hid (wr.ownsRow w.heap.size 221 2 (.slice va (A0.length+P.length) vc) (vH (zs.take (i+1)) b).length (dT (vH (zs.take (i+1)) b))):=by
      have:=HOj.out;rw[ce]at this;unfold Hid;rw[HTk.out,tm];exact this
     go_wp2_with fail
     go_roundw
     case rel=>exact⟨i+1,by omega,by go_num,HBj,HO4⟩
     case measure=>simp[intOf];omega
  ·have ii:¬(i:Int)<(zs.length:Int):=by omega
   have HE3:Hid (vH (zs.take i) b=vH zs b):=by unfold Hid;rw[di (by omega)]
   go_wp2_with fail
   go_ret
   exact⟨_,rfl,by rw[<-HE3.out];exact HO.out,HB.out⟩
theorem F1(w:World)(x:zO)(ea la:Option Addr)(ec lc:Nat)(eb lb:List Int)(he:tD w ea eb)(hl:tD w la lb)(hb:∀y∈eb++lb,-1000000<=y/\y<=1000000) :
 Calls Tryz.prog 97 #[Yl x,.slice ea eb.length ec,.slice la lb.length lc] w fun e w'=>∃v,e=.returned v/\w'.ownsRow w.heap.size 221 2 v (gX x.low x.high eb lb).length (dT (gX x.low x.high eb lb))/\Below w.heap.size w w':=by
 have hf1:=he.few;have hf2:=hl.few;have HI1:=zA he;have HI2:=zA hl;have HBd1:Hid (∀i,i<eb.length -> -1000000<=eb.getD i 0/\eb.getD i 0<=1000000):=fun i hi=>hb _ (pt.2 (.inl (by simp[List.getD,hi])));have HBd2:Hid (∀i,i<lb.length -> -1000000<=lb.getD i 0/\lb.getD i 0<=1000000):=fun i hi=>hb _ (pt.2 (.inr (by simp[List.getD,hi])));obtain⟨xn,xf,lo,hi⟩:=x;have hz01:[(lo,hi)].length=1:=rfl;have HF1:=zA (fun i hi'=>cI (Kw lo hi) eb i hi');have HF2:=zA (fun i hi'=>cI (cI (Kw lo hi) eb eb.length (j1 _)).1 lb i hi');have HT1:=zA (fun i hi'=>Ye [(lo,hi)] eb i hi');have HT2:=zA (fun i hi'=>Ye (xQ [(lo,hi)] (eb.take eb.length)) lb i hi');have HE:Hid (xQ (xQ [(lo,hi)] (eb.take eb.length)) (lb.take lb.length)=gX lo hi eb lb):=by unfold Hid gX;rw[ce,ce]
 simp only[Yl];generalize gX lo hi eb lb=ans at *;clear he hl hb
 go_enter Tryz.func97,Tryz.ntmps97
 go_wp2_with fail
 generalize hO1:Obj.cells #[.string ⟨xn.toArray⟩,.bool xf,.int .i64 lo,.int .i64 hi] 204=O1 at *;have HO0:Hid (((w.alloc O1).alloc (.cells #[.int .i64 lo,.int .i64 hi] 221)).ownsRow w.heap.size 221 2 (.slice (some ⟨w.heap.size+1,0,none⟩) 1 1) (xQ [(lo,hi)] (eb.take 0)).length (dT (xQ [(lo,hi)] (eb.take 0)))):=Vy (cs:=[.int .i64 lo,.int .i64 hi]) (yT _ _ _ (by simp)) (mw _) 1 rfl (by unfold maxLen;omega);have HB0:Hid (Below w.heap.size w ((w.alloc O1).alloc (.cells #[.int .i64 lo,.int .i64 hi] 221))):=(fw (j1 _) _).alloc (by simp) _;clear hO1;generalize (w.alloc O1).alloc (.cells #[.int .i64 lo,.int .i64 hi] 221)=w0 at *;generalize [(lo,hi)]=Z0 at *;have HZl:=zA hz01;clear hz01
 go_loopw [7,20] (fun ov iv wr=>∃(i:Nat),i<=eb.length/\iv=.int .i64 i/\Hid (Below w.heap.size w wr)/\Hid (wr.ownsRow w.heap.size 221 2 ov (xQ Z0 (eb.take i)).length (dT (xQ Z0 (eb.take i))))) (fun _ iv _=>eb.length-(intOf iv).toNat)
 case atStart=>exact⟨0,tx _,rfl,HB0,HO0⟩
 case round =>
  obtain⟨i,hi',rfl,HB,HO⟩:=hrel;have zLV:=HB.out.size;obtain⟨va,vc,rfl,zM3,-,-⟩:=nH HO.out;by_cases zLL:i<eb.length
  ·have ii:(i:Int)<(eb.length:Int):=by omega
   obtain⟨g,rfl,q⟩:=(HI1.out.below HB.out).at zLL;have hz2:=(HF1.out i hi').2;have hz3:=HZl.out;have HSp:=zA (Xd wr va vc _ (eb.getD i 0) (HBd1.out i zLL) zM3 (by omega));clear hz3;have HTt:=zA (HT1.out i zLL);clear zM3;generalize xQ Z0 (eb.take i)=A0 at *;generalize eb.getD i 0=y at *;go_wp2_with fail
   refine HSp.out.mono ?_;rintro e w2 ⟨v,rfl,ho2,hb2⟩;have HB2:Hid (Below w.heap.size w w2):=HB.out.trans (hb2.mono zLV);have HO2:Hid (w2.ownsRow w.heap.size 221 2 v (xQ Z0 (eb.take (i+1))).length (dT (xQ Z0 (eb.take (i+1))))):=by rw[HTt.out];exact yS ho2 zLV
   clear ho2 hb2;go_wp2_with fail
   go_roundw
   case rel=>exact⟨i+1,by omega,by go_num,HB2,HO2⟩
   case measure=>simp[intOf];omega
  ·have ii:¬(i:Int)<(eb.length:Int):=by omega
   obtain rfl:i=eb.length:=by omega
   have hZ1:=(HF1.out eb.length (j1 _)).2;rw[HZl.out]at hZ1;generalize xQ Z0 (eb.take eb.length)=Z1 at *;have HO1:Hid (wr.ownsRow w.heap.size 221 2 (.slice va Z1.length vc) (xQ Z1 (lb.take 0)).length (dT (xQ Z1 (lb.take 0)))):=HO.out;generalize hwr:wr=wq at *;clear hwr HF1 HT1 zM3;go_wp2_with fail
   go_loopw [7,30] (fun ov iv wr=>∃(i:Nat),i<=lb.length/\iv=.int .i64 i/\Hid (Below w.heap.size w wr)/\Hid (wr.ownsRow w.heap.size 221 2 ov (xQ Z1 (lb.take i)).length (dT (xQ Z1 (lb.take i))))) (fun _ iv _=>lb.length-(intOf iv).toNat)
   case atStart=>exact⟨0,tx _,rfl,HB,HO1⟩
   case round =>
    obtain⟨i,hi',rfl,HBz,HOz⟩:=hrel;have hszz:=HBz.out.size;by_cases zLY:i<lb.length
    ·have jj:(i:Int)<(lb.length:Int):=by omega
     obtain⟨g,rfl,q⟩:=(HI2.out.below HBz.out).at zLY;obtain⟨va,vc,rfl,zM3,-,-⟩:=nH HOz.out;have hz2:=(HF2.out i hi').2;have HSp:=zA (fun (h:(xQ Z1 (lb.take i)).length<=100000)=>Xd wr va vc _ (lb.getD i 0) (HBd2.out i zLY) zM3 h);have HTt:=zA (HT2.out i zLY);have hz3:(xQ Z1 (lb.take i)).length<=100000:=by omega
     clear zM3;generalize xQ Z1 (lb.take i)=A0 at *;generalize lb.getD i 0=y at *;go_wp2_with fail
     refine(HSp.out hz3).mono ?_;rintro e w2 ⟨v,rfl,ho2,hb2⟩;have HB2:Hid (Below w.heap.size w w2):=HBz.out.trans (hb2.mono hszz);have HO2:Hid (w2.ownsRow w.heap.size 221 2 v (xQ Z1 (lb.take (i+1))).length (dT (xQ Z1 (lb.take (i+1))))):=by rw[HTt.out];exact yS ho2 hszz
     clear ho2 hb2;go_wp2_with fail
     go_roundw
     case rel=>exact⟨i+1,by omega,by go_num,HB2,HO2⟩
     case measure=>simp[intOf];omega
    ·have jj:¬(i:Int)<(lb.length:Int):=by omega
     obtain rfl:i=lb.length:=by omega
     go_wp2_with fail
     go_ret
     exact⟨_,rfl,by rw[<-HE.out];exact HOz.out,HBz.out⟩
structure jI where
 flag:Bool
 place:Nat
variable{T S:List jI}
def UN:jI:=⟨false,0⟩
structure vV where
 Z:Nat->Int × Int
 rk:Nat->Nat
 inp:Nat->Int
 has:Nat->Bool
variable{s' s1 s s2:vV}{both:vV->Bool}
def tN(s:vV)(t:jI)(v:Nat):vV :=
 if t.flag=true then { s with inp:=fun i=>if i=t.place then (v:Int) else s.inp i } else { s with has:=fun c=>if c=t.place then decide (v=1) else s.has c }
theorem Dl(s:vV)(t:jI)(v:Nat):(tN s t v).Z=s.Z/\(tN s t v).rk=s.rk:=by unfold tN;split <;> exact⟨rfl,rfl⟩
def Gz(S:List jI)(i:Nat):Prop:=∀t∈S,¬(t.flag=true/\t.place=i)
def zIP(S:List jI)(c:Nat):Prop:=∀t∈S,¬(t.flag=false/\t.place=c)
structure dR(S:List jI)(s t:vV):Prop where
 inp:∀i,Gz S i->t.inp i=s.inp i
 has:∀c,zIP S c->t.has c=s.has c
def sG(S:List jI)(s:vV):Prop:=∀t∈S,t.flag=true->s.inp t.place=0\/s.inp t.place=1
def Dj(s:vV)(t:jI)(v:Nat):Prop:=(t.flag=true->s.inp t.place=(v:Int))/\(t.flag=false->s.has t.place=decide (v=1))
theorem dR.refl(S:List jI)(s:vV):dR S s s:=⟨fun _ _=>rfl,fun _ _=>rfl⟩
theorem dR.trans{a b c:vV}(h:dR S a b)(k:dR S b c):dR S a c:=⟨fun i hi=>(k.inp i hi).trans (h.inp i hi),fun i hi=>(k.has i hi).trans (h.has i hi)⟩
theorem dR.more{a b:vV}(h:dR S a b)(hs:∀t∈S,t∈T):dR T a b:=⟨fun i hi=>h.inp i fun t ht=>hi t (hs t ht),fun i hi=>h.has i fun t ht=>hi t (hs t ht)⟩
theorem Zx{t:jI}(ht:t∈S)(s:vV)(v:Nat):dR S s (tN s t v):=by
 unfold tN;cases hf:t.flag
 ·rw[tb (by simp)];exact⟨fun _ _=>rfl,fun c hc=>tb fun e=>hc t ht ⟨hf,e.symm⟩⟩
 ·rw[tl rfl];exact⟨fun i hi=>tb fun e=>hi t ht ⟨hf,e.symm⟩,fun _ _=>rfl⟩
theorem YM(s:vV)(t:jI)(v:Nat):Dj (tN s t v) t v:=by
 unfold tN Dj;cases hf:t.flag
 ·rw[tb (by simp)];exact⟨fun h=>absurd h (by simp),fun _=>tl rfl⟩
 ·rw[tl rfl];exact⟨fun _=>tl rfl,fun h=>absurd h (by simp)⟩
def FM(both:vV->Bool):List jI->vV->vV × Bool
 | [],s=>(s,both s)
 | T::S,s=>if (FM both S (tN s T 0)).2=true then FM both S (tN s T 0) else FM both S (tN (FM both S (tN s T 0)).1 T 1)
structure Zp(both:vV->Bool)(S:List jI)(s s':vV)(r:Bool):Prop where
 z:s'.Z=s.Z/\s'.rk=s.rk
 eq:dR S s s'
 yes:r=true->both s'=true/\sG S s'
 no:r=false->∀t,t.Z=s.Z->t.rk=s.rk->dR S s t->sG S t->both t=false
 fn:FM both S s=(s',r)
theorem FJ(both:vV->Bool)(s:vV):Zp both [] s s (both s) :=
 ⟨⟨rfl,rfl⟩,dR.refl _ _,fun h=>⟨h,fun t ht=>by simp at ht⟩,fun h t h1 h2 h3 _=>by
  have e:t=s:=by
   cases t;cases s
   simp only at h1 h2;subst h1 h2;congr
   ·funext i;exact h3.inp i fun t ht=>by simp at ht
   ·funext i;exact h3.has i fun t ht=>by simp at ht
  rw[e];exact h,rfl⟩
structure Yr(both:vV->Bool)(T:jI)(S:List jI)(s s':vV)(v:Nat):Prop where
 z:s'.Z=s.Z/\s'.rk=s.rk
 eq:dR (T::S) s s'
 no:∀u,u<v->∀t,t.Z=s.Z->t.rk=s.rk->dR (T::S) s t->sG (T::S) t->Dj t T u->both t=false
 fn:(v=0->s'=s)/\(v=1->FM both S (tN s T 0)=(s',false))/\(v=2->∃s1,FM both S (tN s T 0)=(s1,false)/\FM both S (tN s1 T 1)=(s',false))
theorem Bd(both:vV->Bool)(T:jI)(S:List jI)(s:vV):Yr both T S s s 0:=⟨⟨rfl,rfl⟩,dR.refl _ _,fun u hu=>absurd hu (by omega),fun _=>rfl,fun h=>absurd h (by omega),fun h=>absurd h (by omega)⟩
theorem FN{T:jI}{t:vV}{v:Nat}(h1:dR (T::S) s s1)(h2:dR (T::S) s t)(hv:Dj t T v):dR S (tN s1 T v) t:=by
 have hn:=YM s1 T v;have ht:=Zx (S:=[T]) (t:=T) (by simp) s1 v;refine⟨fun i hi=>?_,fun c hc=>?_⟩
 ·by_cases h:T.flag=true/\T.place=i
  ·rw[<-h.2,hv.1 h.1,hn.1 h.1]
  ·have ho:Gz (T::S) i:=fun q hq=>by
    rcases l6.1 hq with rfl|hq
    ·exact h
    ·exact hi q hq
   rw[h2.inp i ho,<-h1.inp i ho];exact(ht.inp i fun q hq=>by simp at hq;subst hq;exact h).symm
 ·by_cases h:T.flag=false/\T.place=c
  ·rw[<-h.2,hv.2 h.1,hn.2 h.1]
  ·have ho:zIP (T::S) c:=fun q hq=>by
    rcases l6.1 hq with rfl|hq
    ·exact h
    ·exact hc q hq
   rw[h2.has c ho,<-h1.has c ho];exact(ht.has c fun q hq=>by simp at hq;subst hq;exact h).symm
theorem FK{T:jI}{v:Nat}(hv:v<=1)(h:Yr both T S s s1 v)(k:Zp both S (tN s1 T v) s2 true):Zp both (T::S) s s2 true:=by
 have hz:=Dl s1 T v;have heq:dR (T::S) s s2:=(h.eq.trans (Zx (by simp) s1 v)).trans (k.eq.more fun t ht=>by simp[ht]);refine⟨⟨by rw[k.z.1,hz.1,h.z.1],by rw[k.z.2,hz.2,h.z.2]⟩,heq,fun _=>⟨(k.yes rfl).1,fun t ht hf=>?_⟩,fun h=>absurd h (by simp),?_⟩
 ·rcases l6.1 ht with rfl|ht
  ·by_cases ho:∃q∈S,q.flag=true/\q.place=t.place
   ·obtain⟨q,hq,h1,h2⟩:=ho
    rw[<-h2];exact(k.yes rfl).2 q hq h1
   ·rw[k.eq.inp t.place fun q hq hh=>ho ⟨q,hq,hh⟩,(YM s1 t v).1 hf]
    omega
  ·exact(k.yes rfl).2 t ht hf
 ·rcases(show v=0\/v=1 by omega) with rfl|rfl
  ·have e:=h.fn.1 rfl
   have q:=k.fn;rw[e]at q;rw[FM,q,tl rfl]
  ·rw[FM,h.fn.2.1 rfl,tb (by simp)]
   exact k.fn
theorem qf{T:jI}{v:Nat}(h:Yr both T S s s1 v)(k:Zp both S (tN s1 T v) s2 false):Yr both T S s s2 (v+1):=by
 have hz:=Dl s1 T v;refine⟨⟨by rw[k.z.1,hz.1,h.z.1],by rw[k.z.2,hz.2,h.z.2]⟩,(h.eq.trans (Zx (by simp) s1 v)).trans (k.eq.more fun t ht=>by simp[ht]),fun u hu t e1 e2 ht hb hva=>?_,fun e=>absurd e (by omega),fun e=>?_,fun e=>?_⟩
 ·by_cases hu2:u<v
  ·exact h.no u hu2 t e1 e2 ht hb hva
  ·obtain rfl:u=v:=by omega
   exact k.no rfl t (by rw[e1,hz.1,h.z.1]) (by rw[e2,hz.2,h.z.2]) (FN h.eq ht hva) fun q hq=>hb q (by simp[hq])
 ·obtain rfl:v=0:=by omega
  have q:=k.fn;rw[h.fn.1 rfl]at q;exact q
 ·obtain rfl:v=1:=by omega
  exact⟨s1,h.fn.2.1 rfl,k.fn⟩
theorem FL{T:jI}(h:Yr both T S s s1 2):Zp both (T::S) s s1 false:=by
 refine⟨h.z,h.eq,fun h=>absurd h (by simp),fun _ t e1 e2 ht hb=>?_,?_⟩
 ·cases hf:T.flag
  ·cases hv:t.has T.place
   ·exact h.no 0 (by omega) t e1 e2 ht hb ⟨fun h=>absurd (hf.symm.trans h) (by simp),fun _=>hv⟩
   ·exact h.no 1 (by omega) t e1 e2 ht hb ⟨fun h=>absurd (hf.symm.trans h) (by simp),fun _=>hv⟩
  ·rcases hb T (by simp) hf with hv|hv
   ·exact h.no 0 (by omega) t e1 e2 ht hb ⟨fun _=>hv,fun h=>absurd (hf.symm.trans h) (by simp)⟩
   ·exact h.no 1 (by omega) t e1 e2 ht hb ⟨fun _=>hv,fun h=>absurd (hf.symm.trans h) (by simp)⟩
 ·obtain⟨s0,q1,q2⟩:=h.fn.2.2 rfl
  rw[FM,q1,tb (by simp)];exact q2
def mS(np:Nat)(Z:Nat->Int × Int)(rk:Nat->Nat):List mQ:=(List.range np).map fun p=>⟨(Z p).1,(Z p).2,rk p⟩
theorem sK(np:Nat)(Z:Nat->Int × Int)(rk:Nat->Nat):(mS np Z rk).length=np:=by simp[mS]
theorem sL{Z':Nat->Int × Int}{rk':Nat->Nat}(h1:∀p,p<np->Z p=Z' p)(h2:∀p,p<np->rk p=rk' p):mS np Z rk=mS np Z' rk':=by
 unfold mS;exact List.map_congr_left fun p hp=>by rw[h1 p (by simpa using hp),h2 p (by simpa using hp)]
structure pS(np:Nat)(P:Nat->Nat)(S:List jI)(s t:vV):Prop where
 inp:∀i,(∀p,p<np->P p≠i)->Gz S i->t.inp i=s.inp i
 has:∀c,zIP S c->t.has c=s.has c
theorem pS.refl(np:Nat)(P:Nat->Nat)(S:List jI)(s:vV):pS np P S s s:=⟨fun _ _ _=>rfl,fun _ _=>rfl⟩
theorem pS.trans{a b c:vV}(h:pS np P S a b)(k:pS np P S b c):pS np P S a c:=⟨fun i h1 h2=>(k.inp i h1 h2).trans (h.inp i h1 h2),fun i h1=>(k.has i h1).trans (h.has i h1)⟩
theorem pS.symm{a b:vV}(h:pS np P S a b):pS np P S b a:=⟨fun i h1 h2=>(h.inp i h1 h2).symm,fun i h1=>(h.has i h1).symm⟩
theorem dR.rest{a b:vV}(h:dR S a b):pS np P S a b:=⟨fun i _ h2=>h.inp i h2,h.has⟩
def mL(np:Nat)(P:Nat->Nat)(rk:Nat->Nat)(o:List Int)(t:vV):Prop:=∀p,p<np->t.inp (P p)=o.getD (rk p) 0
structure iI(np:Nat)(P:Nat->Nat)(s s':vV)(r:Bool):Prop where
 z:s'.Z=s.Z/\s'.rk=s.rk/\s'.has=s.has
 off:∀i,(∀p,p<np->P p≠i)->s'.inp i=s.inp i
 yes:r=true->∃o,dL (mS np s.Z s.rk)=some o/\mL np P s.rk o s'
 no:r=false->dL (mS np s.Z s.rk)=none
def zHN(both:vV->Bool)(np:Nat)(P:Nat->Nat)(S:List jI)(Z:Nat->Int × Int)(a:Nat)(s:vV)(rk:Nat->Nat):Prop:=∀b rk',a<=b->b<np->(∀p,p<b->rk' p=rk p)->rk' b<rk b->(∀p,p<np->rk' p<np)->∀o,dL (mS np Z rk')=some o->∀t,pS np P S s t->mL np P rk' o t->sG S t->both t=false
structure Zr(both:vV->Bool)(np:Nat)(P:Nat->Nat)(S:List jI)(a:Nat)(s s':vV)(r:Bool):Prop where
 z:s'.Z=s.Z
 kp:∀p,p<a->s'.rk p=s.rk p
 rest:pS np P S s s'
 yes:r=true->both s'=true/\sG S s'/\∃rk o,(∀p,p<np->rk p<np)/\dL (mS np s.Z rk)=some o/\mL np P rk o s'
 no:r=false->∀rk,(∀p,p<a->rk p=s.rk p)->(∀p,p<np->rk p<np)->∀o,dL (mS np s.Z rk)=some o->∀t,pS np P S s t->mL np P rk o t->sG S t->both t=false
 det:r=true->∃rk o s1,(∀p,p<np->rk p<np)/\(∀p,p<a->rk p=s.rk p)/\dL (mS np s.Z rk)=some o/\mL np P rk o s1/\pS np P S s s1/\FM both S s1=(s',true)/\zHN both np P S s.Z a s rk
def zHR(both:vV->Bool):Prop:=∀s t:vV,s.inp=t.inp->s.has=t.has->both s=both t
theorem B2(ha:np<=a)(h:iI np P s s' false):Zr both np P S a s s' false:=by
 refine⟨h.z.1,fun p _=>by rw[h.z.2.1],⟨fun i h1 _=>h.off i h1,fun c _=>by rw[h.z.2.2]⟩,fun h=>absurd h (by simp),fun _ rk hrk _ o ho=>?_,fun h=>absurd h (by simp)⟩;rw[sL (Z':=s.Z) (rk':=s.rk) (fun _ _=>rfl) fun p hp=>hrk p (by omega),h.no rfl]at ho;exact absurd ho (by simp)
theorem B1(hbl:zHR both){r:Bool}(ha:np<=a)(hP:∀p,p<np->Gz S (P p))(hr:∀p,p<a->s.rk p<np)(h:iI np P s s1 true)(k:Zp both S s1 s2 r):Zr both np P S a s s2 r:=by
 obtain⟨o,ho,hn⟩:=h.yes rfl;have h1:pS np P S s s1:=⟨fun i h1 _=>h.off i h1,fun c _=>by rw[h.z.2.2]⟩;refine⟨by rw[k.z.1,h.z.1],fun p _=>by rw[k.z.2,h.z.2.1],h1.trans k.eq.rest,fun hr2=>⟨(k.yes hr2).1,(k.yes hr2).2,s.rk,o,fun p hp=>hr p (by omega),ho,fun p hp=>?_⟩,fun hr2 rk hrk _ o' ho' t ht hnt hb=>?_,fun hr2=>⟨s.rk,o,s1,fun p hp=>hr p (by omega),fun _ _=>rfl,ho,hn,h1,by rw[k.fn,hr2],fun b _ h1 h2=>absurd h1 (by omega)⟩⟩
 ·rw[k.eq.inp _ (hP p hp)];exact hn p hp
 ·have e:mS np s.Z rk=mS np s.Z s.rk:=sL (fun _ _=>rfl) fun p hp=>hrk p (by omega)
  rw[e,ho]at ho';obtain rfl:o=o':=by simpa using ho'
  have:=k.no hr2 { t with Z:=s1.Z,rk:=s1.rk } rfl rfl ⟨fun i hi=>?_,fun c hc=>?_⟩ hb
  ·rw[<-this];exact hbl _ _ rfl rfl
  ·by_cases hp:∃p,p<np/\P p=i
   ·obtain⟨p,hp,rfl⟩:=hp
    show t.inp (P p)=_;rw[hnt p hp,hn p hp,hrk p (by omega)]
   ·have hp2:∀p,p<np->P p≠i:=fun p h1 h2=>hp ⟨p,h1,h2⟩
    show t.inp i=_;rw[ht.inp i hp2 hi,h.off i hp2]
  ·show t.has c=_
   rw[ht.has c hc,h.z.2.2]
def oH(s:vV)(a v:Nat):vV:={ s with rk:=fun p=>if p=a then v else s.rk p }
structure Zs(both:vV->Bool)(np:Nat)(P:Nat->Nat)(S:List jI)(a:Nat)(s s':vV)(v:Nat):Prop where
 z:s'.Z=s.Z
 kp:∀p,p<a->s'.rk p=s.rk p
 rest:pS np P S s s'
 no:∀u,u<v->∀rk,(∀p,p<a->rk p=s.rk p)->rk a=u->(∀p,p<np->rk p<np)->∀o,dL (mS np s.Z rk)=some o->∀t,pS np P S s t->mL np P rk o t->sG S t->both t=false
theorem B4(both:vV->Bool)(np:Nat)(P:Nat->Nat)(S:List jI)(a:Nat)(s:vV):Zs both np P S a s s 0:=⟨rfl,fun _ _=>rfl,pS.refl _ _ _ _,fun u hu=>absurd hu (by omega)⟩
theorem iX(h:pS np P S s s1)(a v:Nat):pS np P S s (oH s1 a v):=⟨h.inp,h.has⟩
theorem Gk{v:Nat}(h:Zs both np P S a s s1 v)(k:Zr both np P S (a+1) (oH s1 a v) s2 true):Zr both np P S a s s2 true:=by
 refine⟨k.z.trans h.z,fun p hp=>?_,(iX h.rest a v).trans k.rest,fun _=>?_,fun h=>absurd h (by simp),fun _=>?_⟩
 ·rw[k.kp p (by omega)];show (if p=a then v else s1.rk p)=_;rw[tb (by omega)];exact h.kp p hp
 ·have:=k.yes rfl
  rw[show (oH s1 a v).Z=s.Z from h.z]at this;exact this
 ·obtain⟨rk,o,sx,q1,q2,q3,q4,q5,q6,q7⟩:=k.det rfl
  have ez:(oH s1 a v).Z=s.Z:=h.z;rw[ez]at q3 q7;have ea:rk a=v:=by rw[q2 a (by omega)];exact tl rfl
  have el:∀p,p<a->rk p=s.rk p:=fun p hp=>by
   rw[q2 p (by omega)];show (if p=a then v else s1.rk p)=_;rw[tb (by omega)];exact h.kp p hp
  refine⟨rk,o,sx,q1,el,q3,q4,(iX h.rest a v).trans q5,q6,fun b rk' hab hb hag zLL hn' o' ho' t ht hnt hbt=>?_⟩;by_cases e:a=b
  ·subst e
   exact h.no (rk' a) (by omega) rk' (fun p hp=>by rw[hag p hp,el p hp]) rfl hn' o' ho' t ht hnt hbt
  ·exact q7 b rk' (by omega) hb hag zLL hn' o' ho' t ((iX h.rest a v).symm.trans ht) hnt hbt
theorem ks{v:Nat}(h:Zs both np P S a s s1 v)(k:Zr both np P S (a+1) (oH s1 a v) s2 false):Zs both np P S a s s2 (v+1):=by
 refine⟨k.z.trans h.z,fun p hp=>?_,(iX h.rest a v).trans k.rest,fun u hu rk h1 h2 h3 o ho t ht hn hb=>?_⟩
 ·rw[k.kp p (by omega)];show (if p=a then v else s1.rk p)=_;rw[tb (by omega)];exact h.kp p hp
 ·by_cases hu2:u<v
  ·exact h.no u hu2 rk h1 h2 h3 o ho t ht hn hb
  ·obtain rfl:u=v:=by omega
   refine k.no rfl rk (fun p hp=>?_) h3 o (by rw[show (oH s1 a u).Z=s.Z from h.z];exact ho) t ((iX h.rest a u).symm.trans ht) hn hb;show rk p=if p=a then u else s1.rk p;by_cases hpa:p=a
   ·rw[tl hpa,hpa];exact h2
   ·rw[tb hpa,h.kp p (by omega)];exact h1 p (by omega)
theorem Gl(ha:a<np)(h:Zs both np P S a s s1 np):Zr both np P S a s s1 false :=
 ⟨h.z,h.kp,h.rest,fun h=>absurd h (by simp),fun _ rk h1 h3 o ho t ht hn hb=>h.no (rk a) (h3 a ha) rk h1 rfl h3 o ho t ht hn hb,fun h=>absurd h (by simp)⟩
def UM(zs:Nat->List (Int × Int))(zi:Nat->Nat):Nat->Int × Int:=fun p=>(zs p).getD (zi p) (0,0)
def zL7(both:vV->Bool)(np:Nat)(P:Nat->Nat)(zs:Nat->List (Int × Int))(S:List jI)(a:Nat)(s:vV)(zi:Nat->Nat):Prop:=∀b zi',a<=b->b<np->(∀p,p<b->UM zs zi' p=UM zs zi p)->zi' b<zi b->(∀p,p<np->zi' p<(zs p).length)->∀rk,(∀p,p<np->rk p<np)->∀o,dL (mS np (UM zs zi') rk)=some o->∀t,pS np P S s t->mL np P rk o t->sG S t->both t=false
structure sF(both:vV->Bool)(np:Nat)(P:Nat->Nat)(zs:Nat->List (Int × Int))(S:List jI)(a:Nat)(s s':vV)(r:Bool):Prop where
 rest:pS np P S s s'
 kp:∀p,p<a->s'.Z p=s.Z p
 yes:r=true->both s'=true/\sG S s'/\∃Z rk o,(∀p,p<np->Z p∈zs p)/\(∀p,p<np->rk p<np)/\dL (mS np Z rk)=some o/\mL np P rk o s'
 no:r=false->∀Z,(∀p,p<a->Z p=s.Z p)->(∀p,p<np->Z p∈zs p)->∀rk,(∀p,p<np->rk p<np)->∀o,dL (mS np Z rk)=some o->∀t,pS np P S s t->mL np P rk o t->sG S t->both t=false
 det:r=true->∃zi rk o s1,(∀p,p<np->zi p<(zs p).length)/\(∀p,p<a->UM zs zi p=s.Z p)/\(∀p,p<np->rk p<np)/\dL (mS np (UM zs zi) rk)=some o/\mL np P rk o s1/\pS np P S s s1/\FM both S s1=(s',true)/\zL7 both np P zs S a s zi/\zHN both np P S (UM zs zi) 0 s rk
theorem vr{zs:Nat->List (Int × Int)}{r:Bool}(ha:np<=a)(hz:∀p,p<a->s.Z p∈zs p)(h:Zr both np P S 0 s s' r):sF both np P zs S a s s' r:=by
 refine⟨h.rest,fun p _=>by rw[h.z],fun hr=>?_,fun hr Z h1 _ rk h3 o ho t ht hn hb=>?_,fun hr=>?_⟩
 ·obtain⟨q1,q2,rk,o,q3,q4,q5⟩:=h.yes hr
  exact⟨q1,q2,s.Z,rk,o,fun p hp=>hz p (by omega),q3,q4,q5⟩
 ·refine h.no hr rk (fun p hp=>absurd hp (by omega)) h3 o ?_ t ht hn hb
  rw[<-sL (Z:=Z) (rk:=rk) (fun p hp=>h1 p (by omega)) fun _ _=>rfl];exact ho
 ·obtain⟨rk,o,sx,q1,q2,q3,q4,q5,q6,q7⟩:=h.det hr
  obtain⟨zi,hzi⟩:∃zi:Nat->Nat,∀p,p<a->zi p<(zs p).length/\UM zs zi p=s.Z p:=by
   have hx:∀p,∃u,p<a->u<(zs p).length/\(zs p).getD u (0,0)=s.Z p:=fun p=>by
    by_cases hp:p<a
    ·obtain⟨u,hu,e⟩:=cw (hz p hp)
     exact⟨u,fun _=>⟨hu,by simp[List.getD,hu,e]⟩⟩
    ·exact⟨0,fun h=>absurd h hp⟩
   exact⟨fun p=>Classical.choose (hx p),fun p hp=>Classical.choose_spec (hx p) hp⟩
  have ez:∀rk',mS np s.Z rk'=mS np (UM zs zi) rk':=fun rk'=>sL (fun p hp=>(hzi p (by omega)).2.symm) fun _ _=>rfl;refine⟨zi,rk,o,sx,fun p hp=>(hzi p (by omega)).1,fun p hp=>(hzi p hp).2,q1,by rw[<-ez];exact q3,q4,q5,q6,fun b _ h1 h2=>absurd h1 (by omega),fun b rk' hab hb hag zLL hn' o' ho' => ?_⟩;rw[<-ez]at ho';exact q7 b rk' hab hb hag zLL hn' o' ho'
def fP(s:vV)(a:Nat)(z:Int × Int):vV:={ s with Z:=fun p=>if p=a then z else s.Z p }
structure aY(both:vV->Bool)(np:Nat)(P:Nat->Nat)(zs:Nat->List (Int × Int))(S:List jI)(a:Nat)(s s':vV)(v:Nat):Prop where
 kp:∀p,p<a->s'.Z p=s.Z p
 rest:pS np P S s s'
 no:∀u,u<v->∀Z,(∀p,p<a->Z p=s.Z p)->Z a=(zs a).getD u (0,0)->(∀p,p<np->Z p∈zs p)->∀rk,(∀p,p<np->rk p<np)->∀o,dL (mS np Z rk)=some o->∀t,pS np P S s t->mL np P rk o t->sG S t->both t=false
theorem US(both:vV->Bool)(np:Nat)(P:Nat->Nat)(zs:Nat->List (Int × Int))(S:List jI)(a:Nat)(s:vV):aY both np P zs S a s s 0:=⟨fun _ _=>rfl,pS.refl _ _ _ _,fun u hu=>absurd hu (by omega)⟩
theorem sR(h:pS np P S s s1)(a:Nat)(z:Int × Int):pS np P S s (fP s1 a z):=⟨h.inp,h.has⟩
theorem F5{zs:Nat->List (Int × Int)}{v:Nat}(h:aY both np P zs S a s s1 v)(hv:v<(zs a).length)(hz:∀p,p<a->s.Z p∈zs p):∀p,p<a+1->(fP s1 a ((zs a).getD v (0,0))).Z p∈zs p:=fun p hp=>by
 show (if p=a then (zs a).getD v (0,0) else s1.Z p)∈zs p;by_cases hpa:p=a
 ·rw[tl hpa,hpa];simp[List.getD,hv]
 ·rw[tb hpa,h.kp p (by omega)];exact hz p (by omega)
theorem F4{zs:Nat->List (Int × Int)}{v:Nat}(hv:v<(zs a).length)(h:aY both np P zs S a s s1 v)(k:sF both np P zs S (a+1) (fP s1 a ((zs a).getD v (0,0))) s2 true):sF both np P zs S a s s2 true:=by
 refine⟨(sR h.rest a _).trans k.rest,fun p hp=>?_,fun _=>k.yes rfl,fun h=>absurd h (by simp),fun _=>?_⟩
 ·rw[k.kp p (by omega)];show (if p=a then _ else s1.Z p)=_;rw[tb (by omega)];exact h.kp p hp
 ·obtain⟨zi,rk,o,sx,q0,q1,q2,q3,q4,q5,q6,q7,q8⟩:=k.det rfl
  have ea:UM zs zi a=(zs a).getD v (0,0):=by rw[q1 a (by omega)];exact tl rfl
  have el:∀p,p<a->UM zs zi p=s.Z p:=fun p hp=>by
   rw[q1 p (by omega)];show (if p=a then _ else s1.Z p)=_;rw[tb (by omega)];exact h.kp p hp
  have e2:UM zs (fun p=>if p=a then v else zi p)=UM zs zi:=funext fun p=>by
   by_cases hp:p=a
   ·subst hp;rw[ea];unfold UM;simp only[dw]
   ·unfold UM;simp only[tb hp]
  refine⟨fun p=>if p=a then v else zi p,rk,o,sx,fun p hp=>?_,fun p hp=>by rw[e2];exact el p hp,q2,by rw[e2];exact q3,q4,(sR h.rest a _).trans q5,q6,fun b zi' hab hb hag zLL hn' rk' hr' o' ho' t ht hnt hbt=>?_,fun b rk' hab hb hag zLL hn' o' ho' t ht hnt hbt=>?_⟩
  ·by_cases hp2:p=a
   ·simp only[hp2,dw];exact hv
   ·simp only[tb hp2];exact q0 p hp
  ·rw[e2]at hag
   by_cases e:a=b
   ·subst e
    simp only[dw]at zLL;exact h.no (zi' a) zLL (UM zs zi') (fun p hp=>by rw[hag p hp,el p hp]) rfl (fun p hp=>by unfold UM;simp[List.getD,hn' p hp]) rk' hr' o' ho' t ht hnt hbt
   ·simp only[tb (fun q=>e (Eq.symm q))]at zLL
    exact q7 b zi' (by omega) hb hag zLL hn' rk' hr' o' ho' t ((sR h.rest a _).symm.trans ht) hnt hbt
  ·rw[e2]at ho'
   exact q8 b rk' hab hb hag zLL hn' o' ho' t ((sR h.rest a _).symm.trans ht) hnt hbt
theorem vt{both:vV->Bool}{np:Nat}{P:Nat->Nat}{zs:Nat->List (Int × Int)}{S:List jI}{a v:Nat}{s s1 s2:vV}(h:aY both np P zs S a s s1 v)(k:sF both np P zs S (a+1) (fP s1 a ((zs a).getD v (0,0))) s2 false):aY both np P zs S a s s2 (v+1):=by
 refine⟨fun p hp=>?_,(sR h.rest a _).trans k.rest,fun u hu Z h1 h2 h3 rk h4 o ho t ht hn hb=>?_⟩
 ·rw[k.kp p (by omega)];show (if p=a then _ else s1.Z p)=_;rw[tb (by omega)];exact h.kp p hp
 ·by_cases hu2:u<v
  ·exact h.no u hu2 Z h1 h2 h3 rk h4 o ho t ht hn hb
  ·obtain rfl:u=v:=by omega
   refine k.no rfl Z (fun p hp=>?_) h3 rk h4 o ho t ((sR h.rest a _).symm.trans ht) hn hb;show Z p=if p=a then _ else s1.Z p;by_cases hpa:p=a
   ·rw[tl hpa,hpa];exact h2
   ·rw[tb hpa,h.kp p (by omega)];exact h1 p (by omega)
theorem F6{zs:Nat->List (Int × Int)}(ha:a<np)(h:aY both np P zs S a s s1 (zs a).length):sF both np P zs S a s s1 false:=by
 refine⟨h.rest,h.kp,fun h=>absurd h (by simp),fun _ Z h1 h3 rk h4 o ho t ht hn hb=>?_,fun h=>absurd h (by simp)⟩;obtain⟨u,hu,e⟩:=cw (h3 a ha);exact h.no u hu Z h1 (by simp[List.getD,hu,e]) h3 rk h4 o ho t ht hn hb
def zKA(t:jI):List Value:=[.bool t.flag,.int .i64 (t.place:Nat)]
structure SK where
 B:Nat
 b:Nat
 e:MX
 l:MX
 np:Nat
 P:Nat->Nat
 zs:Nat->List (Int × Int)
 za:Nat->Option Addr
 zc:Nat->Nat
 na:Option Addr
 gn:Nat
 nc:Nat
 sw:List jI
 sa:Option Addr
 sc:Nat
 gi:Nat
 gh:Nat
 n:Nat
 h:Nat
def aH(K:SK)(s:vV)(j:Nat):Value :=
 if j%5=0 then .int .i64 (K.P (j/5):Nat) else if j%5=1 then .slice (K.za (j/5)) (K.zs (j/5)).length (K.zc (j/5)) else if j%5=2 then .int .i64 (s.Z (j/5)).1 else if j%5=3 then .int .i64 (s.Z (j/5)).2 else .int .i64 (s.rk (j/5):Nat)
def srA(K:SK):Array Value := #[.string ⟨K.e.1.label.toArray⟩,.int .i64 K.e.1.conc,K.e.2.1,K.e.2.2,.int .i64 K.e.1.root,.string ⟨K.l.1.label.toArray⟩,.int .i64 K.l.1.conc,K.l.2.1,K.l.2.2,.int .i64 K.l.1.root,.slice K.na K.np K.nc,.slice K.sa K.sw.length K.sc,.slice (some ⟨K.gi,0,none⟩) K.n K.n,.slice (some ⟨K.gh,0,none⟩) K.h K.h,.slice none 0 0]
structure kZ(w:World)(K:SK)(s:vV):Prop where
 hd:w.heap[K.b]? = some (.cells (srA K) 170 (0,0))
 rN:0<K.np->K.na=some ⟨K.gn,0,none⟩/\uA w K.gn 223 (5*K.np) (aH K s)
 rI:uA w K.gi 3 K.n (fun i=>.int .i64 (s.inp i))
 rH:uA w K.gh 4 K.h (fun c=>.bool (s.has c))
 sw:xA w 216 K.sa (K.sw.flatMap zKA)
 zn:∀p,p<K.np->xA w 221 (K.za p) (dT (K.zs p))
 eM:uN w K.e
 lM:uN w K.l
structure Qs(K:SK):Prop where
 lob:K.B<=K.b
 loi:K.B<=K.gi
 loh:K.B<=K.gh
 lon:0<K.np->K.B<=K.gn
 np:K.np<=100
 n:K.n<=10000
 h:K.h<=10000
 sw:K.sw.length<=20000
 zs:∀p,p<K.np->(K.zs p).length<=100000
 P:∀p,p<K.np->K.P p<K.n
 inj:∀p q,p<K.np->q<K.np->K.P p=K.P q->p=q
 off:∀p,p<K.np->Gz K.sw (K.P p)
 tgI:∀t∈K.sw,t.flag=true->t.place<K.n
 tgH:∀t∈K.sw,t.flag=false->t.place<K.h
theorem Xw{b:Nat}{cs':Array Value}{fz':Nat × Nat}(h1:w.heap[a]? = some (.cells cs t fz))(h2:w.heap[b]? = some (.cells cs' t' fz'))(zLO:t≠t'):a≠b:=fun e=>by
 subst e;rw[h1]at h2;simp only[lk,Obj.cells.injEq]at h2;exact zLO h2.2.1
theorem uA.ne{b:Nat}{n n':Nat}{f':Nat->Value}(h1:uA w a t n f)(h2:uA w b t' n' f')(zLO:t≠t'):a≠b:=by
 obtain⟨cs,q1,_⟩:=h1;obtain⟨cs',q2,_⟩:=h2;exact Xw q1 q2 zLO
theorem xA.row{a:Option Addr}(h:xA w t a xs){n:Nat}(u:Value)(hr:uA w g t' n f)(zLO:t≠t'):xA (w.setCell ⟨g,j,none⟩ u) t a xs:=by
 obtain⟨cs,q,_⟩:=hr;exact h.set q zLO
theorem uN.row(h:uN w x){n:Nat}(u:Value)(hr:uA w g t' n f)(h1:260≠t')(h2:263≠t'):uN (w.setCell ⟨g,j,none⟩ u) x:=by
 obtain⟨a,c,e1,q1⟩:=h.sum;obtain⟨a',c',e2,q2⟩:=h.guard;exact⟨⟨a,c,e1,q1.row u hr h1⟩,⟨a',c',e2,q2.row u hr h2⟩,h.few1,h.few2⟩
theorem kZ.below{K:SK}(h:kZ w K s)(hb:Below w.heap.size w w'):kZ w' K s :=
 ⟨by rw[hb.block _ (zM h.hd)];exact h.hd,fun h0=>⟨(h.rN h0).1,(h.rN h0).2.below hb⟩,h.rI.below hb,h.rH.below hb,h.sw.below hb,fun p hp=>(h.zn p hp).below hb,h.eM.below hb,h.lM.below hb⟩
theorem Cq{b:Nat}(h:w.heap[b]? = some (.cells cs t fz)){n:Nat}(u:Value)(hr:uA w g t' n f)(zLO:t≠t'):(w.setCell ⟨g,j,none⟩ u).heap[b]? = some (.cells cs t fz):=by
 obtain⟨cs',q,_⟩:=hr;rw[mc w ⟨g,j,none⟩ b u (Xw h q zLO)];exact h
theorem kZ.setI{K:SK}(h:kZ w K s){i:Nat}(hi:i<K.n)(v:Int){f:Nat->Int}(e1:f i=v)(e2:∀r,r<K.n->r≠i->f r=s.inp r):kZ (w.setCell ⟨K.gi,i,none⟩ (.int .i64 v)) K { s with inp:=f } :=
 ⟨Cq h.hd _ h.rI (by decide),fun h0=>⟨(h.rN h0).1,(h.rN h0).2.other _ ((h.rN h0).2.ne h.rI (by decide))⟩,h.rI.set _ hi (congrArg (Value.int .i64) e1) (fun x hx zLO=>congrArg (Value.int .i64) (e2 x hx zLO)),h.rH.other _ (h.rH.ne h.rI (by decide)),h.sw.row _ h.rI (by decide),fun p hp=>(h.zn p hp).row _ h.rI (by decide),h.eM.row _ h.rI (by decide) (by decide),h.lM.row _ h.rI (by decide) (by decide)⟩
theorem kZ.setH{K:SK}(h:kZ w K s){i:Nat}(hi:i<K.h)(v:Bool){f:Nat->Bool}(e1:f i=v)(e2:∀r,r<K.h->r≠i->f r=s.has r):kZ (w.setCell ⟨K.gh,i,none⟩ (.bool v)) K { s with has:=f } :=
 ⟨Cq h.hd _ h.rH (by decide),fun h0=>⟨(h.rN h0).1,(h.rN h0).2.other _ ((h.rN h0).2.ne h.rH (by decide))⟩,h.rI.other _ (h.rI.ne h.rH (by decide)),h.rH.set _ hi (congrArg Value.bool e1) (fun x hx zLO=>congrArg Value.bool (e2 x hx zLO)),h.sw.row _ h.rH (by decide),fun p hp=>(h.zn p hp).row _ h.rH (by decide),h.eM.row _ h.rH (by decide) (by decide),h.lM.row _ h.rH (by decide) (by decide)⟩
theorem kZ.setN{K:SK}(h:kZ w K s)(hj:j<5*K.np)(v:Value)(e0:s'.inp=s.inp/\s'.has=s.has)(e1:aH K s' j=v)(e2:∀x,x<5*K.np->x≠j->aH K s' x=aH K s x):kZ (w.setCell ⟨K.gn,j,none⟩ v) K s':=by
 have hN:=h.rN (by omega);exact⟨Cq h.hd _ hN.2 (by decide),fun _=>⟨hN.1,hN.2.set _ hj e1 e2⟩,by rw[e0.1];exact h.rI.other _ (h.rI.ne hN.2 (by decide)),by rw[e0.2];exact h.rH.other _ (h.rH.ne hN.2 (by decide)),h.sw.row _ hN.2 (by decide),fun p hp=>(h.zn p hp).row _ hN.2 (by decide),h.eM.row _ hN.2 (by decide) (by decide),h.lM.row _ hN.2 (by decide) (by decide)⟩
theorem kZ.setRk{K:SK}(h:kZ w K s)(hp:p<K.np)(v:Nat):kZ (w.setCell ⟨K.gn,p*5+4,none⟩ (.int .i64 (v:Nat))) K (oH s p v):=by
 refine h.setN (by omega) _ ⟨rfl,rfl⟩ ?_ fun x hx zLO=>?_
 ·unfold aH oH
  rw[tb (by omega),tb (by omega),tb (by omega),tb (by omega),show (p*5+4)/5=p by omega];simp
 ·unfold aH oH
  by_cases h4:x%5=4
  ·have:x/5≠p:=by omega
   simp[h4,this]
  ·rcases(show x%5=0\/x%5=1\/x%5=2\/x%5=3 by omega) with h|h|h|h <;> simp[h]
theorem kZ.setZn{K:SK}(h:kZ w K s)(hp:p<K.np)(z:Int × Int):kZ ((w.setCell ⟨K.gn,p*5+2,none⟩ (.int .i64 z.1)).setCell ⟨K.gn,p*5+3,none⟩ (.int .i64 z.2)) K (fP s p z):=by
 have h1:kZ (w.setCell ⟨K.gn,p*5+2,none⟩ (.int .i64 z.1)) K (fP s p (z.1,(s.Z p).2)):=by
  refine h.setN (by omega) _ ⟨rfl,rfl⟩ ?_ fun x hx zLO=>?_
  ·unfold aH fP
   rw[tb (by omega),tb (by omega),tl (by omega),show (p*5+2)/5=p by omega];simp
  ·unfold aH fP
   by_cases h4:x/5=p
   ·rcases(show x%5=0\/x%5=1\/x%5=3\/x%5=4 by omega) with h|h|h|h <;> simp[h,h4]
   ·simp[h4]
 refine h1.setN (by omega) _ ⟨rfl,rfl⟩ ?_ fun x hx zLO=>?_
 ·unfold aH fP
  rw[tb (by omega),tb (by omega),tb (by omega),tl (by omega),show (p*5+3)/5=p by omega];simp
 ·unfold aH fP
  by_cases h4:x/5=p
  ·rcases(show x%5=0\/x%5=1\/x%5=2\/x%5=4 by omega) with h|h|h|h <;> simp[h,h4]
  ·simp[h4]
def eE(K:SK)(s:vV):yZ:=⟨(List.range K.n).map s.inp,(List.range K.h).map s.has,[]⟩
def uX(K:SK)(s:vV):Bool:=kB K.e.1 (eE K s)&&kB K.l.1 (eE K s)
theorem U1(K:SK):zHR (uX K):=fun s t h1 h2=>by unfold uX eE;rw[h1,h2]
theorem kZ.state{K:SK}(ok:Qs K)(h:kZ w K s):oC w (some ⟨K.gi,0,none⟩) (some ⟨K.gh,0,none⟩) none (eE K s):=by
 have:=ok.n;have:=ok.h;refine⟨⟨?_,by simp[eE];omega⟩,⟨?_,by simp[eE];omega⟩,⟨.inl rfl,by simp[eE]⟩⟩
 ·have:=h.rI.cel
  simp only[eE,tX,List.map_map];exact this
 ·have:=h.rH.cel
  simp only[eE,Zl,List.map_map];exact this
theorem kZ.cells{K:SK}(h:kZ w K s)(j:Nat):w.cell? ⟨K.b,j,none⟩=(srA K)[j]? := zB h.hd j
theorem kZ.num{K:SK}(h:kZ w K s)(hp:p<K.np):K.na=some ⟨K.gn,0,none⟩/\w.cell? ⟨K.gn,p*5,none⟩=some (.int .i64 (K.P p:Nat))/\w.cell? ⟨K.gn,p*5+1,none⟩=some (.slice (K.za p) (K.zs p).length (K.zc p))/\w.cell? ⟨K.gn,p*5+2,none⟩=some (.int .i64 (s.Z p).1)/\w.cell? ⟨K.gn,p*5+3,none⟩=some (.int .i64 (s.Z p).2)/\w.cell? ⟨K.gn,p*5+4,none⟩=some (.int .i64 (s.rk p:Nat))/\∀j,w.frozen? ⟨K.gn,j,none⟩=false:=by
 obtain⟨h0,h1⟩:=h.rN (by omega);refine⟨h0,(h1.cell (by omega)).trans ?_,(h1.cell (by omega)).trans ?_,(h1.cell (by omega)).trans ?_,(h1.cell (by omega)).trans ?_,(h1.cell (by omega)).trans ?_,h1.free⟩
 ·unfold aH;rw[tl (by omega),show (p*5)/5=p by omega]
 ·unfold aH;rw[tb (by omega),tl (by omega),show (p*5+1)/5=p by omega]
 ·unfold aH;rw[tb (by omega),tb (by omega),tl (by omega),show (p*5+2)/5=p by omega]
 ·unfold aH;rw[tb (by omega),tb (by omega),tb (by omega),tl (by omega),show (p*5+3)/5=p by omega]
 ·unfold aH;rw[tb (by omega),tb (by omega),tb (by omega),tb (by omega),show (p*5+4)/5=p by omega]
theorem kZ.tog{K:SK}(h:kZ w K s){i:Nat}(hi:i<K.sw.length):∃g,K.sa=some ⟨g,0,none⟩/\w.cell? ⟨g,i*2,none⟩=some (.bool (K.sw.getD i UN).flag)/\w.cell? ⟨g,i*2+1,none⟩=some (.int .i64 ((K.sw.getD i UN).place:Nat)):=by
 have hc:=h.sw.cel;obtain⟨g,e,c0⟩:=hc.at ((zQ zKA 2 (fun _=>rfl) UN K.sw i 0 hi (by decide)).trans rfl);obtain⟨g',e',c1⟩:=hc.at ((zQ zKA 2 (fun _=>rfl) UN K.sw i 1 hi (by decide)).trans rfl);obtain rfl:g=g':=by rw[e]at e';simpa using e'
 exact⟨g,e,c0,c1⟩
theorem Qj(w:World)(K:SK)(s:vV)(ok:Qs K)(h:kZ w K s)(x:MX)(hx:x=K.e\/x=K.l) :
 Calls Tryz.prog 132 #[.agg #[.string ⟨x.1.label.toArray⟩,.int .i64 x.1.conc,x.2.1,x.2.2,.int .i64 x.1.root],.agg #[.slice (some ⟨K.gi,0,none⟩) K.n K.n,.slice (some ⟨K.gh,0,none⟩) K.h K.h,.slice none 0 0]] w fun e w'=>e=.returned (.bool (kB x.1 (eE K s)))/\Below w.heap.size w w':=by
 have h1:=X2 w (some ⟨K.gi,0,none⟩) (some ⟨K.gh,0,none⟩) none K.n K.h 0 (eE K s) x (by rcases hx with rfl|rfl;exact h.eM;exact h.lM) (h.state ok);have e:Dr (some ⟨K.gi,0,none⟩) (some ⟨K.gh,0,none⟩) none K.n K.h 0 (eE K s)=.agg #[.slice (some ⟨K.gi,0,none⟩) K.n K.n,.slice (some ⟨K.gh,0,none⟩) K.h K.h,.slice none 0 0]:=by simp[Dr,eE]
 rw[e]at h1;exact h1
theorem U2(w:World)(K:SK)(s:vV)(ok:Qs K)(h:kZ w K s) :
 Calls Tryz.prog 175 #[.pointer (some ⟨K.b,0,none⟩)] w fun e w'=>e=.returned (.bool (uX K s))/\Below w.heap.size w w':=by
 have HA1:=zA (fun w' (hb:Below w.heap.size w w')=>Qj w' K s ok (h.below hb) K.e (.inl rfl));have HA2:=zA (fun w' (hb:Below w.heap.size w w')=>Qj w' K s ok (h.below hb) K.l (.inr rfl));have HC:=zA (fun w' (hb:Below w.heap.size w w')=>(h.below hb).cells);have HR:Hid (uX K s=(kB K.e.1 (eE K s)&&kB K.l.1 (eE K s))):=rfl;have hc:=HC.out w (tg _ _);have c0:w.cell? ⟨K.b,0,none⟩=some (.string ⟨K.e.1.label.toArray⟩):=hc 0;have c1:w.cell? ⟨K.b,1,none⟩=some (.int .i64 K.e.1.conc):=hc 1;have c2:w.cell? ⟨K.b,2,none⟩=some (K.e.2.1):=hc 2;have c3:w.cell? ⟨K.b,3,none⟩=some (K.e.2.2):=hc 3;have c4:w.cell? ⟨K.b,4,none⟩=some (.int .i64 K.e.1.root):=hc 4;have c12:w.cell? ⟨K.b,12,none⟩=some (.slice (some ⟨K.gi,0,none⟩) K.n K.n):=hc 12;have c13:w.cell? ⟨K.b,13,none⟩=some (.slice (some ⟨K.gh,0,none⟩) K.h K.h):=hc 13;have c14:w.cell? ⟨K.b,14,none⟩=some (.slice none 0 0):=hc 14;have HD:Hid (∀w',Below w.heap.size w w'->w'.cell? ⟨K.b,5,none⟩=some (.string ⟨K.l.1.label.toArray⟩)/\w'.cell? ⟨K.b,6,none⟩=some (.int .i64 K.l.1.conc)/\w'.cell? ⟨K.b,7,none⟩=some K.l.2.1/\w'.cell? ⟨K.b,8,none⟩=some K.l.2.2/\w'.cell? ⟨K.b,9,none⟩=some (.int .i64 K.l.1.root)/\w'.cell? ⟨K.b,12,none⟩=some (.slice (some ⟨K.gi,0,none⟩) K.n K.n)/\w'.cell? ⟨K.b,13,none⟩=some (.slice (some ⟨K.gh,0,none⟩) K.h K.h)/\w'.cell? ⟨K.b,14,none⟩=some (.slice none 0 0)):=fun w' hb=>⟨HC.out w' hb 5,HC.out w' hb 6,HC.out w' hb 7,HC.out w' hb 8,HC.out w' hb 9,HC.out w' hb 12,HC.out w' hb 13,HC.out w' hb 14⟩;have HD0:Hid (∀w',Below w.heap.size w w'->w'.cell? ⟨K.b,0,none⟩=some (.string ⟨K.e.1.label.toArray⟩)/\w'.cell? ⟨K.b,1,none⟩=some (.int .i64 K.e.1.conc)/\w'.cell? ⟨K.b,2,none⟩=some K.e.2.1/\w'.cell? ⟨K.b,3,none⟩=some K.e.2.2/\w'.cell? ⟨K.b,4,none⟩=some (.int .i64 K.e.1.root)/\w'.cell? ⟨K.b,12,none⟩=some (.slice (some ⟨K.gi,0,none⟩) K.n K.n)/\w'.cell? ⟨K.b,13,none⟩=some (.slice (some ⟨K.gh,0,none⟩) K.h K.h)/\w'.cell? ⟨K.b,14,none⟩=some (.slice none 0 0)):=fun w' hb=>⟨HC.out w' hb 0,HC.out w' hb 1,HC.out w' hb 2,HC.out w' hb 3,HC.out w' hb 4,HC.out w' hb 12,HC.out w' hb 13,HC.out w' hb 14⟩;have lb:=yF c0;obtain⟨ea,ec,q1,-⟩:=h.eM.sum;obtain⟨eg,egc,q2,-⟩:=h.eM.guard;obtain⟨la,lc,q3,-⟩:=h.lM.sum;obtain⟨lg,lgc,q4,-⟩:=h.lM.guard;have c2':w.cell? ⟨K.b,2,none⟩=some (.slice ea K.e.1.sum.length ec):=by rw[<-q1];exact c2
 have c3':w.cell? ⟨K.b,3,none⟩=some (.slice eg K.e.1.guard.length egc):=by rw[<-q2];exact c3
 rw[q1,q2]at HA1 HD0;rw[q3,q4]at HD HA2;clear c2 c3;clear hc HC h q1 q2 q3 q4;generalize kB K.e.1 (eE K s)=a1 at *;generalize kB K.l.1 (eE K s)=a2 at *;generalize uX K s=ans at *;generalize K.e.1.label=el at *;generalize K.e.1.conc=eo at *;generalize K.e.1.root=er at *;generalize K.e.1.sum.length=en at *;generalize K.e.1.guard.length=em at *;generalize K.l.1.label=ll at *;generalize K.l.1.conc=lo at *;generalize K.l.1.root=lr at *;generalize K.l.1.sum.length=ln at *;generalize K.l.1.guard.length=lm at *
 go_enter Tryz.func175,Tryz.ntmps175
 cases a1
 ·have HR2:Hid (ans=false):=HR.out
  clear HR HA2 HD
  go_upto_region 1 with fail
  go_region_held3 (fun w'=>w'.cell? ⟨K.b,0,none⟩=some (.string ⟨el.toArray⟩)/\w'.cell? ⟨K.b,1,none⟩=some (.int .i64 eo)/\w'.cell? ⟨K.b,2,none⟩=some (.slice ea en ec)/\w'.cell? ⟨K.b,3,none⟩=some (.slice eg em egc)/\w'.cell? ⟨K.b,4,none⟩=some (.int .i64 er)/\w'.cell? ⟨K.b,12,none⟩=some (.slice (some ⟨K.gi,0,none⟩) K.n K.n)/\w'.cell? ⟨K.b,13,none⟩=some (.slice (some ⟨K.gh,0,none⟩) K.h K.h)/\w'.cell? ⟨K.b,14,none⟩=some (.slice none 0 0)) (go_keep) (
   (go_at_call 132;refine(HA1.out _ (py (tg _ _))).mono ?_;rintro e w4 ⟨rfl,hb4⟩;have hB4:Below w.heap.size w w4:=(py (tg _ _)).trans hb4;obtain⟨u0,u1,u2,u3,u4,u5,u6,u7⟩:=HD0.out w4 hB4))
  all_goals
   go_wp2_with fail
   go_ret
   exact⟨zF HR2.out.symm,hB4⟩
 ·have HR2:Hid (ans=a2):=HR.out
  clear HR
  go_upto_region 1 with fail
  go_region_held3 (fun w'=>w'.cell? ⟨K.b,0,none⟩=some (.string ⟨el.toArray⟩)/\w'.cell? ⟨K.b,1,none⟩=some (.int .i64 eo)/\w'.cell? ⟨K.b,2,none⟩=some (.slice ea en ec)/\w'.cell? ⟨K.b,3,none⟩=some (.slice eg em egc)/\w'.cell? ⟨K.b,4,none⟩=some (.int .i64 er)/\w'.cell? ⟨K.b,12,none⟩=some (.slice (some ⟨K.gi,0,none⟩) K.n K.n)/\w'.cell? ⟨K.b,13,none⟩=some (.slice (some ⟨K.gh,0,none⟩) K.h K.h)/\w'.cell? ⟨K.b,14,none⟩=some (.slice none 0 0)) (go_keep) (
   (go_at_call 132;refine(HA1.out _ (py (tg _ _))).mono ?_;rintro e w4 ⟨rfl,hb4⟩;have hB4:Below w.heap.size w w4:=(py (tg _ _)).trans hb4;obtain⟨u0,u1,u2,u3,u4,u5,u6,u7⟩:=HD0.out w4 hB4))
  all_goals
   obtain⟨d5,d6,d7,d8,d9,d12,d13,d14⟩:=HD.out w4 hB4;have lb4:=yF d5;have HB4:=zA hB4;have hs4:=hB4.size;clear hB4 hb4 c0 c1 c2' c3' c4 c12 c13 c14 u0 u1 u2 u3 u4 u5 u6 u7
   go_upto_region 3 with fail
   go_region_held3 (fun w'=>w'.cell? ⟨K.b,5,none⟩=some (.string ⟨ll.toArray⟩)/\w'.cell? ⟨K.b,6,none⟩=some (.int .i64 lo)/\w'.cell? ⟨K.b,7,none⟩=some (.slice la ln lc)/\w'.cell? ⟨K.b,8,none⟩=some (.slice lg lm lgc)/\w'.cell? ⟨K.b,9,none⟩=some (.int .i64 lr)/\w'.cell? ⟨K.b,12,none⟩=some (.slice (some ⟨K.gi,0,none⟩) K.n K.n)/\w'.cell? ⟨K.b,13,none⟩=some (.slice (some ⟨K.gh,0,none⟩) K.h K.h)/\w'.cell? ⟨K.b,14,none⟩=some (.slice none 0 0)) (go_keep) (
    (go_at_call 132;refine(HA2.out _ (py HB4.out)).mono ?_;rintro e w5 ⟨rfl,hb5⟩;have hB5:Below w.heap.size w w5:=(py HB4.out).trans (hb5.mono hs4);obtain⟨v5,v6,v7,v8,v9,v12,v13,v14⟩:=HD.out w5 hB5))
   all_goals
    go_wp2_with fail
    go_ret
    exact⟨zF HR2.out.symm,hB5⟩
theorem zHY(w:World)(K:SK)(s:vV)(t:jI)(v:Nat)(ok:Qs K)(ht:t∈K.sw)(h:kZ w K s) :
 Calls Tryz.prog 176 #[.pointer (some ⟨K.b,0,none⟩),.agg #[.bool t.flag,.int .i64 (t.place:Nat)],.int .i64 (v:Nat)] w fun e w'=>e=.returned (.tuple #[])/\kZ w' K (tN s t v)/\Below K.B w w':=by
 have hc:=h.cells;have c12:w.cell? ⟨K.b,12,none⟩=some (.slice (some ⟨K.gi,0,none⟩) K.n K.n):=hc 12;have c13:w.cell? ⟨K.b,13,none⟩=some (.slice (some ⟨K.gh,0,none⟩) K.h K.h):=hc 13;have lb:=yF c12;have nb:w.heap.size≠K.b:=by omega
 have hB:K.B<=w.heap.size:=ty ok.lob (pf lb);have hn:=ok.n;have hh:=ok.h;have tgI:=ok.tgI t ht;have tgH:=ok.tgH t ht;have loi:=ok.loi;have loh:=ok.loh;obtain⟨tf,tp⟩:=t;simp only at tgI tgH ⊢;cases tf
 ·have hp:tp<K.h:=tgH rfl
  have hpI:(tp:Int)<(K.h:Int):=by omega
  have d13:∀o,(w.alloc o).cell? ⟨K.b,13,none⟩=some (.slice (some ⟨K.gh,0,none⟩) K.h K.h):=fun o=>((h.below (fw (j1 _) o)).cells 13).trans rfl
  have HS:Hid (∀w',Below (w.setCell ⟨K.gh,tp,none⟩ (.bool ((v:Int)==1))).heap.size (w.setCell ⟨K.gh,tp,none⟩ (.bool ((v:Int)==1))) w'->kZ w' K (tN s ⟨false,tp⟩ v)/\Below K.B w w'):=fun w' hb=>by
   have e:((v:Int)==1)=decide (v=1):=by by_cases h9:v=1 <;> simp[h9] <;> omega
   have hk:=(tg K.B w).setCell (p:=⟨K.gh,tp,none⟩) loh (.bool ((v:Int)==1));refine⟨?_,hk.trans (hb.mono (ty hB hk.size))⟩;rw[e]at hb;exact(h.setH hp _ (tl rfl) (fun r _ hr=>tb hr)).below hb
  have HSd:Hid (∀w',Below w.heap.size w w'->w'.cell? ⟨K.gh,tp,none⟩=some (.bool (s.has tp))/\w'.frozen? ⟨K.gh,tp,none⟩=false):=fun w' hb=>⟨(h.below hb).rH.cell hp,(h.below hb).rH.free _⟩;have n1:K.gh≠K.b:=fun e=>by obtain⟨cs,q,_⟩:=h.rH;exact Xw q h.hd (by decide) e
  have n1':=n1.symm;have l1:=h.rH.lt;have n2:K.gh≠w.heap.size:=by omega
  have n2':=n2.symm;clear h hc tgI tgH c12 ok ht;generalize s.has tp=old at *
  go_enter Tryz.func176,Tryz.ntmps176
  go_upto_region 3 with fail
  have e13:=d13 (.cells #[.bool false,.int .i64 (tp:Nat)] 216);obtain⟨d1,d2⟩:=HSd.out (w.alloc (.cells #[.bool false,.int .i64 (tp:Nat)] 216)).drew (py (fw (j1 _) _));have e2:((w.setCell ⟨K.gh,tp,none⟩ (.bool ((v:Int)==1))).alloc (.cells #[.bool false,.int .i64 (tp:Nat)] 216)).cell? ⟨w.heap.size,1,none⟩=some (.int .i64 (tp:Nat)):=zB (yT _ _ _ (by simp[World.setCell])) 1
  go_region_held3 (fun w'=>w'.cell? ⟨K.b,13,none⟩=some (.slice (some ⟨K.gh,0,none⟩) K.h K.h)/\w'.cell? ⟨w.heap.size,1,none⟩=some (.int .i64 (tp:Nat))) (go_keep) (fail)
  all_goals
   go_wp2_with fail
   first|go_end0|((try simp only[Exit.inBlock,Exit.then]);refine pd (results_none rfl _ _ _) rfl ?_)
   exact⟨rfl,HS.out _ (py (fw (j1 _) _))⟩
 ·have hp:tp<K.n:=tgI rfl
  have hpI:(tp:Int)<(K.n:Int):=by omega
  have d12:∀o,(w.alloc o).cell? ⟨K.b,12,none⟩=some (.slice (some ⟨K.gi,0,none⟩) K.n K.n):=fun o=>((h.below (fw (j1 _) o)).cells 12).trans rfl
  have HS:Hid (∀w',Below (w.setCell ⟨K.gi,tp,none⟩ (.int .i64 (v:Nat))).heap.size (w.setCell ⟨K.gi,tp,none⟩ (.int .i64 (v:Nat))) w'->kZ w' K (tN s ⟨true,tp⟩ v)/\Below K.B w w'):=fun w' hb=>by
   have hk:=(tg K.B w).setCell (p:=⟨K.gi,tp,none⟩) loi (.int .i64 (v:Nat));refine⟨?_,hk.trans (hb.mono (ty hB hk.size))⟩;exact(h.setI hp _ (tl rfl) (fun r _ hr=>tb hr)).below hb
  have HSd:Hid (∀w',Below w.heap.size w w'->w'.cell? ⟨K.gi,tp,none⟩=some (.int .i64 (s.inp tp))/\w'.frozen? ⟨K.gi,tp,none⟩=false):=fun w' hb=>⟨(h.below hb).rI.cell hp,(h.below hb).rI.free _⟩;have n1:K.gi≠K.b:=fun e=>by obtain⟨cs,q,_⟩:=h.rI;exact Xw q h.hd (by decide) e
  have n1':=n1.symm;have l1:=h.rI.lt;have n2:K.gi≠w.heap.size:=by omega
  have n2':=n2.symm;clear h hc tgI tgH c13 ok ht;generalize s.inp tp=old at *
  go_enter Tryz.func176,Tryz.ntmps176
  go_upto_region 2 with fail
  have e12:=d12 (.cells #[.bool true,.int .i64 (tp:Nat)] 216);obtain⟨d1,d2⟩:=HSd.out (w.alloc (.cells #[.bool true,.int .i64 (tp:Nat)] 216)).drew (py (fw (j1 _) _));have e2:((w.setCell ⟨K.gi,tp,none⟩ (.int .i64 (v:Nat))).alloc (.cells #[.bool true,.int .i64 (tp:Nat)] 216)).cell? ⟨w.heap.size,1,none⟩=some (.int .i64 (tp:Nat)):=zB (yT _ _ _ (by simp[World.setCell])) 1
  go_region_held3 (fun w'=>w'.cell? ⟨K.b,12,none⟩=some (.slice (some ⟨K.gi,0,none⟩) K.n K.n)/\w'.cell? ⟨w.heap.size,1,none⟩=some (.int .i64 (tp:Nat))) (go_keep) (fail)
  all_goals
   go_wp2_with fail
   first|go_end0|((try simp only[Exit.inBlock,Exit.then]);refine pd (results_none rfl _ _ _) rfl ?_)
   exact⟨rfl,HS.out _ (py (fw (j1 _) _))⟩
theorem zBM(l:List jI)(i:Nat)(h:i<l.length):l.drop i=l.getD i UN::l.drop (i+1):=by
 rw[pq h];simp[List.getD,h]
def ZU(K:SK)(at':Nat)(w:World)(s:vV)(w':World)(e:Ending):Prop:=∃r s',e=.returned (.bool r)/\kZ w' K s'/\Below K.B w w'/\Zp (uX K) (K.sw.drop at') s s' r
theorem ZP(K:SK)(ok:Qs K):∀(m at':Nat) (w:World) (s:vV),at'+m=K.sw.length->kZ w K s ->
 Calls Tryz.prog 143 #[.pointer (some ⟨K.b,0,none⟩),.int .i64 (at':Nat)] w fun e w'=>ZU K at' w s w' e:=by
 intro m
 induction m with
 | zero =>
   intro at' w s hm h;have HB:=zA (U2 w K s ok h)
   have HP:Hid (∀w',Below w.heap.size w w'->ZU K at' w s w' (.returned (.bool (uX K s)))):=fun w' hb=>by
    refine⟨_,s,rfl,h.below hb,hb.mono (ty ok.lob (pf (zM h.hd))),?_⟩;rw[ph (by omega)];exact FJ _ _
   have hc:=h.cells;have c11:w.cell? ⟨K.b,11,none⟩=some (.slice K.sa K.sw.length K.sc):=hc 11;have hi:¬(at':Int)<(K.sw.length:Int):=by omega
   have hi2:(K.sw.length:Int)<=(at':Int):=by omega
   clear h hc hm;generalize uX K s=ans at *;generalize K.sw.length=n at *
   go_enter Tryz.func143,Tryz.ntmps143
   go_wp2_with fail
   refine HB.out.mono ?_;rintro e w1 ⟨rfl,hb1⟩;have HQ:=zA (HP.out w1 hb1);clear hb1;go_wp2_with fail
   first|exact HQ.out|(go_ret;exact HQ.out)
 | succ m ih =>
   intro at' w s hm h;have zLL:at'<K.sw.length:=by omega
   have hf:=ok.sw;have hdr:=zBM K.sw at' zLL;have htm:K.sw.getD at' UN∈K.sw:=by simp[List.getD,zLL]
   have HI:Hid (∀w1 s1,kZ w1 K s1->Calls Tryz.prog 143 #[.pointer (some ⟨K.b,0,none⟩),.int .i64 ((at':Int)+1)] w1 fun e w'=>∃r s',e=.returned (.bool r)/\kZ w' K s'/\Below K.B w1 w'/\Zp (uX K) (K.sw.drop (at'+1)) s1 s' r):=fun w1 s1 h1=>ih (at'+1) w1 s1 (by omega) h1;have HT:Hid (∀w1 s1 (v:Nat),kZ w1 K s1->Calls Tryz.prog 176 #[.pointer (some ⟨K.b,0,none⟩),.agg #[.bool (K.sw.getD at' UN).flag,.int .i64 ((K.sw.getD at' UN).place:Nat)],.int .i64 (v:Nat)] w1 fun e w'=>e=.returned (.tuple #[])/\kZ w' K (tN s1 (K.sw.getD at' UN) v)/\Below K.B w1 w'):=fun w1 s1 v h1=>zHY w1 K s1 _ v ok htm h1;have HC:Hid (∀w1 s1,kZ w1 K s1->w1.cell? ⟨K.b,11,none⟩=some (.slice K.sa K.sw.length K.sc)/\∃g,K.sa=some ⟨g,0,none⟩/\w1.cell? ⟨g,at'*2,none⟩=some (.bool (K.sw.getD at' UN).flag)/\w1.cell? ⟨g,at'*2+1,none⟩=some (.int .i64 ((K.sw.getD at' UN).place:Nat))):=fun w1 s1 h1=>⟨h1.cells 11,h1.tog zLL⟩;have HY:Hid (∀v s1 s2 w2,v<=1->Yr (uX K) (K.sw.getD at' UN) (K.sw.drop (at'+1)) s s1 v->kZ w2 K s2->Below K.B w w2->Zp (uX K) (K.sw.drop (at'+1)) (tN s1 (K.sw.getD at' UN) v) s2 true->ZU K at' w s w2 (.returned (.bool true))):=fun v s1 s2 w2 hv h1 h2 h3 h4=>⟨true,s2,rfl,h2,h3,by rw[hdr];exact FK hv h1 h4⟩;have HN:Hid (∀s1 w1,Yr (uX K) (K.sw.getD at' UN) (K.sw.drop (at'+1)) s s1 2->kZ w1 K s1->Below K.B w w1->ZU K at' w s w1 (.returned (.bool false))):=fun s1 w1 h1 h2 h3=>⟨false,s1,rfl,h2,h3,by rw[hdr];exact FL h1⟩;have HM0:=zA (Bd (uX K) (K.sw.getD at' UN) (K.sw.drop (at'+1)) s);have HS:=zA h;have h11:=(HC.out w s h).1;have hltI:(at':Int)<(K.sw.length:Int):=by omega
   have hltD:decide (K.sw.length<=at')=false:=tu (by omega);have hltN:¬K.sw.length<=at':=by omega
   clear h ih hdr htm ok hm;generalize K.sw.getD at' UN=T at *;generalize K.sw.drop (at'+1)=S at *;generalize hnn:K.sw.length=n at *;clear hnn;obtain⟨Tf,Tp⟩:=T;simp only at HT HC
   go_enter Tryz.func143,Tryz.ntmps143
   go_wp2_with fail
   go_loopw [5] (fun iv wr=>∃(v:Nat) (s1:vV),v<=2/\iv=.int .i64 v/\Hid (kZ wr K s1)/\Hid (Below K.B w wr)/\Hid (Yr (uX K) ⟨Tf,Tp⟩ S s s1 v)) (fun iv _=>2-(intOf iv).toNat)
   case atStart=>exact⟨0,s,by omega,rfl,HS,zA (tg _ _),HM0⟩
   case round =>
    obtain⟨v,s1,hv,rfl,HSr,zM1,HMr⟩:=hrel;by_cases hv1:v<=1
    ·obtain⟨k11,g,ea,k0,k1⟩:=HC.out wr s1 HSr.out
     rw[ea]at k11;have hvI:(v:Int)<=1:=by omega
     have HTv:=zA (HT.out wr s1 v HSr.out);clear ea;go_wp2_with fail
     refine HTv.out.mono ?_;rintro e w2 ⟨rfl,hS2,hB2⟩;have HS2:=zA hS2;have HB2:Hid (Below K.B w w2):=zM1.out.trans hB2;have HI2:=zA (HI.out w2 _ hS2);clear hS2 hB2 k11 k0 k1;go_wp2_with fail
     refine HI2.out.mono ?_;rintro e w3 ⟨r,s3,rfl,hS3,hB3,hR3⟩;have HB3:Hid (Below K.B w w3):=HB2.out.trans hB3;cases r
     ·have HM3:=zA (qf HMr.out hR3)
      have HS3:=zA hS3;clear hS3 hB3 hR3;go_wp2_with fail
      go_roundw
      case rel=>exact⟨v+1,s3,by omega,by go_num,HS3,HB3,HM3⟩
      case measure=>simp[intOf];omega
     ·have HQ:=zA (HY.out v s1 s3 w3 hv1 HMr.out hS3 HB3.out hR3)
      clear hS3 hB3 hR3;go_wp2_with fail
      first|exact HQ.out|(go_ret;exact HQ.out)
    ·obtain rfl:v=2:=by omega
     have HQ:=zA (HN.out s1 wr HMr.out HSr.out zM1.out);go_wp2_with fail
     first|exact HQ.out|(go_ret;exact HQ.out)
theorem zJ5:(Tryz.prog.info? 221).map (·.size)=some 2:=by kernel_rfl
def zn0:mQ:=⟨0,0,0⟩
def qk(r:Nat)(n:mQ)(s:Int × Int):Int × Int:=if n.rank=r then (if s.1<n.lo then n.lo else s.1,if n.hi<s.2 then n.hi else s.2) else s
theorem JT(r:Nat)(L:List mQ)(i:Nat)(s:Int × Int)(h:i<L.length):qH r (L.drop i) s=qH r (L.drop (i+1)) (qk r (L.getD i zn0) s):=by
 rw[pq h,qH];simp[List.getD,h,qk]
theorem vw{i:Nat}(h:i<np):(mS np Z rk).getD i zn0=⟨(Z i).1,(Z i).2,rk i⟩:=by simp[mS,List.getD,h]
def zHS(a b:Int):Obj:=.cells #[.int .i64 a,.int .i64 b] 221 (0,0)
structure zD3(w wr:World)(x y:Int):Prop where
 bel:Below w.heap.size w wr
 sz:w.heap.size+2<=wr.heap.size
 res:wr.heap[w.heap.size]? = some (.cells #[.int .i64 0,.int .i64 0] 221 (0,0))
 zn:wr.heap[w.heap.size+1]? = some (.cells #[.int .i64 x,.int .i64 y] 221 (0,0))
theorem zD3.alloc{x y:Int}(h:zD3 w wr x y)(o:Obj):zD3 w (wr.alloc o) x y:=⟨h.bel.alloc (by have:=h.sz;omega) o,by have:=h.sz;simp;omega,zT h.res,zT h.zn⟩
theorem zD3.set0{x y:Int}(h:zD3 w wr x y)(v:Int):zD3 w (wr.setCell ⟨w.heap.size+1,0,none⟩ (.int .i64 v)) v y :=
 ⟨h.bel.setCell (p:=⟨w.heap.size+1,0,none⟩) (mw _) _,by have:=h.sz;simp[World.setCell];exact this,by rw[mc wr ⟨w.heap.size+1,0,none⟩ w.heap.size _ (by simp)];exact h.res,by rw[tq wr _ 0 _ _ _ h.zn];simp⟩
theorem zD3.set1{x y:Int}(h:zD3 w wr x y)(v:Int):zD3 w (wr.setCell ⟨w.heap.size+1,1,none⟩ (.int .i64 v)) x v :=
 ⟨h.bel.setCell (p:=⟨w.heap.size+1,1,none⟩) (mw _) _,by have:=h.sz;simp[World.setCell];exact this,by rw[mc wr ⟨w.heap.size+1,1,none⟩ w.heap.size _ (by simp)];exact h.res,by rw[tq wr _ 1 _ _ _ h.zn];simp⟩
theorem JS(w:World)(K:SK)(s:vV)(r:Nat)(ok:Qs K)(h:kZ w K s) :
 Calls Tryz.prog 173 #[.pointer (some ⟨K.b,0,none⟩),.int .i64 (r:Nat)] w fun e w'=>e=.returned (.agg #[.int .i64 (vW (mS K.np s.Z s.rk) r).1,.int .i64 (vW (mS K.np s.Z s.rk) r).2])/\Below w.heap.size w w':=by
 have HS:=zA h;have c10:w.cell? ⟨K.b,10,none⟩=some (.slice K.na K.np K.nc):=h.cells 10;have lb:=yF c10;have nb:w.heap.size≠K.b:=by omega
 have hnp:=ok.np;have HL:=zA (sK K.np s.Z s.rk);have HAt:=zA (fun i (hi:i<K.np)=>vw (Z:=s.Z) (rk:=s.rk) hi);have HE0:Hid (qH r ((mS K.np s.Z s.rk).drop 0) (0,9999)=vW (mS K.np s.Z s.rk) r):=rfl;generalize mS K.np s.Z s.rk=L at *;generalize vW L r=ans at *;obtain⟨a1,a2⟩:=ans;simp only;have HNa:Hid (0<K.np->K.na=some ⟨K.gn,0,none⟩):=fun h0=>(h.rN h0).1;clear h ok;generalize K.na=na at *
 go_enter Tryz.func173,Tryz.ntmps173
 go_wp2_with fail
 generalize hO1:Obj.cells #[Value.int .i64 0,.int .i64 0] 221=O1 at *;have y0:((w.alloc O1).alloc (zHS 0 9999)).heap[w.heap.size]? = some (zHS 0 0):=hO1 ▸ zT (zG _ _);have y1:((w.alloc O1).alloc (zHS 0 9999)).heap[w.heap.size+1]? = some (zHS 0 9999):=yT _ _ _ (by simp);have hb0:Below w.heap.size w ((w.alloc O1).alloc (zHS 0 9999)):=(fw (j1 _) _).alloc (by simp) _;have hs0:w.heap.size+2<=((w.alloc O1).alloc (zHS 0 9999)).heap.size:=by simp
 unfold zHS at y0 y1 hb0 hs0;have HY0:=zA y0;have HY1:=zA y1;have HB0:=zA hb0;clear y0 y1 hb0 hO1;generalize (w.alloc O1).alloc (.cells #[.int .i64 0,.int .i64 9999] 221 (0,0))=w0 at *
 go_loopw [14] (fun iv wr=>∃(i:Nat) (lo hi:Int),i<=K.np/\iv=.int .i64 i/\Hid (zD3 w wr lo hi)/\Hid (qH r (L.drop i) (lo,hi)=(a1,a2))) (fun iv _=>K.np-(intOf iv).toNat)
 case atStart=>exact⟨0,0,9999,tx _,rfl,zA ⟨HB0.out,hs0,HY0.out,HY1.out⟩,HE0⟩
 case round =>
  obtain⟨i,lo,hi,zLT,rfl,HI,HE⟩:=hrel;have HB:=zA HI.out.bel;have zLQ:=HI.out.sz;have HZ0:=zA HI.out.res;have HZ1:=zA HI.out.zn;have z0:wr.cell? ⟨w.heap.size+1,0,none⟩=some (.int .i64 lo):=zB HZ1.out 0;have z1:wr.cell? ⟨w.heap.size+1,1,none⟩=some (.int .i64 hi):=zB HZ1.out 1;have y1:∀j,wr.frozen? ⟨w.heap.size+1,j,none⟩=false:=fun j=>by simp[World.frozen?,HZ1.out]
  by_cases zLL:i<K.np
  ·have ii:(i:Int)<(K.np:Int):=by omega
   obtain⟨-,n0,n1,n2,n3,n4,-⟩:=(HS.out.below HB.out).num zLL;have ea:=HNa.out (by omega);subst ea;have hE:=HE.out;rw[JT r L i (lo,hi) (by rw[HL.out];exact zLL),HAt.out i zLL]at hE;have HE2:=zA hE;have lg:=yF n0;have ng:wr.heap.size≠K.gn:=by omega
   have m1:wr.heap.size≠w.heap.size+1:=by omega
   have m2:w.heap.size+1<wr.heap.size:=by omega
   have m3:w.heap.size+1≠wr.heap.size:=by omega
   clear HE hE;generalize K.P i=pp at *;generalize K.za i=za at *;generalize (K.zs i).length=zl at *;generalize K.zc i=zc at *;generalize s.Z i=zz at *;generalize s.rk i=rr at *;obtain⟨zl1,zh1⟩:=zz;simp only at n2 n3 HE2;unfold qk at HE2;simp only at HE2;by_cases k0:rr=r
   ·subst k0
    rw[tl rfl]at HE2;by_cases k1:lo<zl1
    ·rw[tl k1]at HE2
     by_cases k2:zh1<hi
     ·rw[tl k2]at HE2
      go_wp2_with fail
      go_roundw
      case rel=>exact⟨i+1,zl1,zh1,by omega,by go_num,zA (((HI.out.set0 zl1).set1 zh1).alloc _),HE2⟩
      case measure=>simp[intOf];omega
     ·rw[tb k2]at HE2
      go_wp2_with fail
      go_roundw
      case rel=>exact⟨i+1,zl1,hi,by omega,by go_num,zA ((HI.out.set0 zl1).alloc _),HE2⟩
      case measure=>simp[intOf];omega
    ·rw[tb k1]at HE2
     by_cases k2:zh1<hi
     ·rw[tl k2]at HE2
      go_wp2_with fail
      go_roundw
      case rel=>exact⟨i+1,lo,zh1,by omega,by go_num,zA ((HI.out.set1 zh1).alloc _),HE2⟩
      case measure=>simp[intOf];omega
     ·rw[tb k2]at HE2
      go_wp2_with fail
      go_roundw
      case rel=>exact⟨i+1,lo,hi,by omega,by go_num,zA (HI.out.alloc _),HE2⟩
      case measure=>simp[intOf];omega
   ·rw[tb k0]at HE2
    have b0:((rr:Int)==(r:Int))=false:=by rw[ml];omega
    have b1:((rr:Int) != (r:Int))=true:=by simp only[bne,b0];rfl
    clear k0;go_wp2_with fail
    go_roundw
    case rel=>exact⟨i+1,lo,hi,by omega,by go_num,zA (HI.out.alloc _),HE2⟩
    case measure=>simp[intOf];omega
  ·have ii:¬(i:Int)<(K.np:Int):=by omega
   have HE2:Hid ((lo,hi)=(a1,a2)):=by have:=HE.out;rw[ph (by rw[HL.out];omega)]at this;exact this
   have w0c:wr.cell? ⟨w.heap.size,0,none⟩=some (.int .i64 0):=zB HZ0.out 0;have w0d:wr.cell? ⟨w.heap.size,1,none⟩=some (.int .i64 0):=zB HZ0.out 1;have y0:∀j,wr.frozen? ⟨w.heap.size,j,none⟩=false:=fun j=>by simp[World.frozen?,HZ0.out]
   have HFr:Hid (((wr.setCell ⟨w.heap.size,0,none⟩ (.int .i64 lo)).setCell ⟨w.heap.size,1,none⟩ (.int .i64 hi)).heap[w.heap.size]? = some (.cells #[.int .i64 lo,.int .i64 hi] 221 (0,0))):=by
    have q1:=tq wr _ 0 _ _ (.int .i64 lo) HZ0.out;have q2:=tq _ _ 1 _ _ (.int .i64 hi) q1;unfold Hid;rw[q2];simp
   have HBf:Hid (Below w.heap.size w ((wr.setCell ⟨w.heap.size,0,none⟩ (.int .i64 lo)).setCell ⟨w.heap.size,1,none⟩ (.int .i64 hi))):=(HB.out.setCell (by simp) _).setCell (by simp) _;go_wp2_with fail
   refine pd (v:=.agg #[.int .i64 lo,.int .i64 hi]) (results_cell_row Tryz.results173 _ _ w.heap.size 221 #[.int .i64 lo,.int .i64 hi] (0,0) _ rfl HFr.out Tryz.underlying221 rfl zJ5) rfl ⟨?_,HBf.out⟩;have:=HE2.out;simp only[Prod.mk.injEq]at this;rw[this.1,this.2]
theorem yt(r:Nat)(L:List mQ)(i:Nat)(h:i<L.length):bT r (L.drop i)=(if (L.getD i zn0).rank=r then 1 else 0)+bT r (L.drop (i+1)):=by
 rw[pq h,bT];simp[List.getD,h]
theorem Ut(r:Nat)(L:List mQ):bT r L<=L.length:=by
 induction L with
 | nil=>simp[bT]
 | cons n L ih=>rw[bT,p9];split <;> omega
def bB(K:SK)(s:vV)(r:Nat)(v:Int)(i:Nat)(x:Nat):Int:=if (List.range i).any (fun p=>decide (K.P p=x)&&decide (s.rk p=r))=true then v else s.inp x
theorem Gq(K:SK)(s:vV)(r:Nat)(v:Int):bB K s r v 0=s.inp:=by funext x;unfold bB;simp
theorem Gs(K:SK)(s:vV)(r:Nat)(v:Int)(i:Nat)(h:s.rk i≠r):bB K s r v (i+1)=bB K s r v i:=by
 funext x;unfold bB;rw[lj,List.any_append];simp[h]
theorem zEC(K:SK)(s:vV)(r:Nat)(v:Int)(i:Nat)(h:s.rk i=r):bB K s r v (i+1) (K.P i)=v:=by
 unfold bB;rw[lj,List.any_append];simp[h]
theorem BD(K:SK)(s:vV)(r:Nat)(v:Int)(i x:Nat)(h:x≠K.P i):bB K s r v (i+1) x=bB K s r v i x:=by
 have:(K.P i=x)=False:=eq_false fun e=>h e.symm;unfold bB;rw[lj,List.any_append];simp[this]
theorem zED(w:World)(K:SK)(s:vV)(r:Nat)(v:Int)(ok:Qs K)(h:kZ w K s) :
 Calls Tryz.prog 174 #[.pointer (some ⟨K.b,0,none⟩),.int .i64 (r:Nat),.int .i64 v] w fun e w'=>e=.returned (.int .i64 (bT r (mS K.np s.Z s.rk):Nat))/\kZ w' K { s with inp:=bB K s r v K.np }/\zC w.heap.size K.gi w w':=by
 have c10:w.cell? ⟨K.b,10,none⟩=some (.slice K.na K.np K.nc):=h.cells 10;have lb:=yF c10;have hnp:=ok.np;have hn:=ok.n;have HS0:Hid (kZ w K { s with inp:=bB K s r v 0 }):=by unfold Hid;rw[Gq];exact h
 have HL:=zA (sK K.np s.Z s.rk);have HAt:=zA (fun i (hi:i<K.np)=>vw (Z:=s.Z) (rk:=s.rk) hi);have HE0:Hid (0+bT r ((mS K.np s.Z s.rk).drop 0)=bT r (mS K.np s.Z s.rk)):=by unfold Hid;simp
 have HCl:=zA (Ut r (mS K.np s.Z s.rk));have HP:=zA ok.P;generalize mS K.np s.Z s.rk=L at *;generalize bT r L=ans at *;have HNa:Hid (0<K.np->K.na=some ⟨K.gn,0,none⟩):=fun h0=>(h.rN h0).1;clear h ok;generalize K.na=na at *
 go_enter Tryz.func174,Tryz.ntmps174
 go_wp2_with fail
 go_loopw [7,15] (fun nv iv wr=>∃(i n:Nat),i<=K.np/\n<=i/\nv=.int .i64 n/\iv=.int .i64 i/\Hid (zC w.heap.size K.gi w wr)/\Hid (kZ wr K { s with inp:=bB K s r v i })/\Hid (n+bT r (L.drop i)=ans)) (fun _ iv _=>K.np-(intOf iv).toNat)
 case atStart=>exact⟨0,0,tx _,j1 _,rfl,rfl,zA (zC.refl _ _ _),HS0,HE0⟩
 case round =>
  obtain⟨i,n,hi,hni,rfl,rfl,HB,HS,HE⟩:=hrel;have zLV:=HB.out.size;by_cases zLL:i<K.np
  ·have ii:(i:Int)<(K.np:Int):=by omega
   obtain⟨-,n0,n1,n2,n3,n4,-⟩:=HS.out.num zLL;have ea:=HNa.out (by omega);subst ea;simp only at n2 n3 n4;have d12:wr.cell? ⟨K.b,12,none⟩=some (.slice (some ⟨K.gi,0,none⟩) K.n K.n):=HS.out.cells 12;have hE:=HE.out;rw[yt r L i (by rw[HL.out];exact zLL),HAt.out i zLL]at hE;have HE2:=zA hE;have lg:=yF n0;have ng:wr.heap.size≠K.gn:=by omega
   have lbr:=yF d12;have nbr:wr.heap.size≠K.b:=by omega
   have lgi:=HS.out.rI.lt;have ngi:wr.heap.size≠K.gi:=by omega
   have ngi':K.gi≠wr.heap.size:=by omega
   have nib:K.gi≠K.b:=fun e=>by obtain⟨cs,q,_⟩:=HS.out.rI;exact Xw q HS.out.hd (by decide) e
   have nib':=nib.symm;have hpn:=HP.out i zLL;have hpI:(K.P i:Int)<(K.n:Int):=by omega
   have HSk:Hid (s.rk i≠r->∀o,kZ (wr.alloc o) K { s with inp:=bB K s r v (i+1) }/\zC w.heap.size K.gi w (wr.alloc o)):=fun zLO o=>⟨by rw[Gs K s r v i zLO];exact HS.out.below (fw (j1 _) o),HB.out.alloc zLV o⟩
   have zM5:Hid (s.rk i=r->∀w',Below (wr.setCell ⟨K.gi,K.P i,none⟩ (.int .i64 v)).heap.size (wr.setCell ⟨K.gi,K.P i,none⟩ (.int .i64 v)) w'->kZ w' K { s with inp:=bB K s r v (i+1) }/\zC w.heap.size K.gi w w'):=fun he w' hb=>by
    have h1:=HS.out.setI hpn v (zEC K s r v i he) (fun x _ hx=>BD K s r v i x hx);refine⟨h1.below hb,?_⟩;have hk:=HB.out.setCell (p:=⟨K.gi,K.P i,none⟩) (.inr rfl) (.int .i64 v);exact hk.trans (zC.of_below (hb.mono (by have:=hk.size;exact this)))
   have HSd:Hid (∀w',Below wr.heap.size wr w'->w'.cell? ⟨K.gi,K.P i,none⟩=some (.int .i64 (bB K s r v i (K.P i)))/\w'.frozen? ⟨K.gi,K.P i,none⟩=false):=fun w' hb=>⟨(HS.out.below hb).rI.cell hpn,(HS.out.below hb).rI.free _⟩;clear HE hE;generalize bB K s r v i (K.P i)=old at *;generalize K.P i=pp at *;generalize K.za i=za at *;generalize (K.zs i).length=zl at *;generalize K.zc i=zc at *;generalize s.Z i=zz at *;generalize s.rk i=rr at *;obtain⟨zl1,zh1⟩:=zz;simp only at n2 n3 HE2;by_cases k0:rr=r
   ·have HE3:Hid (n+1+bT r (L.drop (i+1))=ans):=by have:=HE2.out;rw[tl k0]at this;unfold Hid;omega
    have HSt2:=zA (zM5.out k0);clear HE2 HSk zM5;subst k0
    go_upto_region 6 with fail
    obtain⟨d1,d2⟩:=HSd.out (wr.alloc (.cells #[.int .i64 (pp:Nat),.slice za zl zc,.int .i64 zl1,.int .i64 zh1,.int .i64 (rr:Nat)] 223)).drew (py (fw (j1 _) _));have e2:((wr.setCell ⟨K.gi,pp,none⟩ (.int .i64 v)).alloc (.cells #[.int .i64 (pp:Nat),.slice za zl zc,.int .i64 zl1,.int .i64 zh1,.int .i64 (rr:Nat)] 223)).cell? ⟨wr.heap.size,0,none⟩=some (.int .i64 (pp:Nat)):=zB (yT _ _ _ (by simp[World.setCell])) 0
    go_region_held3 (fun w'=>w'.cell? ⟨K.b,12,none⟩=some (.slice (some ⟨K.gi,0,none⟩) K.n K.n)/\w'.cell? ⟨wr.heap.size,0,none⟩=some (.int .i64 (pp:Nat))) (go_keep) (fail)
    all_goals
     go_wp2_with fail
     go_roundw
     case rel=>exact⟨i+1,n+1,by omega,by omega,by go_num,by go_num,zA (HSt2.out _ (py (fw (j1 _) _))).2,zA (HSt2.out _ (py (fw (j1 _) _))).1,HE3⟩
     case measure=>simp[intOf];omega
   ·have HE3:Hid (n+bT r (L.drop (i+1))=ans):=by have:=HE2.out;rw[tb k0]at this;unfold Hid;omega
    have HSk2:=zA (HSk.out k0);have b0:((rr:Int)==(r:Int))=false:=by rw[ml];omega
    clear HE2 HSk zM5 k0;go_wp2_with fail
    go_roundw
    case rel=>exact⟨i+1,n,by omega,by omega,by first|rfl|go_num,by go_num,zA (HSk2.out _).2,zA (HSk2.out _).1,HE3⟩
    case measure=>simp[intOf];omega
  ·have ii:¬(i:Int)<(K.np:Int):=by omega
   obtain rfl:i=K.np:=by omega
   have HE2:Hid (n=ans):=by have:=HE.out;rw[ph (by rw[HL.out];omega)]at this;unfold Hid;simpa[bT] using this
   clear HE;go_wp2_with fail
   go_ret
   exact⟨yP (congrArg (fun (x:Nat)=>(x:Int)) HE2.out),HS.out,HB.out⟩
structure sH(K:SK)(s s1:vV)(r:Nat)(out:List Int):Prop where
 z:s1.Z=s.Z/\s1.rk=s.rk/\s1.has=s.has
 off:∀i,(∀p,p<K.np->K.P p≠i)->s1.inp i=s.inp i
 num:∀p,p<K.np->s.rk p<r->s1.inp (K.P p)=out.getD (s.rk p) 0
 len:out.length=r
theorem Vj(K:SK)(s:vV):sH K s s 0 []:=⟨⟨rfl,rfl,rfl⟩,fun _ _=>rfl,fun p _ h=>absurd h (by omega),rfl⟩
theorem Vw(K:SK)(s:vV)(r:Nat)(v:Int)(x:Nat)(h:∀p,p<K.np->K.P p=x->s.rk p≠r):bB K s r v K.np x=s.inp x:=by
 unfold bB;rw[tb];intro hh;obtain⟨p,hp,hq⟩:=ma.1 hh;rw[pe,po,po]at hq;exact h p (by simpa using hp) hq.1 hq.2
theorem zEB(K:SK)(s:vV)(r:Nat)(v:Int)(p:Nat)(hp:p<K.np)(h:s.rk p=r):bB K s r v K.np (K.P p)=v:=by
 unfold bB;rw[tl];exact ma.2 ⟨p,by simpa using hp,by simp[h]⟩
theorem Yg{K:SK}(inj:∀p q,p<K.np->q<K.np->K.P p=K.P q->p=q){r:Nat}{out:List Int}(h:sH K s s1 r out)(v:Int):sH K s { s1 with inp:=bB K s1 r v K.np } (r+1) (out++[v]):=by
 refine⟨h.z,fun i hi=>?_,fun p hp hr=>?_,by simp[h.len]⟩
 ·rw[<-h.off i hi];exact Vw K s1 r v i fun p hp e=>absurd e (hi p hp)
 ·have hl:=h.len
  by_cases hr2:s.rk p=r
  ·rw[show ({ s1 with inp:=bB K s1 r v K.np }:vV).inp (K.P p)=v from zEB K s1 r v p hp (by rw[h.z.2.1];exact hr2)]
   rw[hr2,<-hl];simp[List.getD]
  ·have e:({ s1 with inp:=bB K s1 r v K.np }:vV).inp (K.P p)=s1.inp (K.P p):=Vw K s1 r v _ fun q hq e=>by
    rw[inj q p hq hp e,h.z.2.1];exact hr2
   rw[e,h.num p hp (by omega)];simp[List.getD,mu (show s.rk p<out.length by omega)]
theorem Bp{K:SK}{r:Nat}{out:List Int}(h:sH K s s1 r out)(hs:dL (mS K.np s.Z s.rk)=some out)(hr:∀p,p<K.np->s.rk p<r):iI K.np K.P s s1 true :=
 ⟨h.z,h.off,fun _=>⟨out,hs,fun p hp=>h.num p hp (hr p hp)⟩,fun h=>absurd h (by simp)⟩
theorem FZ{K:SK}{r:Nat}{out:List Int}(h:sH K s s1 r out)(hs:dL (mS K.np s.Z s.rk)=none):iI K.np K.P s s1 false :=
 ⟨h.z,h.off,fun h=>absurd h (by simp),fun _=>hs⟩
theorem zHT{r:Nat}(h:pO r (mS np Z rk)=np):∀p,p<np->rk p<r:=fun p hp =>
 iB (L:=mS np Z rk) (by rw[sK];exact h) (⟨(Z p).1,(Z p).2,rk p⟩:mQ) (p7.2 ⟨p,by simpa using hp,rfl⟩)
def K8(K:SK)(w:World)(s:vV)(w':World)(e:Ending):Prop:=∃r s',e=.returned (.bool r)/\kZ w' K s'/\Below K.B w w'/\iI K.np K.P s s' r
theorem JV(w:World)(K:SK)(s:vV)(ok:Qs K)(hrk:∀p,p<K.np->s.rk p<K.np)(h:kZ w K s) :
 Calls Tryz.prog 142 #[.pointer (some ⟨K.b,0,none⟩)] w fun e w'=>K8 K w s w' e:=by
 have c10:w.cell? ⟨K.b,10,none⟩=some (.slice K.na K.np K.nc):=h.cells 10;have lb:=yF c10;have hBw:K.B<=w.heap.size:=ty ok.lob (pf lb);have hnp:=ok.np;have HS0:=zA h;have HLl:=zA (sK K.np s.Z s.rk);have HE0:Hid (Zz (mS K.np s.Z s.rk) (K.np-0) 0 0 0 []=dL (mS K.np s.Z s.rk)):=by unfold Hid dL;rw[sK];rfl
 have HP0:Hid (0=pO 0 (mS K.np s.Z s.rk)):=(eY _).symm;have HM0:=zA (Vj K s);have HY:Hid (∀s1 w1 r out,sH K s s1 r out->dL (mS K.np s.Z s.rk)=some out->(∀p,p<K.np->s.rk p<r)->kZ w1 K s1->Below K.B w w1->K8 K w s w1 (.returned (.bool true))):=fun s1 w1 r out h1 h2 h3 h4 h5=>⟨true,s1,rfl,h4,h5,Bp h1 h2 h3⟩;have HN:Hid (∀s1 w1 r out,sH K s s1 r out->dL (mS K.np s.Z s.rk)=none->kZ w1 K s1->Below K.B w w1->K8 K w s w1 (.returned (.bool false))):=fun s1 w1 r out h1 h2 h4 h5=>⟨false,s1,rfl,h4,h5,FZ h1 h2⟩;have HCf:Hid (∀r,pO r (mS K.np s.Z s.rk)=K.np->∀p,p<K.np->s.rk p<r):=fun r h=>zHT h
 have HSh:Hid (∀r w1 s1,kZ w1 K s1->s1.Z=s.Z->s1.rk=s.rk->Calls Tryz.prog 173 #[.pointer (some ⟨K.b,0,none⟩),.int .i64 (r:Nat)] w1 fun e w'=>e=.returned (.agg #[.int .i64 (vW (mS K.np s.Z s.rk) r).1,.int .i64 (vW (mS K.np s.Z s.rk) r).2])/\Below w1.heap.size w1 w'):=fun r w1 s1 h1 h2 h3=>by
  have:=JS w1 K s1 r ok h1;rw[h2,h3]at this;exact this
 have HPl:Hid (∀r v w1 s1,kZ w1 K s1->s1.Z=s.Z->s1.rk=s.rk->Calls Tryz.prog 174 #[.pointer (some ⟨K.b,0,none⟩),.int .i64 (r:Nat),.int .i64 v] w1 fun e w'=>e=.returned (.int .i64 (bT r (mS K.np s.Z s.rk):Nat))/\kZ w' K { s1 with inp:=bB K s1 r v K.np }/\zC w1.heap.size K.gi w1 w'):=fun r v w1 s1 h1 h2 h3=>by
  have:=zED w1 K s1 r v ok h1;rw[show mS K.np s1.Z s1.rk=mS K.np s.Z s.rk by rw[h2,h3]]at this;exact this
 have HGe:=zA (fun r=>eI r (mS K.np s.Z s.rk) (0,9999));have HCl:=zA (fun r=>Ut r (mS K.np s.Z s.rk));have HLt:=zA (fun r=>(ZO r (mS K.np s.Z s.rk)).1);have HSu:=zA (fun r=>iA r (mS K.np s.Z s.rk));have HRk:=zA hrk;have loi:=ok.loi;have HIj:=zA ok.inj;rw[HLl.out]at HLt HCl;generalize mS K.np s.Z s.rk=L at *;clear h ok hrk
 go_enter Tryz.func142,Tryz.ntmps142
 go_wp2_with fail
 go_loopw [3,4,13] (fun lv pv iv wr=>∃(r pl:Nat) (vF:Int) (out:List Int) (s1:vV),r<=K.np/\lv=.int .i64 vF/\pv=.int .i64 pl/\iv=.int .i64 r /\ -1<=vF/\vF<=10000/\Hid (Below K.B w wr)/\Hid (kZ wr K s1)/\Hid (sH K s s1 r out)/\Hid (pl=pO r L)/\Hid (Zz L (K.np-r) r vF pl out=dL L)) (fun _ _ iv _=>K.np-(intOf iv).toNat)
 case atStart=>exact⟨0,0,0,[],s,tx _,rfl,rfl,rfl,by omega,by omega,zA (tg _ _),HS0,HM0,HP0,HE0⟩
 case round =>
  obtain⟨r,pl,vF,out,s1,hr,rfl,rfl,rfl,hl1,hl2,HB,HS,HM,HPl2,HE⟩:=hrel;have zLV:=HB.out.size;have hple:pl<=K.np:=by rw[HPl2.out];exact HLt.out r
  have d10:wr.cell? ⟨K.b,10,none⟩=some (.slice K.na K.np K.nc):=HS.out.cells 10;by_cases zLL:r<K.np
  ·have ii:(r:Int)<(K.np:Int):=by omega
   have hE:=HE.out;rw[show K.np-r=(K.np-(r+1))+1 by omega,Zz,HLl.out]at hE;by_cases k0:pl=K.np
   ·rw[tl k0]at hE
    have HQ:=zA (HY.out s1 wr r out HM.out hE.symm (HCf.out r (by rw[<-HPl2.out];exact k0)) HS.out HB.out);clear hE HE;subst k0;go_wp2_with fail
    first|exact HQ.out|(go_ret;exact HQ.out)
   rw[tb k0]at hE;have HE2:=zA hE;have b0:((pl:Int)==(K.np:Int))=false:=by rw[ml];omega
   have HSh1:=zA (HSh.out r wr s1 HS.out HM.out.z.1 HM.out.z.2.1);have hge:=HGe.out r;have HPl1:=zA (fun v w' (hb:Below wr.heap.size wr w')=>HPl.out r v w' s1 (HS.out.below hb) HM.out.z.1 HM.out.z.2.1);have hg1:0<=(vW L r).1:=hge.1;have hg2:(vW L r).2<=9999:=hge.2.1;have hcl:=HCl.out r;have HSu1:=zA (HSu.out r);clear hge hE HE k0 c10;generalize vW L r=sh at *;generalize bT r L=cn at *;obtain⟨h1,h2⟩:=sh;simp only at HE2 HSh1 hg1 hg2;have nbr:∀(w':World),Below wr.heap.size wr w'->K.b<w'.heap.size:=fun w' hb=>by have:=hb.size;have:=yF d10;omega
   go_wp2_with fail
   refine HSh1.out.mono ?_;rintro e w2 ⟨rfl,hb2⟩;have HB2:=zA hb2;have hs2:=hb2.size
   have HFin:Hid (∀v w',Below w2.heap.size w2 w'->w'.heap[w2.heap.size]? = some (.cells #[.int .i64 v,.int .i64 h2] 221 (0,0))->∀w3,zC w'.heap.size K.gi w' w3->w3.cell? ⟨w2.heap.size,0,none⟩=some (.int .i64 v)/\Below K.B w w3):=fun v w' hb hz w3 hk=>by
    have zLO:w2.heap.size≠K.gi:=fun e=>by have:=(HS.out.below HB2.out).rI.lt;omega
    refine⟨?_,?_⟩
    ·rw[hk.cell (p:=⟨w2.heap.size,0,none⟩) (zM hz) zLO];exact(zB hz 0).trans rfl
    ·exact(HB.out.trans ((HB2.out.trans (hb.mono hs2)).mono (by omega))).trans (hk.below (by have:=hb.size;omega) loi)
   have HBn:Hid (∀w',Below w2.heap.size w2 w'->Below wr.heap.size wr w'/\Below K.B w w'):=fun w' hb=>⟨HB2.out.trans (hb.mono hs2),HB.out.trans ((HB2.out.trans (hb.mono hs2)).mono (by omega))⟩;clear hb2 d10;by_cases k1:h1<vF
   ·simp only[tl k1]at HE2
    have hz:(w2.alloc (.cells #[.int .i64 vF,.int .i64 h2] 221)).heap[w2.heap.size]? = some (.cells #[.int .i64 vF,.int .i64 h2] 221 (0,0)):=zG _ _;have hbz:Below w2.heap.size w2 (w2.alloc (.cells #[.int .i64 vF,.int .i64 h2] 221)):=fw (j1 _) _;have HZ:=zA hz;have HBz:=zA hbz;clear hz hbz;by_cases k2:h2<vF
    ·rw[tl k2]at HE2
     have HQ:=zA (HN.out s1 _ r out HM.out HE2.out.symm (HS.out.below (HBn.out _ HBz.out).1) (HBn.out _ HBz.out).2);go_wp2_with fail
     first|exact HQ.out|(go_ret;exact HQ.out)
    ·rw[tb k2]at HE2
     have HPc:=zA (HPl1.out vF _ (HBn.out _ HBz.out).1);have HF2:=zA (HFin.out vF _ HBz.out HZ.out);have zM5:=zA (Yg HIj.out HM.out vF);go_wp2_with fail
     refine HPc.out.mono ?_;rintro e w3 ⟨rfl,hS3,hk3⟩;obtain⟨f1,f2⟩:=HF2.out w3 hk3;have HS3:=zA hS3;have HB3:=zA f2;clear hS3 hk3 f2;by_cases k3:cn=0
     ·rw[tl k3]at HE2
      have HQ:=zA (HN.out _ w3 _ _ zM5.out HE2.out.symm HS3.out HB3.out);subst k3;go_wp2_with fail
      first|exact HQ.out|(go_ret;exact HQ.out)
     ·rw[tb k3]at HE2
      have b3:((cn:Int)==0)=false:=by rw[ml];omega
      clear k3;go_wp2_with fail
      go_roundw
      case rel=>exact⟨r+1,pl+cn,vF+1,out++[vF],_,by omega,by first|rfl|go_num,by go_num,by go_num,by omega,by omega,HB3,HS3,zM5,zA (by rw[HSu1.out,HPl2.out]),HE2⟩
      case measure=>simp[intOf];omega
   ·simp only[tb k1]at HE2
    have hz:(w2.alloc (.cells #[.int .i64 h1,.int .i64 h2] 221)).heap[w2.heap.size]? = some (.cells #[.int .i64 h1,.int .i64 h2] 221 (0,0)):=zG _ _;have hbz:Below w2.heap.size w2 (w2.alloc (.cells #[.int .i64 h1,.int .i64 h2] 221)):=fw (j1 _) _;have HZ:=zA hz;have HBz:=zA hbz;clear hz hbz;by_cases k2:h2<h1
    ·rw[tl k2]at HE2
     have HQ:=zA (HN.out s1 _ r out HM.out HE2.out.symm (HS.out.below (HBn.out _ HBz.out).1) (HBn.out _ HBz.out).2);go_wp2_with fail
     first|exact HQ.out|(go_ret;exact HQ.out)
    ·rw[tb k2]at HE2
     have HPc:=zA (HPl1.out h1 _ (HBn.out _ HBz.out).1);have HF2:=zA (HFin.out h1 _ HBz.out HZ.out);have zM5:=zA (Yg HIj.out HM.out h1);go_wp2_with fail
     refine HPc.out.mono ?_;rintro e w3 ⟨rfl,hS3,hk3⟩;obtain⟨f1,f2⟩:=HF2.out w3 hk3;have HS3:=zA hS3;have HB3:=zA f2;clear hS3 hk3 f2;by_cases k3:cn=0
     ·rw[tl k3]at HE2
      have HQ:=zA (HN.out _ w3 _ _ zM5.out HE2.out.symm HS3.out HB3.out);subst k3;go_wp2_with fail
      first|exact HQ.out|(go_ret;exact HQ.out)
     ·rw[tb k3]at HE2
      have b3:((cn:Int)==0)=false:=by rw[ml];omega
      clear k3;go_wp2_with fail
      go_roundw
      case rel=>exact⟨r+1,pl+cn,h1+1,out++[h1],_,by omega,by first|rfl|go_num,by go_num,by go_num,by omega,by omega,HB3,HS3,zM5,zA (by rw[HSu1.out,HPl2.out]),HE2⟩
      case measure=>simp[intOf];omega
  ·obtain rfl:r=K.np:=by omega
   have ii:¬(K.np:Int)<(K.np:Int):=by omega
   have hE:=HE.out;rw[dz,Zz]at hE;have HQ:=zA (HY.out s1 wr K.np out HM.out hE.symm HRk.out HS.out HB.out);clear hE HE;go_wp2_with fail
   first|exact HQ.out|(go_ret;exact HQ.out)
def sI(K:SK)(at':Nat)(w:World)(s:vV)(w':World)(e:Ending):Prop:=∃r s',e=.returned (.bool r)/\kZ w' K s'/\Below K.B w w'/\Zr (uX K) K.np K.P K.sw at' s s' r
theorem QL(K:SK)(ok:Qs K):∀(m at':Nat) (w:World) (s:vV),at'+m=K.np->(∀p,p<at'->s.rk p<K.np)->kZ w K s ->
 Calls Tryz.prog 100 #[.pointer (some ⟨K.b,0,none⟩),.int .i64 (at':Nat)] w fun e w'=>sI K at' w s w' e:=by
 intro m
 induction m with
 | zero =>
   intro at' w s hm hrk h;obtain rfl:at'=K.np:=by omega
   have HSn:=zA (JV w K s ok hrk h);have HSw:=zA (fun w1 s1 (h1:kZ w1 K s1)=>ZP K ok K.sw.length 0 w1 s1 (by omega) h1);have HN:Hid (∀s1 w1,kZ w1 K s1->Below K.B w w1->iI K.np K.P s s1 false->sI K K.np w s w1 (.returned (.bool false))):=fun s1 w1 h1 h2 h3=>⟨false,s1,rfl,h1,h2,B2 (j1 _) h3⟩
   have HY:Hid (∀s1 w1,Below K.B w w1->iI K.np K.P s s1 true->∀e w2,ZU K 0 w1 s1 w2 e->∃r,e=.returned (.bool r)/\sI K K.np w s w2 (.returned (.bool r))):=fun s1 w1 h2 h3 e w2 h4=>by
    obtain⟨r,s2,rfl,q1,q2,q3⟩:=h4;exact⟨r,rfl,r,s2,rfl,q1,h2.trans q2,B1 (U1 K) (j1 _) ok.off hrk h3 q3⟩
   have c10:w.cell? ⟨K.b,10,none⟩=some (.slice K.na K.np K.nc):=h.cells 10;have hi:¬(K.np:Int)<(K.np:Int):=by omega
   clear h hm hrk ok
   go_enter Tryz.func100,Tryz.ntmps100
   go_wp2_with fail
   refine HSn.out.mono ?_;rintro e w1 ⟨r,s1,rfl,hS1,hB1,hR1⟩;cases r
   ·have HQ:=zA (HN.out s1 w1 hS1 hB1 hR1)
    clear hS1 hB1 hR1;go_wp2_with fail
    first|exact HQ.out|(go_ret;exact HQ.out)
   ·have HY1:=zA (HY.out s1 w1 hB1 hR1)
    have HSw1:=zA (HSw.out w1 s1 hS1);clear hS1 hB1 hR1;generalize ZU K 0 w1 s1=Q1 at *;go_wp2_with fail
    refine HSw1.out.mono ?_;rintro e w2 hp;obtain⟨r,rfl,hq⟩:=HY1.out _ _ hp;have HQ:=zA hq;clear hq hp;go_wp2_with fail
    first|exact HQ.out|(go_ret;exact HQ.out)
 | succ m ih =>
   intro at' w s hm hrk h;have zLL:at'<K.np:=by omega
   have hf:=ok.np;have HI:Hid (∀w1 s1,(∀p,p<at'+1->s1.rk p<K.np)->kZ w1 K s1->Calls Tryz.prog 100 #[.pointer (some ⟨K.b,0,none⟩),.int .i64 ((at':Int)+1)] w1 fun e w'=>sI K (at'+1) w1 s1 w' e):=fun w1 s1 hk h1=>ih (at'+1) w1 s1 (by omega) hk h1
   have HC:Hid (∀w1 s1,kZ w1 K s1->w1.cell? ⟨K.b,10,none⟩=some (.slice (some ⟨K.gn,0,none⟩) K.np K.nc)/\w1.cell? ⟨K.gn,at'*5+4,none⟩=some (.int .i64 (s1.rk at':Nat))/\w1.frozen? ⟨K.gn,at'*5+4,none⟩=false):=fun w1 s1 h1=>by
    have hn:=h1.num zLL;refine⟨?_,hn.2.2.2.2.2.1,hn.2.2.2.2.2.2 _⟩;have:=h1.cells 10;rw[<-hn.1];exact this
   have zM5:Hid (∀w1 s1 (v:Nat),v<K.np->Zs (uX K) K.np K.P K.sw at' s s1 v->kZ w1 K s1->Below K.B w w1->(∀p,p<at'+1->(oH s1 at' v).rk p<K.np)/\kZ (w1.setCell ⟨K.gn,at'*5+4,none⟩ (.int .i64 (v:Nat))) K (oH s1 at' v)/\Below K.B w (w1.setCell ⟨K.gn,at'*5+4,none⟩ (.int .i64 (v:Nat)))):=fun w1 s1 v hv hm h1 hb=>by
    refine⟨fun p hp=>?_,h1.setRk zLL v,hb.setCell (p:=⟨K.gn,at'*5+4,none⟩) (ok.lon (by omega)) _⟩;show (if p=at' then v else s1.rk p)<K.np;by_cases hpa:p=at'
    ·rw[tl hpa];exact hv
    ·rw[tb hpa,hm.kp p (by omega)];exact hrk p (by omega)
   have HY:Hid (∀v s1 s2 w2,Zs (uX K) K.np K.P K.sw at' s s1 v->kZ w2 K s2->Below K.B w w2->Zr (uX K) K.np K.P K.sw (at'+1) (oH s1 at' v) s2 true->sI K at' w s w2 (.returned (.bool true))):=fun v s1 s2 w2 h1 h2 h3 h4=>⟨true,s2,rfl,h2,h3,Gk h1 h4⟩;have HN:Hid (∀s1 w1,Zs (uX K) K.np K.P K.sw at' s s1 K.np->kZ w1 K s1->Below K.B w w1->sI K at' w s w1 (.returned (.bool false))):=fun s1 w1 h1 h2 h3=>⟨false,s1,rfl,h2,h3,Gl zLL h1⟩;have HM0:=zA (B4 (uX K) K.np K.P K.sw at' s);have HS:=zA h;have h10:=(HC.out w s h).1;have hltI:(at':Int)<(K.np:Int):=by omega
   have hltD:decide (K.np<=at')=false:=tu (by omega);have hltN:¬K.np<=at':=by omega
   clear h ih ok hm hrk
   go_enter Tryz.func100,Tryz.ntmps100
   go_wp2_with fail
   go_loopw [23] (fun iv wr=>∃(v:Nat) (s1:vV),v<=K.np/\iv=.int .i64 v/\Hid (kZ wr K s1)/\Hid (Below K.B w wr)/\Hid (Zs (uX K) K.np K.P K.sw at' s s1 v)) (fun iv _=>K.np-(intOf iv).toNat)
   case atStart=>exact⟨0,s,by omega,rfl,HS,zA (tg _ _),HM0⟩
   case round =>
    obtain⟨v,s1,hv,rfl,HSr,zM1,HMr⟩:=hrel;by_cases hv1:v<K.np
    ·obtain⟨k10,k0,k1⟩:=HC.out wr s1 HSr.out
     obtain⟨p1,p2,p3⟩:=zM5.out wr s1 v hv1 HMr.out HSr.out zM1.out;have hvI:(v:Int)<(K.np:Int):=by omega
     have HI2:=zA (HI.out _ _ p1 p2);have HB2:=zA p3;clear p1 p2 p3;go_wp2_with fail
     refine HI2.out.mono ?_;rintro e w3 ⟨r,s3,rfl,hS3,hB3,hR3⟩;have HB3:Hid (Below K.B w w3):=HB2.out.trans hB3;cases r
     ·have HM3:=zA (ks HMr.out hR3)
      have HS3:=zA hS3;clear hS3 hB3 hR3;go_wp2_with fail
      go_roundw
      case rel=>exact⟨v+1,s3,by omega,by go_num,HS3,HB3,HM3⟩
      case measure=>simp[intOf];omega
     ·have HQ:=zA (HY.out v s1 s3 w3 HMr.out hS3 HB3.out hR3)
      clear hS3 hB3 hR3;go_wp2_with fail
      first|exact HQ.out|(go_ret;exact HQ.out)
    ·obtain rfl:v=K.np:=by omega
     have HQ:=zA (HN.out s1 wr HMr.out HSr.out zM1.out);have hvI:¬(K.np:Int)<(K.np:Int):=by omega
     go_wp2_with fail
     first|exact HQ.out|(go_ret;exact HQ.out)
def Qo(K:SK)(at':Nat)(w:World)(s:vV)(w':World)(e:Ending):Prop:=∃r s',e=.returned (.bool r)/\kZ w' K s'/\Below K.B w w'/\sF (uX K) K.np K.P K.zs K.sw at' s s' r
theorem QK(K:SK)(ok:Qs K):∀(m at':Nat) (w:World) (s:vV),at'+m=K.np->(∀p,p<at'->s.Z p∈K.zs p)->kZ w K s ->
 Calls Tryz.prog 67 #[.pointer (some ⟨K.b,0,none⟩),.int .i64 (at':Nat)] w fun e w'=>Qo K at' w s w' e:=by
 intro m
 induction m with
 | zero =>
   intro at' w s hm hz h;obtain rfl:at'=K.np:=by omega
   have HRk:=zA (QL K ok K.np 0 w s (by omega) (fun p hp=>absurd hp (by omega)) h)
   have HY:Hid (∀e w2,sI K 0 w s w2 e->∃r,e=.returned (.bool r)/\Qo K K.np w s w2 (.returned (.bool r))):=fun e w2 h4=>by
    obtain⟨r,s2,rfl,q1,q2,q3⟩:=h4;exact⟨r,rfl,r,s2,rfl,q1,q2,vr (j1 _) hz q3⟩
   have c10:w.cell? ⟨K.b,10,none⟩=some (.slice K.na K.np K.nc):=h.cells 10;have hi:¬(K.np:Int)<(K.np:Int):=by omega
   clear h hm hz ok;generalize sI K 0 w s=Q1 at *
   go_enter Tryz.func67,Tryz.ntmps67
   go_wp2_with fail
   refine HRk.out.mono ?_;rintro e w2 hp;obtain⟨r,rfl,hq⟩:=HY.out _ _ hp;have HQ:=zA hq;clear hq hp;go_wp2_with fail
   first|exact HQ.out|(go_ret;exact HQ.out)
 | succ m ih =>
   intro at' w s hm hz h;have zLL:at'<K.np:=by omega
   have hf:=ok.np;have hfz:=ok.zs at' zLL;have HI:Hid (∀w1 s1,(∀p,p<at'+1->s1.Z p∈K.zs p)->kZ w1 K s1->Calls Tryz.prog 67 #[.pointer (some ⟨K.b,0,none⟩),.int .i64 ((at':Int)+1)] w1 fun e w'=>Qo K (at'+1) w1 s1 w' e):=fun w1 s1 hk h1=>ih (at'+1) w1 s1 (by omega) hk h1
   have HC:Hid (∀w1 s1,kZ w1 K s1->w1.cell? ⟨K.b,10,none⟩=some (.slice (some ⟨K.gn,0,none⟩) K.np K.nc)/\w1.cell? ⟨K.gn,at'*5+1,none⟩=some (.slice (K.za at') (K.zs at').length (K.zc at'))/\(w1.cell? ⟨K.gn,at'*5+2,none⟩=some (.int .i64 (s1.Z at').1)/\w1.cell? ⟨K.gn,at'*5+3,none⟩=some (.int .i64 (s1.Z at').2))/\w1.frozen? ⟨K.gn,at'*5+2,none⟩=false/\w1.frozen? ⟨K.gn,at'*5+3,none⟩=false):=fun w1 s1 h1=>by
    have hn:=h1.num zLL;refine⟨?_,hn.2.2.1,⟨hn.2.2.2.1,hn.2.2.2.2.1⟩,hn.2.2.2.2.2.2 _,hn.2.2.2.2.2.2 _⟩;have:=h1.cells 10;rw[<-hn.1];exact this
   have HZc:Hid (∀w1 s1 (v:Nat),kZ w1 K s1->v<(K.zs at').length->∃g,K.za at'=some ⟨g,0,none⟩/\w1.cell? ⟨g,v*2,none⟩=some (.int .i64 ((K.zs at').getD v (0,0)).1)/\w1.cell? ⟨g,v*2+1,none⟩=some (.int .i64 ((K.zs at').getD v (0,0)).2)):=fun w1 s1 v h1 hv=>vq (h1.zn at' zLL).cel hv
   have zM5:Hid (∀w1 s1 (v:Nat),v<(K.zs at').length->aY (uX K) K.np K.P K.zs K.sw at' s s1 v->kZ w1 K s1->Below K.B w w1->(∀p,p<at'+1->(fP s1 at' ((K.zs at').getD v (0,0))).Z p∈K.zs p)/\∀w2,Below ((w1.setCell ⟨K.gn,at'*5+2,none⟩ (.int .i64 ((K.zs at').getD v (0,0)).1)).setCell ⟨K.gn,at'*5+2+1,none⟩ (.int .i64 ((K.zs at').getD v (0,0)).2)).heap.size ((w1.setCell ⟨K.gn,at'*5+2,none⟩ (.int .i64 ((K.zs at').getD v (0,0)).1)).setCell ⟨K.gn,at'*5+2+1,none⟩ (.int .i64 ((K.zs at').getD v (0,0)).2)) w2->kZ w2 K (fP s1 at' ((K.zs at').getD v (0,0)))/\Below K.B w w2/\w2.cell? ⟨K.b,10,none⟩=some (.slice (some ⟨K.gn,0,none⟩) K.np K.nc)):=fun w1 s1 v hv hm h1 hb=>by
    refine⟨F5 hm hv hz,fun w2 hb2=>?_⟩;have hlb:=zM h1.hd;have hlo:=ok.lob;have hS:=(h1.setZn zLL ((K.zs at').getD v (0,0))).below hb2;have hk:=(hb.setCell (p:=⟨K.gn,at'*5+2,none⟩) (ok.lon (by omega)) (.int .i64 ((K.zs at').getD v (0,0)).1)).setCell (p:=⟨K.gn,at'*5+2+1,none⟩) (ok.lon (by omega)) (.int .i64 ((K.zs at').getD v (0,0)).2);refine⟨hS,hk.trans (hb2.mono ?_),(HC.out _ _ hS).1⟩;have:K.B<=w1.heap.size:=by omega
    simpa[World.setCell] using this
   have HY:Hid (∀v s1 s2 w2,v<(K.zs at').length->aY (uX K) K.np K.P K.zs K.sw at' s s1 v->kZ w2 K s2->Below K.B w w2->sF (uX K) K.np K.P K.zs K.sw (at'+1) (fP s1 at' ((K.zs at').getD v (0,0))) s2 true->Qo K at' w s w2 (.returned (.bool true))):=fun v s1 s2 w2 h0 h1 h2 h3 h4=>⟨true,s2,rfl,h2,h3,F4 h0 h1 h4⟩;have HN:Hid (∀s1 w1,aY (uX K) K.np K.P K.zs K.sw at' s s1 (K.zs at').length->kZ w1 K s1->Below K.B w w1->Qo K at' w s w1 (.returned (.bool false))):=fun s1 w1 h1 h2 h3=>⟨false,s1,rfl,h2,h3,F6 zLL h1⟩;have HM0:=zA (US (uX K) K.np K.P K.zs K.sw at' s);have HS:=zA h;obtain⟨h10,h11,-,-⟩:=HC.out w s h;have hltI:(at':Int)<(K.np:Int):=by omega
   have hltD:decide (K.np<=at')=false:=tu (by omega);have hltN:¬K.np<=at':=by omega
   clear h ih ok hm hz;generalize hzn:(K.zs at').length=zn at *;have HZn:=zA hzn;clear hzn;generalize K.za at'=za at *
   go_enter Tryz.func67,Tryz.ntmps67
   go_wp2_with fail
   go_loopw [25] (fun iv wr=>∃(v:Nat) (s1:vV),v<=zn/\iv=.int .i64 v/\Hid (kZ wr K s1)/\Hid (Below K.B w wr)/\Hid (aY (uX K) K.np K.P K.zs K.sw at' s s1 v)) (fun iv _=>zn-(intOf iv).toNat)
   case atStart=>exact⟨0,s,by omega,rfl,HS,zA (tg _ _),HM0⟩
   case round =>
    obtain⟨v,s1,hv,rfl,HSr,zM1,HMr⟩:=hrel;by_cases hv1:v<zn
    ·obtain⟨k10,k1,⟨k2,k3⟩,f2,f3⟩:=HC.out wr s1 HSr.out
     obtain⟨p1,p2⟩:=zM5.out wr s1 v hv1 HMr.out HSr.out zM1.out;obtain⟨g,ez,z0,z1⟩:=HZc.out wr s1 v HSr.out hv1;subst ez;have hvI:(v:Int)<(zn:Int):=by omega
     have HP1:=zA p1;have HP2:=zA p2;have hM:=zA HMr.out;have lg:=yF z0;have lgn:=yF k1;have lb:=yF k10;have n1:wr.heap.size≠g:=by omega
     have n2:wr.heap.size≠K.gn:=by omega
     have n3:wr.heap.size≠K.b:=by omega
     have n4:K.gn≠wr.heap.size:=by omega
     have HNo:=zA (fun s3 => @vt (uX K) K.np K.P K.zs K.sw at' v s s1 s3 HMr.out);have HY1:=zA (fun s3 w3=>HY.out v s1 s3 w3 hv1 HMr.out);clear p1 p2;generalize (K.zs at').getD v (0,0)=zz at *;obtain⟨z1l,z1h⟩:=zz;simp only at z0 z1 HP2;generalize (s1.Z at').1=o1 at *;generalize (s1.Z at').2=o2 at *
     go_upto_region 6 with fail
     obtain⟨hS2,hB2,e10⟩:=HP2.out (((wr.setCell ⟨K.gn,at'*5+2,none⟩ (.int .i64 z1l)).setCell ⟨K.gn,at'*5+2+1,none⟩ (.int .i64 z1h)).alloc (.cells #[.int .i64 z1l,.int .i64 z1h] 221)).drew (py (fw (j1 _) _));have e0:(((wr.setCell ⟨K.gn,at'*5+2,none⟩ (.int .i64 z1l)).setCell ⟨K.gn,at'*5+2+1,none⟩ (.int .i64 z1h)).alloc (.cells #[.int .i64 z1l,.int .i64 z1h] 221)).cell? ⟨wr.heap.size,0,none⟩=some (.int .i64 z1l):=zB (yT _ _ _ (by simp[World.setCell])) 0;have e1:(((wr.setCell ⟨K.gn,at'*5+2,none⟩ (.int .i64 z1l)).setCell ⟨K.gn,at'*5+2+1,none⟩ (.int .i64 z1h)).alloc (.cells #[.int .i64 z1l,.int .i64 z1h] 221)).cell? ⟨wr.heap.size,1,none⟩=some (.int .i64 z1h):=zB (yT _ _ _ (by simp[World.setCell])) 1;have e10':(((wr.setCell ⟨K.gn,at'*5+2,none⟩ (.int .i64 z1l)).setCell ⟨K.gn,at'*5+2+1,none⟩ (.int .i64 z1h)).alloc (.cells #[.int .i64 z1l,.int .i64 z1h] 221)).cell? ⟨K.b,10,none⟩=some (.slice (some ⟨K.gn,0,none⟩) K.np K.nc):=e10;have HI2:=zA (HI.out _ _ HP1.out hS2);have HB2:=zA hB2;clear hS2 hB2 e10
     go_region_held3 (fun w'=>w'.cell? ⟨K.b,10,none⟩=some (.slice (some ⟨K.gn,0,none⟩) K.np K.nc)/\w'.cell? ⟨wr.heap.size,0,none⟩=some (.int .i64 z1l)/\w'.cell? ⟨wr.heap.size,1,none⟩=some (.int .i64 z1h)) (go_keep) (fail)
     all_goals
      go_wp2_with fail
      refine HI2.out.mono ?_;rintro e w3 ⟨r,s3,rfl,hS3,hB3,hR3⟩;have HB3:Hid (Below K.B w w3):=HB2.out.trans hB3;cases r
      ·have HM3:=zA (HNo.out s3 hR3)
       have HS3:=zA hS3;clear hS3 hB3 hR3;go_wp2_with fail
       go_roundw
       case rel=>exact⟨v+1,s3,by omega,by go_num,HS3,HB3,HM3⟩
       case measure=>simp[intOf];omega
      ·have HQ:=zA (HY1.out s3 w3 hS3 HB3.out hR3)
       clear hS3 hB3 hR3;go_wp2_with fail
       first|exact HQ.out|(go_ret;exact HQ.out)
    ·obtain rfl:v=zn:=by omega
     have HQ:=zA (HN.out s1 wr HMr.out HSr.out zM1.out);have hvI:¬(v:Int)<(v:Int):=by omega
     go_wp2_with fail
     first|exact HQ.out|(go_ret;exact HQ.out)
def pZ(I:List zO)(e l:xK)(i:Nat):List Nat:=(List.range i).filter fun i=>qQ e l i&&vB I i
theorem V6(I:List zO)(e l:xK)(i:Nat):pZ I e l (i+1)=pZ I e l i++(if (qQ e l i&&vB I i)=true then [i] else []):=by
 unfold pZ;rw[lj,cq,List.filter_cons,f8]
def uW(I:List zO)(e l:xK)(i:Nat):List jI:=((List.range i).filter fun i=>qQ e l i && !vB I i).map fun i=>⟨true,i⟩
theorem Bf(I:List zO)(e l:xK)(i:Nat):uW I e l (i+1)=uW I e l i++(if (qQ e l i && !vB I i)=true then [⟨true,i⟩] else []):=by
 unfold uW;rw[lj,cq,bf,List.filter_cons,f8];split <;> rfl
def uK(e l:xK)(c:Nat):List jI:=((List.range c).filter fun c => !uH e l c&&(vR e c || vR l c)).map fun c=>⟨false,c⟩
theorem Be(e l:xK)(c:Nat):uK e l (c+1)=uK e l c++(if (!uH e l c&&(vR e c || vR l c))=true then [⟨false,c⟩] else []):=by
 unfold uK;rw[lj,cq,bf,List.filter_cons,f8];split <;> rfl
theorem Xr(I:List zO)(e l:xK)(i:Nat):(pZ I e l i).length<=i:=by have:=dj (fun i=>qQ e l i&&vB I i) (List.range i);simpa[pZ] using this
theorem QT(I:List zO)(e l:xK)(i:Nat):(uW I e l i).length<=i:=by unfold uW;rw[pw];have:=dj (fun i=>qQ e l i && !vB I i) (List.range i);simpa using this
theorem QS(e l:xK)(c:Nat):(uK e l c).length<=c:=by unfold uK;rw[pw];have:=dj (fun c => !uH e l c&&(vR e c || vR l c)) (List.range c);simpa using this
structure NE where
 place:Nat
 za:Option Addr
 zc:Nat
variable{L:List NE}
def zH2(F:Nat->List (Int × Int))(x:NE):List Value:=[.int .i64 (x.place:Nat),.slice x.za (F x.place).length x.zc,.int .i64 0,.int .i64 0,.int .i64 0]
def eR(F:Nat->List (Int × Int))(l:List NE):List Value:=l.flatMap (zH2 F)
theorem je(F:Nat->List (Int × Int))(a b:List NE):eR F (a++b)=eR F a++eR F b:=by unfold eR;rw[lq]
def YT(l:List jI):List Value:=l.flatMap zKA
theorem ut(a b:List jI):YT (a++b)=YT a++YT b:=by unfold YT;rw[lq]
def Bj(x y:MX)(nv sv iv hv:Value):Array Value := #[.string ⟨x.1.label.toArray⟩,.int .i64 x.1.conc,x.2.1,x.2.2,.int .i64 x.1.root,.string ⟨y.1.label.toArray⟩,.int .i64 y.1.conc,y.2.1,y.2.2,.int .i64 y.1.root,nv,sv,iv,hv,.slice none 0 0]
def Dd:Array Value := #[.string ⟨#[]⟩,.int .i64 0,.slice none 0 0,.slice none 0 0,.int .i64 0,.string ⟨#[]⟩,.int .i64 0,.slice none 0 0,.slice none 0 0,.int .i64 0,.slice none 0 0,.slice none 0 0,.slice none 0 0,.slice none 0 0,.slice none 0 0]
theorem qm(x y:MX)(nv sv iv hv:Value):(Tryz.prog.info? 170).map (·.size)=some (Bj x y nv sv iv hv).size:=by
 show _=some 15;kernel_rfl
theorem Ds{hv:Value}(h1:x.2.1.oneCell'=true)(h2:x.2.2.oneCell'=true)(h3:y.2.1.oneCell'=true)(h4:y.2.2.oneCell'=true)(h5:nv.oneCell'=true)(h6:sv.oneCell'=true)(h7:iv.oneCell'=true)(h8:hv.oneCell'=true):(Bj x y nv sv iv hv).all (·.oneCell')=true:=by
 unfold Bj;simp only[List.all_toArray,ff,List.all_nil,h1,h2,h3,h4,h5,h6,h7,h8];rfl
theorem uA.grown{e:TypeId}{n:Nat}(h:uA w g t n f){v:Value}(zLM:w.ownsRow B e k v m ys)(zLO:t≠e)(hg:w.grownBy w' v.ownBlock):uA w' g t n f:=by
 obtain⟨cs,h1,h2⟩:=h;refine⟨cs,?_,h2⟩;rw[hg.block g (zM h1) (fun e1=>?_)]
 ·exact h1
 ·rcases zLM.2 with ⟨k1,_⟩|⟨g',cap,yL,k1,_,k3,_⟩
  ·rw[k1]at e1;simp[Value.ownBlock]at e1
  ·rw[k1]at e1;simp[Value.ownBlock]at e1
   subst e1;rw[h1]at k3;simp only[lk,Obj.cells.injEq]at k3;exact zLO k3.2.1
structure Y4(w wx:World)(x y:MX)(n h gi gh:Nat)(nv sv:Value)(inp:Nat->Int)(has:Nat->Bool):Prop where
 bel:Below w.heap.size w wx
 sz:w.heap.size+4<=wx.heap.size
 bx:wx.heap[w.heap.size]? = some (.cells #[.string ⟨x.1.label.toArray⟩,.int .i64 x.1.conc,x.2.1,x.2.2,.int .i64 x.1.root] 162 (0,0))
 by':wx.heap[w.heap.size+1]? = some (.cells #[.string ⟨y.1.label.toArray⟩,.int .i64 y.1.conc,y.2.1,y.2.2,.int .i64 y.1.root] 162 (0,0))
 res:wx.heap[w.heap.size+1+1]? = some (.cells Dd 170 (0,0))
 hd:wx.heap[w.heap.size+1+1+1]? = some (.cells (Bj x y nv sv (.slice (some ⟨gi,0,none⟩) n n) (.slice (some ⟨gh,0,none⟩) h h)) 170 (0,0))
 rI:uA wx gi 3 n (fun i=>.int .i64 (inp i))
 rH:uA wx gh 4 h (fun c=>.bool (has c))
 loi:w.heap.size+4<=gi
 loh:w.heap.size+4<=gh
theorem Y4.below{n:Nat}{inp:Nat->Int}(k:Y4 w wx x y n h gi gh nv sv inp has)(hb:Below wx.heap.size wx wy):Y4 w wy x y n h gi gh nv sv inp has:=by
 have hs:=k.sz;have hz:=hb.size;exact⟨k.bel.trans (hb.mono (by omega)),by omega,by rw[hb.block _ (by omega)];exact k.bx,by rw[hb.block _ (by omega)];exact k.by',by rw[hb.block _ (by omega)];exact k.res,by rw[hb.block _ (by omega)];exact k.hd,k.rI.below hb,k.rH.below hb,k.loi,k.loh⟩
theorem Y4.setI{n:Nat}{inp f:Nat->Int}(k:Y4 w wx x y n h gi gh nv sv inp has){i:Nat}(hi:i<n)(v:Int)(e1:f i=v)(e2:∀r,r<n->r≠i->f r=inp r):Y4 w (wx.setCell ⟨gi,i,none⟩ (.int .i64 v)) x y n h gi gh nv sv f has:=by
 have hs:=k.sz;have hl:=k.loi;refine⟨k.bel.setCell (p:=⟨gi,i,none⟩) (by show w.heap.size<=gi;omega) _,by simp[World.setCell];exact hs,?_,?_,?_,?_,k.rI.set _ hi (congrArg (Value.int .i64) e1) (fun a ha zLO=>congrArg (Value.int .i64) (e2 a ha zLO)),k.rH.other _ (k.rH.ne k.rI (by decide)),k.loi,k.loh⟩
 ·rw[mc wx ⟨gi,i,none⟩ _ _ (by show w.heap.size≠gi;omega)];exact k.bx
 ·rw[mc wx ⟨gi,i,none⟩ _ _ (by show w.heap.size+1≠gi;omega)];exact k.by'
 ·rw[mc wx ⟨gi,i,none⟩ _ _ (by show w.heap.size+1+1≠gi;omega)];exact k.res
 ·rw[mc wx ⟨gi,i,none⟩ _ _ (by show w.heap.size+1+1+1≠gi;omega)];exact k.hd
theorem Y4.setH{n:Nat}{inp:Nat->Int}{f:Nat->Bool}(k:Y4 w wx x y n h gi gh nv sv inp has){i:Nat}(hi:i<h)(v:Bool)(e1:f i=v)(e2:∀r,r<h->r≠i->f r=has r):Y4 w (wx.setCell ⟨gh,i,none⟩ (.bool v)) x y n h gi gh nv sv inp f:=by
 have hs:=k.sz;have hl:=k.loh;refine⟨k.bel.setCell (p:=⟨gh,i,none⟩) (by show w.heap.size<=gh;omega) _,by simp[World.setCell];exact hs,?_,?_,?_,?_,k.rI.other _ (k.rI.ne k.rH (by decide)),k.rH.set _ hi (congrArg Value.bool e1) (fun a ha zLO=>congrArg Value.bool (e2 a ha zLO)),k.loi,k.loh⟩
 ·rw[mc wx ⟨gh,i,none⟩ _ _ (by show w.heap.size≠gh;omega)];exact k.bx
 ·rw[mc wx ⟨gh,i,none⟩ _ _ (by show w.heap.size+1≠gh;omega)];exact k.by'
 ·rw[mc wx ⟨gh,i,none⟩ _ _ (by show w.heap.size+1+1≠gh;omega)];exact k.res
 ·rw[mc wx ⟨gh,i,none⟩ _ _ (by show w.heap.size+1+1+1≠gh;omega)];exact k.hd
theorem Y4.setHd{n:Nat}{inp:Nat->Int}(k:Y4 w wx x y n h gi gh nv sv inp has){v nv' sv':Value}(e:(Bj x y nv sv (.slice (some ⟨gi,0,none⟩) n n) (.slice (some ⟨gh,0,none⟩) h h)).setIfInBounds j v=Bj x y nv' sv' (.slice (some ⟨gi,0,none⟩) n n) (.slice (some ⟨gh,0,none⟩) h h)):Y4 w (wx.setCell ⟨w.heap.size+1+1+1,j,none⟩ v) x y n h gi gh nv' sv' inp has:=by
 have hs:=k.sz;have l1:=k.loi;have l2:=k.loh;refine⟨k.bel.setCell (p:=⟨w.heap.size+1+1+1,j,none⟩) (by show w.heap.size<=w.heap.size+1+1+1;omega) _,by simp[World.setCell];exact hs,?_,?_,?_,?_,k.rI.other _ (by omega),k.rH.other _ (by omega),k.loi,k.loh⟩
 ·rw[mc wx ⟨w.heap.size+1+1+1,j,none⟩ _ _ (by show w.heap.size≠w.heap.size+1+1+1;omega)];exact k.bx
 ·rw[mc wx ⟨w.heap.size+1+1+1,j,none⟩ _ _ (by show w.heap.size+1≠w.heap.size+1+1+1;omega)];exact k.by'
 ·rw[mc wx ⟨w.heap.size+1+1+1,j,none⟩ _ _ (by show w.heap.size+1+1≠w.heap.size+1+1+1;omega)];exact k.res
 ·rw[tq wx _ j _ _ _ k.hd,e]
theorem Y4.setN{n:Nat}{inp:Nat->Int}(k:Y4 w wx x y n h gi gh nv sv inp has)(v:Value):Y4 w (wx.setCell ⟨w.heap.size+1+1+1,10,none⟩ v) x y n h gi gh v sv inp has:=k.setHd rfl
theorem Y4.setS{n:Nat}{inp:Nat->Int}(k:Y4 w wx x y n h gi gh nv sv inp has)(v:Value):Y4 w (wx.setCell ⟨w.heap.size+1+1+1,11,none⟩ v) x y n h gi gh nv v inp has:=k.setHd rfl
theorem Y4.grown{n:Nat}{inp:Nat->Int}(k:Y4 w wx x y n h gi gh nv sv inp has){e:TypeId}{q:Nat}{v:Value}(zLM:wx.ownsRow (w.heap.size+4) e m v q ys)(h1:3≠e)(h2:4≠e)(hg:wx.grownBy wy v.ownBlock):Y4 w wy x y n h gi gh nv sv inp has:=by
 have hs:=k.sz;have hb:=fun b (hb:b<w.heap.size+4)=>hg.block b (by omega) (fun e1=>by have:=(zZ zLM b e1.symm).1;omega);exact⟨k.bel.grown hg (by omega) (fun b hb=>by have:=(zZ zLM b hb).1;omega),by have:=hg.size;omega,by rw[hb _ (by omega)];exact k.bx,by rw[hb _ (by omega)];exact k.by',by rw[hb _ (by omega)];exact k.res,by rw[hb _ (by omega)];exact k.hd,k.rI.grown zLM h1 hg,k.rH.grown zLM h2 hg,k.loi,k.loh⟩
theorem Y4.fresh{w4:World}{n:Nat}(bx:w4.heap[w.heap.size]? = some (.cells #[.string ⟨x.1.label.toArray⟩,.int .i64 x.1.conc,x.2.1,x.2.2,.int .i64 x.1.root] 162 (0,0)))(by':w4.heap[w.heap.size+1]? = some (.cells #[.string ⟨y.1.label.toArray⟩,.int .i64 y.1.conc,y.2.1,y.2.2,.int .i64 y.1.root] 162 (0,0)))(res:w4.heap[w.heap.size+1+1]? = some (.cells Dd 170 (0,0)))(hd:w4.heap[w.heap.size+1+1+1]? = some (.cells (Bj x y (.slice none 0 0) (.slice none 0 0) (.slice none 0 0) (.slice none 0 0)) 170 (0,0)))(bel:Below w.heap.size w w4)(hs:w.heap.size+4<=w4.heap.size)(hb:Below w4.heap.size w4 wx)(hI:wx.heap[gi]? = some (.cells (iC (List.replicate n 0)) 3 (0,0)))(hH:wx.heap[gh]? = some (.cells (gC (List.replicate h false)) 4 (0,0)))(l1:w4.heap.size<=gi)(l2:w4.heap.size<=gh) :
 Y4 w (((wx.setCell ⟨w.heap.size+1+1+1,12,none⟩ (.slice (some ⟨gi,0,none⟩) n n)).setCell ⟨w.heap.size+1+1+1,13,none⟩ (.slice (some ⟨gh,0,none⟩) h h)).setCell ⟨w.heap.size+1+1+1,14,none⟩ (.slice none 0 0)) x y n h gi gh (.slice none 0 0) (.slice none 0 0) (fun _=>0) (fun _=>false):=by
 have hz:=hb.size;have ne:∀(v:Value) (j:Nat) (W:World) (b:Nat),b≠w.heap.size+1+1+1->(W.setCell ⟨w.heap.size+1+1+1,j,none⟩ v).heap[b]? = W.heap[b]? := fun v j W b hb=>mc W ⟨w.heap.size+1+1+1,j,none⟩ b v hb;have q0:wx.heap[w.heap.size+1+1+1]? = _:=(hb.block _ (by omega)).trans hd;have q1:=tq wx _ 12 _ _ (.slice (some ⟨gi,0,none⟩) n n) q0;have q2:=tq _ _ 13 _ _ (.slice (some ⟨gh,0,none⟩) h h) q1;have q3:=tq _ _ 14 _ _ (.slice none 0 0) q2;refine⟨?_,by simp[World.setCell];omega,?_,?_,?_,q3,?_,?_,by omega,by omega⟩
 ·have h0:w.heap.size<=w.heap.size+1+1+1:=by omega
  exact((((bel.trans (hb.mono (by omega))).setCell (p:=⟨w.heap.size+1+1+1,12,none⟩) h0 _).setCell (p:=⟨w.heap.size+1+1+1,13,none⟩) h0 _).setCell (p:=⟨w.heap.size+1+1+1,14,none⟩) h0 _)
 ·rw[ne _ _ _ _ (by omega),ne _ _ _ _ (by omega),ne _ _ _ _ (by omega),hb.block _ (by omega)];exact bx
 ·rw[ne _ _ _ _ (by omega),ne _ _ _ _ (by omega),ne _ _ _ _ (by omega),hb.block _ (by omega)];exact by'
 ·rw[ne _ _ _ _ (by omega),ne _ _ _ _ (by omega),ne _ _ _ _ (by omega),hb.block _ (by omega)];exact res
 ·refine⟨_,by rw[ne _ _ _ _ (by omega),ne _ _ _ _ (by omega),ne _ _ _ _ (by omega)];exact hI,fun j hj=>?_⟩
  rw[zAR (by simpa using hj)];simp[List.getD,hj]
 ·refine⟨_,by rw[ne _ _ _ _ (by omega),ne _ _ _ _ (by omega),ne _ _ _ _ (by omega)];exact hH,fun j hj=>?_⟩
  rw[Cw (by simpa using hj)];simp[List.getD,hj]
theorem iZ{n:Nat}{v:Value}(h:w.ownsRow B t k v n xs){b:Nat}{u:Value}(hb:w.heap[b]? = some (.cells cs t' fz))(zLO:t≠t'):(w.setCell ⟨b,j,none⟩ u).ownsRow B t k v n xs:=⟨h.1,by
 rcases h.2 with q|⟨g',cap,yL,k1,k2,q3,k4⟩
 ·exact .inl q
 ·exact .inr ⟨g',cap,yL,k1,k2,by rw[mc w ⟨b,j,none⟩ g' u (Xw q3 hb zLO)];exact q3,k4⟩⟩
theorem wC{n:Nat}{v:Value}(h:w.ownsRow B t k v n xs)(u:Value)(hr:uA w g t' m f)(zLO:t≠t'):(w.setCell ⟨g,j,none⟩ u).ownsRow B t k v n xs:=by
 obtain⟨cs,q,_⟩:=hr;exact iZ h q zLO
theorem wD{n:Nat}{v:Value}(h:w.ownsRow B t k v n xs)(hb:Below w.heap.size w w'):w'.ownsRow B t k v n xs:=⟨h.1,by
 rcases h.2 with q|⟨g',cap,yL,k1,k2,q3,k4⟩
 ·exact .inl q
 ·exact .inr ⟨g',cap,yL,k1,k2,by rw[hb.block g' (zM q3)];exact q3,k4⟩⟩
theorem Xp{n:Nat}{v:Value}(h:w.ownsRow B t k v n xs){B' q:Nat}(zLM:w.ownsRow B' t' m v' q ys)(zLO:t≠t')(hg:w.grownBy w' v'.ownBlock):w'.ownsRow B t k v n xs:=⟨h.1,by
 rcases h.2 with q|⟨g',cap,yL,k1,k2,q3,k4⟩
 ·exact .inl q
 ·refine .inr ⟨g',cap,yL,k1,k2,?_,k4⟩
  rw[hg.block g' (zM q3) (fun e1=>?_)]
  ·exact q3
  ·rcases zLM.2 with ⟨p1,_⟩|⟨g2,_,_,p1,_,p3,_⟩
   ·rw[p1]at e1;simp[Value.ownBlock]at e1
   ·rw[p1]at e1;simp[Value.ownBlock]at e1
    subst e1;rw[q3]at p3;simp only[lk,Obj.cells.injEq]at p3;exact zLO p3.2.1⟩
structure Ys(w wr:World)(x y:MX)(n h gi gh:Nat)(F:Nat->List (Int × Int))(nv sv:Value)(L:List NE)(T:List jI)(inp:Nat->Int)(has:Nat->Bool):Prop where
 ns:Y4 w wr x y n h gi gh nv sv inp has
 nums:wr.ownsRow (w.heap.size+4) 223 5 nv L.length (eR F L)
 zn:∀q∈L,xA wr 221 q.za (dT (F q.place))
 sws:wr.ownsRow (w.heap.size+4) 216 2 sv T.length (YT T)
theorem Ys.below{n:Nat}{inp:Nat->Int}(k:Ys w wr x y n h gi gh F nv sv L T inp has)(hb:Below wr.heap.size wr wy):Ys w wy x y n h gi gh F nv sv L T inp has :=
 ⟨k.ns.below hb,wD k.nums hb,fun q hq=>(k.zn q hq).below hb,wD k.sws hb⟩
theorem Ys.setI{n:Nat}{inp f:Nat->Int}(k:Ys w wr x y n h gi gh F nv sv L T inp has){i:Nat}(hi:i<n)(v:Int)(e1:f i=v)(e2:∀r,r<n->r≠i->f r=inp r):Ys w (wr.setCell ⟨gi,i,none⟩ (.int .i64 v)) x y n h gi gh F nv sv L T f has :=
 ⟨k.ns.setI hi v e1 e2,wC k.nums _ k.ns.rI (by decide),fun q hq=>(k.zn q hq).row _ k.ns.rI (by decide),wC k.sws _ k.ns.rI (by decide)⟩
theorem Ys.setH{n:Nat}{inp:Nat->Int}{f:Nat->Bool}(k:Ys w wr x y n h gi gh F nv sv L T inp has){i:Nat}(hi:i<h)(v:Bool)(e1:f i=v)(e2:∀r,r<h->r≠i->f r=has r):Ys w (wr.setCell ⟨gh,i,none⟩ (.bool v)) x y n h gi gh F nv sv L T inp f :=
 ⟨k.ns.setH hi v e1 e2,wC k.nums _ k.ns.rH (by decide),fun q hq=>(k.zn q hq).row _ k.ns.rH (by decide),wC k.sws _ k.ns.rH (by decide)⟩
theorem Ys.tog{n:Nat}{inp:Nat->Int}(k:Ys w wr x y n h gi gh F nv sv L T inp has)(t:jI)(zLM:wy.ownsRow (w.heap.size+4) 216 2 v' (T.length+1) (YT T++zKA t))(hg:wr.grownBy wy sv.ownBlock):Ys w (wy.setCell ⟨w.heap.size+1+1+1,11,none⟩ v') x y n h gi gh F nv v' L (T++[t]) inp has:=by
 have k1:=k.ns.grown k.sws (by decide) (by decide) hg;refine⟨k1.setS v',iZ (Xp k.nums k.sws (by decide) hg) k1.hd (by decide),fun q hq=>((k.zn q hq).grown k.sws (by decide) hg).set k1.hd (by decide),?_⟩;rw[ut,tm];have e:YT [t]=zKA t:=by simp[YT]
 rw[e];exact iZ zLM k1.hd (by decide)
theorem Ys.num{n:Nat}{inp:Nat->Int}(k:Ys w wr x y n h gi gh F nv sv L T inp has)(q:NE)(hq:xA wr 221 q.za (dT (F q.place)))(zLM:wy.ownsRow (w.heap.size+4) 223 5 v' (L.length+1) (eR F L++zH2 F q))(hg:wr.grownBy wy nv.ownBlock):Ys w (wy.setCell ⟨w.heap.size+1+1+1,10,none⟩ v') x y n h gi gh F v' sv (L++[q]) T inp has:=by
 have k1:=k.ns.grown k.nums (by decide) (by decide) hg;refine⟨k1.setN v',?_,fun r hr=>?_,iZ (Xp k.sws k.nums (by decide) hg) k1.hd (by decide)⟩
 ·rw[je,tm]
  have e:eR F [q]=zH2 F q:=by simp[eR]
  rw[e];exact iZ zLM k1.hd (by decide)
 ·rcases pt.1 hr with hr|hr
  ·exact((k.zn r hr).grown k.nums (by decide) hg).set k1.hd (by decide)
  ·simp at hr;subst hr
   exact(hq.grown k.nums (by decide) hg).set k1.hd (by decide)
theorem Gh(w:World)(g k:Nat)(cs:Array Value)(h:k≠g):(w.setRow g cs).heap[k]? = w.heap[k]? := by
 unfold World.setRow;simp only[Array.getElem?_modify];rw[tb (by omega)]
structure zK5(w wr:World)(n h gi gh:Nat)(F:Nat->List (Int × Int))(nv sv:Value)(L:List NE)(T:List jI)(inp:Nat->Int)(has:Nat->Bool):Prop where
 bel:Below w.heap.size w wr
 nums:wr.ownsRow (w.heap.size+4) 223 5 nv L.length (eR F L)
 zn:∀q∈L,xA wr 221 q.za (dT (F q.place))
 sws:wr.ownsRow (w.heap.size+4) 216 2 sv T.length (YT T)
 rI:uA wr gi 3 n (fun i=>.int .i64 (inp i))
 rH:uA wr gh 4 h (fun c=>.bool (has c))
 loi:w.heap.size<=gi
 loh:w.heap.size<=gh
theorem Ys.done{n:Nat}{inp:Nat->Int}(k:Ys w wr x y n h gi gh F nv sv L T inp has)(cs:Array Value):zK5 w (wr.setRow (w.heap.size+1+1) cs) n h gi gh F nv sv L T inp has:=by
 have zLO:∀ {g:Nat} {c:Array Value} {t:TypeId} {fz:Nat × Nat},wr.heap[g]? = some (.cells c t fz)->t≠170->(wr.setRow (w.heap.size+1+1) cs).heap[g]? = wr.heap[g]? := fun h1 h2=>Gh _ _ _ _ (Xw h1 k.ns.res h2)
 have zLM:∀ {t:TypeId} {m q:Nat} {v:Value} {ys:List Value},wr.ownsRow (w.heap.size+4) t m v q ys->t≠170->(wr.setRow (w.heap.size+1+1) cs).ownsRow (w.heap.size+4) t m v q ys:=fun h1 h2=>⟨h1.1,by
  rcases h1.2 with q|⟨g',cap,yL,k1,k2,q3,k4⟩
  ·exact .inl q
  ·exact .inr ⟨g',cap,yL,k1,k2,by rw[zLO q3 h2];exact q3,k4⟩⟩
 have hrow:∀ {t:TypeId} {g m:Nat} {f:Nat->Value},uA wr g t m f->t≠170->uA (wr.setRow (w.heap.size+1+1) cs) g t m f:=fun h1 h2=>by
  obtain⟨c,q1,q2⟩:=h1;exact⟨c,by rw[zLO q1 h2];exact q1,q2⟩
 have l1:=k.ns.loi;have l2:=k.ns.loh;exact⟨xD k.ns.bel (by omega) _,zLM k.nums (by decide),fun q hq=>(k.zn q hq).keep fun g c fz hg=>zLO hg (by decide),zLM k.sws (by decide),hrow k.ns.rI (by decide),hrow k.ns.rH (by decide),by omega,by omega⟩
def mO(I:List zO)(i j:Nat):Int:=if j<i then (kR I j).low else 0
def mP(e l:xK)(c j:Nat):Bool:=decide (j<c)&&uH e l j
theorem zFE:(Tryz.prog.info? 223).map (fun i=>(i.zero,i.size,i.bytes))=some (some (.agg #[.int .i64 0,.slice none 0 0,.int .i64 0,.int .i64 0,.int .i64 0]),5,56):=by kernel_rfl
theorem zFC:(Tryz.prog.info? 216).map (fun i=>(i.zero,i.size,i.bytes))=some (some (.agg #[.bool false,.int .i64 0]),2,16):=by kernel_rfl
def KF(I:List zO)(H:Nat)(x y:MX)(w w':World)(e:Ending):Prop:=∃gi gh nv sv L,e=.returned (.agg (Bj x y nv sv (.slice (some ⟨gi,0,none⟩) I.length I.length) (.slice (some ⟨gh,0,none⟩) H H)))/\zK5 w w' I.length H gi gh (tF I x.1 y.1) nv sv L (uW I x.1 y.1 I.length++uK x.1 y.1 H) (mO I I.length) (mP x.1 y.1 H)/\L.map NE.place=xU I x.1 y.1
theorem GQ(I:List zO)(i:Nat):mO I (i+1) i=(kR I i).low/\∀r,r≠i->mO I (i+1) r=mO I i r:=by
 refine⟨by unfold mO;rw[tl (by omega)],fun r hr=>?_⟩;unfold mO;by_cases h:r<i
 ·rw[tl (by omega),tl h]
 ·rw[tb (by omega),tb h]
theorem zd(e l:xK)(i:Nat):mP e l (i+1) i=uH e l i/\∀r,r≠i->mP e l (i+1) r=mP e l i r:=by
 refine⟨by unfold mP;simp,fun r hr=>?_⟩;unfold mP;by_cases h:r<i
 ·rw[tr h,tr (show r<i+1 by omega)]
 ·rw[tu h,tu (show ¬r<i+1 by omega)]
theorem nX(r:xK)(i:Nat):(xO r i).length<=r.guard.length:=by unfold xO;rw[pw];exact dj _ _
theorem Jq{a:Option Addr}(h:jR w a (I.flatMap uL)){i:Nat}(hi:i<I.length):∃g,a=some ⟨g,0,none⟩/\w.cell? ⟨g,i*4,none⟩=some (.string ⟨(kR I i).name.toArray⟩)/\w.cell? ⟨g,i*4+1,none⟩=some (.bool (kR I i).isFlag)/\w.cell? ⟨g,i*4+2,none⟩=some (.int .i64 (kR I i).low)/\w.cell? ⟨g,i*4+3,none⟩=some (.int .i64 (kR I i).high):=by
 obtain⟨g,e,c0⟩:=h.at ((zQ uL 4 (fun _=>rfl) wK I i 0 hi (by decide)).trans rfl);obtain⟨g1,e1,c1⟩:=h.at ((zQ uL 4 (fun _=>rfl) wK I i 1 hi (by decide)).trans rfl);obtain⟨g2,e2,c2⟩:=h.at ((zQ uL 4 (fun _=>rfl) wK I i 2 hi (by decide)).trans rfl);obtain⟨g3,e3,c3⟩:=h.at ((zQ uL 4 (fun _=>rfl) wK I i 3 hi (by decide)).trans rfl);obtain rfl:g=g1:=by rw[e]at e1;simpa using e1
 obtain rfl:g=g2:=by rw[e]at e2;simpa using e2
 obtain rfl:g=g3:=by rw[e]at e3;simpa using e3
 exact⟨g,e,c0,c1,c2,c3⟩
theorem V7(w:World)(b o:Nat)(I:List zO)(H:Nat)(x y:MX)(ia ca:Option Addr)(ic cc:Nat)(h0:w.cell? ⟨b,o,none⟩=some (.slice ia I.length ic))(h1:w.cell? ⟨b,o+1,none⟩=some (.slice ca H cc))(hI:xA w 204 ia (I.flatMap uL))(hx:uN w x)(hy:uN w y)(fI:I.length<=10000)(fH:H<=10000)(hbd:∀i z,z∈xO x.1 i++xO y.1 i -> -1000000<=z/\z<=1000000)(hzf:∀i,(tF I x.1 y.1 i).length<=100000) :
 Calls Tryz.prog 66 #[.pointer (some ⟨b,o,none⟩),uF x,uF y] w fun e w'=>KF I H x y w w' e:=by
 have lb:=yF h0;obtain⟨i0,hi0,hz0,hz1,hz2⟩:=info_parts zFC;obtain⟨j0,hj0,hj1,hj2,hj3⟩:=info_parts zFE;have zM9:=zA (fun w' (hb:Below w.heap.size w w') i (hi:i<I.length)=>Jq (hI.below hb).cel hi);have HAI1:=zA (fun w' (hb:Below w.heap.size w w') (c:Nat)=>Yv w' x c (hx.below hb));have HAI2:=zA (fun w' (hb:Below w.heap.size w w') (c:Nat)=>Yv w' y c (hy.below hb));have HBd1:=zA (fun w' (hb:Below w.heap.size w w') (c:Nat)=>UL w' x c (hx.below hb));have HBd2:=zA (fun w' (hb:Below w.heap.size w w') (c:Nat)=>UL w' y c (hy.below hb));have HNd1:=zA (fun w' (hb:Below w.heap.size w w') (c:Nat)=>Fu w' x c (hx.below hb));have HNd2:=zA (fun w' (hb:Below w.heap.size w w') (c:Nat)=>Fu w' y c (hy.below hb));have HAH1:=zA (fun w' (hb:Below w.heap.size w w') (c:Nat)=>JL w' x c (hx.below hb));have HAH2:=zA (fun w' (hb:Below w.heap.size w w') (c:Nat)=>JL w' y c (hy.below hb));have HZo:Hid (∀w' i (ea la:Option Addr) (ec lc:Nat),tD w' ea (xO x.1 i)->tD w' la (xO y.1 i)->Calls Tryz.prog 97 #[Yl (kR I i),.slice ea (xO x.1 i).length ec,.slice la (xO y.1 i).length lc] w' fun e w''=>∃v,e=.returned v/\w''.ownsRow w'.heap.size 221 2 v (tF I x.1 y.1 i).length (dT (tF I x.1 y.1 i))/\Below w'.heap.size w' w''):=fun w' i ea la ec lc h1 h2=>F1 w' (kR I i) ea la ec lc _ _ h1 h2 (hbd i);have HBl1:Hid (∀i,(xO x.1 i).length<=10000):=fun i=>ty (nX _ _) hx.few2;have HBl2:Hid (∀i,(xO y.1 i).length<=10000):=fun i=>ty (nX _ _) hy.few2;have HNs:=zA (fun i=>V6 I x.1 y.1 i);have HS1:=zA (fun i=>Bf I x.1 y.1 i);have HS2:=zA (fun i=>Be x.1 y.1 i);have HNl:=zA (fun i=>Xr I x.1 y.1 i);have HS1l:=zA (fun i=>QT I x.1 y.1 i);have HS2l:=zA (fun i=>QS x.1 y.1 i);have HIs:=zA (fun i=>GQ I i);have HHs:=zA (fun i=>zd x.1 y.1 i);have HAb:Hid (∀i,qQ x.1 y.1 i=(tT x.1 i || tT y.1 i)):=fun _=>rfl;have HNb:Hid (∀i,uH x.1 y.1 i=(mC x.1 i || mC y.1 i)):=fun _=>rfl;have HIf:Hid (∀i,vB I i = !(kR I i).isFlag):=fun _=>rfl;have HPo:Hid (∀w' gi gh nv sv L,zK5 w w' I.length H gi gh (tF I x.1 y.1) nv sv L (uW I x.1 y.1 I.length++uK x.1 y.1 H) (mO I I.length) (mP x.1 y.1 H)->L.map NE.place=pZ I x.1 y.1 I.length->KF I H x y w w' (.returned (.agg (Bj x y nv sv (.slice (some ⟨gi,0,none⟩) I.length I.length) (.slice (some ⟨gh,0,none⟩) H H))))):=fun w' gi gh nv sv L h1 h2=>⟨gi,gh,nv,sv,L,rfl,h1,h2⟩;have HZf:=zA hzf;obtain⟨pa,pc,e1,-⟩:=hx.sum;obtain⟨ga,gc,e2,-⟩:=hx.guard;obtain⟨pa',pc',e3,-⟩:=hy.sum;obtain⟨ga',gc',e4,-⟩:=hy.guard
 have HCx:Hid (∀wr n gi gh F nv sv L T f g,Ys w wr x y n H gi gh F nv sv L T f g->((wr.cell? ⟨w.heap.size,0,none⟩=some (.string ⟨x.1.label.toArray⟩)/\wr.cell? ⟨w.heap.size,1,none⟩=some (.int .i64 x.1.conc)/\wr.cell? ⟨w.heap.size,2,none⟩=some (.slice pa x.1.sum.length pc)/\wr.cell? ⟨w.heap.size,3,none⟩=some (.slice ga x.1.guard.length gc)/\wr.cell? ⟨w.heap.size,4,none⟩=some (.int .i64 x.1.root))/\(wr.cell? ⟨w.heap.size+1,0,none⟩=some (.string ⟨y.1.label.toArray⟩)/\wr.cell? ⟨w.heap.size+1,1,none⟩=some (.int .i64 y.1.conc)/\wr.cell? ⟨w.heap.size+1,2,none⟩=some (.slice pa' y.1.sum.length pc')/\wr.cell? ⟨w.heap.size+1,3,none⟩=some (.slice ga' y.1.guard.length gc')/\wr.cell? ⟨w.heap.size+1,4,none⟩=some (.int .i64 y.1.root))/\(wr.cell? ⟨w.heap.size+1+1+1,10,none⟩=some nv/\wr.cell? ⟨w.heap.size+1+1+1,11,none⟩=some sv/\wr.cell? ⟨w.heap.size+1+1+1,12,none⟩=some (.slice (some ⟨gi,0,none⟩) n n)/\wr.cell? ⟨w.heap.size+1+1+1,13,none⟩=some (.slice (some ⟨gh,0,none⟩) H H))/\∀j,wr.frozen? ⟨w.heap.size+1+1+1,j,none⟩=false)):=fun wr n gi gh F nv sv L T f g k=>by
  have q1:=k.ns.bx;have q2:=k.ns.by'
  rw[e1,e2]at q1;rw[e3,e4]at q2;exact⟨⟨zB q1 0,zB q1 1,zB q1 2,zB q1 3,zB q1 4⟩,⟨zB q2 0,zB q2 1,zB q2 2,zB q2 3,zB q2 4⟩,⟨zB k.ns.hd 10,zB k.ns.hd 11,zB k.ns.hd 12,zB k.ns.hd 13⟩,fun j=>by simp[World.frozen?,k.ns.hd]⟩
 have HFr:Hid (∀ {w4 wx:World} {n gi gh:Nat},w4.heap[w.heap.size]? = some (.cells #[.string ⟨x.1.label.toArray⟩,.int .i64 x.1.conc,.slice pa x.1.sum.length pc,.slice ga x.1.guard.length gc,.int .i64 x.1.root] 162 (0,0))->w4.heap[w.heap.size+1]? = some (.cells #[.string ⟨y.1.label.toArray⟩,.int .i64 y.1.conc,.slice pa' y.1.sum.length pc',.slice ga' y.1.guard.length gc',.int .i64 y.1.root] 162 (0,0))->w4.heap[w.heap.size+1+1]? = some (.cells Dd 170 (0,0))->w4.heap[w.heap.size+1+1+1]? = some (.cells #[.string ⟨x.1.label.toArray⟩,.int .i64 x.1.conc,.slice pa x.1.sum.length pc,.slice ga x.1.guard.length gc,.int .i64 x.1.root,.string ⟨y.1.label.toArray⟩,.int .i64 y.1.conc,.slice pa' y.1.sum.length pc',.slice ga' y.1.guard.length gc',.int .i64 y.1.root,.slice none 0 0,.slice none 0 0,.slice none 0 0,.slice none 0 0,.slice none 0 0] 170 (0,0))->Below w.heap.size w w4->w.heap.size+4<=w4.heap.size->Below w4.heap.size w4 wx->wx.heap[gi]? = some (.cells (iC (List.replicate n 0)) 3 (0,0))->wx.heap[gh]? = some (.cells (gC (List.replicate H false)) 4 (0,0))->w4.heap.size<=gi->w4.heap.size<=gh->Ys w (((wx.setCell ⟨w.heap.size+1+1+1,12,none⟩ (.slice (some ⟨gi,0,none⟩) n n)).setCell ⟨w.heap.size+1+1+1,13,none⟩ (.slice (some ⟨gh,0,none⟩) H H)).setCell ⟨w.heap.size+1+1+1,14,none⟩ (.slice none 0 0)) x y n H gi gh (tF I x.1 y.1) (.slice none 0 0) (.slice none 0 0) [] [] (mO I 0) (mP x.1 y.1 0)):=fun {w4 wx n gi gh} q1 q2 q3 q4 q5 q6 q7 q8 q9 q10 q11=>by
  have hz:mO I 0=fun _=>0:=by funext j;unfold mO;rw[tb (by omega)]
  have hz2:mP x.1 y.1 0=fun _=>false:=by funext j;unfold mP;rw[tu (by omega)];rfl
  rw[hz,hz2];exact⟨Y4.fresh (x:=x) (y:=y) (by rw[e1,e2];exact q1) (by rw[e3,e4];exact q2) q3 (by unfold Bj;rw[e1,e2,e3,e4];exact q4) q5 q6 q7 q8 q9 q10 q11,⟨rfl,.inl ⟨rfl,rfl⟩⟩,fun q hq=>by simp at hq,⟨rfl,.inl ⟨rfl,rfl⟩⟩⟩
 have HOne:Hid (∀nv sv iv hv:Value,nv.oneCell'=true->sv.oneCell'=true->iv.oneCell'=true->hv.oneCell'=true->(Bj x y nv sv iv hv).all (·.oneCell')=true):=fun nv sv iv hv h1 h2 h3 h4=>Ds (by rw[e1];rfl) (by rw[e2];rfl) (by rw[e3];rfl) (by rw[e4];rfl) h1 h2 h3 h4
 simp only[uF]at HAI1 HAI2 HBd1 HBd2 HNd1 HNd2 HAH1 HAH2 ⊢;rw[e1,e2]at HAI1 HBd1 HNd1 HAH1;rw[e3,e4]at HAI2 HBd2 HNd2 HAH2;rw[e1,e2,e3,e4];have HE1:=zA (show x.2.1=_ from e1);clear e1 e2 e3 e4 hx hy hbd hzf hI;have hmI:=run_make_row' (P:=Tryz.prog) 22 3 (.int .i64 0) 8 Tryz.underlying22 gF rfl .i64 .i64 I.length (by omega) (by omega);have hmH:=run_make_row' (P:=Tryz.prog) 166 4 (.bool false) 1 Tryz.underlying166 cZ rfl .i64 .i64 H (by omega) (by omega);rw[cS]at hmH;rw[sZ]at hmI;generalize x.1.label=xl at *;generalize x.1.conc=xc at *;generalize x.1.root=xr at *;generalize x.1.sum.length=xn at *;generalize x.1.guard.length=xm at *;generalize y.1.label=yl at *;generalize y.1.conc=yc at *;generalize y.1.root=yr at *;generalize y.1.sum.length=yn at *;generalize y.1.guard.length=ym at *;have h1':=h1;have lb1:=lb
 go_enter Tryz.func66,Tryz.ntmps66
 go_upto_region 2 with fail
 obtain⟨w4,hw4⟩:∃w4,w4=(((w.alloc (Obj.cells #[Value.string ⟨xl.toArray⟩,.int .i64 xc,.slice pa xn pc,.slice ga xm gc,.int .i64 xr] 162)).alloc (Obj.cells #[Value.string ⟨yl.toArray⟩,.int .i64 yc,.slice pa' yn pc',.slice ga' ym gc',.int .i64 yr] 162)).alloc (Obj.cells Dd 170)).alloc (Obj.cells #[.string ⟨xl.toArray⟩,.int .i64 xc,.slice pa xn pc,.slice ga xm gc,.int .i64 xr,.string ⟨yl.toArray⟩,.int .i64 yc,.slice pa' yn pc',.slice ga' ym gc',.int .i64 yr,.slice none 0 0,.slice none 0 0,.slice none 0 0,.slice none 0 0,.slice none 0 0] 170):=⟨_,rfl⟩;have hw4':=hw4;unfold Dd at hw4;rw[<-hw4];clear hw4;have x0:w4.heap[w.heap.size]? = some (.cells #[.string ⟨xl.toArray⟩,.int .i64 xc,.slice pa xn pc,.slice ga xm gc,.int .i64 xr] 162 (0,0)):=by rw[hw4'];exact zT (zT (zT (zG _ _)))
 have x1:w4.heap[w.heap.size+1]? = some (.cells #[.string ⟨yl.toArray⟩,.int .i64 yc,.slice pa' yn pc',.slice ga' ym gc',.int .i64 yr] 162 (0,0)):=by rw[hw4'];exact zT (zT (yT _ _ _ (by simp)))
 have x2:w4.heap[w.heap.size+1+1]? = some (.cells Dd 170 (0,0)):=by rw[hw4'];exact zT (yT _ _ _ (by simp))
 have x3:w4.heap[w.heap.size+1+1+1]? = some (.cells #[.string ⟨xl.toArray⟩,.int .i64 xc,.slice pa xn pc,.slice ga xm gc,.int .i64 xr,.string ⟨yl.toArray⟩,.int .i64 yc,.slice pa' yn pc',.slice ga' ym gc',.int .i64 yr,.slice none 0 0,.slice none 0 0,.slice none 0 0,.slice none 0 0,.slice none 0 0] 170 (0,0)):=by rw[hw4'];exact yT _ _ _ (by simp)
 have hs4:w4.heap.size=w.heap.size+4:=by rw[hw4'];simp
 have HB4:Hid (Below w.heap.size w w4):=by unfold Hid;rw[hw4'];exact(((fw (j1 _) _).alloc (by simp) _).alloc (by simp;omega) _).alloc (by simp;omega) _
 have k0:w4.cell? ⟨b,o,none⟩=some (.slice ia I.length ic):=(HB4.out.cell (p:=⟨b,o,none⟩) lb).trans h0;have k1:w4.cell? ⟨b,o+1,none⟩=some (.slice ca H cc):=(HB4.out.cell (p:=⟨b,o+1,none⟩) lb).trans h1;have l3:w.heap.size+1+1+1<w4.heap.size:=by omega
 have l4:b<w4.heap.size:=by omega
 have HQ:Hid (∀A B:Obj,((w4.alloc A).alloc B).heap[w.heap.size+1+1+1]? = _):=fun A B=>zT (zT x3);have f12:∀A B:Obj,((w4.alloc A).alloc B).frozen? ⟨w.heap.size+1+1+1,12,none⟩=false:=fun A B=>by simp[World.frozen?,HQ.out A B]
 have f13:∀A B:Obj,((w4.alloc A).alloc B).frozen? ⟨w.heap.size+1+1+1,13,none⟩=false:=fun A B=>by simp[World.frozen?,HQ.out A B]
 have f14:∀A B:Obj,((w4.alloc A).alloc B).frozen? ⟨w.heap.size+1+1+1,14,none⟩=false:=fun A B=>by simp[World.frozen?,HQ.out A B]
 have c12:∀A B:Obj,((w4.alloc A).alloc B).cell? ⟨w.heap.size+1+1+1,12,none⟩=some (.slice none 0 0):=fun A B=>zB (HQ.out A B) 12;have c13:∀A B:Obj,((w4.alloc A).alloc B).cell? ⟨w.heap.size+1+1+1,13,none⟩=some (.slice none 0 0):=fun A B=>zB (HQ.out A B) 13;have c14:∀A B:Obj,((w4.alloc A).alloc B).cell? ⟨w.heap.size+1+1+1,14,none⟩=some (.slice none 0 0):=fun A B=>zB (HQ.out A B) 14;have HX0:=zA x0;have HX1:=zA x1;have HX2:=zA x2;have HX3:=zA x3;have hs4':w.heap.size+4<=w4.heap.size:=by omega
 clear hw4' hs4 x0 x1 x2 x3
 go_cut [7] from 17 to 30 (fun v7 wx=>v7=.pointer (some ⟨w.heap.size+1+1+1,0,none⟩)/\∃gi gh,Hid (Ys w wx x y I.length H gi gh (tF I x.1 y.1) (.slice none 0 0) (.slice none 0 0) [] [] (mO I 0) (mP x.1 y.1 0)))
 case first =>
  go_region
  all_goals
   go_wp2_with fail
   go_meet
  ·exact⟨rfl,w4.heap.size,w4.heap.size+1,zA ((HFr.out (n:=I.length) (gi:=w4.heap.size) (gh:=w4.heap.size+1) HX0.out HX1.out HX2.out HX3.out HB4.out hs4' ((fw (j1 _) _).alloc (by simp) _) (zT (zG _ _)) (yT _ _ _ (by simp)) (by omega) (by omega)).below (py (tg _ _)))⟩
  ·exact⟨rfl,w4.heap.size+1,w4.heap.size,zA ((HFr.out (n:=I.length) (gi:=w4.heap.size+1) (gh:=w4.heap.size) HX0.out HX1.out HX2.out HX3.out HB4.out hs4' ((fw (j1 _) _).alloc (by simp) _) (yT _ _ _ (by simp)) (zT (zG _ _)) (by omega) (by omega)).below (py (tg _ _)))⟩
 case rest =>
  obtain⟨rfl,gi,gh,HS⟩:=hcut;generalize hwA:wc=wA at *;clear hwA HX0 HX1 HX2 HX3 HB4 k0 k1 l3 l4 HQ f12 f13 f14 c12 c13 c14 hmI hmH hs4' HFr;have HMd:Hid (∀wr,Below w.heap.size w wr->wr.cell? ⟨b,o,none⟩=some (.slice ia I.length ic)/\wr.cell? ⟨b,o+1,none⟩=some (.slice ca H cc)):=fun wr hb=>⟨(hb.cell (p:=⟨b,o,none⟩) lb).trans h0,(hb.cell (p:=⟨b,o+1,none⟩) lb).trans h1⟩;obtain⟨k0,k1⟩:=HMd.out wA HS.out.ns.bel;clear h0 h1 h1' lb1;go_wp2_with fail
  go_loopw [36] (fun iv wr=>∃(i:Nat) (nv sv:Value) (L:List NE),i<=I.length/\iv=.int .i64 i/\Hid (Ys w wr x y I.length H gi gh (tF I x.1 y.1) nv sv L (uW I x.1 y.1 i) (mO I i) (mP x.1 y.1 0))/\Hid (L.map NE.place=pZ I x.1 y.1 i)) (fun iv _=>I.length-(intOf iv).toNat)
  case atStart=>exact⟨0,_,_,[],tx _,rfl,HS,zA rfl⟩
  case round =>
   obtain⟨i,nv,sv,L,hi,rfl,HN,HP⟩:=hrel;have zLQ:=HN.out.ns.sz;by_cases zLL:i<I.length
   ·obtain⟨g,rfl,n0,n1,n2,n3⟩:=zM9.out wr HN.out.ns.bel i zLL
    obtain⟨-,-,⟨-,-,d12,-⟩,-⟩:=HCx.out _ _ _ _ _ _ _ _ _ _ _ HN.out;have ii:(i:Int)<(I.length:Int):=by omega
    have lg:=yF n0;have ng:wr.heap.size≠g:=by omega
    have m3:w.heap.size+1+1+1<wr.heap.size:=by omega
    have m3':wr.heap.size≠w.heap.size+1+1+1:=by omega
    have ci:wr.cell? ⟨gi,i,none⟩=some (.int .i64 (mO I i i)):=HN.out.ns.rI.cell zLL;have fi:wr.frozen? ⟨gi,i,none⟩=false:=HN.out.ns.rI.free i;have lgi:=yF ci;have ngi:wr.heap.size≠gi:=by omega
    have ngi':gi≠wr.heap.size:=by omega
    have HSet:Hid (Ys w (wr.setCell ⟨gi,i,none⟩ (.int .i64 (kR I i).low)) x y I.length H gi gh (tF I x.1 y.1) nv sv L (uW I x.1 y.1 i) (mO I (i+1)) (mP x.1 y.1 0)):=HN.out.setI zLL _ (HIs.out i).1 (fun r _ hr=>(HIs.out i).2 r hr);have HAI1i:=zA (fun w' hb=>HAI1.out w' hb i);have HAI2i:=zA (fun w' hb=>HAI2.out w' hb i);have HBd1i:=zA (fun w' hb=>HBd1.out w' hb i);have HBd2i:=zA (fun w' hb=>HBd2.out w' hb i);have HZoi:=zA (fun w'=>HZo.out w' i);have HBl1i:=HBl1.out i;have HBl2i:=HBl2.out i;have HNsi:=zA (HNs.out i);have HS1i:=zA (HS1.out i);have hNl:=HNl.out i;have hS1l:=HS1l.out i;have hLl:L.length<=i:=by have:=congrArg List.length HP.out;rw[pw]at this;omega
    rw[HAb.out i,HIf.out i]at HNsi HS1i;have hzl:=HZf.out i;have HNeC:Hid (∀za zc,zH2 (tF I x.1 y.1) ⟨i,za,zc⟩=[.int .i64 (i:Nat),.slice za (tF I x.1 y.1 i).length zc,.int .i64 0,.int .i64 0,.int .i64 0]):=fun _ _=>rfl;generalize mO I i i=old at *;generalize kR I i=xi at *;obtain⟨xin,xif,xil,xih⟩:=xi;simp only[Yl]at n0 n1 n2 n3 HSet HNsi HS1i HZoi;generalize tT x.1 i=q1 at *;generalize tT y.1 i=q2 at *
    go_upto_region 7 with fail
    have HN7:Hid (Ys w ((wr.setCell ⟨gi,i,none⟩ (.int .i64 xil)).alloc (.cells #[.string ⟨xin.toArray⟩,.bool xif,.int .i64 xil,.int .i64 xih] 204)) x y I.length H gi gh (tF I x.1 y.1) nv sv L (uW I x.1 y.1 i) (mO I (i+1)) (mP x.1 y.1 0)):=HSet.out.below (fw (j1 _) _);have HI7:Hid (((wr.setCell ⟨gi,i,none⟩ (.int .i64 xil)).alloc (.cells #[.string ⟨xin.toArray⟩,.bool xif,.int .i64 xil,.int .i64 xih] 204)).heap[wr.heap.size]? = some (.cells #[.string ⟨xin.toArray⟩,.bool xif,.int .i64 xil,.int .i64 xih] 204 (0,0))):=yT _ _ _ (by simp[World.setCell]);generalize (wr.setCell ⟨gi,i,none⟩ (.int .i64 xil)).alloc (.cells #[.string ⟨xin.toArray⟩,.bool xif,.int .i64 xil,.int .i64 xih] 204)=w7 at *;clear HSet n0 n1 n2 n3 ci fi lgi ngi ngi' d12 HN zLQ m3 m3' lg ng;obtain⟨⟨a0,a1,a2,a3,a4⟩,-,-,-⟩:=HCx.out _ _ _ _ _ _ _ _ _ _ _ HN7.out;have HAI1w:=zA (HAI1i.out w7 HN7.out.ns.bel)
    have HYc:Hid (∀w8,Below w7.heap.size w7 w8->Below w.heap.size w w8/\w8.cell? ⟨w.heap.size+1,0,none⟩=some (.string ⟨yl.toArray⟩)/\w8.cell? ⟨w.heap.size+1,1,none⟩=some (.int .i64 yc)/\w8.cell? ⟨w.heap.size+1,2,none⟩=some (.slice pa' yn pc')/\w8.cell? ⟨w.heap.size+1,3,none⟩=some (.slice ga' ym gc')/\w8.cell? ⟨w.heap.size+1,4,none⟩=some (.int .i64 yr)):=fun w8 hb=>by
     have k:=HN7.out.below hb;obtain⟨-,h9,-,-⟩:=HCx.out _ _ _ _ _ _ _ _ _ _ _ k;exact⟨k.ns.bel,h9⟩
    go_cut [57] from 48 to 57 (fun v57 wx=>v57=.bool (!(q1 || q2))/\Hid (Below w7.heap.size w7 wx))
    case first =>
     cases q1
     ·go_wp2_with fail
      refine HAI1w.out.mono ?_;rintro e w8 ⟨rfl,hb8⟩;obtain⟨p1,p2,p3,p4,p5,p6⟩:=HYc.out w8 hb8;have HA2w:=zA (HAI2i.out w8 p1);have HB8:=zA hb8;clear hb8 p1 a0 a1 a2 a3 a4;go_wp2_with fail
      refine HA2w.out.mono ?_;rintro e w9 ⟨rfl,hb9⟩;have HB9:Hid (Below w7.heap.size w7 w9):=HB8.out.trans (hb9.mono HB8.out.size);clear hb9;cases q2
      ·go_wp2_with fail
       go_meet
       exact⟨rfl,HB9⟩
      ·go_wp2_with fail
       go_meet
       exact⟨rfl,HB9⟩
     ·go_wp2_with fail
      refine HAI1w.out.mono ?_;rintro e w8 ⟨rfl,hb8⟩;have HB8:=zA hb8;clear hb8;go_wp2_with fail
      go_meet
      exact⟨rfl,HB8⟩
    case rest =>
     obtain⟨rfl,HB8⟩:=hcut;generalize hwB:wc=w8 at *;clear hwB a0 a1 a2 a3 a4 HAI1w HAI1i HAI2i HYc;have HN8:=zA (HN7.out.below HB8.out);have HI8:Hid (w8.heap[wr.heap.size]? = some (.cells #[.string ⟨xin.toArray⟩,.bool xif,.int .i64 xil,.int .i64 xih] 204 (0,0))):=by unfold Hid;rw[HB8.out.block _ (zM HI7.out)];exact HI7.out
     clear HN7 HI7 HB8;generalize (q1 || q2)=qq at *;cases qq
     ·have HE1:Hid (uW I x.1 y.1 (i+1)=uW I x.1 y.1 i):=by have:=HS1i.out;unfold Hid;simpa using this
      have HE2:Hid (pZ I x.1 y.1 (i+1)=pZ I x.1 y.1 i):=by have:=HNsi.out;unfold Hid;simpa using this
      go_wp2_with fail
      go_roundw
      case rel=>exact⟨i+1,nv,sv,L,by omega,by go_num,by rw[HE1.out];exact HN8,by rw[HE2.out];exact HP⟩
      case measure=>simp[intOf];omega
     ·have u0:w8.cell? ⟨wr.heap.size,0,none⟩=some (.string ⟨xin.toArray⟩):=zB HI8.out 0
      have u1:w8.cell? ⟨wr.heap.size,1,none⟩=some (.bool xif):=zB HI8.out 1;have u2:w8.cell? ⟨wr.heap.size,2,none⟩=some (.int .i64 xil):=zB HI8.out 2;have u3:w8.cell? ⟨wr.heap.size,3,none⟩=some (.int .i64 xih):=zB HI8.out 3;obtain⟨⟨a0,a1,a2,a3,a4⟩,⟨b0,b1,b2,b3,b4⟩,⟨d10,d11,d12,d13⟩,dF⟩:=HCx.out _ _ _ _ _ _ _ _ _ _ _ HN8.out;have hs8:=HN8.out.ns.sz;have m3:w.heap.size+1+1+1<w8.heap.size:=by omega
      have m3':w8.heap.size≠w.heap.size+1+1+1:=by omega
      cases xif
      ·have HE1:Hid (uW I x.1 y.1 (i+1)=uW I x.1 y.1 i):=by have:=HS1i.out;unfold Hid;simpa using this
       have HE2:Hid (pZ I x.1 y.1 (i+1)=pZ I x.1 y.1 i++[i]):=by have:=HNsi.out;unfold Hid;simpa using this
       have HB1w:=zA (HBd1i.out w8 HN8.out.ns.bel);go_wp2_with fail
       refine HB1w.out.mono ?_;rintro e w9 ⟨v9,rfl,ho9,hb9⟩;have HN9:=zA (HN8.out.below hb9);obtain⟨ea,ec,rfl,hcel9,-,-⟩:=nH ho9;have HIa:Hid (tD w9 ea (xO x.1 i)):=⟨hcel9,HBl1i⟩;have HI9:Hid (w9.heap[wr.heap.size]? = some (.cells #[.string ⟨xin.toArray⟩,.bool false,.int .i64 xil,.int .i64 xih] 204 (0,0))):=by unfold Hid;rw[hb9.block _ (zM HI8.out)];exact HI8.out
       obtain⟨-,⟨e0,e1,e2,e3,e4⟩,-,-⟩:=HCx.out _ _ _ _ _ _ _ _ _ _ _ HN9.out;have HB2w:=zA (HBd2i.out w9 HN9.out.ns.bel);clear ho9 hb9 hcel9 u0 u1 u2 u3 a0 a1 a2 a3 a4 b0 b1 b2 b3 b4 d10 d11 d12 d13 dF m3 m3' hs8 HN8 HI8 HB1w;generalize xO x.1 i=be at *;go_wp2_with fail
       refine HB2w.out.mono ?_;rintro e w10 ⟨v10,rfl,ho10,hb10⟩;have HN10:=zA (HN9.out.below hb10);obtain⟨la,lc,rfl,hcel10,-,-⟩:=nH ho10;have HIb:Hid (tD w10 la (xO y.1 i)):=⟨hcel10,HBl2i⟩;have HIa2:=zA (HIa.out.below hb10);have HI10:Hid (w10.heap[wr.heap.size]? = some (.cells #[.string ⟨xin.toArray⟩,.bool false,.int .i64 xil,.int .i64 xih] 204 (0,0))):=by unfold Hid;rw[hb10.block _ (zM HI9.out)];exact HI9.out
       have u0:w10.cell? ⟨wr.heap.size,0,none⟩=some (.string ⟨xin.toArray⟩):=zB HI10.out 0;have u1:w10.cell? ⟨wr.heap.size,1,none⟩=some (.bool false):=zB HI10.out 1;have u2:w10.cell? ⟨wr.heap.size,2,none⟩=some (.int .i64 xil):=zB HI10.out 2;have u3:w10.cell? ⟨wr.heap.size,3,none⟩=some (.int .i64 xih):=zB HI10.out 3;have HZw:=zA (HZoi.out w10 ea la ec lc HIa2.out HIb.out);clear ho10 hb10 hcel10 e0 e1 e2 e3 e4 HN9 HI9 HB2w HIa HIa2 HIb;generalize xO y.1 i=bl at *;go_wp2_with fail
       refine HZw.out.mono ?_;rintro e w11 ⟨v11,rfl,ho11,hb11⟩;have HN11:=zA (HN10.out.below hb11);obtain⟨za,zc,rfl,hcT⟩:=vN ho11;have HCT:=zA hcT;obtain⟨-,-,⟨d10,d11,d12,d13⟩,dF⟩:=HCx.out _ _ _ _ _ _ _ _ _ _ _ HN11.out;have hs11:=HN11.out.ns.sz;have m3:w.heap.size+1+1+1<w11.heap.size:=by omega
       have m3':w11.heap.size≠w.heap.size+1+1+1:=by omega
       clear ho11 hb11 hcT u0 u1 u2 u3 HN10 HI10 HZw;have HNum:=zA (fun (ob:Obj) (wy:World) (v':Value) (zLM:wy.ownsRow (w.heap.size+4) 223 5 v' (L.length+1) (eR (tF I x.1 y.1) L++zH2 (tF I x.1 y.1) ⟨i,za,zc⟩)) (hg:(w11.alloc ob).grownBy wy nv.ownBlock)=>(HN11.out.below (fw (j1 _) ob)).num ⟨i,za,zc⟩ (HCT.out.below (fw (j1 _) ob)) zLM hg);obtain⟨na,nc,rfl⟩:=zP HN11.out.nums;have HOn:=zA HN11.out.nums;have HPl:Hid ((L++[(⟨i,za,zc⟩:NE)]).map NE.place=pZ I x.1 y.1 (i+1)):=by unfold Hid;rw[bf,HP.out,HE2.out];rfl
       rw[HNeC.out za zc]at HNum;generalize (tF I x.1 y.1 i).length=zl at *
       go_wp2_with (at_builtin;refine wpList_append_own _ rfl _ _ 164 rfl (w.heap.size+4) 223 j0 _ 5 56 Tryz.underlying164 hj0 hj1 hj2 hj3 rfl (by decide) _ _ _ rfl (HOn.out.alloc _) ⟨w11.heap.size,0,none⟩ 1 1 [.int .i64 (i:Nat),.slice za zl zc,.int .i64 0,.int .i64 0,.int .i64 0] rfl rfl ?c1k1 ?c1k2 ?c1k3 ?c1k4 ?c1k5 ?_)
       try (case c1k1=>first|exact zN _ _ _ _ rfl|exact fun _ _ h=>h)
       try (case c1k2=>first|exact⟨rfl,rfl,rfl,rfl,rfl⟩|(intro u hu;simp at hu;rcases hu with rfl|rfl|rfl <;> rfl)|simp[Value.oneCell'])
       try (case c1k3=>unfold maxLen;omega)
       try (case c1k4=>omega)
       try (case c1k5=>first|omega|(simp;omega))
       intro v12 w12 hown12 hgrow12 _;have HN12:=zA (HNum.out _ w12 v12 hown12 hgrow12)
       have e10:w12.cell? ⟨w.heap.size+1+1+1,10,none⟩=some (.slice na L.length nc):=by
        have hb:=hgrow12.block (w.heap.size+1+1+1) (by simp;omega) (fun e=>by have:=(zZ HOn.out _ e.symm).1;omega);rw[bm (w:=w11.alloc _) (a:=⟨w.heap.size+1+1+1,10,none⟩) hb,bm (w:=w11) (a:=⟨w.heap.size+1+1+1,10,none⟩) (l8 _ _ _ m3)];exact d10
       have f10:w12.frozen? ⟨w.heap.size+1+1+1,10,none⟩=false:=by
        have hb:=hgrow12.block (w.heap.size+1+1+1) (by simp;omega) (fun e=>by have:=(zZ HOn.out _ e.symm).1;omega);rw[dm (w:=w11.alloc _) (a:=⟨w.heap.size+1+1+1,10,none⟩) hb,dm (w:=w11) (a:=⟨w.heap.size+1+1+1,10,none⟩) (l8 _ _ _ m3)];exact dF 10
       obtain⟨va,vc,rfl⟩:=zP hown12;clear hown12 hgrow12 d10 d11 d12 d13 dF;go_wp2_with fail
       go_roundw
       case rel=>exact⟨i+1,_,sv,L++[⟨i,za,zc⟩],by omega,by go_num,by rw[HE1.out];exact HN12,HPl⟩
       case measure=>simp[intOf];omega
      ·have HE1:Hid (uW I x.1 y.1 (i+1)=uW I x.1 y.1 i++[⟨true,i⟩]):=by have:=HS1i.out;unfold Hid;simpa using this
       have HE2:Hid (pZ I x.1 y.1 (i+1)=pZ I x.1 y.1 i):=by have:=HNsi.out;unfold Hid;simpa using this
       have HTg:=zA (fun (ob:Obj) (wy:World) (v':Value) (zLM:wy.ownsRow (w.heap.size+4) 216 2 v' ((uW I x.1 y.1 i).length+1) (YT (uW I x.1 y.1 i)++[.bool true,.int .i64 (i:Nat)])) (hg:(w8.alloc ob).grownBy wy sv.ownBlock)=>(HN8.out.below (fw (j1 _) ob)).tog ⟨true,i⟩ zLM hg);obtain⟨sa,sc,rfl⟩:=zP HN8.out.sws;have HOs:=zA HN8.out.sws;clear u0 u2 u3 a0 a1 a2 a3 a4 b0 b1 b2 b3 b4
       go_wp2_with (at_builtin;refine wpList_append_own _ rfl _ _ 165 rfl (w.heap.size+4) 216 i0 _ 2 16 Tryz.underlying165 hi0 hz0 hz1 hz2 rfl (by decide) _ _ _ rfl (HOs.out.alloc _) ⟨w8.heap.size,0,none⟩ 1 1 [.bool true,.int .i64 (i:Nat)] rfl rfl ?c2k1 ?c2k2 ?c2k3 ?c2k4 ?c2k5 ?_)
       try (case c2k1=>first|exact zN _ _ _ _ rfl|exact fun _ _ h=>h)
       try (case c2k2=>first|exact⟨rfl,rfl⟩|(intro u hu;simp at hu;rcases hu with rfl|rfl <;> rfl)|simp[Value.oneCell'])
       try (case c2k3=>unfold maxLen;omega)
       try (case c2k4=>omega)
       try (case c2k5=>first|omega|(simp;omega))
       intro v12 w12 hown12 hgrow12 _;have HN12:=zA (HTg.out _ w12 v12 hown12 hgrow12)
       have e11:w12.cell? ⟨w.heap.size+1+1+1,11,none⟩=some (.slice sa (uW I x.1 y.1 i).length sc):=by
        have hb:=hgrow12.block (w.heap.size+1+1+1) (by simp;omega) (fun e=>by have:=(zZ HOs.out _ e.symm).1;omega);rw[bm (w:=w8.alloc _) (a:=⟨w.heap.size+1+1+1,11,none⟩) hb,bm (w:=w8) (a:=⟨w.heap.size+1+1+1,11,none⟩) (l8 _ _ _ m3)];exact d11
       have f11:w12.frozen? ⟨w.heap.size+1+1+1,11,none⟩=false:=by
        have hb:=hgrow12.block (w.heap.size+1+1+1) (by simp;omega) (fun e=>by have:=(zZ HOs.out _ e.symm).1;omega);rw[dm (w:=w8.alloc _) (a:=⟨w.heap.size+1+1+1,11,none⟩) hb,dm (w:=w8) (a:=⟨w.heap.size+1+1+1,11,none⟩) (l8 _ _ _ m3)];exact dF 11
       obtain⟨va,vc,rfl⟩:=zP hown12;clear hown12 hgrow12 d10 d11 d12 d13 dF;go_wp2_with fail
       go_roundw
       case rel=>exact⟨i+1,nv,_,L,by omega,by go_num,by rw[HE1.out];exact HN12,by rw[HE2.out];exact HP⟩
       case measure=>simp[intOf];omega
   ·obtain rfl:i=I.length:=by omega
    have ii:¬(I.length:Int)<(I.length:Int):=by omega
    obtain⟨wq,hwq⟩:∃wq,wq=wr:=⟨_,rfl⟩;rw[<-hwq]at HN ⊢;clear hwq zLQ k0 k1;obtain⟨k0,k1⟩:=HMd.out wq HN.out.ns.bel
    have HN0:Hid (Ys w wq x y I.length H gi gh (tF I x.1 y.1) nv sv L (uW I x.1 y.1 I.length++uK x.1 y.1 0) (mO I I.length) (mP x.1 y.1 0)):=by
     have e:uW I x.1 y.1 I.length++uK x.1 y.1 0=uW I x.1 y.1 I.length:=ms _;unfold Hid;rw[e];exact HN.out
    have hTl:=HS1l.out I.length;clear HN HNs HS1 HNl HS1l HIs HBl1 HBl2 HZo HBd1 HBd2 HAI1 HAI2 zM9 HIf HAb HZf;go_wp2_with fail
    generalize hT1:uW I x.1 y.1 I.length=T1 at *;have HT1:=zA hT1;clear hT1
    go_loopw [91] (fun iv wr=>∃(c:Nat) (sv:Value),c<=H/\iv=.int .i64 c/\Hid (Ys w wr x y I.length H gi gh (tF I x.1 y.1) nv sv L (T1++uK x.1 y.1 c) (mO I I.length) (mP x.1 y.1 c))) (fun iv _=>H-(intOf iv).toNat)
    case atStart=>exact⟨0,_,tx _,rfl,HN0⟩
    case round =>
     obtain⟨c,sv,hc,rfl,HN⟩:=hrel;by_cases zLL:c<H
     ·have jj:(c:Int)<(H:Int):=by omega
      obtain⟨⟨a0,a1,a2,a3,a4⟩,-,-,-⟩:=HCx.out _ _ _ _ _ _ _ _ _ _ _ HN.out;have HNd1w:=zA (HNd1.out wr HN.out.ns.bel c);have HNd2i:=zA (fun w' hb=>HNd2.out w' hb c);have HAH1i:=zA (fun w' hb=>HAH1.out w' hb c);have HAH2i:=zA (fun w' hb=>HAH2.out w' hb c);have HS2i:=zA (HS2.out c);have HHi:=zA (HHs.out c);have hS2l:=HS2l.out c;rw[HNb.out c]at HS2i HHi
      have HYc:Hid (∀w8,Below wr.heap.size wr w8->(Below w.heap.size w w8/\w8.cell? ⟨w.heap.size+1,0,none⟩=some (.string ⟨yl.toArray⟩)/\w8.cell? ⟨w.heap.size+1,1,none⟩=some (.int .i64 yc)/\w8.cell? ⟨w.heap.size+1,2,none⟩=some (.slice pa' yn pc')/\w8.cell? ⟨w.heap.size+1,3,none⟩=some (.slice ga' ym gc')/\w8.cell? ⟨w.heap.size+1,4,none⟩=some (.int .i64 yr))/\w8.cell? ⟨w.heap.size,0,none⟩=some (.string ⟨xl.toArray⟩)/\w8.cell? ⟨w.heap.size,1,none⟩=some (.int .i64 xc)/\w8.cell? ⟨w.heap.size,2,none⟩=some (.slice pa xn pc)/\w8.cell? ⟨w.heap.size,3,none⟩=some (.slice ga xm gc)/\w8.cell? ⟨w.heap.size,4,none⟩=some (.int .i64 xr)):=fun w8 hb=>by
       have k:=HN.out.below hb;obtain⟨h8,h9,-,-⟩:=HCx.out _ _ _ _ _ _ _ _ _ _ _ k;exact⟨⟨k.ns.bel,h9⟩,h8⟩
      generalize mC x.1 c=q1 at *;generalize mC y.1 c=q2 at *;generalize vR x.1 c=q3 at *;generalize vR y.1 c=q4 at *
      go_upto_region 18 with fail
      go_cut [101] from 94 to 101 (fun v wx=>v=.bool (q1 || q2)/\Hid (Below wr.heap.size wr wx))
      case first =>
       cases q1
       ·go_wp2_with fail
        refine HNd1w.out.mono ?_;rintro e w8 ⟨rfl,hb8⟩;obtain⟨⟨p1,p2,p3,p4,p5,p6⟩,-⟩:=HYc.out w8 hb8;have HA2w:=zA (HNd2i.out w8 p1);have HB8:=zA hb8;clear hb8 p1 a0 a1 a2 a3 a4;go_wp2_with fail
        refine HA2w.out.mono ?_;rintro e w9 ⟨rfl,hb9⟩;have HB9:Hid (Below wr.heap.size wr w9):=HB8.out.trans (hb9.mono HB8.out.size);clear hb9;go_wp2_with fail
        go_meet
        exact⟨rfl,HB9⟩
       ·go_wp2_with fail
        refine HNd1w.out.mono ?_;rintro e w8 ⟨rfl,hb8⟩;have HB8:=zA hb8;clear hb8;go_wp2_with fail
        go_meet
        exact⟨rfl,HB8⟩
      case rest =>
       obtain⟨rfl,HB8⟩:=hcut;generalize hwB:wc=w8 at *;clear hwB a0 a1 a2 a3 a4 HNd1w HNd2i;generalize (q1 || q2)=qq at *;cases qq
       ·have HHe:Hid (mP x.1 y.1 (c+1)=mP x.1 y.1 c):=by
         unfold Hid;funext r;by_cases hr:r=c
         ·subst hr;rw[HHi.out.1];unfold mP;rw[tu (by omega)];rfl
         ·exact HHi.out.2 r hr
        obtain⟨⟨p1,-⟩,a0,a1,a2,a3,a4⟩:=HYc.out w8 HB8.out;have HAH1w:=zA (HAH1i.out w8 p1);clear p1
        go_upto_region 20 with fail
        go_cut [114] from 107 to 114 (fun v wx=>v=.bool (q3 || q4)/\Hid (Below wr.heap.size wr wx))
        case first =>
         cases q3
         ·go_wp2_with fail
          refine HAH1w.out.mono ?_;rintro e w9 ⟨rfl,hb9⟩;have HB9:Hid (Below wr.heap.size wr w9):=HB8.out.trans (hb9.mono HB8.out.size);obtain⟨⟨p1,p2,p3,p4,p5,p6⟩,-⟩:=HYc.out w9 HB9.out;have HA2w:=zA (HAH2i.out w9 p1);clear hb9 p1 a0 a1 a2 a3 a4;go_wp2_with fail
          refine HA2w.out.mono ?_;rintro e w10 ⟨rfl,hb10⟩;have HB10:Hid (Below wr.heap.size wr w10):=HB9.out.trans (hb10.mono HB9.out.size);clear hb10;go_wp2_with fail
          go_meet
          exact⟨rfl,HB10⟩
         ·go_wp2_with fail
          refine HAH1w.out.mono ?_;rintro e w9 ⟨rfl,hb9⟩;have HB9:Hid (Below wr.heap.size wr w9):=HB8.out.trans (hb9.mono HB8.out.size);clear hb9;go_wp2_with fail
          go_meet
          exact⟨rfl,HB9⟩
        case rest =>
         obtain⟨rfl,HB9⟩:=hcut;generalize hwB:wc=w9 at *;clear hwB a0 a1 a2 a3 a4 HAH1w HAH1i HAH2i HYc HB8;have HN9:=zA (HN.out.below HB9.out);clear HN HB9;generalize (q3 || q4)=qh at *;cases qh
         ·have HE1:Hid (uK x.1 y.1 (c+1)=uK x.1 y.1 c):=by have:=HS2i.out;unfold Hid;simpa using this
          go_wp2_with fail
          go_roundw
          case rel=>exact⟨c+1,sv,by omega,by go_num,by rw[HE1.out,HHe.out];exact HN9⟩
          case measure=>simp[intOf];omega
         ·have HE1:Hid (T1++uK x.1 y.1 (c+1)=(T1++uK x.1 y.1 c)++[⟨false,c⟩]):=by have:=HS2i.out;unfold Hid;rw[this];simp
          have hTT:(T1++uK x.1 y.1 c).length<=20000:=by rw[tm];omega
          obtain⟨-,-,⟨d10,d11,d12,d13⟩,dF⟩:=HCx.out _ _ _ _ _ _ _ _ _ _ _ HN9.out;have hs9:=HN9.out.ns.sz;have m3:w.heap.size+1+1+1<w9.heap.size:=by omega
          have m3':w9.heap.size≠w.heap.size+1+1+1:=by omega
          have HTg:=zA (fun (ob:Obj) (wy:World) (v':Value) (zLM:wy.ownsRow (w.heap.size+4) 216 2 v' ((T1++uK x.1 y.1 c).length+1) (YT (T1++uK x.1 y.1 c)++[.bool false,.int .i64 (c:Nat)])) (hg:(w9.alloc ob).grownBy wy sv.ownBlock)=>(HN9.out.below (fw (j1 _) ob)).tog ⟨false,c⟩ zLM hg);obtain⟨sa,sc,rfl⟩:=zP HN9.out.sws;have HOs:=zA HN9.out.sws;generalize hTe:T1++uK x.1 y.1 c=TT at *;clear hTe
          go_wp2_with (at_builtin;refine wpList_append_own _ rfl _ _ 165 rfl (w.heap.size+4) 216 i0 _ 2 16 Tryz.underlying165 hi0 hz0 hz1 hz2 rfl (by decide) _ _ _ rfl (HOs.out.alloc _) ⟨w9.heap.size,0,none⟩ 1 1 [.bool false,.int .i64 (c:Nat)] rfl rfl ?c1k1 ?c1k2 ?c1k3 ?c1k4 ?c1k5 ?_)
          try (case c1k1=>first|exact zN _ _ _ _ rfl|exact fun _ _ h=>h)
          try (case c1k2=>first|exact⟨rfl,rfl⟩|(intro u hu;simp at hu;rcases hu with rfl|rfl <;> rfl)|simp[Value.oneCell'])
          try (case c1k3=>unfold maxLen;omega)
          try (case c1k4=>omega)
          try (case c1k5=>first|omega|(simp;omega))
          intro v12 w12 hown12 hgrow12 _;have HN12:=zA (HTg.out _ w12 v12 hown12 hgrow12)
          have e11:w12.cell? ⟨w.heap.size+1+1+1,11,none⟩=some (.slice sa TT.length sc):=by
           have hb:=hgrow12.block (w.heap.size+1+1+1) (by simp;omega) (fun e=>by have:=(zZ HOs.out _ e.symm).1;omega);rw[bm (w:=w9.alloc _) (a:=⟨w.heap.size+1+1+1,11,none⟩) hb,bm (w:=w9) (a:=⟨w.heap.size+1+1+1,11,none⟩) (l8 _ _ _ m3)];exact d11
          have f11:w12.frozen? ⟨w.heap.size+1+1+1,11,none⟩=false:=by
           have hb:=hgrow12.block (w.heap.size+1+1+1) (by simp;omega) (fun e=>by have:=(zZ HOs.out _ e.symm).1;omega);rw[dm (w:=w9.alloc _) (a:=⟨w.heap.size+1+1+1,11,none⟩) hb,dm (w:=w9) (a:=⟨w.heap.size+1+1+1,11,none⟩) (l8 _ _ _ m3)];exact dF 11
          obtain⟨va,vc,rfl⟩:=zP hown12;clear hown12 hgrow12 d10 d11 d12 d13 dF;go_wp2_with fail
          go_roundw
          case rel=>exact⟨c+1,_,by omega,by go_num,by rw[HE1.out,HHe.out];exact HN12⟩
          case measure=>simp[intOf];omega
       ·have HE1:Hid (uK x.1 y.1 (c+1)=uK x.1 y.1 c):=by have:=HS2i.out;unfold Hid;simpa using this
        have HN8:=zA (HN.out.below HB8.out);obtain⟨-,-,⟨-,-,-,d13⟩,-⟩:=HCx.out _ _ _ _ _ _ _ _ _ _ _ HN8.out;have ch:w8.cell? ⟨gh,c,none⟩=some (.bool (mP x.1 y.1 c c)):=HN8.out.ns.rH.cell zLL;have fh:w8.frozen? ⟨gh,c,none⟩=false:=HN8.out.ns.rH.free c
        have HN9:Hid (Ys w (w8.setCell ⟨gh,c,none⟩ (.bool true)) x y I.length H gi gh (tF I x.1 y.1) nv sv L (T1++uK x.1 y.1 (c+1)) (mO I I.length) (mP x.1 y.1 (c+1))):=by
         unfold Hid;rw[HE1.out];exact HN8.out.setH zLL _ HHi.out.1 (fun r _ hr=>HHi.out.2 r hr)
        generalize mP x.1 y.1 c c=old at *;go_wp2_with fail
        go_roundw
        case rel=>exact⟨c+1,sv,by omega,by go_num,HN9⟩
        case measure=>simp[intOf];omega
     ·obtain rfl:c=H:=by omega
      have jj:¬(c:Int)<(c:Int):=by omega
      obtain⟨na,nc,rfl⟩:=zP HN.out.nums;obtain⟨sa,sc,rfl⟩:=zP HN.out.sws;have HAl:=zA (HOne.out (.slice na L.length nc) (.slice sa (T1++uK x.1 y.1 c).length sc) (.slice (some ⟨gi,0,none⟩) I.length I.length) (.slice (some ⟨gh,0,none⟩) c c) rfl rfl rfl rfl);have HRes:=zA HN.out.ns.res;have HHd:=zA HN.out.ns.hd;have HFn:=zA (HPo.out _ gi gh _ _ L (HN.out.done (Bj x y (.slice na L.length nc) (.slice sa (T1++uK x.1 y.1 c).length sc) (.slice (some ⟨gi,0,none⟩) I.length I.length) (.slice (some ⟨gh,0,none⟩) c c))) HP.out);have HIf:=zA (qm x y (.slice na L.length nc) (.slice sa (T1++uK x.1 y.1 c).length sc) (.slice (some ⟨gi,0,none⟩) I.length I.length) (.slice (some ⟨gh,0,none⟩) c c));have HSz:Hid ((Bj x y (.slice na L.length nc) (.slice sa (T1++uK x.1 y.1 c).length sc) (.slice (some ⟨gi,0,none⟩) I.length I.length) (.slice (some ⟨gh,0,none⟩) c c)).size=15):=rfl;generalize Bj x y (.slice na L.length nc) (.slice sa (T1++uK x.1 y.1 c).length sc) (.slice (some ⟨gi,0,none⟩) I.length I.length) (.slice (some ⟨gh,0,none⟩) c c)=SR at *;clear HN
      go_wp2_with (first
       | (refine wpList_load_row ?zLS 170 (.tmp 7) ?ho (w.heap.size+1+1+1) ?hx 170 SR (0,0) _ HHd.out Tryz.underlying170 rfl HIf.out ?_
          case ho=>rfl
          case zLS=>rfl
          case hx=>rfl)
       | (refine wpList_store_row ?zLS 170 (.tmp 6) (.tmp 123) ?ho (w.heap.size+1+1) SR ?hx ?hy 170 Dd HRes.out HIf.out ?zLU HAl.out ?_
          case ho=>rfl
          case zLS=>rfl
          case hx=>rfl
          case hy=>rfl
          case zLU=>rw[HSz.out];rfl))
      refine pd (v:=.agg SR) (results_cell_row Tryz.results66 _ _ (w.heap.size+1+1) 170 SR (0,0) _ rfl (cf _ _ Dd _ _ _ HRes.out) Tryz.underlying170 rfl HIf.out) rfl HFn.out
def iO:NE:=⟨0,none,0⟩
def zCT(I:List zO)(H:Nat)(e l:xK):Prop:=∃y,ZZ I H y/\kB e y=true/\kB l y=true
structure sJ(I:List zO):Prop where
 num:∀i,i<I.length->vB I i=true->0<=(kR I i).low/\(kR I i).low<=(kR I i).high/\(kR I i).high<=9999
 flag:∀i,i<I.length->vB I i=false->(kR I i).low=0
 few:I.length<=100
def dK(w:World)(b:Nat)(I:List zO)(H:Nat)(x y:MX)(L:List NE)(na:Option Addr)(gn nc:Nat)(sa:Option Addr)(sc gi gh:Nat):SK :=
 ⟨w.heap.size,b,x,y,L.length,fun p=>(L.getD p iO).place,fun p=>tF I x.1 y.1 (L.getD p iO).place,fun p=>(L.getD p iO).za,fun p=>(L.getD p iO).zc,na,gn,nc,uW I x.1 y.1 I.length++uK x.1 y.1 H,sa,sc,gi,gh,I.length,H⟩
def ql(I:List zO)(H:Nat)(x y:MX):vV:=⟨fun _=>(0,0),fun _=>0,mO I I.length,mP x.1 y.1 H⟩
theorem YY{t:jI}(h:t∈uW I e l I.length++uK e l H):(t.flag=true/\t.place<I.length/\qQ e l t.place=true/\vB I t.place=false)\/(t.flag=false/\t.place<H/\uH e l t.place=false/\(vR e t.place || vR l t.place)=true):=by
 rcases pt.1 h with h|h
 ·obtain⟨i,hi,rfl⟩:=p7.1 h
  have:=mh.1 hi;simp only[pm,pe,Bool.not_eq_true']at this;exact .inl ⟨rfl,this.1,this.2.1,this.2.2⟩
 ·obtain⟨i,hi,rfl⟩:=p7.1 h
  have:=mh.1 hi;simp only[pm,pe,Bool.not_eq_true']at this;exact .inr ⟨rfl,this.1,this.2.1,this.2.2⟩
theorem Dp{i:Nat}(h1:i<I.length)(h2:qQ e l i=true)(h3:vB I i=false):(⟨true,i⟩:jI)∈uW I e l I.length++uK e l H :=
 pt.2 (.inl (p7.2 ⟨i,mh.2 ⟨by simpa using h1,by simp[h2,h3]⟩,rfl⟩))
theorem zI9{c:Nat}(h1:c<H)(h2:uH e l c=false)(h3:(vR e c || vR l c)=true):(⟨false,c⟩:jI)∈uW I e l I.length++uK e l H :=
 pt.2 (.inr (p7.2 ⟨c,mh.2 ⟨by simpa using h1,by rw[h2,h3];rfl⟩,rfl⟩))
theorem jB(h:L.map NE.place=xU I e l)(hp:p<L.length):(L.getD p iO).place=(xU I e l).getD p 0:=by
 rw[<-h];simp[List.getD,hp]
theorem V5{q:Nat}(hp:p<(xU I e l).length)(hq:q<(xU I e l).length)(h:(xU I e l).getD p 0=(xU I e l).getD q 0):p=q:=by
 have hnd:(xU I e l).Nodup:=List.Pairwise.filter _ List.nodup_range;rw[p8,p8,pb hp,pb hq]at h;exact(List.getElem_inj hnd).1 h
theorem zKN{b:Nat}(hL:L.map NE.place=xU I x.1 y.1)(hI:sJ I)(fH:H<=10000)(hzf:∀i,(tF I x.1 y.1 i).length<=100000)(l1:w.heap.size<=b)(l2:w.heap.size<=gi)(l3:w.heap.size<=gh)(l4:0<L.length->w.heap.size<=gn):Qs (dK w b I H x y L na gn nc sa sc gi gh):=by
 have hl:L.length=(xU I x.1 y.1).length:=by rw[<-hL,pw]
 have hlen:(xU I x.1 y.1).length<=I.length:=Xr I x.1 y.1 I.length;have h1:=QT I x.1 y.1 I.length;have h2:=QS x.1 y.1 H;have hf:=hI.few
 have hm:∀p,p<L.length->(L.getD p iO).place<I.length/\qQ x.1 y.1 (L.getD p iO).place=true/\vB I (L.getD p iO).place=true:=fun p hp=>by
  rw[jB hL hp];exact pY.1 (nJ (by omega))
 refine⟨l1,l2,l3,l4,by show L.length<=100;omega,by show I.length<=10000;omega,fH,by show (_++_:List jI).length<=20000;rw[tm];omega,fun p _=>hzf _,fun p hp=>(hm p hp).1,fun p q hp hq e=>?_,fun p hp t ht h=>?_,fun t ht hf=>?_,fun t ht hf=>?_⟩
 ·have e':(xU I x.1 y.1).getD p 0=(xU I x.1 y.1).getD q 0:=by rw[<-jB hL hp,<-jB hL hq];exact e
  exact V5 (hl ▸ hp) (hl ▸ hq) e'
 ·rcases YY ht with ⟨_,_,_,h9⟩|⟨h9,_⟩
  ·rw[h.2]at h9;have:=(hm p hp).2.2;rw[show (dK w b I H x y L na gn nc sa sc gi gh).P p=(L.getD p iO).place from rfl,this]at h9;cases h9
  ·rw[h.1]at h9;cases h9
 ·rcases YY ht with ⟨_,h9,_⟩|⟨h9,_⟩
  ·exact h9
  ·rw[hf]at h9;cases h9
 ·rcases YY ht with ⟨h9,_⟩|⟨_,h9,_⟩
  ·rw[hf]at h9;cases h9
  ·exact h9
theorem zAD(l:List Bool)(c:Nat):kY l (c:Int)=(decide (c<l.length)&&l.getD c false):=by
 unfold kY;rw[tr (show (0:Int)<=(c:Int) by omega),my];by_cases h:c<l.length
 ·rw[tr h,tr (show (c:Int)<(l.length:Int) by omega)];rfl
 ·rw[tu h,tu (show ¬(c:Int)<(l.length:Int) by omega)];rfl
theorem zE3{b:Nat}(hL:L.map NE.place=xU I x.1 y.1)(hI:sJ I)(hpe:iJ x.1 I.length (vB I))(hpl:iJ y.1 I.length (vB I))(hneH:∀c,uH x.1 y.1 c=true->c<H)(haH:∀c,(vR x.1 c || vR y.1 c)=true->c<H)
 (h:sF (uX (dK w b I H x y L na gn nc sa sc gi gh)) L.length (fun p=>(L.getD p iO).place) (fun p=>tF I x.1 y.1 (L.getD p iO).place) (uW I x.1 y.1 I.length++uK x.1 y.1 H) 0 (ql I H x y) s' false):¬zCT I H x.1 y.1:=by
 rintro⟨v,hv,h1,h2⟩;have hl:L.length=(xU I x.1 y.1).length:=by rw[<-hL,pw]
 obtain⟨Z,hZl,hZ,rk,hrl,hrr,o,ho,ht⟩:=Vk hpe hpl (fun i hi hn=>⟨(hI.num i hi hn).1,(hI.num i hi hn).2.2⟩) hv h1 h2
 obtain⟨F,hF⟩:∃F:Nat->Int,(∀p,p<L.length->F (L.getD p iO).place=o.getD (rk.getD p 0) 0)/\∀i,(∀p,p<L.length->(L.getD p iO).place≠i)->F i=if qQ x.1 y.1 i=true/\vB I i=false/\i<I.length then v.inputs.getD i 0 else mO I I.length i:=by
  refine⟨fun i=>if hq:∃p,p<L.length/\(L.getD p iO).place=i then o.getD (rk.getD (Classical.choose hq) 0) 0 else if qQ x.1 y.1 i=true/\vB I i=false/\i<I.length then v.inputs.getD i 0 else mO I I.length i,fun p hp=>?_,fun i hi=>?_⟩
  ·have hq:∃q,q<L.length/\(L.getD q iO).place=(L.getD p iO).place:=⟨p,hp,rfl⟩
   simp only[hq,dite_true];have hc:=Classical.choose_spec hq;have e':(xU I x.1 y.1).getD (Classical.choose hq) 0=(xU I x.1 y.1).getD p 0:=by rw[<-jB hL hc.1,<-jB hL hp];exact hc.2
   rw[V5 (hl ▸ hc.1) (hl ▸ hp) e']
  ·have hq:¬ ∃p,p<L.length/\(L.getD p iO).place=i:=fun ⟨p,hp,e⟩=>hi p hp e
   simp only[hq,dite_false]
 obtain⟨t,htd⟩:∃t:vV,t=⟨fun _=>(0,0),fun _=>0,F,fun c=>uH x.1 y.1 c || ((vR x.1 c || vR y.1 c)&&kY v.has (c:Int))⟩:=⟨_,rfl⟩;have hoff:∀i,Gz (uW I x.1 y.1 I.length++uK x.1 y.1 H) i->¬(qQ x.1 y.1 i=true/\vB I i=false/\i<I.length):=fun i hi hh=>hi _ (Dp hh.2.2 hh.1 hh.2.1) ⟨rfl,rfl⟩
 have hrest:pS L.length (fun p=>(L.getD p iO).place) (uW I x.1 y.1 I.length++uK x.1 y.1 H) (ql I H x y) t:=by
  rw[htd];refine⟨fun i hp hi=>?_,fun c hc=>?_⟩
  ·show F i=mO I I.length i
   rw[hF.2 i hp,tb (hoff i hi)]
  ·show (uH x.1 y.1 c || ((vR x.1 c || vR y.1 c)&&kY v.has (c:Int)))=mP x.1 y.1 H c
   unfold mP;cases hn:uH x.1 y.1 c
   ·cases ha:(vR x.1 c || vR y.1 c)
    ·simp
    ·exact absurd ⟨rfl,rfl⟩ (hc _ (zI9 (haH c ha) hn ha))
   ·rw[tr (hneH c hn)];simp
 have hno:=h.no rfl (fun p=>Z.getD p (0,0)) (fun p hp=>absurd hp (by omega)) (fun p hp=>by rw[jB hL hp];exact hZ p (by omega)) (fun p=>rk.getD p 0) (fun p hp=>by
  have hp2:p<rk.length:=by omega
  have:=hrr (rk.getD p 0) (by simp[List.getD,hp2])
  omega) o (by
  have e:mS L.length (fun p=>Z.getD p (0,0)) (fun p=>rk.getD p 0)=fS Z rk:=by unfold mS fS;rw[hZl,hl]
  rw[e];exact ho) t hrest (fun p hp=>by rw[htd];exact hF.1 p hp) (fun q hq hqf=>by
  rcases YY hq with ⟨_,g1,g2,g3⟩|⟨g1,_⟩
  ·have hpn:∀p,p<L.length->(L.getD p iO).place≠q.place:=fun p hp e=>by
    rw[jB hL hp]at e;have:=(pY.1 (nJ (I:=I) (e:=x.1) (l:=y.1) (p:=p) (by omega))).2.2;rw[e,g3]at this;cases this
   rw[htd];show F q.place=0\/F q.place=1;rw[hF.2 _ hpn,tl ⟨g2,g3,g1⟩];exact hv.flag _ g1 g3
  ·rw[hqf]at g1;cases g1)
 have htry:zHL I x.1 y.1 rk o v (eE (dK w b I H x y L na gn nc sa sc gi gh) t):=by
  have zLT:∀i,i<I.length->(eE (dK w b I H x y L na gn nc sa sc gi gh) t).inputs.getD i 0=t.inp i:=fun i hi=>by simp[eE,dK,List.getD,hi]
  have hhas:∀c:Nat,kY (eE (dK w b I H x y L na gn nc sa sc gi gh) t).has (c:Int)=(decide (c<H)&&t.has c):=fun c=>by
   rw[zAD];by_cases hc:c<H
   ·simp[eE,dK,List.getD,hc]
   ·simp[eE,dK,hc]
  refine⟨by simp[eE,dK],fun p hp=>?_,fun i hi ha hn=>?_,fun c hc=>?_,fun c hc ha=>?_⟩
  ·have hm:=pY.1 (nJ hp)
   rw[zLT _ hm.1,htd,<-jB hL (show p<L.length by omega)];exact hF.1 p (by omega)
  ·have hpn:∀p,p<L.length->(L.getD p iO).place≠i:=fun p hp e=>by
    rw[jB hL hp]at e;have:=(pY.1 (nJ (I:=I) (e:=x.1) (l:=y.1) (p:=p) (by omega))).2.2;rw[e,hn]at this;cases this
   rw[zLT i hi,htd];show F i=_;rw[hF.2 i hpn,tl ⟨ha,hn,hi⟩]
  ·rw[hhas,tr (hneH c hc),htd]
   show (true&&(uH x.1 y.1 c || _))=true;rw[hc];rfl
  ·rw[hhas,tr (haH c ha),htd]
   show (true&&(uH x.1 y.1 c || ((vR x.1 c || vR y.1 c)&&kY v.has (c:Int))))=_;rw[hc,ha];simp
 have:=ht _ htry;unfold uX at hno;rw[show (dK w b I H x y L na gn nc sa sc gi gh).e.1=x.1 from rfl,show (dK w b I H x y L na gn nc sa sc gi gh).l.1=y.1 from rfl,this.1,this.2]at hno;cases hno
theorem qv{b:Nat}(hL:L.map NE.place=xU I x.1 y.1)(hI:sJ I)
 (h:sF (uX (dK w b I H x y L na gn nc sa sc gi gh)) L.length (fun p=>(L.getD p iO).place) (fun p=>tF I x.1 y.1 (L.getD p iO).place) (uW I x.1 y.1 I.length++uK x.1 y.1 H) 0 (ql I H x y) s' true):ZZ I H (eE (dK w b I H x y L na gn nc sa sc gi gh) s')/\kB x.1 (eE (dK w b I H x y L na gn nc sa sc gi gh) s')=true/\kB y.1 (eE (dK w b I H x y L na gn nc sa sc gi gh) s')=true:=by
 have hl:L.length=(xU I x.1 y.1).length:=by rw[<-hL,pw]
 obtain⟨hb,hbit,Z,rk,o,hZ,hrk,ho,hn⟩:=h.yes rfl;have zLT:∀i,i<I.length->(eE (dK w b I H x y L na gn nc sa sc gi gh) s').inputs.getD i 0=s'.inp i:=fun i hi=>by simp[eE,dK,List.getD,hi]
 have hlow:∀i,i<I.length->(∀p,p<L.length->(L.getD p iO).place≠i)->¬(qQ x.1 y.1 i=true/\vB I i=false)->s'.inp i=(kR I i).low:=fun i hi hp hna=>by
  rw[h.rest.inp i hp (fun t ht hh=>by
   rcases YY ht with ⟨_,g1,g2,g3⟩|⟨g1,_⟩
   ·exact hna ⟨hh.2 ▸ g2,hh.2 ▸ g3⟩
   ·rw[hh.1]at g1;cases g1)]
  show mO I I.length i=_;unfold mO;rw[tl hi]
 refine⟨⟨by simp[eE,dK],by simp[eE,dK],fun i hi hnum=>?_,fun i hi hfl=>?_⟩,?_⟩
 ·rw[zLT i hi]
  have hr:=hI.num i hi hnum;by_cases ha:qQ x.1 y.1 i=true
  ·obtain⟨p,hp,e⟩:=Y7 hi ha hnum
   have hp2:p<L.length:=by omega
   have e2:=jB hL hp2;rw[e]at e2
   have hs:=Xf (L:=mS L.length Z rk) (fun z hz=>by
    obtain⟨q,hq,rfl⟩:=p7.1 hz;rw[sK];exact hrk q (by simpa using hq)) ho ⟨(Z p).1,(Z p).2,rk p⟩ (p7.2 ⟨p,by simpa using hp2,rfl⟩)
   have hnp:=hn p hp2;simp only at hnp hs;rw[e2]at hnp;rw[hnp];have hzo:=(YJ (kR I i).low (kR I i).high (xO x.1 i) (xO y.1 i)).sub (Z p) (by have:=hZ p hp2;rw[e2]at this;exact this);omega
  ·rw[hlow i hi (fun p hp e=>ha (by
    have:=(pY.1 (nJ (I:=I) (e:=x.1) (l:=y.1) (p:=p) (by omega))).2.1;rw[jB hL hp]at e;rw[e]at this;exact this)) (fun hh=>ha hh.1)]
   omega
 ·rw[zLT i hi]
  by_cases ha:qQ x.1 y.1 i=true
  ·exact hbit _ (Dp hi ha hfl) rfl
  ·rw[hlow i hi (fun p hp e=>ha (by
    have:=(pY.1 (nJ (I:=I) (e:=x.1) (l:=y.1) (p:=p) (by omega))).2.1;rw[jB hL hp]at e;rw[e]at this;exact this)) (fun hh=>ha hh.1)]
   exact .inl (hI.flag i hi hfl)
 ·unfold uX at hb
  rw[pe]at hb;exact hb
def zKD:MX:=(⟨[],0,[],[],0⟩,.slice none 0 0,.slice none 0 0)
def jC(rs:List MX)(i:Nat):MX:=rs.getD i zKD
structure KG(w:World)(b o:Nat)(I:List zO)(C:List (Bs × Nat))(rs:List MX)(G:List Bool):Prop where
 inp:∃a c,w.cell? ⟨b,o,none⟩=some (.slice a I.length c)/\xA w 204 a (I.flatMap uL)
 con:∃a c,w.cell? ⟨b,o+1,none⟩=some (.slice a C.length c)/\xA w 208 a (ZA C)
 rul:∃a c,w.cell? ⟨b,o+2,none⟩=some (.slice a rs.length c)/\xA w 162 a (rs.flatMap jV)
 rows:∀x∈rs,uN w x
 gr:zGM w b (o+3) G
 few1:I.length<=100
 few2:C.length<=10000
 few3:rs.length<=10000
theorem KG.below{b o:Nat}{C:List (Bs × Nat)}(h:KG w b o I C rs G)(hb:Below w.heap.size w w'):KG w' b o I C rs G:=by
 obtain⟨a1,c1,p1,q1⟩:=h.inp;obtain⟨a2,c2,p2,q2⟩:=h.con;obtain⟨a3,c3,p3,q3⟩:=h.rul;exact⟨⟨a1,c1,(hb.cell (p:=⟨b,o,none⟩) (yR p1)).trans p1,q1.below hb⟩,⟨a2,c2,(hb.cell (p:=⟨b,o+1,none⟩) (yR p2)).trans p2,q2.below hb⟩,⟨a3,c3,(hb.cell (p:=⟨b,o+2,none⟩) (yR p3)).trans p3,q3.below hb⟩,fun x hx=>(h.rows x hx).below hb,h.gr.below hb,h.few1,h.few2,h.few3⟩
theorem wH{a:Option Addr}(h:jR w a (rs.flatMap jV)){i:Nat}(hi:i<rs.length):∃g,a=some ⟨g,0,none⟩/\w.cell? ⟨g,i*5,none⟩=some (.string ⟨(jC rs i).1.label.toArray⟩)/\w.cell? ⟨g,i*5+1,none⟩=some (.int .i64 (jC rs i).1.conc)/\w.cell? ⟨g,i*5+2,none⟩=some (jC rs i).2.1/\w.cell? ⟨g,i*5+3,none⟩=some (jC rs i).2.2/\w.cell? ⟨g,i*5+4,none⟩=some (.int .i64 (jC rs i).1.root):=by
 obtain⟨g,e,c0⟩:=h.at ((zQ jV 5 (fun _=>rfl) zKD rs i 0 hi (by decide)).trans rfl);obtain⟨g1,e1,c1⟩:=h.at ((zQ jV 5 (fun _=>rfl) zKD rs i 1 hi (by decide)).trans rfl);obtain⟨g2,e2,c2⟩:=h.at ((zQ jV 5 (fun _=>rfl) zKD rs i 2 hi (by decide)).trans rfl);obtain⟨g3,e3,c3⟩:=h.at ((zQ jV 5 (fun _=>rfl) zKD rs i 3 hi (by decide)).trans rfl);obtain⟨g4,e4,c4⟩:=h.at ((zQ jV 5 (fun _=>rfl) zKD rs i 4 hi (by decide)).trans rfl);obtain rfl:g=g1:=by rw[e]at e1;simpa using e1
 obtain rfl:g=g2:=by rw[e]at e2;simpa using e2
 obtain rfl:g=g3:=by rw[e]at e3;simpa using e3
 obtain rfl:g=g4:=by rw[e]at e4;simpa using e4
 exact⟨g,e,c0,c1,c2,c3,c4⟩
theorem sV{i:Nat}(h:i<rs.length):jC rs i∈rs:=by simp[jC,List.getD,h]
def Vr(rs:List MX)(G:List Bool)(i j:Nat):Bool:=decide ((jC rs i).1.conc=(jC rs j).1.conc)&&(!nU G (i:Int) (j:Int) && !nU G (j:Int) (i:Int))
theorem U7(w:World)(b o:Nat)(I:List zO)(C:List (Bs × Nat))(rs:List MX)(G:List Bool)(i j:Nat)(h:KG w b o I C rs G)(hi:i<rs.length)(hj:j<rs.length) :
 Calls Tryz.prog 65 #[.pointer (some ⟨b,o,none⟩),.int .i64 (i:Nat),.int .i64 (j:Nat)] w fun e w'=>e=.returned (.bool (Vr rs G i j))/\Below w.heap.size w w':=by
 obtain⟨a,c,h2,hr⟩:=h.rul;obtain⟨g,rfl,-,ci,-,-,-⟩:=wH hr.cel hi;obtain⟨g',e',-,cj,-,-,-⟩:=wH hr.cel hj;obtain rfl:g=g':=by simpa using e'
 have hf:=h.few3;have ii:(i:Int)<(rs.length:Int):=by omega
 have jj:(j:Int)<(rs.length:Int):=by omega
 have HR:Hid (Vr rs G i j=(decide ((jC rs i).1.conc=(jC rs j).1.conc)&&(!nU G (i:Int) (j:Int) && !nU G (j:Int) (i:Int)))):=rfl;have HS1:=zA (fun w' (hb:Below w.heap.size w w')=>fN w' b o G (i:Int) (j:Int) (h.gr.below hb));have HS2:=zA (fun w' (hb:Below w.heap.size w w')=>fN w' b o G (j:Int) (i:Int) (h.gr.below hb));clear h hr e';generalize Vr rs G i j=ans at *;generalize nU G (i:Int) (j:Int)=s1 at *;generalize nU G (j:Int) (i:Int)=s2 at *;generalize (jC rs i).1.conc=k1 at *;generalize (jC rs j).1.conc=k2 at *
 go_enter Tryz.func65,Tryz.ntmps65
 by_cases hk:k1=k2
 ·have HR2:Hid (ans=(!s1 && !s2)):=by have:=HR.out;rw[tr hk,my]at this;exact this
  subst hk;go_wp2_with fail
  go_quiet (fail)
  have HBq:Hid (Below w.heap.size w (w.drewN nq)):=xH (tg _ _) nq;generalize w.drewN nq=wq at *;have HS1w:=zA (HS1.out wq HBq.out);have HS2w:=zA (HS2.out wq HBq.out);clear HS1 HS2 HR;cases s1
  ·have HR3:Hid (ans = !s2):=by have:=HR2.out;simpa[Hid] using this
   go_wp2_with fail
   refine HS1w.out.mono ?_;rintro e w' ⟨rfl,hw⟩;obtain rfl:=hw.symm;go_wp2_with fail
   refine HS2w.out.mono ?_;rintro e w' ⟨rfl,hw⟩;obtain rfl:=hw.symm;go_wp2_with fail
   go_ret
   exact⟨zF HR3.out.symm,HBq.out⟩
  ·have HR3:Hid (ans=false):=by have:=HR2.out;simpa[Hid] using this
   go_wp2_with fail
   refine HS1w.out.mono ?_;rintro e w' ⟨rfl,hw⟩;obtain rfl:=hw.symm;go_wp2_with fail
   go_ret
   exact⟨zF HR3.out.symm,HBq.out⟩
 ·have HR2:Hid (ans=false):=by have:=HR.out;rw[tu hk,bw]at this;exact this
  have b1:(k1==k2)=false:=by simpa using hk
  have b2:(k1 != k2)=true:=by simp only[bne,b1];rfl
  clear hk;go_wp2_with fail
  go_quiet (fail)
  go_wp2_with fail
  go_ret
  exact⟨zF HR2.out.symm,xH (tg _ _) _⟩
def F0(I:List zO)(H:Nat)(rs:List MX)(G:List Bool)(i j:Nat):Prop:=i<j/\j<rs.length/\Vr rs G i j=true/\zCT I H (jC rs i).1 (jC rs j).1
structure Qt(I:List zO)(H:Nat)(r:xK):Prop where
 pl:iJ r I.length (vB I)
 nd:∀c,mC r c=true->c<H
 ah:∀c,vR r c=true->c<H
 bd:∀i z,z∈xO r i -> -1000000<=z/\z<=1000000
theorem Dc(I:List zO)(x y:xK)(h1:x.guard.length<=10000)(h2:y.guard.length<=10000)(i:Nat):(tF I x y i).length<=100000:=by
 unfold tF gX;have a1:=cI (Kw (kR I i).low (kR I i).high) (xO x i) (xO x i).length (j1 _);rw[ce]at a1;have a2:=cI a1.1 (xO y i) (xO y i).length (j1 _);rw[ce]at a2;have:=a1.2;have:=a2.2;have:=nX x i;have:=nX y i;simp only[p9,List.length_nil]at *;omega
def zHE(I:List zO)(H:Nat)(e l:xK)(t:vV):Bool:=kB e ⟨(List.range I.length).map t.inp,(List.range H).map t.has,[]⟩&&kB l ⟨(List.range I.length).map t.inp,(List.range H).map t.has,[]⟩
def zCR(I:List zO)(H:Nat)(e l:xK)(f:Nat->Int)(g:Nat->Bool):Prop:=∃s',sF (zHE I H e l) (xU I e l).length (fun p=>(xU I e l).getD p 0) (fun p=>tF I e l ((xU I e l).getD p 0)) (uW I e l I.length++uK e l H) 0 ⟨fun _=>(0,0),fun _=>0,mO I I.length,mP e l H⟩ s' true/\f=s'.inp/\g=s'.has
structure Fr(I:List zO)(H:Nat)(e l:xK)(f:Nat->Int)(g:Nat->Bool):Prop where
 room:ZZ I H ⟨(List.range I.length).map f,(List.range H).map g,[]⟩
 found:zCR I H e l f g
def Qr(I:List zO)(H:Nat)(x y:MX)(B b gi gh:Nat)(w w':World)(e:Ending):Prop:=∃r,e=.returned (.bool r)/\Below B w w'/\(r=false->¬zCT I H x.1 y.1)/\(r=true->∃(f:Nat->Int) (g:Nat->Bool),(w'.cell? ⟨b,12,none⟩=some (.slice (some ⟨gi,0,none⟩) I.length I.length)/\w'.cell? ⟨b,13,none⟩=some (.slice (some ⟨gh,0,none⟩) H H)/\w'.cell? ⟨b,14,none⟩=some (.slice none 0 0))/\uA w' gi 3 I.length (fun i=>.int .i64 (f i))/\uA w' gh 4 H (fun c=>.bool (g c))/\Fr I H x.1 y.1 f g/\kB x.1 ⟨(List.range I.length).map f,(List.range H).map g,[]⟩=true/\kB y.1 ⟨(List.range I.length).map f,(List.range H).map g,[]⟩=true)
theorem zIR(F:Nat->List (Int × Int))(L:List NE)(p:Nat)(hp:p<L.length)(r:Nat)(hr:r<5):(eR F L)[p*5+r]? = (zH2 F (L.getD p iO))[r]? := zQ (zH2 F) 5 (fun _=>rfl) iO L p r hp hr
theorem zIF(w wr:World)(b:Nat)(I:List zO)(H:Nat)(x y:MX)(gi gh:Nat)(nv sv:Value)(L:List NE)(hN:zK5 w wr I.length H gi gh (tF I x.1 y.1) nv sv L (uW I x.1 y.1 I.length++uK x.1 y.1 H) (mO I I.length) (mP x.1 y.1 H))(hL:L.map NE.place=xU I x.1 y.1)(hb:wr.heap[b]? = some (.cells (Bj x y nv sv (.slice (some ⟨gi,0,none⟩) I.length I.length) (.slice (some ⟨gh,0,none⟩) H H)) 170 (0,0)))(hlb:w.heap.size<=b)(hI:sJ I)(fH:H<=10000)(hx:uN w x)(hy:uN w y)(ox:Qt I H x.1)(oy:Qt I H y.1) :
 Calls Tryz.prog 67 #[.pointer (some ⟨b,0,none⟩),.int .i64 0] wr fun e w'=>Qr I H x y w.heap.size b gi gh wr w' e:=by
 obtain⟨na,nc,rfl⟩:=zP hN.nums;obtain⟨sa,sc,rfl,hsw⟩:=vN hN.sws;have hzf:=Dc I x.1 y.1 hx.few2 hy.few2
 obtain⟨gn,hgn1,hgn2⟩:∃gn,(0<L.length->na=some ⟨gn,0,none⟩/\uA wr gn 223 (5*L.length) (fun j=>(eR (tF I x.1 y.1) L).getD j (.slice none 0 0)))/\(0<L.length->w.heap.size<=gn):=by
  rcases hN.nums.2 with ⟨_,k2⟩|⟨g,cap,yL,k1,k2,k3,k4,k5,k6,k7⟩
  ·exact⟨0,fun h=>absurd h (by omega),fun h=>absurd h (by omega)⟩
  ·simp only[df]at k1
   refine⟨g,fun _=>⟨k1.1,yL,k3,fun j hj=>?_⟩,fun _=>by omega⟩;have hl:(eR (tF I x.1 y.1) L).length=L.length*5:=hN.nums.1;have hj2:j<(eR (tF I x.1 y.1) L).length:=by omega
   have:=xP k3 (n:=L.length*5) k7 (pb hj2);rw[zB k3 j]at this;rw[this];simp[List.getD,hj2]
 have ok:=zKN (b:=b) (na:=na) (gn:=gn) (nc:=nc) (sa:=sa) (sc:=sc) (gi:=gi) (gh:=gh) hL hI fH hzf hlb hN.loi hN.loh hgn2
 have hM:kZ wr (dK w b I H x y L na gn nc sa sc gi gh) (ql I H x y):=by
  refine⟨hb,fun h0=>⟨(hgn1 h0).1,?_⟩,hN.rI,hN.rH,hsw,fun p hp=>?_,hx.below hN.bel,hy.below hN.bel⟩
  ·obtain⟨cs,q1,q2⟩:=(hgn1 h0).2
   refine⟨cs,q1,fun j hj=>?_⟩;rw[q2 j hj];have hj5:j/5<L.length:=by have:j<5*L.length:=hj;omega
   have hr:j%5<5:=Nat.mod_lt _ (by decide);have hat:=zIR (tF I x.1 y.1) L (j/5) hj5 (j%5) hr;rw[show j/5*5+j%5=j by omega]at hat;show some ((eR (tF I x.1 y.1) L).getD j (.slice none 0 0))=_;rw[p8,hat];unfold aH dK ql;rcases(show j%5=0\/j%5=1\/j%5=2\/j%5=3\/j%5=4 by omega) with h|h|h|h|h <;> rw[h] <;> simp[zH2]
  ·have hm:L.getD p iO∈L:=by simp[List.getD,show p<L.length from hp]
   exact hN.zn _ hm
 refine(QK _ ok L.length 0 wr _ (by show 0+L.length=L.length;omega) (fun p hp=>absurd hp (by omega)) hM).mono ?_;rintro e w' ⟨r,s',rfl,h1,h2,h3⟩;refine⟨r,rfl,h2,fun hr=>?_,fun hr=>?_⟩
 ·subst hr
  refine zE3 hL hI ox.pl oy.pl (fun c hc=>?_) (fun c hc=>?_) h3
  ·unfold uH at hc;rcases(bg _ _).mp hc with h|h
   ·exact ox.nd c h
   ·exact oy.nd c h
  ·rcases(bg _ _).mp hc with h|h
   ·exact ox.ah c h
   ·exact oy.ah c h
 ·subst hr
  obtain⟨k1,k2,k3⟩:=qv hL hI h3
  have eP:(fun p=>(L.getD p iO).place)=fun p=>(xU I x.1 y.1).getD p 0:=funext fun p=>by
   rw[<-hL];by_cases hp:p<L.length
   ·simp[List.getD,hp]
   ·simp[List.getD,hp,iO]
  have hfd:zCR I H x.1 y.1 s'.inp s'.has:=by
   have q:sF (zHE I H x.1 y.1) L.length (fun p=>(L.getD p iO).place) (fun p=>tF I x.1 y.1 ((fun p=>(L.getD p iO).place) p)) (uW I x.1 y.1 I.length++uK x.1 y.1 H) 0 ⟨fun _=>(0,0),fun _=>0,mO I I.length,mP x.1 y.1 H⟩ s' true:=h3;rw[eP,show L.length=(xU I x.1 y.1).length by rw[<-hL,pw]]at q;exact⟨s',q,rfl,rfl⟩
  exact⟨s'.inp,s'.has,⟨h1.cells 12,h1.cells 13,h1.cells 14⟩,h1.rI,h1.rH,⟨k1,hfd⟩,k2,k3⟩
theorem zK5.below{n:Nat}{inp:Nat->Int}(k:zK5 w wr n h gi gh F nv sv L T inp has)(hb:Below wr.heap.size wr wy):zK5 w wy n h gi gh F nv sv L T inp has :=
 ⟨k.bel.trans (hb.mono k.bel.size),wD k.nums hb,fun q hq=>(k.zn q hq).below hb,wD k.sws hb,k.rI.below hb,k.rH.below hb,k.loi,k.loh⟩
theorem qw(w w2:World)(I:List zO)(H:Nat)(x y:MX)(e:Ending)(hp:KF I H x y w w2 e)(hI:sJ I)(fH:H<=10000)(hx:uN w x)(hy:uN w y)(ox:Qt I H x.1)(oy:Qt I H y.1):∃SR gi gh,e=.returned (.agg SR)/\SR.size=15/\(Tryz.prog.info? 170).map (·.size)=some SR.size/\SR.all (·.oneCell')=true/\Below w.heap.size w w2/\∀(b:Nat) (wr:World),Below w2.heap.size w2 wr->w2.heap.size<=b->wr.heap[b]? = some (.cells SR 170 (0,0))->Calls Tryz.prog 67 #[.pointer (some ⟨b,0,none⟩),.int .i64 0] wr fun e w'=>Qr I H x y w.heap.size b gi gh wr w' e:=by
 obtain⟨gi,gh,nv,sv,L,rfl,hN,hL⟩:=hp;have hb:=hN.bel;obtain⟨a1,c1,e1,-⟩:=hx.sum;obtain⟨a2,c2,e2,-⟩:=hx.guard;obtain⟨a3,c3,e3,-⟩:=hy.sum;obtain⟨a4,c4,e4,-⟩:=hy.guard;obtain⟨na,nc,e5⟩:=zP hN.nums;obtain⟨sa,sc,e6⟩:=zP hN.sws;refine⟨_,gi,gh,rfl,rfl,qm _ _ _ _ _ _,Ds (by rw[e1];rfl) (by rw[e2];rfl) (by rw[e3];rfl) (by rw[e4];rfl) (by rw[e5];rfl) (by rw[e6];rfl) rfl rfl,hb,fun b wr h1 h2 h3=>zIF w wr b I H x y gi gh nv sv L (hN.below h1) hL h3 (by have:=hb.size;omega) hI fH hx hy ox oy⟩
theorem zEJ(h:xX ls){x:zE}(hx:x∈ls)(hk:x.kind=3):∀y∈x.nd,xS ls y=true:=by
 obtain⟨i,hi,rfl⟩:=fK hx;have he:=h.err i hi;unfold jQ at he;rw[tb (by omega),tb (by omega),tl hk]at he;unfold pJ at he
 have hb:(vQ (ls.take i) 3 (lA ls i).name || ((lA ls i).sum.any (fun x => !uP ls x) || (lA ls i).nd.any (fun x => !xS ls x)))=false:=by
  cases hc:(vQ (ls.take i) 3 (lA ls i).name || ((lA ls i).sum.any (fun x => !uP ls x) || (lA ls i).nd.any (fun x => !xS ls x))) with
  | false=>rfl
  | true=>rw[hc,tl rfl]at he;exact absurd he (by decide)
 rw[bh,bh]at hb;intro y hy;have:=List.any_eq_false.1 hb.2.2 y hy;simpa using this
theorem zEN{y:zR}(h:xS ls y=true)(k:y.kind=6):vQ ls 2 y.name=true:=by unfold xS at h;rwa [tb (by omega),tl k]at h
theorem jf{y:zR}(h:xS ls y=true)(k:y.kind=7):vQ ls 1 y.name=true/\(y.other≠[]->vQ ls 1 y.other=true):=by
 unfold xS at h;rw[tb (by omega),tb (by omega),tl k,pe,bg,po]at h;exact⟨h.2,fun ho=>h.1.resolve_left ho⟩
theorem Ks(h:xX ls){nm:Bs}{k:Int}(hk:k=1\/k=2)(hh:vQ ls k nm=true):∃i:Nat,zH (xR ls) nm=i/\i<(zV ls).length/\vB (zV ls) i=decide (k=1):=by
 obtain⟨z,z1,z2,z3⟩:=zKT hh;have hz:z∈vm ls:=zKX z1 (by omega);have hm:nm∈xR ls:=by rw[XJ];exact p7.2 ⟨z,hz,z3⟩
 have h0:=(gM _ _).2 hm;have h1:=kX (xR ls) nm;obtain⟨i,hi⟩:∃i:Nat,zH (xR ls) nm=i:=⟨(zH (xR ls) nm).toNat,by omega⟩;have zLL:i<(zV ls).length:=by rw[<-zIQ];omega
 have hat:=((J2 nm (xR ls) (XF h) 0 i).1 (by rw[cr];exact hi)).2;obtain⟨x,x1,-,x3,x4⟩:=XH zLL;have e:x=z:=zJ9 h x1 hz (by rw[<-x4,hat,z3]);refine⟨i,hi,zLL,?_⟩;unfold vB;rw[x3,e,eS (Kq hz),z2]
theorem zIS{N:List zR}(hg:dI N){y:zR}(hy:y∈N)(hk:y.kind=7):0<=y.num/\y.num<=9999:=by
 obtain⟨a,ha,rfl⟩:=cw hy;have e:pP N a=N[a]:=by unfold pP;simp[List.getD,ha]
 have:=(hg a ha).2.2.2 (by rw[e];omega) (by rw[e];omega) (by rw[e];omega);rw[e]at this;exact this.2
theorem zII(h:xX ls){x:zE}(hx:x∈ls)(hk:x.kind=3)(hg:gQ x):Qt (zV ls) (zJ ls).length (qI (xR ls) (zJ ls) x):=by
 have hN:=zEJ h hx hk;have mem:∀y∈(qI (xR ls) (zJ ls) x).guard,∃z∈x.nd,mD (xR ls) (zJ ls) z=y:=fun y hy=>p7.1 hy;refine⟨⟨fun y hy hyk=>?_,fun y hy hyk=>?_,fun y hy hyk ht=>?_⟩,fun c hc=>?_,fun c hc=>?_,fun i z hz=>?_⟩
 ·obtain⟨z,hz,rfl⟩:=mem y hy
  have hzk:z.kind=6:=hyk;obtain⟨i,h1,h2,h3⟩:=Ks h (.inr rfl) (zEN (hN z hz) hzk);refine⟨i,h2,?_,h3⟩;show UP (xR ls) (zJ ls) z=_;unfold UP;rw[tb (by omega),tl (.inl hzk),h1]
 ·obtain⟨z,hz,rfl⟩:=mem y hy
  have hzk:z.kind=7:=hyk;obtain⟨i,h1,h2,h3⟩:=Ks h (.inl rfl) (jf (hN z hz) hzk).1;refine⟨i,h2,?_,h3⟩;show UP (xR ls) (zJ ls) z=_;unfold UP;rw[tb (by omega),tl (.inr hzk),h1]
 ·obtain⟨z,hz,rfl⟩:=mem y hy
  have hzk:z.kind=7:=hyk;have ho:z.other≠[]:=cb ht;obtain⟨i,h1,h2,h3⟩:=Ks h (.inl rfl) ((jf (hN z hz) hzk).2 ho);refine⟨i,h2,?_,h3⟩;show zH3 (xR ls) z=_;unfold zH3;rw[tb ho,h1]
 ·obtain⟨p,hp,e⟩:=ma.1 hc
  rw[pe,po,po]at e;obtain⟨q,hq,rfl⟩:=p7.1 hp;have e1:Ke (xR ls) q=3:=e.1;have e2:vh (xR ls) (zJ ls) q=(c:Int):=e.2;unfold Ke at e1;unfold vh at e2;by_cases hq0:q.name=[]
  ·rw[tl hq0]at e1;exact absurd e1 (by decide)
  ·rw[tb hq0]at e1 e2
   by_cases hq1:zH (xR ls) q.name<0
   ·rw[tl hq1]at e2
    have:=kX (zJ ls) q.name;omega
   ·rw[tb hq1]at e1;exact absurd e1 (by decide)
 ·obtain⟨y,hy,e⟩:=ma.1 hc
  rw[pe,po,po]at e;obtain⟨z,hz,rfl⟩:=mem y hy;have e1:z.kind=5:=e.1;have e2:UP (xR ls) (zJ ls) z=(c:Int):=e.2;unfold UP at e2;rw[tl e1]at e2;have:=kX (zJ ls) z.name;omega
 ·obtain⟨y,hy,rfl⟩:=p7.1 hz
  obtain⟨h1,h2⟩:=mh.1 hy;rw[pe,po]at h2;obtain⟨v,hv,rfl⟩:=mem y h1;have:=zIS hg.nodes hv h2.1;show -1000000<=v.num/\v.num<=1000000;omega
theorem zF8(h:xX ls)(hg:∀x∈ls,gQ x):sJ (zV ls):=by
 refine⟨fun i hi hn=>?_,fun i hi hn=>?_,by have:=VV h;omega⟩
 ·obtain⟨x,x1,x2,x3,-⟩:=XH hi
  have hk:x.kind=1:=by unfold vB at hn;rw[x3,eS (Kq x1)]at hn;exact cb hn
  have hp:=hg x x2;have:=jz h x2 hk;have e1:=hp.lo0;have e2:=hp.hi1;rw[x3];unfold jM;rw[tl hk];exact⟨e1,this,e2⟩
 ·obtain⟨x,x1,x2,x3,-⟩:=XH hi
  have hk:¬x.kind=1:=by unfold vB at hn;rw[x3,eS (Kq x1)]at hn;exact of_decide_eq_false hn
  rw[x3];unfold jM;rw[tb hk]
theorem zFD:(Tryz.prog.info? 95).map (fun i=>(i.zero,i.size,i.bytes))=some (some (.agg #[.string ⟨#[]⟩,.int .i64 0]),2,24):=by kernel_rfl
def pU(I:List zO)(f:Nat->Int)(i:Nat):List Value:=(List.range i).flatMap fun j=>[.string ⟨(kR I j).name.toArray⟩,.int .i64 (f j)]
def cJ(C:List (Bs × Nat))(g:Nat->Bool)(c:Nat):List Value:=(List.range c).flatMap fun j=>[.string ⟨(C.getD j ([],0)).1.toArray⟩,.int .i64 (if g j=true then 1 else 0)]
theorem Bq(I:List zO)(f:Nat->Int)(i:Nat):pU I f (i+1)=pU I f i++[.string ⟨(kR I i).name.toArray⟩,.int .i64 (f i)]:=by unfold pU;rw[lj,lq];simp
theorem Bt(C:List (Bs × Nat))(g:Nat->Bool)(c:Nat):cJ C g (c+1)=cJ C g c++[.string ⟨(C.getD c ([],0)).1.toArray⟩,.int .i64 (if g c=true then 1 else 0)]:=by unfold cJ;rw[lj,lq];simp
theorem jx{a:Option Addr}{C:List (Bs × Nat)}(h:jR w a (ZA C)){i:Nat}(hi:i<C.length):∃g,a=some ⟨g,0,none⟩/\w.cell? ⟨g,i*2,none⟩=some (.string ⟨(C.getD i ([],0)).1.toArray⟩)/\w.cell? ⟨g,i*2+1,none⟩=some (.int .i64 ((C.getD i ([],0)).2:Nat)):=by
 obtain⟨g,e,q1⟩:=h.at ((zQ (fun x:Bs × Nat=>[Value.string ⟨x.1.toArray⟩,.int .i64 (x.2:Nat)]) 2 (fun _=>rfl) ([],0) C i 0 hi (by decide)).trans rfl);obtain⟨g',e',q2⟩:=h.at ((zQ (fun x:Bs × Nat=>[Value.string ⟨x.1.toArray⟩,.int .i64 (x.2:Nat)]) 2 (fun _=>rfl) ([],0) C i 1 hi (by decide)).trans rfl);obtain rfl:g=g':=by rw[e]at e';simpa using e'
 exact⟨g,e,q1,q2⟩
theorem Vh(w:World)(b o:Nat)(I:List zO)(C:List (Bs × Nat))(rs:List MX)(G:List Bool)(gi gh:Nat)(f:Nat->Int)(gg:Nat->Bool)(h:KG w b o I C rs G)(hI:uA w gi 3 I.length (fun i=>.int .i64 (f i)))(hH:uA w gh 4 C.length (fun c=>.bool (gg c))) :
 Calls Tryz.prog 68 #[.pointer (some ⟨b,o,none⟩),.agg #[.slice (some ⟨gi,0,none⟩) I.length I.length,.slice (some ⟨gh,0,none⟩) C.length C.length,.slice none 0 0]] w fun e w'=>∃v,e=.returned v/\w'.ownsRow w.heap.size 95 2 v (I.length+C.length) (pU I f I.length++cJ C gg C.length)/\Below w.heap.size w w':=by
 obtain⟨i0,hi0,hz0,hz1,hz2⟩:=info_parts zFD;obtain⟨ia,ic,c0,hia⟩:=h.inp;obtain⟨ca,cc,c1,hca⟩:=h.con;have fI:=h.few1;have fC:=h.few2;have zM9:=zA (fun w' (hb:Below w.heap.size w w') i (hi:i<I.length)=>Jq (hia.below hb).cel hi);have HCo:=zA (fun w' (hb:Below w.heap.size w w') i (hi:i<C.length)=>jx (hca.below hb).cel hi);have HMd:Hid (∀w',Below w.heap.size w w'->w'.cell? ⟨b,o,none⟩=some (.slice ia I.length ic)/\w'.cell? ⟨b,o+1,none⟩=some (.slice ca C.length cc)):=fun w' hb=>⟨(hb.cell (p:=⟨b,o,none⟩) (yR c0)).trans c0,(hb.cell (p:=⟨b,o+1,none⟩) (yR c1)).trans c1⟩;have HRI:Hid (∀w',Below w.heap.size w w'->∀i,i<I.length->w'.cell? ⟨gi,i,none⟩=some (.int .i64 (f i))):=fun w' hb i hi=>(hI.below hb).cell hi;have HRH:Hid (∀w',Below w.heap.size w w'->∀i,i<C.length->w'.cell? ⟨gh,i,none⟩=some (.bool (gg i))):=fun w' hb i hi=>(hH.below hb).cell hi;have lb:=yR c0;clear h hia hca hI hH c0 c1
 go_enter Tryz.func68,Tryz.ntmps68
 go_upto_region 2 with fail
 have HB0:Hid (Below w.heap.size w ((w.alloc (.cells #[.slice (some ⟨gi,0,none⟩) I.length I.length,.slice (some ⟨gh,0,none⟩) C.length C.length,.slice none 0 0] 168)).alloc (.cells #[] 95))):=(fw (j1 _) _).alloc (by simp) _;have HX0:Hid (((w.alloc (.cells #[.slice (some ⟨gi,0,none⟩) I.length I.length,.slice (some ⟨gh,0,none⟩) C.length C.length,.slice none 0 0] 168)).alloc (.cells #[] 95)).heap[w.heap.size]? = some (.cells #[.slice (some ⟨gi,0,none⟩) I.length I.length,.slice (some ⟨gh,0,none⟩) C.length C.length,.slice none 0 0] 168 (0,0))):=zT (zG _ _);have HO0:Hid (((w.alloc (.cells #[.slice (some ⟨gi,0,none⟩) I.length I.length,.slice (some ⟨gh,0,none⟩) C.length C.length,.slice none 0 0] 168)).alloc (.cells #[] 95)).ownsRow (w.heap.size+1) 95 2 (.slice (some ⟨w.heap.size+1,0,none⟩) 0 0) 0 (pU I f 0)):=⟨rfl,.inr ⟨w.heap.size+1,0,#[],rfl,j1 _,yT _ _ _ (by simp),j1 _,tx _,rfl,rfl⟩⟩;have hs0:w.heap.size+1<=((w.alloc (.cells #[.slice (some ⟨gi,0,none⟩) I.length I.length,.slice (some ⟨gh,0,none⟩) C.length C.length,.slice none 0 0] 168)).alloc (.cells #[] 95)).heap.size:=by simp
 generalize (w.alloc (.cells #[.slice (some ⟨gi,0,none⟩) I.length I.length,.slice (some ⟨gh,0,none⟩) C.length C.length,.slice none 0 0] 168)).alloc (.cells #[] 95)=w0 at *;generalize Value.slice (some ⟨w.heap.size+1,0,none⟩) 0 0=v0 at *;have HG:Hid (∀wr,Below (w.heap.size+1) w0 wr->Below w.heap.size w wr/\wr.heap[w.heap.size]? = some (.cells #[.slice (some ⟨gi,0,none⟩) I.length I.length,.slice (some ⟨gh,0,none⟩) C.length C.length,.slice none 0 0] 168 (0,0))):=fun wr hb=>⟨HB0.out.trans (hb.mono (mw _)),(hb.block _ (mz _)).trans HX0.out⟩;obtain⟨d0,d1⟩:=HMd.out w0 HB0.out;clear HB0 HX0;go_wp2_with fail
 go_loopw [5,17] (fun ov iv wr=>∃(i:Nat),i<=I.length/\iv=.int .i64 i/\Hid (Below (w.heap.size+1) w0 wr)/\Hid (wr.ownsRow (w.heap.size+1) 95 2 ov i (pU I f i))) (fun _ iv _=>I.length-(intOf iv).toNat)
 case atStart=>exact⟨0,tx _,rfl,zA (tg _ _),HO0⟩
 case round =>
  obtain⟨i,hi,rfl,HB,HO⟩:=hrel;have zLV:=HB.out.size;obtain⟨hBw,hX⟩:=HG.out wr HB.out;by_cases zLL:i<I.length
  ·have ii:(i:Int)<(I.length:Int):=by omega
   obtain⟨g,rfl,n0,n1,n2,n3⟩:=zM9.out wr hBw i zLL;have ci:=HRI.out wr hBw i zLL;have x0:wr.cell? ⟨w.heap.size,0,none⟩=some (.slice (some ⟨gi,0,none⟩) I.length I.length):=zB hX 0;have lg:=yR n0;have lgi:=yR ci;have lx:=yR x0;have m1:wr.heap.size≠g:=by omega
   have m2:wr.heap.size≠gi:=by omega
   have m3:wr.heap.size≠w.heap.size:=by omega
   obtain⟨oa,oc,rfl⟩:=zP HO.out;have HVs:=zA (Bq I f i);have HO1:Hid (∀ob,(wr.alloc ob).ownsRow (w.heap.size+1) 95 2 (.slice oa i oc) i (pU I f i)):=fun ob=>HO.out.alloc ob;have HB1:Hid (∀ob,Below (w.heap.size+1) w0 (wr.alloc ob)):=fun ob=>HB.out.alloc (by omega) ob;clear hX hBw;generalize kR I i=xi at *;obtain⟨xn,xf,xl,xh⟩:=xi;simp only at n0 n1 n2 n3 HVs;generalize f i=fv at *
   go_upto_region 5 with fail
   have c5a:(wr.alloc (.cells #[.string ⟨xn.toArray⟩,.bool xf,.int .i64 xl,.int .i64 xh] 204)).cell? ⟨wr.heap.size,0,none⟩=some (.string ⟨xn.toArray⟩):=zB (zG _ _) 0;have c5b:(wr.alloc (.cells #[.string ⟨xn.toArray⟩,.bool xf,.int .i64 xl,.int .i64 xh] 204)).cell? ⟨w.heap.size,0,none⟩=some (.slice (some ⟨gi,0,none⟩) I.length I.length):=(((tg wr.heap.size wr).alloc (j1 _) _).cell (p:=⟨w.heap.size,0,none⟩) lx).trans x0;have c5c:(wr.alloc (.cells #[.string ⟨xn.toArray⟩,.bool xf,.int .i64 xl,.int .i64 xh] 204)).cell? ⟨gi,i,none⟩=some (.int .i64 fv):=(((tg wr.heap.size wr).alloc (j1 _) _).cell (p:=⟨gi,i,none⟩) lgi).trans ci;have HO5:=zA (HO1.out (.cells #[.string ⟨xn.toArray⟩,.bool xf,.int .i64 xl,.int .i64 xh] 204));have HB5:=zA (HB1.out (.cells #[.string ⟨xn.toArray⟩,.bool xf,.int .i64 xl,.int .i64 xh] 204));have hs5:w.heap.size+1<=(wr.alloc (.cells #[.string ⟨xn.toArray⟩,.bool xf,.int .i64 xl,.int .i64 xh] 204)).heap.size:=by simp;omega
   clear n0 n1 n2 n3 x0 ci HO1 HB1;generalize wr.alloc (.cells #[.string ⟨xn.toArray⟩,.bool xf,.int .i64 xl,.int .i64 xh] 204)=w5 at *;go_wp2_with fail
   go_region_law ((refine step_append_lies _ (by rfl) _ _ _ (by rfl) (w.heap.size+1) 95 i0 _ 2 24 Tryz.underlying71 hi0 hz0 hz1 hz2 rfl (by decide) (.slice oa i oc) i (pU I f i) (by rfl) (HO5.out.drew.alloc _) ⟨w5.heap.size,0,none⟩ 1 1 [.string ⟨xn.toArray⟩,.int .i64 fv] (by rfl) (by rfl) (zN _ _ _ _ rfl) (by simp[Value.oneCell']) (by decide) (by unfold maxLen;omega) (by omega) (by simp;omega) (w5.heap.size+1) (by simp) ?_;intro g2 cap w6 zLR zLN hat hlt5))
   all_goals
    have HB6:Hid (Below (w.heap.size+1) w0 w6):=(HB5.out.drew.alloc hs5 _).grown zLN (by show w.heap.size+1<=(w5.drew.alloc _).heap.size;simp;omega) (zS HO5.out);have HO6:Hid (w6.ownsRow (w.heap.size+1) 95 2 (.slice (some ⟨g2,0,none⟩) (i+1) cap) (i+1) (pU I f (i+1))):=by unfold Hid;rw[HVs.out];exact zLR
    clear zLN zLR hat hlt5;go_wp2_with fail
    go_roundw
    case rel=>exact⟨i+1,by omega,by go_num,HB6,HO6⟩
    case measure=>simp[intOf];omega
  ·obtain rfl:i=I.length:=by omega
   have ii:¬(I.length:Int)<(I.length:Int):=by omega
   obtain⟨k0,k1⟩:=HMd.out wr hBw
   have HO1:Hid (∀ov,wr.ownsRow (w.heap.size+1) 95 2 ov I.length (pU I f I.length)->wr.ownsRow (w.heap.size+1) 95 2 ov (I.length+0) (pU I f I.length++cJ C gg 0)):=fun ov h=>by
    have e:pU I f I.length++cJ C gg 0=pU I f I.length:=ms _;rw[e];exact h
   have HO2:=zA (HO1.out _ HO.out);clear HO1 HO hX hBw d0 d1;generalize hSI:pU I f I.length=SI at *;have HSI:=zA hSI;clear hSI;generalize hwr:wr=wq at *;clear hwr;go_wp2_with fail
   go_loopw [5,39] (fun ov iv wr=>∃(c:Nat),c<=C.length/\iv=.int .i64 c/\Hid (Below (w.heap.size+1) w0 wr)/\Hid (wr.ownsRow (w.heap.size+1) 95 2 ov (I.length+c) (SI++cJ C gg c))) (fun _ iv _=>C.length-(intOf iv).toNat)
   case atStart=>exact⟨0,tx _,rfl,HB,HO2⟩
   case round =>
    obtain⟨c,hc,rfl,HBc,HOc⟩:=hrel;have hszc:=HBc.out.size;obtain⟨hBw,hX⟩:=HG.out wr HBc.out;obtain⟨oa,oc,rfl⟩:=zP HOc.out;by_cases hltc:c<C.length
    ·have jj:(c:Int)<(C.length:Int):=by omega
     obtain⟨g,rfl,n0,n1⟩:=HCo.out wr hBw c hltc;have ch:=HRH.out wr hBw c hltc;have x1:wr.cell? ⟨w.heap.size,1,none⟩=some (.slice (some ⟨gh,0,none⟩) C.length C.length):=zB hX 1;have lg:=yR n0;have lgh:=yR ch;have lx:=yR x1;have m1:wr.heap.size≠g:=by omega
     have m2:wr.heap.size≠gh:=by omega
     have m3:wr.heap.size≠w.heap.size:=by omega
     have HVs:=zA (Bt C gg c);have HO1:Hid (∀ob,(wr.alloc ob).ownsRow (w.heap.size+1) 95 2 (.slice oa (I.length+c) oc) (I.length+c) (SI++cJ C gg c)):=fun ob=>HOc.out.alloc ob;have HB1:Hid (∀ob,Below (w.heap.size+1) w0 (wr.alloc ob)):=fun ob=>HBc.out.alloc (by omega) ob;clear hX hBw;generalize (C.getD c ([],0)).1=cn at *;generalize (C.getD c ([],0)).2=cl at *;generalize gg c=gv at *;cases gv
     ·rw[tb (by simp)]at HVs
      go_upto_region 13 with fail
      have c5a:(wr.alloc (.cells #[.string ⟨cn.toArray⟩,.int .i64 (cl:Nat)] 208)).cell? ⟨wr.heap.size,0,none⟩=some (.string ⟨cn.toArray⟩):=zB (zG _ _) 0;have HO5:=zA (HO1.out (.cells #[.string ⟨cn.toArray⟩,.int .i64 (cl:Nat)] 208));have HB5:=zA (HB1.out (.cells #[.string ⟨cn.toArray⟩,.int .i64 (cl:Nat)] 208));have hs5:w.heap.size+1<=(wr.alloc (.cells #[.string ⟨cn.toArray⟩,.int .i64 (cl:Nat)] 208)).heap.size:=by simp;omega
      clear n0 n1 x1 ch HO1 HB1;generalize wr.alloc (.cells #[.string ⟨cn.toArray⟩,.int .i64 (cl:Nat)] 208)=w5 at *
      go_wp2_with (at_builtin;refine wpList_append_own _ rfl _ _ 71 rfl (w.heap.size+1) 95 i0 _ 2 24 Tryz.underlying71 hi0 hz0 hz1 hz2 rfl (by decide) _ _ _ rfl (HO5.out.alloc _) ⟨w5.heap.size,0,none⟩ 1 1 [.string ⟨cn.toArray⟩,.int .i64 0] rfl rfl ?c1k1 ?c1k2 ?c1k3 ?c1k4 ?c1k5 ?_)
      try (case c1k1=>first|exact zN _ _ _ _ rfl|exact fun _ _ h=>h)
      try (case c1k2=>first|exact⟨rfl,rfl⟩|(intro u hu;simp at hu;rcases hu with rfl|rfl <;> rfl))
      try (case c1k3=>unfold maxLen;omega)
      try (case c1k4=>omega)
      try (case c1k5=>first|omega|(simp;omega))
      intro v6 w6 zLK zLJ _;have HB6:Hid (Below (w.heap.size+1) w0 w6):=(HB5.out.alloc hs5 _).grown zLJ (by simp;omega) (zS HO5.out);have HO6:Hid (w6.ownsRow (w.heap.size+1) 95 2 v6 (I.length+(c+1)) (SI++cJ C gg (c+1))):=by unfold Hid;rw[HVs.out,<-dg];first|exact zLK|(rw[<-pr];exact zLK)
      clear zLK zLJ;go_wp2_with fail
      go_roundw
      case rel=>exact⟨c+1,by omega,by go_num,HB6,HO6⟩
      case measure=>simp[intOf];omega
     ·rw[tl rfl]at HVs
      go_upto_region 13 with fail
      have c5a:(wr.alloc (.cells #[.string ⟨cn.toArray⟩,.int .i64 (cl:Nat)] 208)).cell? ⟨wr.heap.size,0,none⟩=some (.string ⟨cn.toArray⟩):=zB (zG _ _) 0;have HO5:=zA (HO1.out (.cells #[.string ⟨cn.toArray⟩,.int .i64 (cl:Nat)] 208));have HB5:=zA (HB1.out (.cells #[.string ⟨cn.toArray⟩,.int .i64 (cl:Nat)] 208));have hs5:w.heap.size+1<=(wr.alloc (.cells #[.string ⟨cn.toArray⟩,.int .i64 (cl:Nat)] 208)).heap.size:=by simp;omega
      clear n0 n1 x1 ch HO1 HB1;generalize wr.alloc (.cells #[.string ⟨cn.toArray⟩,.int .i64 (cl:Nat)] 208)=w5 at *
      go_wp2_with (at_builtin;refine wpList_append_own _ rfl _ _ 71 rfl (w.heap.size+1) 95 i0 _ 2 24 Tryz.underlying71 hi0 hz0 hz1 hz2 rfl (by decide) _ _ _ rfl (HO5.out.alloc _) ⟨w5.heap.size,0,none⟩ 1 1 [.string ⟨cn.toArray⟩,.int .i64 1] rfl rfl ?c2k1 ?c2k2 ?c2k3 ?c2k4 ?c2k5 ?_)
      try (case c2k1=>first|exact zN _ _ _ _ rfl|exact fun _ _ h=>h)
      try (case c2k2=>first|exact⟨rfl,rfl⟩|(intro u hu;simp at hu;rcases hu with rfl|rfl <;> rfl))
      try (case c2k3=>unfold maxLen;omega)
      try (case c2k4=>omega)
      try (case c2k5=>first|omega|(simp;omega))
      intro v6 w6 zLK zLJ _;have HB6:Hid (Below (w.heap.size+1) w0 w6):=(HB5.out.alloc hs5 _).grown zLJ (by simp;omega) (zS HO5.out);have HO6:Hid (w6.ownsRow (w.heap.size+1) 95 2 v6 (I.length+(c+1)) (SI++cJ C gg (c+1))):=by unfold Hid;rw[HVs.out,<-dg];first|exact zLK|(rw[<-pr];exact zLK)
      clear zLK zLJ;go_wp2_with fail
      go_roundw
      case rel=>exact⟨c+1,by omega,by go_num,HB6,HO6⟩
      case measure=>simp[intOf];omega
    ·obtain rfl:c=C.length:=by omega
     have jj:¬(C.length:Int)<(C.length:Int):=by omega
     have HFn:=zA (yS HOc.out (mw w.heap.size));have HBf:=zA hBw;clear HOc hX hBw;go_wp2_with fail
     go_ret
     exact⟨_,rfl,by rw[HSI.out];exact HFn.out,HBf.out⟩
def FQ(I:List zO)(H:Nat)(f:Nat->Int)(g:Nat->Bool):yZ:=⟨(List.range I.length).map f,(List.range H).map g,[]⟩
def Qx(I:List zO)(C:List (Bs × Nat))(rs:List MX)(G:List Bool)(w w':World)(e:Ending):Prop:=Below w.heap.size w w'/\((∃(i j:Nat) (f:Nat->Int) (g:Nat->Bool) (la:Option Addr) (sv:Value),zCS (F0 I C.length rs G) i j/\e=.returned (.agg #[.slice la 2 2,sv])/\jR w' la [.string ⟨(jC rs i).1.label.toArray⟩,.string ⟨(jC rs j).1.label.toArray⟩]/\(∃sa sc,sv=.slice sa (I.length+C.length) sc/\jR w' sa (pU I f I.length++cJ C g C.length))/\Fr I C.length (jC rs i).1 (jC rs j).1 f g/\kB (jC rs i).1 (FQ I C.length f g)=true/\kB (jC rs j).1 (FQ I C.length f g)=true)\/((∀i j,¬F0 I C.length rs G i j)/\e=.returned (.agg #[.slice none 0 0,.slice none 0 0])))
theorem Kp(a b:Value):(Tryz.prog.info? 132).map (·.size)=some (#[a,b]:Array Value).size:=by
 show _=some 2
 kernel_rfl
theorem JU{a b c d:Value}(h:w.heap[p]? = some (.cells #[a,b] t (0,0))):((w.setCell ⟨p,0,none⟩ c).setCell ⟨p,1,none⟩ d).heap[p]? = some (.cells #[c,d] t (0,0)):=by
 have q1:=tq w _ 0 _ _ c h;have q2:=tq _ _ 1 _ _ d q1;rw[q2];simp
theorem K0{a b c d:Value}{a':Option Addr}(h:w.heap[p]? = some (.cells #[a,b] t (0,0)))(hc:xA w t' a' xs)(zLO:t'≠t):xA ((w.setCell ⟨p,0,none⟩ c).setCell ⟨p,1,none⟩ d) t' a' xs:=(hc.set h zLO).set (tq w _ 0 _ _ c h) zLO
theorem DJ{x y:Value}(h:w.heap[g]? = some (.cells #[x,y] t (0,0))):xA w t (some ⟨g,0,none⟩) [x,y]:=.inr ⟨g,_,_,rfl,h,fun j hj=>match j,hj with
 | 0,_=>rfl
 | 1,_=>rfl
 | j+2,hj=>absurd hj (by simp)⟩
theorem zK8(w:World)(b o:Nat)(I:List zO)(C:List (Bs × Nat))(rs:List MX)(G:List Bool)(h:KG w b o I C rs G)(hI:sJ I)(hr:∀x∈rs,Qt I C.length x.1) :
 Calls Tryz.prog 51 #[.pointer (some ⟨b,o,none⟩)] w fun e w'=>Qx I C rs G w w' e:=by
 have hf:=h.few3;have hfC:=h.few2;have hfI:=h.few1;have HMd:=zA (fun w' (hb:Below w.heap.size w w')=>(h.below hb));have HRl:=zA (fun w' (hb:Below w.heap.size w w')=>(h.below hb).rul);have HRv:=zA (fun w' (hb:Below w.heap.size w w') (i j:Nat) (hi:i<rs.length) (hj:j<rs.length)=>U7 w' b o I C rs G i j (h.below hb) hi hj)
 have HNw:Hid (∀w' (_:Below w.heap.size w w') (i j:Nat) (_:i<rs.length) (_:j<rs.length),Calls Tryz.prog 66 #[.pointer (some ⟨b,o,none⟩),uF (jC rs i),uF (jC rs j)] w' fun e w2=>∃SR gi gh,e=.returned (.agg SR)/\SR.size=15/\(Tryz.prog.info? 170).map (·.size)=some SR.size/\SR.all (·.oneCell')=true/\Below w'.heap.size w' w2/\∀(b:Nat) (wr:World),Below w2.heap.size w2 wr->w2.heap.size<=b->wr.heap[b]? = some (.cells SR 170 (0,0))->Calls Tryz.prog 67 #[.pointer (some ⟨b,0,none⟩),.int .i64 0] wr fun e w3=>Qr I C.length (jC rs i) (jC rs j) w'.heap.size b gi gh wr w3 e):=fun w' hb i j hi hj=>by
  have hm:=h.below hb;obtain⟨a1,c1,p1,q1⟩:=hm.inp;obtain⟨a2,c2,p2,q2⟩:=hm.con;have hx:=hm.rows _ (sV hi);have hy:=hm.rows _ (sV hj);have ox:=hr _ (sV hi);have oy:=hr _ (sV hj);refine(V7 w' b o I C.length (jC rs i) (jC rs j) a1 a2 c1 c2 p1 p2 q1 hx hy (by omega) hfC (fun k z hz=>?_) (Dc I _ _ hx.few2 hy.few2)).mono ?_
  ·rcases List.mem_append.mp hz with h|h
   ·exact ox.bd k z h
   ·exact oy.bd k z h
  ·intro e w2 hp
   exact qw w' w2 I C.length (jC rs i) (jC rs j) e hp hI hfC hx hy ox oy
 have HSe:=zA (fun w' (hb:Below w.heap.size w w') (gi gh:Nat) (f:Nat->Int) (g:Nat->Bool) (h1:uA w' gi 3 I.length (fun i=>.int .i64 (f i))) (h2:uA w' gh 4 C.length (fun c=>.bool (g c)))=>Vh w' b o I C rs G gi gh f g (h.below hb) h1 h2)
 have HSl:Hid (∀i,i<rs.length->(∃a c,(jC rs i).2.1=.slice a (jC rs i).1.sum.length c)/\∃a c,(jC rs i).2.2=.slice a (jC rs i).1.guard.length c):=fun i hi=>by
  obtain⟨a,c,e,-⟩:=(h.rows _ (sV hi)).sum;obtain⟨a',c',e',-⟩:=(h.rows _ (sV hi)).guard;exact⟨⟨a,c,e⟩,a',c',e'⟩
 have HCl:Hid (∀i k,F0 I C.length rs G i k ↔ (i<k/\k<rs.length/\Vr rs G i k=true/\zCT I C.length (jC rs i).1 (jC rs k).1)):=fun _ _=>Iff.rfl;have HFp:Hid (∀w' e,Below w.heap.size w w'->((∃(i j:Nat) (f:Nat->Int) (g:Nat->Bool) (la:Option Addr) (sv:Value),zCS (F0 I C.length rs G) i j/\e=.returned (.agg #[.slice la 2 2,sv])/\jR w' la [.string ⟨(jC rs i).1.label.toArray⟩,.string ⟨(jC rs j).1.label.toArray⟩]/\(∃sa sc,sv=.slice sa (I.length+C.length) sc/\jR w' sa (pU I f I.length++cJ C g C.length))/\Fr I C.length (jC rs i).1 (jC rs j).1 f g/\kB (jC rs i).1 (FQ I C.length f g)=true/\kB (jC rs j).1 (FQ I C.length f g)=true)\/((∀i j,¬F0 I C.length rs G i j)/\e=.returned (.agg #[.slice none 0 0,.slice none 0 0])))->Qx I C rs G w w' e):=fun w' e h1 h2=>⟨h1,h2⟩;clear h hI hr HMd;generalize F0 I C.length rs G=R at *;generalize Qx I C rs G w=Q at *
 go_enter Tryz.func51,Tryz.ntmps51
 obtain⟨ra,rc,d2,-⟩:=HRl.out w (tg _ _);have lb:=yR d2;have m0:w.heap.size≠b:=by omega
 have HB0:Hid (Below w.heap.size w (w.alloc (.cells #[.slice none 0 0,.slice none 0 0] 132))):=fw (j1 _) _;have HX0:Hid ((w.alloc (.cells #[.slice none 0 0,.slice none 0 0] 132)).heap[w.heap.size]? = some (.cells #[.slice none 0 0,.slice none 0 0] 132 (0,0))):=zG _ _;have hs0:(w.alloc (.cells #[.slice none 0 0,.slice none 0 0] 132)).heap.size=w.heap.size+1:=by simp
 go_wp2_with fail
 generalize w.alloc (.cells #[.slice none 0 0,.slice none 0 0] 132)=w0 at *;have HG:Hid (∀wr,Below (w.heap.size+1) w0 wr->Below w.heap.size w wr/\wr.heap[w.heap.size]? = some (.cells #[.slice none 0 0,.slice none 0 0] 132 (0,0))):=fun wr hb=>⟨HB0.out.trans (hb.mono (mw _)),(hb.block _ (mz _)).trans HX0.out⟩;clear HB0 HX0
 go_loopw [13] (fun iv wr=>∃(i:Nat),i<=rs.length/\iv=.int .i64 i/\Hid (Below (w.heap.size+1) w0 wr)/\Hid (∀i' k',R i' k'->i<=i')) (fun iv _=>rs.length-(intOf iv).toNat)
 case atStart=>exact⟨0,tx _,rfl,zA (tg _ _),zA fun _ _ _=>tx _⟩
 case round =>
  obtain⟨i,hi,rfl,HB,HM⟩:=hrel;have zLV:=HB.out.size;obtain⟨hBw,hX⟩:=HG.out wr HB.out;obtain⟨ra',rc',d2',zM3⟩:=HRl.out wr hBw
  obtain⟨e1,e2⟩:ra'=ra/\rc'=rc:=by
   have:=(hBw.cell (p:=⟨b,o+2,none⟩) lb).trans d2;rw[this]at d2';simp only[lk,df]at d2';exact⟨d2'.1.symm,d2'.2.2.symm⟩
  subst e1 e2;by_cases zLL:i<rs.length
  ·have ii:(i:Int)<(rs.length:Int):=by omega
   have HM1:Hid (∀i' k',R i' k'->i<i'\/(i=i'/\0<=k')):=fun i' k' h=>by
    have:=HM.out i' k' h;omega
   obtain⟨g,rfl,i0,i1,i2,i3,i4⟩:=wH zM3.cel zLL;obtain⟨⟨p1,p2,e1⟩,p3,p4,e2⟩:=HSl.out i zLL;rw[e1]at i2;rw[e2]at i3;have lg:=yR i0;have lbr:b<wr.heap.size:=by have:=hBw.size;omega
   have m1:wr.heap.size≠g:=by omega
   have m2:wr.heap.size≠b:=by omega
   have HEq:Hid (uF (jC rs i)=.agg #[.string ⟨(jC rs i).1.label.toArray⟩,.int .i64 (jC rs i).1.conc,.slice p1 (jC rs i).1.sum.length p2,.slice p3 (jC rs i).1.guard.length p4,.int .i64 (jC rs i).1.root]):=by
    show uF (jC rs i)=_;unfold uF;rw[e1,e2]
   have HLi:Hid (∃l,l=(jC rs i).1.label):=⟨_,rfl⟩;clear hX hBw zM3 e1 e2;generalize hxl:(jC rs i).1.label=xl at *;generalize (jC rs i).1.conc=xc at *;generalize (jC rs i).1.sum.length=xn at *;generalize (jC rs i).1.guard.length=xm at *;generalize (jC rs i).1.root=xr at *;have HBe:=zA (HB.out.alloc (show w.heap.size+1<=wr.heap.size by omega) (.cells #[.string ⟨xl.toArray⟩,.int .i64 xc,.slice p1 xn p2,.slice p3 xm p4,.int .i64 xr] 162));have HXe:Hid ((wr.alloc (.cells #[.string ⟨xl.toArray⟩,.int .i64 xc,.slice p1 xn p2,.slice p3 xm p4,.int .i64 xr] 162)).heap[wr.heap.size]? = some (.cells #[.string ⟨xl.toArray⟩,.int .i64 xc,.slice p1 xn p2,.slice p3 xm p4,.int .i64 xr] 162 (0,0))):=zG _ _;have hse:(wr.alloc (.cells #[.string ⟨xl.toArray⟩,.int .i64 xc,.slice p1 xn p2,.slice p3 xm p4,.int .i64 xr] 162)).heap.size=wr.heap.size+1:=by simp
   go_wp2_with fail
   generalize wr.alloc (.cells #[.string ⟨xl.toArray⟩,.int .i64 xc,.slice p1 xn p2,.slice p3 xm p4,.int .i64 xr] 162)=wE at *;clear i0 i1 i2 i3 i4 d2' m1 m2;have hsw:w.heap.size+1<=wr.heap.size:=by omega
   generalize wr.heap.size=eb at *;have HGe:Hid (∀wx,Below (eb+1) wE wx->Below (w.heap.size+1) w0 wx/\wx.heap[eb]? = some (.cells #[.string ⟨xl.toArray⟩,.int .i64 xc,.slice p1 xn p2,.slice p3 xm p4,.int .i64 xr] 162 (0,0))):=fun wx hb=>⟨HBe.out.trans (hb.mono (by omega)),(hb.block _ (mz _)).trans HXe.out⟩;clear HBe HXe
   go_loopw [23] (fun kv wy=>∃(k:Nat),k<=rs.length/\kv=.int .i64 k/\Hid (Below (eb+1) wE wy)/\Hid (∀i' k',R i' k'->i<i'\/(i=i'/\k<=k'))) (fun kv _=>rs.length-(intOf kv).toNat)
   case atStart=>exact⟨0,tx _,rfl,zA (tg _ _),HM1⟩
   case round =>
    obtain⟨k,hk,rfl,HBy,HMk⟩:=hrel;have hszy:=HBy.out.size;by_cases hltk:k<rs.length
    ·have kk:(k:Int)<(rs.length:Int):=by omega
     obtain⟨hB0,hE⟩:=HGe.out wr HBy.out;obtain⟨hBw,hX⟩:=HG.out wr hB0;obtain⟨ra2,rc2,d3,zM3⟩:=HRl.out wr hBw
     obtain⟨e1,e2⟩:ra2=some ⟨g,0,none⟩/\rc2=rc':=by
      have:=(hBw.cell (p:=⟨b,o+2,none⟩) lb).trans d2;rw[this]at d3;simp only[lk,df]at d3;exact⟨d3.1.symm,d3.2.2.symm⟩
     subst e1 e2;obtain⟨g',e',k0,k1,k2,k3,k4⟩:=wH zM3.cel hltk;obtain rfl:g=g':=by simpa using e'
     obtain⟨⟨q1,q2,e1⟩,q3,q4,e2⟩:=HSl.out k hltk;rw[e1]at k2;rw[e2]at k3;have lg2:=yR k0;have m1:wr.heap.size≠g:=by omega
     have HKq:Hid (uF (jC rs k)=.agg #[.string ⟨(jC rs k).1.label.toArray⟩,.int .i64 (jC rs k).1.conc,.slice q1 (jC rs k).1.sum.length q2,.slice q3 (jC rs k).1.guard.length q4,.int .i64 (jC rs k).1.root]):=by
      show uF (jC rs k)=_;unfold uF;rw[e1,e2]
     have HCk:=zA (HCl.out i k)
     have HNx:Hid (¬R i k->∀i' k',R i' k'->i<i'\/(i=i'/\k+1<=k')):=fun hn i' k' h=>by
      have h1:=HMk.out i' k' h;rcases h1 with h1|⟨h1,h2⟩
      ·exact .inl h1
      ·by_cases hkk:k=k'
       ·subst h1 hkk;exact absurd h hn
       ·exact .inr ⟨h1,by omega⟩
     have HYs:Hid (R i k->∀w' (la:Option Addr) (sv:Value) (f:Nat->Int) (gg:Nat->Bool),Below w.heap.size w w'->jR w' la [.string ⟨xl.toArray⟩,.string ⟨(jC rs k).1.label.toArray⟩]->(∃sa sc,sv=.slice sa (I.length+C.length) sc/\jR w' sa (pU I f I.length++cJ C gg C.length))->Fr I C.length (jC rs i).1 (jC rs k).1 f gg->kB (jC rs i).1 (FQ I C.length f gg)=true->kB (jC rs k).1 (FQ I C.length f gg)=true->Q w' (.returned (.agg #[.slice la 2 2,sv]))):=fun h w' la sv f gg hb h1 h2 h3 h4 h5=>HFp.out w' _ hb (.inl ⟨i,k,f,gg,la,sv,⟨h,HMk.out⟩,rfl,by rw[hxl];exact h1,h2,h3,h4,h5⟩);have HRk:=zA (fun w' hb=>HRv.out w' hb i k zLL hltk);have HNk:=zA (fun w' hb=>HNw.out w' hb i k zLL hltk);rw[HEq.out,HKq.out]at HNk;clear zM3 e' e1 e2 hE hX hB0 hBw HKq;generalize (jC rs k).1.label=yl at *;generalize (jC rs k).1.conc=yc at *;generalize (jC rs k).1.sum.length=yn at *;generalize (jC rs k).1.guard.length=ym at *;generalize (jC rs k).1.root=yr at *;generalize Vr rs G i k=rv at *;have HBl:=zA (HBy.out.alloc (show eb+1<=wr.heap.size by omega) (.cells #[.string ⟨yl.toArray⟩,.int .i64 yc,.slice q1 yn q2,.slice q3 ym q4,.int .i64 yr] 162));have HXl:Hid ((wr.alloc (.cells #[.string ⟨yl.toArray⟩,.int .i64 yc,.slice q1 yn q2,.slice q3 ym q4,.int .i64 yr] 162)).heap[wr.heap.size]? = some (.cells #[.string ⟨yl.toArray⟩,.int .i64 yc,.slice q1 yn q2,.slice q3 ym q4,.int .i64 yr] 162 (0,0))):=zG _ _;have hsl:(wr.alloc (.cells #[.string ⟨yl.toArray⟩,.int .i64 yc,.slice q1 yn q2,.slice q3 ym q4,.int .i64 yr] 162)).heap.size=wr.heap.size+1:=by simp
     go_upto_region 7 with fail
     generalize wr.alloc (.cells #[.string ⟨yl.toArray⟩,.int .i64 yc,.slice q1 yn q2,.slice q3 ym q4,.int .i64 yr] 162)=wL at *;clear k0 k1 k2 k3 k4 d3 m1;have hse2:eb+1<=wr.heap.size:=by omega
     generalize wr.heap.size=lb2 at *
     have HGl:Hid (∀wx,Below (lb2+1) wL wx->Below (eb+1) wE wx/\Below w.heap.size w wx/\wx.heap[w.heap.size]? = some (.cells #[.slice none 0 0,.slice none 0 0] 132 (0,0))/\wx.heap[eb]? = some (.cells #[.string ⟨xl.toArray⟩,.int .i64 xc,.slice p1 xn p2,.slice p3 xm p4,.int .i64 xr] 162 (0,0))/\wx.heap[lb2]? = some (.cells #[.string ⟨yl.toArray⟩,.int .i64 yc,.slice q1 yn q2,.slice q3 ym q4,.int .i64 yr] 162 (0,0))):=fun wx hb=>by
      have h1:=HBl.out.trans (hb.mono (by omega));obtain⟨h2,h3⟩:=HGe.out wx h1;obtain⟨h4,h5⟩:=HG.out wx h2;exact⟨h1,h4,h5,h3,(hb.block _ (mz _)).trans HXl.out⟩
     clear HBl HXl;have HB7:=zA (HGl.out wL (tg _ _)).1;by_cases hik:i<k
     ·have gg:¬(k:Int)<=(i:Int):=by omega
      have HRw:=zA (HRk.out wL (HGl.out wL (tg _ _)).2.1);go_wp2_with fail
      refine HRw.out.mono ?_;rintro e w2 ⟨rfl,hb2⟩;have HB2:Hid (Below (lb2+1) wL w2):=by rw[hsl]at hb2;exact hb2
      clear hb2 HRw;cases rv
      ·have HNn:=zA (HNx.out (fun h=>by have:=(HCk.out.1 h).2.2.1;cases this))
       have HBn:=zA (HGl.out w2 HB2.out).1;go_wp2_with fail
       go_roundw
       case rel=>exact⟨k+1,by omega,by go_num,HBn,HNn⟩
       case measure=>simp[intOf];omega
      ·obtain⟨-,hBw2,-,hE2,hL2⟩:=HGl.out w2 HB2.out
       have x0:w2.cell? ⟨eb,0,none⟩=some (.string ⟨xl.toArray⟩):=(zB hE2 0).trans rfl;have x1:w2.cell? ⟨eb,1,none⟩=some (.int .i64 xc):=(zB hE2 1).trans rfl;have x2:w2.cell? ⟨eb,2,none⟩=some (.slice p1 xn p2):=(zB hE2 2).trans rfl;have x3:w2.cell? ⟨eb,3,none⟩=some (.slice p3 xm p4):=(zB hE2 3).trans rfl;have x4:w2.cell? ⟨eb,4,none⟩=some (.int .i64 xr):=(zB hE2 4).trans rfl;have y0:w2.cell? ⟨lb2,0,none⟩=some (.string ⟨yl.toArray⟩):=(zB hL2 0).trans rfl;have y1:w2.cell? ⟨lb2,1,none⟩=some (.int .i64 yc):=(zB hL2 1).trans rfl;have y2:w2.cell? ⟨lb2,2,none⟩=some (.slice q1 yn q2):=(zB hL2 2).trans rfl;have y3:w2.cell? ⟨lb2,3,none⟩=some (.slice q3 ym q4):=(zB hL2 3).trans rfl;have y4:w2.cell? ⟨lb2,4,none⟩=some (.int .i64 yr):=(zB hL2 4).trans rfl;have HNz:=zA (HNk.out w2 hBw2);have hs2:lb2+1<=w2.heap.size:=by have:=HB2.out.size;omega
       clear hBw2 hE2 hL2 HNk HRk HNw HRv;go_wp2_with fail
       refine HNz.out.mono ?_;rintro e w3 ⟨SR,gi,gh,rfl,zLQ,hinf,hone,hb3,hsk⟩;have HIf:=zA hinf;have HSz:=zA zLQ;have HAl:=zA hone;have HB3:=zA hb3;have HSk:=zA hsk;have hs3:=hb3.size;clear hinf zLQ hone hb3 hsk HNz x0 x1 x2 x3 x4 y0 y1 y2 y3 y4;have HZr:Hid ((w3.alloc (.cells #[.string ⟨#[]⟩,.int .i64 0,.slice none 0 0,.slice none 0 0,.int .i64 0,.string ⟨#[]⟩,.int .i64 0,.slice none 0 0,.slice none 0 0,.int .i64 0,.slice none 0 0,.slice none 0 0,.slice none 0 0,.slice none 0 0,.slice none 0 0] 170)).heap[w3.heap.size]? = some (.cells Dd 170 (0,0))):=zG _ _;have HBs:Hid (Below w3.heap.size w3 ((w3.alloc (.cells Dd 170)).setRow w3.heap.size SR)):=xD (fw (j1 _) _) (j1 _) _;have HXs:Hid (((w3.alloc (.cells Dd 170)).setRow w3.heap.size SR).heap[w3.heap.size]? = some (.cells SR 170 (0,0))):=cf _ _ Dd _ _ _ (zG w3 _);unfold Dd at HBs HXs
       go_wp2_with (refine wpList_store_row ?zLS 170 (.tmp 7) (.tmp 41) ?ho w3.heap.size SR ?hx ?hy 170 Dd HZr.out HIf.out ?zLU HAl.out ?_
                    case ho=>rfl
                    case zLS=>rfl
                    case hx=>rfl
                    case hy=>rfl
                    case zLU=>rw[HSz.out];rfl)
       generalize (w3.alloc (.cells #[.string ⟨#[]⟩,.int .i64 0,.slice none 0 0,.slice none 0 0,.int .i64 0,.string ⟨#[]⟩,.int .i64 0,.slice none 0 0,.slice none 0 0,.int .i64 0,.slice none 0 0,.slice none 0 0,.slice none 0 0,.slice none 0 0,.slice none 0 0] 170)).setRow w3.heap.size SR=wS at *;refine(HSk.out w3.heap.size wS HBs.out (j1 _) HXs.out).mono ?_;rintro e w4 ⟨r,rfl,hb4,hno,hyes⟩;have HB4:Hid (Below (lb2+1) wL w4):=(HB2.out.trans ((HB3.out.trans (HBs.out.mono hs3)).mono hs2)).trans (hb4.mono hs2);clear HIf HSz HAl HSk HZr HBs HXs hb4;cases r
       ·have HNn:=zA (HNx.out (fun h=>hno rfl (HCk.out.1 h).2.2.2))
        have HBn:=zA (HGl.out w4 HB4.out).1;clear hno hyes;go_wp2_with fail
        go_roundw
        case rel=>exact⟨k+1,by omega,by go_num,HBn,HNn⟩
        case measure=>simp[intOf];omega
       ·obtain⟨f,gg,⟨s12,s13,s14⟩,hrI,hrH,hroom,ha1,ha2⟩:=hyes rfl
        have hRik:R i k:=HCk.out.2 ⟨hik,hltk,by first|trivial|rfl,_,hroom.room,ha1,ha2⟩;obtain⟨-,hBw4,hX4,hE4,hL4⟩:=HGl.out w4 HB4.out;have hsw4:=hBw4.size;have HPo:=zA (fun w' la sv hb h1 h2=>HYs.out hRik w' la sv f gg hb h1 h2 hroom ha1 ha2)
        have HSw:Hid (∀w',Below w4.heap.size w4 w'->Calls Tryz.prog 68 #[.pointer (some ⟨b,o,none⟩),.agg #[.slice (some ⟨gi,0,none⟩) I.length I.length,.slice (some ⟨gh,0,none⟩) C.length C.length,.slice none 0 0]] w' fun e w5=>∃sa sc,e=.returned (.slice sa (I.length+C.length) sc)/\xA w5 95 sa (pU I f I.length++cJ C gg C.length)/\Below w'.heap.size w' w5):=fun w' hb=>by
         refine(HSe.out w' (hBw4.trans (hb.mono hsw4)) gi gh f gg (hrI.below hb) (hrH.below hb)).mono ?_;rintro e w5 ⟨v,rfl,h1,h2⟩;obtain⟨sa,sc,rfl,h3⟩:=vN h1;exact⟨sa,sc,rfl,h3,h2⟩
        have lsb:=yR s12;have lsb2:lb2<w3.heap.size:=by omega
        have lre:=zM hX4;have lee:=zM hE4;have lle:=zM hL4
        have HAf:Hid (∀w5,Below w4.heap.size w4 w5->(w5.cell? ⟨eb,0,none⟩=some (.string ⟨xl.toArray⟩)/\w5.cell? ⟨lb2,0,none⟩=some (.string ⟨yl.toArray⟩)/\w5.cell? ⟨w3.heap.size,12,none⟩=some (.slice (some ⟨gi,0,none⟩) I.length I.length)/\w5.cell? ⟨w3.heap.size,13,none⟩=some (.slice (some ⟨gh,0,none⟩) C.length C.length)/\w5.cell? ⟨w3.heap.size,14,none⟩=some (.slice none 0 0))/\(w5.cell? ⟨w.heap.size,0,none⟩=some (.slice none 0 0)/\w5.cell? ⟨w.heap.size,1,none⟩=some (.slice none 0 0)/\w5.frozen? ⟨w.heap.size,0,none⟩=false/\w5.frozen? ⟨w.heap.size,1,none⟩=false)/\Below w.heap.size w w5/\w5.heap[w.heap.size]? = some (.cells #[.slice none 0 0,.slice none 0 0] 132 (0,0))/\w.heap.size<w5.heap.size):=fun w5 hb=>by
         have hR5:=(hb.block _ lre).trans hX4;have hE5:=(hb.block _ lee).trans hE4;have hL5:=(hb.block _ lle).trans hL4;exact⟨⟨(zB hE5 0).trans rfl,(zB hL5 0).trans rfl,(hb.cell (p:=⟨w3.heap.size,12,none⟩) lsb).trans s12,(hb.cell (p:=⟨w3.heap.size,13,none⟩) lsb).trans s13,(hb.cell (p:=⟨w3.heap.size,14,none⟩) lsb).trans s14⟩,⟨(zB hR5 0).trans rfl,(zB hR5 1).trans rfl,by simp[World.frozen?,hR5],by simp[World.frozen?,hR5]⟩,hBw4.trans (hb.mono hsw4),hR5,zM hR5⟩
        obtain⟨⟨t0,t1,t2,t3,t4⟩,⟨t5,t6,t7,t8⟩,-,-,-⟩:=HAf.out w4 (tg _ _);clear hroom ha1 ha2 hrI hrH s12 s13 s14 hX4 hE4 hL4 hBw4 hno hyes HYs HCk HSe;generalize pU I f I.length++cJ C gg C.length=SV at *;generalize w3.heap.size=sb at *;have n1:w4.heap.size≠eb:=by omega
        have n2:w4.heap.size≠lb2:=by omega
        have n3:w4.heap.size≠sb:=by omega
        have n4:w4.heap.size≠w.heap.size:=by omega
        have a1:w.heap.size≠eb:=by omega
        have a2:w.heap.size≠lb2:=by omega
        have a3:w.heap.size≠sb:=by omega
        have a4:eb≠w.heap.size:=by omega
        have a5:lb2≠w.heap.size:=by omega
        have a6:sb≠w.heap.size:=by omega
        go_upto_region 10 with fail
        go_region_held3 (fun w'=>w'.cell? ⟨eb,0,none⟩=some (.string ⟨xl.toArray⟩)/\w'.cell? ⟨lb2,0,none⟩=some (.string ⟨yl.toArray⟩)/\w'.cell? ⟨sb,12,none⟩=some (.slice (some ⟨gi,0,none⟩) I.length I.length)/\w'.cell? ⟨sb,13,none⟩=some (.slice (some ⟨gh,0,none⟩) C.length C.length)/\w'.cell? ⟨sb,14,none⟩=some (.slice none 0 0)) (go_keep) (
         (go_at_call 68;first
          | (refine(HSw.out _ (py (tg _ _))).mono ?_;rintro e w5 ⟨sa,sc,rfl,hcv,hb5⟩;obtain⟨⟨r0,r1,r2,r3,r4⟩,⟨z0,z1,z2,z3⟩,hB5,hR5,hl5⟩:=HAf.out w5 ((py (tg _ _)).trans hb5);have hs45:w4.heap.size<=w5.heap.size:=((py (tg w4.heap.size w4)).trans hb5).size;have n5:w5.heap.size≠eb:=(by omega);have n6:w5.heap.size≠w.heap.size:=(by omega);have n7:w5.heap.size≠lb2:=(by omega);have n8:w5.heap.size≠sb:=(by omega))
          | (refine(HSw.out _ ((tg w4.heap.size w4).drew.alloc (j1 _) _)).mono ?_;rintro e w5 ⟨sa,sc,rfl,hcv,hb5⟩;obtain⟨⟨r0,r1,r2,r3,r4⟩,⟨z0,z1,z2,z3⟩,hB5,hR5,hl5⟩:=HAf.out w5 (((tg w4.heap.size w4).drew.alloc (j1 _) _).trans (hb5.mono (by simp))))))
        ·have hlab:w5.heap[w4.heap.size]? = some (.cells #[.string ⟨xl.toArray⟩,.string ⟨yl.toArray⟩] 9 (0,0)):=(hb5.block _ (zX _ _)).trans (zG _ _)
         have HQ:=zA (HPo.out ((w5.setCell ⟨w.heap.size,0,none⟩ (.slice (some ⟨w4.heap.size,0,none⟩) 2 2)).setCell ⟨w.heap.size,1,none⟩ (.slice sa (I.length+C.length) sc)) (some ⟨w4.heap.size,0,none⟩) (.slice sa (I.length+C.length) sc) ((hB5.setCell (by simp) _).setCell (by simp) _) (K0 hR5 (DJ hlab) (by decide)).cel ⟨sa,sc,rfl,(K0 hR5 hcv (by decide)).cel⟩);have HFr:=zA (JU (c:=.slice (some ⟨w4.heap.size,0,none⟩) 2 2) (d:=.slice sa (I.length+C.length) sc) hR5);go_wp2_with fail
         refine pd (v:=.agg #[.slice (some ⟨w4.heap.size,0,none⟩) 2 2,.slice sa (I.length+C.length) sc]) (results_cell_row Tryz.results51 _ _ w.heap.size 132 #[.slice (some ⟨w4.heap.size,0,none⟩) 2 2,.slice sa (I.length+C.length) sc] (0,0) _ rfl HFr.out Tryz.underlying132 rfl (Kp _ _)) rfl HQ.out
        ·have hlab:(((w5.setCell ⟨w.heap.size,0,none⟩ (.slice (some ⟨w5.heap.size,0,none⟩) 2 2)).setCell ⟨w.heap.size,1,none⟩ (.slice sa (I.length+C.length) sc)).alloc (.cells #[.string ⟨xl.toArray⟩,.string ⟨yl.toArray⟩] 9)).heap[w5.heap.size]? = some (.cells #[.string ⟨xl.toArray⟩,.string ⟨yl.toArray⟩] 9 (0,0)):=yT _ _ _ (by simp)
         have hbe:Below w.heap.size w ((w5.setCell ⟨w.heap.size,0,none⟩ (.slice (some ⟨w5.heap.size,0,none⟩) 2 2)).setCell ⟨w.heap.size,1,none⟩ (.slice sa (I.length+C.length) sc)):=(hB5.setCell (by simp) _).setCell (by simp) _;have HQ:=zA (HPo.out (((w5.setCell ⟨w.heap.size,0,none⟩ (.slice (some ⟨w5.heap.size,0,none⟩) 2 2)).setCell ⟨w.heap.size,1,none⟩ (.slice sa (I.length+C.length) sc)).alloc (.cells #[.string ⟨xl.toArray⟩,.string ⟨yl.toArray⟩] 9)) (some ⟨w5.heap.size,0,none⟩) (.slice sa (I.length+C.length) sc) (hbe.alloc hbe.size _) (DJ hlab).cel ⟨sa,sc,rfl,((K0 hR5 hcv (by decide)).below (fw (j1 _) _)).cel⟩);have HFr:Hid ((((w5.setCell ⟨w.heap.size,0,none⟩ (.slice (some ⟨w5.heap.size,0,none⟩) 2 2)).setCell ⟨w.heap.size,1,none⟩ (.slice sa (I.length+C.length) sc)).alloc (.cells #[.string ⟨xl.toArray⟩,.string ⟨yl.toArray⟩] 9)).heap[w.heap.size]? = some (.cells #[.slice (some ⟨w5.heap.size,0,none⟩) 2 2,.slice sa (I.length+C.length) sc] 132 (0,0))):=zT (JU hR5);clear hlab hbe;go_wp2_with fail
         refine pd (v:=.agg #[.slice (some ⟨w5.heap.size,0,none⟩) 2 2,.slice sa (I.length+C.length) sc]) (results_cell_row Tryz.results51 _ _ w.heap.size 132 #[.slice (some ⟨w5.heap.size,0,none⟩) 2 2,.slice sa (I.length+C.length) sc] (0,0) _ rfl HFr.out Tryz.underlying132 rfl (Kp _ _)) rfl HQ.out
     ·have gg:(k:Int)<=(i:Int):=by omega
      have HNn:=zA (HNx.out (fun h=>hik (HCk.out.1 h).1));go_wp2_with fail
      go_roundw
      case rel=>exact⟨k+1,by omega,by go_num,HB7,HNn⟩
      case measure=>simp[intOf];omega
    ·obtain rfl:k=rs.length:=by omega
     have kk:¬(rs.length:Int)<(rs.length:Int):=by omega
     have HNo:Hid (∀i' k',R i' k'->i+1<=i'):=fun i' k' h=>by
      have h1:=HMk.out i' k' h;have h2:=((HCl.out i' k').1 h).2.1;omega
     have HBn:=zA (HGe.out _ HBy.out).1;go_wp2_with fail
     go_roundw
     case rel=>exact⟨i+1,by omega,by go_num,HBn,HNo⟩
     case measure=>simp[intOf];omega
  ·obtain rfl:i=rs.length:=by omega
   have ii:¬(rs.length:Int)<(rs.length:Int):=by omega
   have HQ:=zA (HFp.out ((wr.setCell ⟨w.heap.size,0,none⟩ (.slice none 0 0)).setCell ⟨w.heap.size,1,none⟩ (.slice none 0 0)) (.returned (.agg #[.slice none 0 0,.slice none 0 0])) ((hBw.setCell (by simp) _).setCell (by simp) _) (.inr ⟨fun i' k' h=>by
    have h1:=HM.out i' k' h;have h2:=(HCl.out i' k').1 h;omega,rfl⟩))
   have HFr:=zA (JU (c:=.slice none 0 0) (d:=.slice none 0 0) hX);have z0:wr.cell? ⟨w.heap.size,0,none⟩=some (.slice none 0 0):=(zB hX 0).trans rfl;have z1:wr.cell? ⟨w.heap.size,1,none⟩=some (.slice none 0 0):=(zB hX 1).trans rfl;have y0:wr.frozen? ⟨w.heap.size,0,none⟩=false:=by simp[World.frozen?,hX]
   have y1:wr.frozen? ⟨w.heap.size,1,none⟩=false:=by simp[World.frozen?,hX]
   go_wp2_with fail
   refine pd (v:=.agg #[.slice none 0 0,.slice none 0 0]) (results_cell_row Tryz.results51 _ _ w.heap.size 132 #[.slice none 0 0,.slice none 0 0] (0,0) _ rfl HFr.out Tryz.underlying132 rfl (Kp _ _)) rfl HQ.out
theorem YA{cv rv:Value}(k:Int)(hj:j<3+G.length):(cR iv cv rv G k)[j]? = (bS iv cv rv G)[j]? := by
 unfold cR;rw[dr (by rw[mF];exact hj)]
theorem KG.made{b:Nat}{cv rv:Value}{C:List (Bs × Nat)}(h:w.heap[b]? = some (UQ iv cv rv G 0))(hG:G.length=64)(hc:lW w iv cv rv I C rs)(hf:I.length<=100):KG w b 0 I C rs G:=by
 unfold UQ at h;obtain⟨g0,g1,g2⟩:=Ki iv cv rv G;obtain⟨a1,c1,e1,k1⟩:=hc.inp;obtain⟨a2,c2,e2,k2⟩:=hc.con;obtain⟨a3,c3,e3,k3⟩:=hc.rul;refine⟨⟨a1,c1,?_,k1⟩,⟨a2,c2,?_,k2⟩,⟨a3,c3,?_,k3⟩,hc.rows,fun k hk=>?_,hf,hc.few2,hc.few3⟩
 ·rw[<-e1];exact((zB h 0).trans (YA 0 (by omega))).trans g0
 ·rw[<-e2];exact((zB h 1).trans (YA 0 (by omega))).trans g1
 ·rw[<-e3];exact((zB h 2).trans (YA 0 (by omega))).trans g2
 ·rw[cr];exact((zB h (3+k)).trans (YA 0 (by omega))).trans (X1 iv cv rv G k (by omega))
def Cr(F:List zE):List Bool:=zW (uE (yW F) F gZ)
theorem DV(F:List zE):(Cr F).length=64:=by unfold Cr zW;rw[nB,pX];exact xG
structure zCM(F:List zE):Prop where
 few:(zV F).length<=100
 inp:sJ (zV F)
 rul:∀x∈uZ ((zV F).map zO.name) ((xE F).map Prod.fst) F,Qt (zV F) (xE F).length x
def Qp(F:List zE)(w w':World)(e:Ending):Prop:=∃rs:List MX,rs.map Prod.fst=uZ ((zV F).map zO.name) ((xE F).map Prod.fst) F/\Below w.heap.size w w'/\((∃b:Nat,e=.returned (.tuple #[.pointer (some ⟨b,0,none⟩),.int .i64 0])/\mM w' b F rs/\∀i j,¬F0 (zV F) (xE F).length rs (Cr F) i j)\/(e=.returned (.tuple #[.pointer none,.int .i64 8])/\∃i j,F0 (zV F) (xE F).length rs (Cr F) i j))
theorem QM(l:Bs)(w:World)(F:List zE)(hO:zCM F)(hR:Calls Tryz.prog 50 #[.string ⟨l.toArray⟩] w fun e w'=>oE F w w' e) :
 Calls Tryz.prog 27 #[.string ⟨l.toArray⟩,.bool true] w fun e w'=>Qp F w w' e:=by
 have HR:=zA hR;clear hR;have HGL:=zA (DV F);have HRN:Hid (∀w' e,oE F w w' e->∃iv cv rv rs,e=.returned (.agg (cR iv cv rv (Cr F) 0))/\rs.map Prod.fst=uZ ((zV F).map zO.name) ((xE F).map Prod.fst) F/\lW w' iv cv rv (zV F) (xE F) rs/\Below w.heap.size w w'):=fun w' e h=>h;have HSI:Hid (∀w' e (rs:List MX),rs.map Prod.fst=uZ ((zV F).map zO.name) ((xE F).map Prod.fst) F->Below w.heap.size w w'->((∃b:Nat,e=.returned (.tuple #[.pointer (some ⟨b,0,none⟩),.int .i64 0])/\mM w' b F rs/\∀i j,¬F0 (zV F) (xE F).length rs (Cr F) i j)\/(e=.returned (.tuple #[.pointer none,.int .i64 8])/\∃i j,F0 (zV F) (xE F).length rs (Cr F) i j))->Qp F w w' e):=fun w' e rs h1 h2 h3=>⟨rs,h1,h2,h3⟩;have HBN:Hid (∀w' b iv cv rv rs,w'.heap[b]? = some (.cells (yw iv cv rv (Cr F)) 136 (0,0))->rs.map Prod.fst=uZ ((zV F).map zO.name) ((xE F).map Prod.fst) F->lW w' iv cv rv (zV F) (xE F) rs->mM w' b F rs):=fun w' b iv cv rv rs h1 h2 h3=>⟨⟨iv,cv,rv,h1,h3⟩,h2⟩
 have HFd:Hid (∀w' b rs iv cv rv,rs.map Prod.fst=uZ ((zV F).map zO.name) ((xE F).map Prod.fst) F->w'.heap[b]? = some (UQ iv cv rv (Cr F) 0)->lW w' iv cv rv (zV F) (xE F) rs->Calls Tryz.prog 51 #[.pointer (some ⟨b,0,none⟩)] w' fun e w2=>Below w'.heap.size w' w2/\((∃la sa sn sc,e=.returned (.agg #[.slice la 2 2,.slice sa sn sc])/\∃i j,F0 (zV F) (xE F).length rs (Cr F) i j)\/(e=.returned (.agg #[.slice none 0 0,.slice none 0 0])/\∀i j,¬F0 (zV F) (xE F).length rs (Cr F) i j))):=fun w' b rs iv cv rv h1 h2 h3=>by
  refine(zK8 w' b 0 (zV F) (xE F) rs (Cr F) (KG.made h2 (DV F) h3 hO.few) hO.inp (fun x hx=>hO.rul x.1 ?_)).mono ?_
  ·rw[<-h1];exact List.mem_map_of_mem hx
  ·rintro e w2 ⟨hb,⟨i,j,f,g,la,sv,hfp,rfl,-,⟨sa,sc,rfl,-⟩,-,-,-⟩|⟨hn,rfl⟩⟩
   ·exact⟨hb,.inl ⟨la,sa,_,sc,rfl,i,j,hfp.1⟩⟩
   ·exact⟨hb,.inr ⟨rfl,hn⟩⟩
 clear hO;generalize Cr F=G at *;generalize Qp F w=Q at *
 go_enter Tryz.func27,Tryz.ntmps27
 go_wp2_with fail
 refine HR.out.mono ?_;rintro e w1 hri;obtain⟨iv,cv,rv,rs,rfl,hrs,hmc,hb⟩:=HRN.out _ _ hri;obtain⟨o1,o2,o3⟩:=hmc.one;have HB:=zA hb;have HMc:=zA hmc;have hs:=hb.size;have HSJ:=zA (fun w' e=>HSI.out w' e rs hrs);have HFe:=zA (fun w' b=>HFd.out w' b rs iv cv rv hrs);have HBe:=zA (fun w' b h1 h2=>HBN.out w' b iv cv rv rs h1 hrs h2);clear hb HR hri hmc hrs HRN HSI HFd HBN;have zM5:Hid ((w1.alloc (.cells Tryz.zeroCells129 129)).heap[w1.heap.size]? = some (.cells Tryz.zeroCells129 129 (0,0))):=zG _ _;have HM:Hid (((w1.alloc (.cells Tryz.zeroCells129 129)).setRow w1.heap.size (cR iv cv rv G 0)).heap[w1.heap.size]? = some (UQ iv cv rv G 0)):=cf _ _ _ _ _ _ zM5.out;have c67:((w1.alloc (.cells Tryz.zeroCells129 129)).setRow w1.heap.size (cR iv cv rv G 0)).cell? ⟨w1.heap.size,67,none⟩=some (.int .i64 0):=by have h8:=HM.out;unfold UQ at h8;exact(zB h8 67).trans (DA HGL.out 0)
 have HBm:Hid (Below w1.heap.size w1 ((w1.alloc (.cells Tryz.zeroCells129 129)).setRow w1.heap.size (cR iv cv rv G 0))):=xD (fw (j1 _) _) (j1 _) _
 go_wp2_with (refine wpList_store_row ?zLS 129 (.tmp 6) (.tmp 9) ?ho w1.heap.size (cR iv cv rv G 0) ?hx ?hy 129 Tryz.zeroCells129 zM5.out (Z8 HGL.out _ _ _ _) ?zLU (Y9 o1 o2 o3 _ _) ?_
              case ho=>rfl
              case zLS=>rfl
              case hx=>rfl
              case hy=>rfl
              case zLU=>rw[Kg,mE,mE,xG,HGL.out])
 have HMm:=zA (HMc.out.below HBm.out);have zM4:Hid (Below w.heap.size w ((w1.alloc (.cells Tryz.zeroCells129 129)).setRow w1.heap.size (cR iv cv rv G 0))):=HB.out.trans (HBm.out.mono hs);clear zM5 c67 HBm HMc;generalize (w1.alloc (.cells Tryz.zeroCells129 129)).setRow w1.heap.size (cR iv cv rv G 0)=wM at *;have lm:=zM HM.out;refine(HFe.out wM w1.heap.size HM.out HMm.out).mono ?_;rintro e w2 ⟨hb2,⟨la,sa,sn,sc,rfl,hex⟩|⟨rfl,hno⟩⟩
 ·have HB2:Hid (Below w.heap.size w w2):=zM4.out.trans (hb2.mono zM4.out.size)
  have HEx:=zA hex;have hs2:=HB2.out.size;clear hex hb2 HFe HMm HM;have HQ:=zA (HSJ.out (w2.alloc (.cells #[.slice la 2 2,.slice sa sn sc] 132)) _ (HB2.out.alloc hs2 _) (.inr ⟨rfl,HEx.out⟩));go_wp2_with fail
  exact HQ.out
 ·have HB2:Hid (Below w.heap.size w w2):=zM4.out.trans (hb2.mono zM4.out.size)
  have HNo:=zA hno;have hs2:=HB2.out.size;have HM2:Hid (w2.heap[w1.heap.size]? = some (UQ iv cv rv G 0)):=(hb2.block _ lm).trans HM.out;have lm2:=zM HM2.out
  have HRg:Hid ((w2.alloc (.cells #[.slice none 0 0,.slice none 0 0] 132)).rangeAt w1.heap.size 0 (bS iv cv rv G).toList):=fun j v hv=>by
   have h8:(w2.alloc (.cells #[.slice none 0 0,.slice none 0 0] 132)).heap[w1.heap.size]? = some (UQ iv cv rv G 0):=zT HM2.out;unfold UQ cR at h8;have hj:j<(bS iv cv rv G).size:=by have:=(List.getElem?_eq_some_iff.1 hv).1;simpa using this
   rw[cr];refine(zB h8 j).trans ?_;rw[dr hj];rw[<-hv,dy]
  have HMz:=zA (fun (o1 o2:Obj)=>((HMm.out.below hb2).below (fw (j1 _) o1)).below (fw (j1 _) o2));clear hno hb2 HFe HMm HM HM2
  go_wp2_with (first
   | (refine wpList_load_mid ?zLS 127 (.tmp 22) ?ho w1.heap.size 0 ?hx (bS iv cv rv G).toList _ HRg.out Tryz.underlying127 rfl ?hi ?_
      case ho=>rfl
      case zLS=>rfl
      case hx=>rfl
      case hi=>rw[Array.length_toList];exact sW HGL.out _ _ _)
   | (refine wpList_buildTo rfl 136 #[(0,.const (.bool true)),(1,.tmp 23)] rfl (some 24) rfl (yw iv cv rv G) (by rw[Array.toList_map];exact Uz iv cv rv G HGL.out) ?_))
  exact HSJ.out _ _ ((HB2.out.alloc hs2 _).alloc (by simp;omega) _) (.inl ⟨w2.heap.size+1,rfl,HBe.out _ _ (by rw[show w2.heap.size+1=(w2.alloc (.cells #[.slice none 0 0,.slice none 0 0] 132)).heap.size by simp];exact zG _ _) (HMz.out _ _),HNo.out⟩)
theorem wO{F:List zE}(h:xX F):(xE F).map Prod.fst=zJ F:=by
 rw[wN F h.heads h.nam];unfold Qd;rw[List.map_map];refine List.ext_getElem (by simp) fun i h1 h2=>?_;simp only[List.getElem_map,List.getElem_range,Function.comp];rw[p8,pb h2];rfl
theorem X4{F:List zE}(h:xX F):(xE F).length=(zJ F).length:=by rw[<-wO h,pw]
theorem Ub{i:Nat}(hi:i<8)(hj:j<8):nU G (i:Int) (j:Int)=gA G i j:=by
 unfold nU;rw[tr (show (0:Int)<=(i:Int) by omega),tr (show (i:Int)<8 by omega),tr (show (0:Int)<=(j:Int) by omega),tr (show (j:Int)<8 by omega)];simp
theorem jk(h:xX ls)(hr:rs.map Prod.fst=uZ ((zV ls).map zO.name) ((xE ls).map Prod.fst) ls):rs.length=(dM ls).length/\∀i,i<(dM ls).length->(jC rs i).1=qI (xR ls) (zJ ls) ((dM ls).getD i Yw):=by
 rw[wO h,sO]at hr;have hl:rs.length=(dM ls).length:=by have:=congrArg List.length hr;simpa using this
 refine⟨hl,fun i hi=>?_⟩;have h1:i<rs.length:=by omega
 have e1:(rs.map Prod.fst).getD i (qI [] [] Yw)=(jC rs i).1:=by simp[jC,List.getD,h1]
 rw[<-e1,hr];exact XP _ _ _ _ _ hi
theorem zIV(h:xX ls)(hg:∀x∈ls,gQ x):zCM ls:=by
 refine⟨by have:=VV h;omega,zF8 h hg,fun r hr=>?_⟩;rw[wO h,sO]at hr;obtain⟨x,hx,rfl⟩:=p7.1 hr;obtain⟨h1,h2⟩:=mh.1 hx;rw[X4 h];exact zII h h1 (cb h2) (hg x h1)
end Go.Proofs.YtnbpdffdnphbeabGreatDoor
