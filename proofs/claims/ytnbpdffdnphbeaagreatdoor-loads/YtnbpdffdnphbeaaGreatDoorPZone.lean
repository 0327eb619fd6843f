import Derived.Test.YtnbpdffdnphbeaaGreatDoorPMod
import Derived.Test.YtnbpdffdnphbeaaGreatDoorDTry
set_option maxHeartbeats 2000000
set_option maxRecDepth 100000
namespace Go.Proofs.YtnbpdffdnphbeaaGreatDoor
variable{b:Int}{names:List Bs}{rs:List RX}{I:List yH}{ls:List zF}{us:List zG}{i k:Nat}{s s':vD}{l r e:vG}{x:zF}
def kX(z:Int × Int)(b:Int):List (Int × Int) :=
 if b<z.1\/z.2<b then [z] else ((if z.1<b then [(z.1,b-1)] else [])++[(b,b)])++(if b<z.2 then [(b+1,z.2)] else [])
def vL(zs:List (Int × Int))(b:Int):List (Int × Int):=zs.flatMap fun z=>kX z b
def xV(zs:List (Int × Int))(bs:List Int):List (Int × Int):=bs.foldl vL zs
def nS(lo hi:Int)(b1 b2:List Int):List (Int × Int):=xV (xV [(lo,hi)] b1) b2
def zB8(z:Int × Int)(b:Int):Prop:=z.2<b\/(z.1=b/\z.2=b)\/b<z.1
theorem nU{z x:Int × Int}(h:x∈kX z b):z.1<=x.1/\x.2<=z.2/\zB8 x b:=by
 unfold kX at h;unfold zB8;by_cases h1:b<z.1\/z.2<b
 ·rw[tj h1]at h;simp at h;subst h;omega
 ·rw[tg h1]at h
  simp only[pt,pu]at h;rcases h with (h|h)|h
  ·by_cases h2:z.1<b
   ·rw[tj h2]at h;simp at h;subst h;simp;omega
   ·rw[tg h2]at h;simp at h
  ·subst h;simp;omega
  ·by_cases h2:b<z.2
   ·rw[tj h2]at h;simp at h;subst h;simp;omega
   ·rw[tg h2]at h;simp at h
theorem JU{z:Int × Int}{y:Int}(h:z.1<=y/\y<=z.2):∃x∈kX z b,x.1<=y/\y<=x.2:=by
 unfold kX;by_cases h1:b<z.1\/z.2<b
 ·rw[tj h1];exact⟨z,by simp,h⟩
 ·rw[tg h1]
  rcases Int.lt_trichotomy y b with h2|h2|h2
  ·exact⟨(z.1,b-1),by simp[show z.1<b by omega],by simp;omega⟩
  ·exact⟨(b,b),by simp,by simp;omega⟩
  ·exact⟨(b+1,z.2),by simp[show b<z.2 by omega],by simp;omega⟩
structure zF3(lo hi:Int)(bs:List Int)(zs:List (Int × Int)):Prop where
 sub:∀z∈zs,lo<=z.1/\z.2<=hi
 cover:∀y,lo<=y->y<=hi->∃z∈zs,z.1<=y/\y<=z.2
 side:∀z∈zs,∀b∈bs,∀y,z.1<=y->y<=z.2->∀x,z.1<=x->x<=z.2->(x<b ↔ y<b)/\(x=b ↔ y=b)
theorem zF3.split{lo hi:Int}{bs:List Int}{zs:List (Int × Int)}(h:zF3 lo hi bs zs)(b:Int):zF3 lo hi (bs++[b]) (vL zs b):=by
 refine⟨fun z hz=>?_,fun y h1 h2=>?_,fun z hz c hc y h1 h2 x h3 h4=>?_⟩
 ·obtain⟨z0,hz0,hz1⟩:=List.mem_flatMap.1 hz
  have:=h.sub z0 hz0;have:=nU hz1;omega
 ·obtain⟨z,hz,hy⟩:=h.cover y h1 h2
  obtain⟨x,hx,hxy⟩:=JU (b:=b) hy;exact⟨x,List.mem_flatMap.2 ⟨z,hz,hx⟩,hxy⟩
 ·obtain⟨z0,hz0,hz1⟩:=List.mem_flatMap.1 hz
  have hs:=nU hz1;rcases pt.1 hc with hc|hc
  ·exact h.side z0 hz0 c hc y (by omega) (by omega) x (by omega) (by omega)
  ·simp at hc;subst hc
   have:=hs.2.2;unfold zB8 at this;omega
theorem zF3.splits{lo hi:Int}(b2:List Int):∀ {bs:List Int} {zs:List (Int × Int)},zF3 lo hi bs zs->zF3 lo hi (bs++b2) (xV zs b2):=by
 induction b2 with
 | nil=>intro bs zs h;simpa[xV] using h
 | cons b r ih =>
   intro bs zs h;have:=ih (h.split b);rw[mq]at this;exact this
theorem Xa(lo hi:Int)(b1 b2:List Int):zF3 lo hi (b1++b2) (nS lo hi b1 b2):=by
 have h0:zF3 lo hi [] [(lo,hi)]:=⟨fun z hz=>by simp at hz;subst hz;simp,fun y h1 h2=>⟨(lo,hi),by simp,h1,h2⟩,fun z _ b hb=>by simp at hb⟩;have:=(h0.splits b1).splits b2;unfold nS;simpa using this
theorem CL{α:Type}(p q:α->Bool)(h:∀x,¬(p x=true/\q x=true))(l:List α):(l.filter p).length+(l.filter q).length<=l.length:=by
 induction l with
 | nil=>simp
 | cons x r ih =>
   have hx:=h x;cases hp:p x <;> cases hq:q x <;> simp[hp,hq]at hx ⊢ <;> omega
theorem F7(l:List Int):∃T:List Int,T.Pairwise (· < ·)/\(∀x,x∈T ↔ x∈l)/\T.length<=l.length:=by
 induction l with
 | nil=>exact⟨[],List.Pairwise.nil,fun x=>Iff.rfl,t9 _⟩
 | cons a r ih =>
   obtain⟨T,h1,h2,h3⟩:=ih;refine⟨T.filter (fun x=>decide (x<a))++a::T.filter (fun x=>decide (a<x)),?_,fun x=>?_,?_⟩
   ·rw[List.pairwise_append,List.pairwise_cons]
    refine⟨h1.filter _,⟨fun x hx=>by simpa using (ma.1 hx).2,h1.filter _⟩,fun x hx y hy=>?_⟩;have hx2:x<a:=by simpa using (ma.1 hx).2
    rcases pi.1 hy with rfl|hy
    ·exact hx2
    ·have:a<y:=by simpa using (ma.1 hy).2
     omega
   ·simp only[pt,pi,ma,pw,h2]
    constructor
    ·rintro(h|h|h)
     ·exact .inr h.1
     ·exact .inl h
     ·exact .inr h.1
    ·rintro(h|h)
     ·exact .inr (.inl h)
     ·rcases Int.lt_trichotomy x a with h4|h4|h4
      ·exact .inl ⟨h,h4⟩
      ·exact .inr (.inl h4)
      ·exact .inr (.inr ⟨h,h4⟩)
   ·have:=CL (fun x:Int=>decide (x<a)) (fun x=>decide (a<x)) (fun x=>by simp;omega) T
    simp;omega
structure bI where
 lo:Int
 hi:Int
 rank:Nat
def kL(r:Nat):List bI->Int × Int->Int × Int
 | [],s=>s
 | n::L,s=>kL r L (if n.rank=r then (if s.1<n.lo then n.lo else s.1,if n.hi<s.2 then n.hi else s.2) else s)
def uC(L:List bI)(r:Nat):Int × Int:=kL r L (0,9999)
def dN(r:Nat):List bI->Nat
 | []=>0
 | n::L=>(if n.rank=r then 1 else 0)+dN r L
def ZB(L:List bI):Nat->Nat->Int->Nat->List Int->Option (List Int)
 | 0,_,_,_,out=>some out
 | f+1,r,vK,placed,out =>
   if placed=L.length then some out
   else if (uC L r).2<(if (uC L r).1<vK then vK else (uC L r).1) then none
   else if dN r L=0 then none
   else ZB L f (r+1) ((if (uC L r).1<vK then vK else (uC L r).1)+1) (placed+dN r L) (out++[if (uC L r).1<vK then vK else (uC L r).1])
def rC(L:List bI):Option (List Int):=ZB L L.length 0 0 0 []
theorem eV(r:Nat)(L:List bI):∀s,s.1<=(kL r L s).1/\(kL r L s).2<=s.2/\∀n∈L,n.rank=r->n.lo<=(kL r L s).1/\(kL r L s).2<=n.hi:=by
 induction L with
 | nil=>intro s;exact⟨dk _,dk _,fun n hn=>by simp at hn⟩
 | cons m L ih =>
   intro s;rw[kL];obtain⟨h1,h2,h3⟩:=ih (if m.rank=r then (if s.1<m.lo then m.lo else s.1,if m.hi<s.2 then m.hi else s.2) else s);by_cases hr:m.rank=r
   ·rw[tj hr]at h1 h2 h3 ⊢
    generalize kL r L (if s.1<m.lo then m.lo else s.1,if m.hi<s.2 then m.hi else s.2)=q at h1 h2 h3 ⊢;simp only at h1 h2;refine⟨by split at h1 <;> omega,by split at h2 <;> omega,fun n hn hnr=>?_⟩;rcases pi.1 hn with rfl|hn
    ·exact⟨by split at h1 <;> omega,by split at h2 <;> omega⟩
    ·exact h3 n hn hnr
   ·rw[tg hr]at h1 h2 h3 ⊢
    refine⟨h1,h2,fun n hn hnr=>?_⟩;rcases pi.1 hn with rfl|hn
    ·exact absurd hnr hr
    ·exact h3 n hn hnr
theorem Bp(r:Nat)(v:Int)(L:List bI):∀s:Int × Int,s.1<=v->v<=s.2->(∀n∈L,n.rank=r->n.lo<=v/\v<=n.hi)->(kL r L s).1<=v/\v<=(kL r L s).2:=by
 induction L with
 | nil=>intro s h1 h2 _;exact⟨h1,h2⟩
 | cons m L ih =>
   intro s h1 h2 h;rw[kL];by_cases hr:m.rank=r
   ·rw[tj hr]
    have:=h m (by simp) hr;exact ih _ (by simp only;split <;> omega) (by simp only;split <;> omega) fun n hn=>h n (by simp[hn])
   ·rw[tg hr];exact ih _ h1 h2 fun n hn=>h n (by simp[hn])
def mZ(r:Nat):List bI->Nat
 | []=>0
 | n::L=>(if n.rank<r then 1 else 0)+mZ r L
theorem iR(r:Nat)(L:List bI):mZ (r+1) L=mZ r L+dN r L:=by
 induction L with
 | nil=>rfl
 | cons n L ih=>rw[mZ,mZ,dN,ih];split <;> split <;> split <;> omega
theorem iQ(L:List bI):mZ 0 L=0:=by
 induction L with
 | nil=>rfl
 | cons n L ih=>rw[mZ,ih];simp
theorem ZS(r:Nat)(L:List bI):mZ r L<=L.length/\((∀n∈L,n.rank<r)->mZ r L=L.length):=by
 induction L with
 | nil=>simp[mZ]
 | cons n L ih =>
   rw[mZ,p7];refine⟨by have:=ih.1;split <;> omega,fun h=>?_⟩;rw[ih.2 fun m hm=>h m (by simp[hm]),tj (h n (by simp))];omega
theorem zAQ{r:Nat}{L:List bI}(h:∃n∈L,n.rank=r):dN r L≠0:=by
 induction L with
 | nil=>obtain⟨n,hn,_⟩:=h;simp at hn
 | cons m L ih =>
   obtain⟨n,hn,hr⟩:=h;rw[dN];rcases pi.1 hn with rfl|hn
   ·rw[tj hr];omega
   ·have:=ih ⟨n,hn,hr⟩;omega
structure Qu(L:List bI)(r:Nat)(vK:Int)(out:List Int):Prop where
 len:out.length=r
 zone:∀n∈L,n.rank<r->n.lo<=out.getD n.rank 0/\out.getD n.rank 0<=n.hi
 up:∀a b,a<b->b<r->out.getD a 0<out.getD b 0
 last:∀a,a<r->out.getD a 0<vK
theorem Qu.snoc{L:List bI}{r:Nat}{vK v:Int}{out:List Int}(h:Qu L r vK out)(hv:vK<=v)(hz:∀n∈L,n.rank=r->n.lo<=v/\v<=n.hi):Qu L (r+1) (v+1) (out++[v]):=by
 have hl:=h.len;have e1:∀a,a<r->(out++[v]).getD a 0=out.getD a 0:=fun a ha=>by simp[List.getD,m6 (show a<out.length by omega)]
 have e2:(out++[v]).getD r 0=v:=by simp[List.getD,<-hl]
 refine⟨by simp[hl],fun n hn hr=>?_,fun a b hab hb=>?_,fun a ha=>?_⟩
 ·by_cases hr2:n.rank<r
  ·rw[e1 _ hr2];exact h.zone n hn hr2
  ·have hr3:n.rank=r:=by omega
   rw[hr3,e2];exact hz n hn hr3
 ·by_cases hb2:b<r
  ·rw[e1 _ hb2,e1 _ (by omega)];exact h.up a b hab hb2
  ·have hb3:b=r:=by omega
   rw[hb3,e2,e1 _ (by omega)];have:=h.last a (by omega);omega
 ·by_cases ha2:a<r
  ·rw[e1 _ ha2];have:=h.last a ha2;omega
  ·have ha3:a=r:=by omega
   rw[ha3,e2];omega
theorem Bu(L:List bI):∀f r vK placed out,placed=mZ r L->Qu L r vK out->∀o,ZB L f r vK placed out=some o->∃r' l',r<=r'/\(r'=r+f\/mZ r' L=L.length)/\Qu L r' l' o:=by
 intro f
 induction f with
 | zero=>intro r vK placed out _ h o ho;rw[ZB]at ho;obtain rfl:=co ho;exact⟨r,vK,t9 _,.inl rfl,h⟩
 | succ f ih =>
   intro r vK placed out hp h o ho;rw[ZB]at ho;by_cases h1:placed=L.length
   ·rw[tj h1]at ho;obtain rfl:=co ho;exact⟨r,vK,t9 _,.inr (by rw[<-hp,h1]),h⟩
   ·rw[tg h1]at ho
    have hg:=eV r L (0,9999);have hs:kL r L (0,9999)=uC L r:=rfl;rw[hs]at hg;generalize hv:(if (uC L r).1<vK then vK else (uC L r).1)=v at ho;have hv2:vK<=v/\(uC L r).1<=v:=by rw[<-hv];split <;> omega
    by_cases h2:(uC L r).2<v
    ·rw[tj h2]at ho;exact absurd ho (by simp)
    ·rw[tg h2]at ho
     by_cases h3:dN r L=0
     ·rw[tj h3]at ho;exact absurd ho (by simp)
     ·rw[tg h3]at ho
      obtain⟨r',l',q1,q2,q3⟩:=ih (r+1) (v+1) _ _ (by rw[iR,hp]) (h.snoc hv2.1 fun n hn hr=>by have:=hg.2.2 n hn hr;omega) o ho;exact⟨r',l',by omega,by rcases q2 with q2|q2;exact .inl (by omega);exact .inr q2,q3⟩
theorem iS{r:Nat}{L:List bI}(h:mZ r L=L.length):∀n∈L,n.rank<r:=by
 induction L with
 | nil=>intro n hn;simp at hn
 | cons m L ih =>
   rw[mZ,p7]at h;have hl:=(ZS r L).1;intro n hn;by_cases hm:m.rank<r
   ·rw[tj hm]at h
    rcases pi.1 hn with rfl|hn
    ·exact hm
    ·exact ih (by omega) n hn
   ·rw[tg hm]at h;omega
theorem Xo{L:List bI}(hr:∀n∈L,n.rank<L.length){o:List Int}(h:rC L=some o):∀n∈L,n.lo<=o.getD n.rank 0/\o.getD n.rank 0<=n.hi:=by
 obtain⟨r',l',_,h2,h3⟩:=Bu L L.length 0 0 0 [] (iQ L).symm ⟨rfl,fun n _ h=>absurd h (by omega),fun a b _ h=>absurd h (by omega),fun a h=>absurd h (by omega)⟩ o h;intro n hn;refine h3.zone n hn ?_;rcases h2 with h2|h2
 ·have:=hr n hn;omega
 ·exact iS h2 n hn
theorem FB(L:List bI)(T:List Int)(hT:T.Pairwise (· < ·))(zIR:∀n∈L,n.rank<T.length/\n.lo<=T.getD n.rank 0/\T.getD n.rank 0<=n.hi)(hall:∀r,r<T.length->∃n∈L,n.rank=r)(h0:∀x∈T,0<=x/\x<=9999) :
 ∀f r vK placed out,T.length-r<=f->placed=mZ r L->r<=T.length->(r<T.length->vK<=T.getD r 0)->Qu L r vK out->∃o l',ZB L f r vK placed out=some o/\Qu L T.length l' o:=by
 intro f
 induction f with
 | zero=>intro r vK placed out hf _ hr _ h;obtain rfl:r=T.length:=by omega
         exact⟨out,vK,by rw[ZB],h⟩
 | succ f ih =>
   intro r vK placed out hf hp hr hl h;by_cases zIB:r<T.length
   ·obtain⟨n0,hn0,hr0⟩:=hall r zIB
    have hpl:placed≠L.length:=fun e=>by
     have:=iS (r:=r) (L:=L) (by rw[<-hp,e]) n0 hn0;omega
    have hm:T.getD r 0∈T:=by simp[List.getD,zIB]
    have hle:=Bp r (T.getD r 0) L (0,9999) (h0 _ hm).1 (h0 _ hm).2 fun n hn hnr=>by have:=zIR n hn;rw[hnr]at this;exact this.2
    have hg:=eV r L (0,9999);have hs:kL r L (0,9999)=uC L r:=rfl;rw[hs]at hle hg;rw[ZB,tg hpl];generalize hv:(if (uC L r).1<vK then vK else (uC L r).1)=v;have hll:=hl zIB;have hv2:vK<=v/\(uC L r).1<=v/\v<=T.getD r 0:=by rw[<-hv];split <;> omega
    rw[tg (by omega),tg (zAQ ⟨n0,hn0,hr0⟩)];refine ih (r+1) (v+1) _ _ (by omega) (by rw[iR,hp]) zIB (fun h2=>?_) (h.snoc hv2.1 fun n hn hnr=>by have:=hg.2.2 n hn hnr;omega)
    have:T.getD r 0<T.getD (r+1) 0:=by
     have:=List.pairwise_iff_getElem.1 hT r (r+1) zIB h2 (by omega);simpa[List.getD,zIB,h2] using this
    omega
   ·obtain rfl:r=T.length:=by omega
    have:placed=L.length:=by rw[hp];exact(ZS _ L).2 fun n hn=>(zIR n hn).1
    exact⟨out,vK,by rw[ZB,tj this],h⟩
theorem Dy{T:List Int}(hT:T.Pairwise (· < ·)){a b:Nat}(ha:a<T.length)(hb:b<T.length):(T.getD a 0<T.getD b 0 ↔ a<b)/\(T.getD a 0=T.getD b 0->a=b):=by
 have key:∀a b,a<T.length->b<T.length->a<b->T.getD a 0<T.getD b 0:=fun a b ha hb hab=>by
  have:=List.pairwise_iff_getElem.1 hT a b ha hb hab;simpa[List.getD,ha,hb] using this
 have h1:=key a b ha hb;have h2:=key b a hb ha;rcases Nat.lt_trichotomy a b with h|h|h
 ·have:=h1 h;omega
 ·subst h;simp
 ·have:=h2 h;omega
def gY(Z:List (Int × Int))(rk:List Nat):List bI:=(List.range Z.length).map fun i=>⟨(Z.getD i (0,0)).1,(Z.getD i (0,0)).2,rk.getD i 0⟩
theorem Je(Z:List (Int × Int))(rk:List Nat):(gY Z rk).length=Z.length:=by simp[gY]
theorem Jd{Z:List (Int × Int)}{rk:List Nat}{n:bI}(h:n∈gY Z rk):∃i,i<Z.length/\n=⟨(Z.getD i (0,0)).1,(Z.getD i (0,0)).2,rk.getD i 0⟩:=by
 obtain⟨i,hi,rfl⟩:=mn.1 h;exact⟨i,by simpa using hi,rfl⟩
theorem Vs{Z:List (Int × Int)}(rk:List Nat)(hi:i<Z.length):(⟨(Z.getD i (0,0)).1,(Z.getD i (0,0)).2,rk.getD i 0⟩:bI)∈gY Z rk:=mn.2 ⟨i,by simpa using hi,rfl⟩
theorem F8(Z:List (Int × Int))(y:List Int)(hl:y.length=Z.length)(h:∀i,i<Z.length->(Z.getD i (0,0)).1<=y.getD i 0/\y.getD i 0<=(Z.getD i (0,0)).2)(h0:∀x∈y,0<=x/\x<=9999) :
 ∃rk:List Nat,rk.length=Z.length/\(∀r∈rk,r<Z.length)/\∃o,rC (gY Z rk)=some o/\∀i j,i<Z.length->j<Z.length->(o.getD (rk.getD i 0) 0<o.getD (rk.getD j 0) 0 ↔ y.getD i 0<y.getD j 0):=by
 obtain⟨T,hT,hm,zIH⟩:=F7 y
 have hex:∀x∈y,∃r,r<T.length/\T.getD r 0=x:=fun x hx=>by
  obtain⟨r,hr,e⟩:=f9 ((hm x).2 hx);exact⟨r,hr,by simp[List.getD,hr,e]⟩
 obtain⟨g,hg⟩:∃g:Int->Nat,∀x∈y,g x<T.length/\T.getD (g x) 0=x:=by
  refine⟨fun x=>if hx:x∈y then Classical.choose (hex x hx) else 0,fun x hx=>?_⟩;simp only[hx,dite_true];exact Classical.choose_spec (hex x hx)
 have hyi:∀i,i<Z.length->y.getD i 0∈y:=fun i hi=>by simp[List.getD,show i<y.length by omega]
 have hri:∀i,i<Z.length->(y.map g).getD i 0=g (y.getD i 0):=fun i hi=>by simp[List.getD,show i<y.length by omega]
 refine⟨y.map g,by simp[hl],fun r hr=>?_,?_⟩
 ·obtain⟨x,hx,rfl⟩:=mn.1 hr
  have:=(hg x hx).1;omega
 have zIR:∀n∈gY Z (y.map g),n.rank<T.length/\n.lo<=T.getD n.rank 0/\T.getD n.rank 0<=n.hi:=fun n hn=>by
  obtain⟨i,hi,rfl⟩:=Jd hn;simp only;rw[hri i hi];have h1:=hg _ (hyi i hi);rw[h1.2];exact⟨h1.1,h i hi⟩
 have hall:∀r,r<T.length->∃n∈gY Z (y.map g),n.rank=r:=fun r hr=>by
  have hx:T.getD r 0∈y:=(hm _).1 (by simp[List.getD,hr]);obtain⟨i,hi,e⟩:=f9 hx;have hi2:i<Z.length:=by omega
  refine⟨_,Vs (y.map g) hi2,?_⟩;simp only;rw[hri i hi2];have e2:y.getD i 0=T.getD r 0:=by simp[List.getD,hi,e]
  have h1:=hg _ (hyi i hi2);rw[e2]at h1 ⊢;exact(Dy hT h1.1 hr).2 h1.2
 obtain⟨o,l',ho,zIV⟩:=FB (gY Z (y.map g)) T hT zIR hall (fun x hx=>h0 x ((hm x).1 hx)) (gY Z (y.map g)).length 0 0 0 [] (by rw[Je];omega) (iQ _).symm (tr _) (fun hh=>(h0 _ ((hm _).1 (by simp[List.getD,hh]))).1) ⟨rfl,fun n _ h=>absurd h (by omega),fun a b _ h=>absurd h (by omega),fun a h=>absurd h (by omega)⟩;refine⟨o,ho,fun i j hi hj=>?_⟩;rw[hri i hi,hri j hj];have a1:=hg _ (hyi i hi);have a2:=hg _ (hyi j hj);have hp:=(Dy hT a1.1 a2.1).1;rw[a1.2,a2.2]at hp;rw[hp];constructor
 ·intro h3
  rcases Nat.lt_trichotomy (g (y.getD i 0)) (g (y.getD j 0)) with h4|h4|h4
  ·exact h4
  ·rw[h4]at h3;omega
  ·have:=zIV.up _ _ h4 a1.1;omega
 ·intro h3;exact zIV.up _ _ h3 a2.1
def Da(R:Nat->Nat->Prop)(i k:Nat):Prop:=R i k/\∀i' k',R i' k'->i<i'\/(i=i'/\k<=k')
open Go.RowKit
def zHE:RX:=(⟨[],0,[],[]⟩,.slice none 0 0,.slice none 0 0)
def nQ(rs:List RX)(i:Nat):RX:=rs.getD i zHE
def zHN(us:List zG)(names:List Bs)(ins:Nat)(rs:List RX)(i k:Nat):Prop:=i<k/\k<rs.length/\(nQ rs i).1.head=(nQ rs k).1.head/\ZY us i k=false/\ZY us k i=false/\gO us names ins (nQ rs i).1 (nQ rs k).1
theorem Vm{w:World}{a:Option Addr}(h:pE w a (KB rs))(hi:i<rs.length):∃g,a=some ⟨g,0,none⟩/\w.cell? ⟨g,i*4,none⟩=some (.string ⟨(nQ rs i).1.label.toArray⟩)/\w.cell? ⟨g,i*4+1,none⟩=some (.int .i64 (nQ rs i).1.head)/\w.cell? ⟨g,i*4+2,none⟩=some (nQ rs i).2.1/\w.cell? ⟨g,i*4+3,none⟩=some (nQ rs i).2.2:=by
 obtain⟨g,e,c0⟩:=h.at ((zW zI4 4 (fun _=>rfl) zHE rs i 0 hi (by decide)).trans rfl);obtain⟨g1,e1,c1⟩:=h.at ((zW zI4 4 (fun _=>rfl) zHE rs i 1 hi (by decide)).trans rfl);obtain⟨g2,e2,c2⟩:=h.at ((zW zI4 4 (fun _=>rfl) zHE rs i 2 hi (by decide)).trans rfl);obtain⟨g3,e3,c3⟩:=h.at ((zW zI4 4 (fun _=>rfl) zHE rs i 3 hi (by decide)).trans rfl);obtain rfl:g=g1:=by rw[e]at e1;simpa using e1
 obtain rfl:g=g2:=by rw[e]at e2;simpa using e2
 obtain rfl:g=g3:=by rw[e]at e3;simpa using e3
 exact⟨g,e,c0,c1,c2,c3⟩
theorem fT(h:i<rs.length):nQ rs i∈rs:=by simp[nQ,List.getD,h]
def sU(R:Nat->Nat->Prop)(w w':World)(e:Ending):Prop:=∃(i k:Nat) (f:Bool),e=.returned (.tuple #[.int .i64 (i:Nat),.int .i64 (k:Nat),.bool f])/\(f=true->Da R i k)/\(f=false->∀i k,¬R i k)/\Below w.heap.size w w'
theorem zH3(w:World)(b:Nat)(ls:List zF)(us:List zG)(names:List Bs)(ins:Nat)(rs:List RX)(hB:nP w b us names ins rs)(hA:yQ ls us)(zIR:ins<=names.length)(hpos:0<rs.length->0<names.length)(hlab:rs.length=(pS us).length)(hbd:∀x∈rs,∀y∈rs,∀z∈uG us names ins x.1.steps y.1.steps,-1000000<=z/\z<=1000000)(zIV:∀x∈rs,∀vs:List Int,vs.length=names.length->Zw ins vs x.1) :
 Calls Tryz.prog 41 #[.pointer (some ⟨b,0,none⟩)] w fun e w'=>sU (zHN us names ins rs) w w' e:=by
 have hf:=hB.few;have HBk:=zA (fun w' (hb:Below w.heap.size w w')=>(hB.down hb).rul);have HAb:=zA (fun w' (hb:Below w.heap.size w w') (i k:Nat) (hk:k<rs.length)=>zES w' b ls us names ins rs i k (hB.down hb) hA (by rw[<-hlab];exact hk));have HBo:=zA (fun w' (hb:Below w.heap.size w w') (i k:Nat) (hi:i<rs.length) (hk:k<rs.length)=>zHC w' b ls us names ins rs (nQ rs i) (nQ rs k) (hB.down hb) hA zIR (hpos (by omega)) ((hB.down hb).rows _ (fT hi)) ((hB.down hb).rows _ (fT hk)) (hbd _ (fT hi) _ (fT hk)) (fun vs hv=>⟨zIV _ (fT hi) vs hv,zIV _ (fT hk) vs hv⟩))
 have HSl:Hid (∀i,i<rs.length->(∃a c,(nQ rs i).2.1=.slice a (nQ rs i).1.parts.length c)/\∃a c,(nQ rs i).2.2=.slice a (nQ rs i).1.steps.length c):=fun i hi=>by
  obtain⟨a,c,e,-⟩:=(hB.rows _ (fT hi)).parts;obtain⟨a',c',e',-⟩:=(hB.rows _ (fT hi)).steps;exact⟨⟨a,c,e⟩,a',c',e'⟩
 have HCl:Hid (∀i k,zHN us names ins rs i k ↔ (i<k/\k<rs.length/\(nQ rs i).1.head=(nQ rs k).1.head/\ZY us i k=false/\ZY us k i=false/\gO us names ins (nQ rs i).1 (nQ rs k).1)):=fun _ _=>Iff.rfl;clear hB hA hlab hbd zIV hpos zIR;generalize zHN us names ins rs=R at *
 go_enter Tryz.func41,Tryz.ntmps41
 go_wp2_with fail
 go_loopw [5] (fun iv wr=>∃(i:Nat),i<=rs.length/\iv=.int .i64 i/\Hid (Below w.heap.size w wr)/\Hid (∀i' k',R i' k'->i<=i')) (fun iv _=>rs.length-(intOf iv).toNat)
 case atStart=>exact⟨0,tr _,rfl,zA (tl _ _),zA fun _ _ _=>tr _⟩
 case round =>
  obtain⟨i,hi,rfl,HB,HM⟩:=hrel;obtain⟨ra,rc,d3,-⟩:=HBk.out wr HB.out;by_cases zIB:i<rs.length
  ·have ii:(i:Int)<(rs.length:Int):=by omega
   have HM1:Hid (∀i' k',R i' k'->i<i'\/(i=i'/\i+1<=k')):=fun i' k' h=>by
    have:=HM.out i' k' h;have:=((HCl.out i' k').1 h).1;omega
   generalize hwr:wr=wq at *;clear hwr;go_wp2_with fail
   go_loopw [6] (fun kv wr=>∃(k:Nat),i+1<=k/\k<=rs.length/\kv=.int .i64 k/\Hid (Below w.heap.size w wr)/\Hid (∀i' k',R i' k'->i<i'\/(i=i'/\k<=k'))) (fun kv _=>rs.length-(intOf kv).toNat)
   case atStart=>exact⟨i+1,t9 _,by omega,by go_num,HB,HM1⟩
   case round =>
    obtain⟨k,hik,hk,rfl,HBk2,HMk⟩:=hrel;have zIJ:=HBk2.out.size;obtain⟨ra,rc,d3,zJ8⟩:=HBk.out wr HBk2.out;by_cases zJA:k<rs.length
    ·have kk:(k:Int)<(rs.length:Int):=by omega
     obtain⟨g,rfl,i1,i2,i3,i4⟩:=Vm zJ8 zIB;obtain⟨g',e',k1,k2,k3,k4⟩:=Vm zJ8 zJA;obtain rfl:g=g':=by simpa using e'
     have HCk:=zA (HCl.out i k)
     have HNx:Hid (¬R i k->∀i' k',R i' k'->i<i'\/(i=i'/\k+1<=k')):=fun hn i' k' h=>by
      have h1:=HMk.out i' k' h;rcases h1 with h1|⟨h1,h2⟩
      ·exact .inl h1
      ·by_cases hkk:k=k'
       ·subst h1 hkk;exact absurd h hn
       ·exact .inr ⟨h1,by omega⟩
     have HYs:Hid (R i k->∀w',Below w.heap.size w w'->sU R w w' (.returned (.tuple #[.int .i64 (i:Nat),.int .i64 (k:Nat),.bool true]))):=fun h w' hb=>⟨i,k,true,rfl,fun _=>⟨h,HMk.out⟩,fun h=>absurd h (by simp),hb⟩;have hcell3:=fun w' (hb:Below wr.heap.size wr w')=>(show w'.cell? ⟨b,3,none⟩=some (.slice (some ⟨g,0,none⟩) rs.length rc) from (hb.cell (p:=⟨b,3,none⟩) (zT d3)).trans d3);have HAb1:=zA (fun w' hb=>HAb.out w' hb i k zJA);have HAb2:=zA (fun w' hb=>HAb.out w' hb k i zIB);have HBoi:=zA (fun w' hb=>HBo.out w' hb i k zIB zJA);obtain⟨⟨p1,p2,e1⟩,p3,p4,e2⟩:=HSl.out i zIB;obtain⟨⟨q1,q2,e3⟩,q3,q4,e4⟩:=HSl.out k zJA;have lg:=zT i1;have lb:=zT d3
     have HCs:Hid (∀w',Below wr.heap.size wr w'->w'.cell? ⟨b,3,none⟩=some (.slice (some ⟨g,0,none⟩) rs.length rc)/\(w'.cell? ⟨g,i*4,none⟩=some (.string ⟨(nQ rs i).1.label.toArray⟩)/\w'.cell? ⟨g,i*4+1,none⟩=some (.int .i64 (nQ rs i).1.head)/\w'.cell? ⟨g,i*4+2,none⟩=some (.slice p1 (nQ rs i).1.parts.length p2)/\w'.cell? ⟨g,i*4+3,none⟩=some (.slice p3 (nQ rs i).1.steps.length p4))/\(w'.cell? ⟨g,k*4,none⟩=some (.string ⟨(nQ rs k).1.label.toArray⟩)/\w'.cell? ⟨g,k*4+1,none⟩=some (.int .i64 (nQ rs k).1.head)/\w'.cell? ⟨g,k*4+2,none⟩=some (.slice q1 (nQ rs k).1.parts.length q2)/\w'.cell? ⟨g,k*4+3,none⟩=some (.slice q3 (nQ rs k).1.steps.length q4))):=fun w' hb=>by
      have hc:=fun j v (h:wr.cell? ⟨g,j,none⟩=some v)=>(hb.cell (p:=⟨g,j,none⟩) lg).trans h;rw[e1]at i3;rw[e2]at i4;rw[e3]at k3;rw[e4]at k4;exact⟨hcell3 w' hb,⟨hc _ _ i1,hc _ _ i2,hc _ _ i3,hc _ _ i4⟩,hc _ _ k1,hc _ _ k2,hc _ _ k3,hc _ _ k4⟩
     simp only[Q5]at HBoi;rw[e1,e2,e3,e4]at HBoi;clear hcell3 zJ8 e' e1 e2 e3 e4 i1 i2 i3 i4 k1 k2 k3 k4;generalize gO us names ins (nQ rs i).1 (nQ rs k).1=TB at *;generalize ZY us i k=a1 at *;generalize ZY us k i=a2 at *;generalize (nQ rs i).1.label=xl at *;generalize (nQ rs i).1.head=xh at *;generalize (nQ rs i).1.parts.length=xn at *;generalize (nQ rs i).1.steps.length=xm at *;generalize (nQ rs k).1.label=yl at *;generalize (nQ rs k).1.head=yh at *;generalize (nQ rs k).1.parts.length=yn at *;generalize (nQ rs k).1.steps.length=ym at *;obtain⟨-,⟨i1,i2,i3,i4⟩,k1,k2,k3,k4⟩:=HCs.out wr (tl _ _);by_cases hh:xh=yh
     ·subst hh
      go_wp2_with fail
      go_quiet (fail)
      have HBq:Hid (Below wr.heap.size wr (wr.drewN nq)):=yC (tl _ _) nq;clear i1 i2 i3 i4 k1 k2 k3 k4 d3;generalize wr.drewN nq=w1 at *;have HBw1:Hid (Below w.heap.size w w1):=HBk2.out.trans (HBq.out.mono zIJ);have HA1w:=zA (HAb1.out w1 HBw1.out);go_wp2_with fail
      refine HA1w.out.mono ?_;rintro e w2 ⟨rfl,hb2⟩;have HB2:Hid (Below wr.heap.size wr w2):=HBq.out.trans (hb2.mono HBq.out.size);have HBw2:Hid (Below w.heap.size w w2):=HBk2.out.trans (HB2.out.mono zIJ);have HA2w:=zA (HAb2.out w2 HBw2.out);clear hb2;go_wp2_with fail
      refine HA2w.out.mono ?_;rintro e w3 ⟨rfl,hb3⟩;have HB3:Hid (Below wr.heap.size wr w3):=HB2.out.trans (hb3.mono HB2.out.size);have HBw3:Hid (Below w.heap.size w w3):=HBk2.out.trans (HB3.out.mono zIJ);clear hb3 HA1w HA2w HBw1 HBw2 HBq HB2;cases a1
      ·cases a2
       ·have HCt:Hid (R i k ↔ TB):=⟨fun h=>(HCk.out.1 h).2.2.2.2.2,fun h=>HCk.out.2 (by refine⟨hik,zJA,?_,?_,?_,h⟩ <;> simp)⟩
        obtain⟨c3,⟨i1,i2,i3,i4⟩,k1,k2,k3,k4⟩:=HCs.out w3 HB3.out;have HBow:=zA (fun w' (hb:Below w3.heap.size w3 w')=>HBoi.out w' (HBw3.out.trans (hb.mono HBw3.out.size)))
        go_upto_region 11 with fail
        go_region_held3 (fun w'=>w'.cell? ⟨b,3,none⟩=some (.slice (some ⟨g,0,none⟩) rs.length rc)/\(w'.cell? ⟨g,i*4,none⟩=some (.string ⟨xl.toArray⟩)/\w'.cell? ⟨g,i*4+1,none⟩=some (.int .i64 xh)/\w'.cell? ⟨g,i*4+2,none⟩=some (.slice p1 xn p2)/\w'.cell? ⟨g,i*4+3,none⟩=some (.slice p3 xm p4))/\(w'.cell? ⟨g,k*4,none⟩=some (.string ⟨yl.toArray⟩)/\w'.cell? ⟨g,k*4+1,none⟩=some (.int .i64 xh)/\w'.cell? ⟨g,k*4+2,none⟩=some (.slice q1 yn q2)/\w'.cell? ⟨g,k*4+3,none⟩=some (.slice q3 ym q4))) (go_keep) (
         (go_at_call 83;refine(HBow.out _ (me (tl _ _))).mono ?_;rintro e w4 ⟨r,rfl,hiff,hb4⟩;have hB4:Below wr.heap.size wr w4:=HB3.out.trans (((me (tl _ _)).trans hb4).mono HB3.out.size);obtain⟨z1,⟨z2,z3,z4,z5⟩,z6,z7,z8,z9⟩:=HCs.out w4 hB4))
        all_goals
         have HB4:Hid (Below w.heap.size w w4):=HBk2.out.trans (hB4.mono zIJ);have HIf:=zA hiff;clear hiff hb4 hB4 z1 z2 z3 z4 z5 z6 z7 z8 z9 i1 i2 i3 i4 k1 k2 k3 k4 c3;cases r
         ·have HNn:=zA (HNx.out (fun h=>by have:=HIf.out.2 (HCt.out.1 h);cases this))
          go_wp2_with fail
          go_roundw
          case rel=>exact⟨k+1,by omega,by omega,by go_num,HB4,HNn⟩
          case measure=>simp[intOf];omega
         ·have HQ:=zA (HYs.out (HCt.out.2 (HIf.out.1 rfl)) w4 HB4.out)
          go_wp2_with fail
          first|exact HQ.out|(go_ret3;exact HQ.out)
       ·have HNn:=zA (HNx.out (fun h=>by have:=(HCk.out.1 h).2.2.2.2.1;cases this))
        go_wp2_with fail
        go_roundw
        case rel=>exact⟨k+1,by omega,by omega,by go_num,HBw3,HNn⟩
        case measure=>simp[intOf];omega
      ·have HNn:=zA (HNx.out (fun h=>by have:=(HCk.out.1 h).2.2.2.1;cases this))
       go_wp2_with fail
       go_roundw
       case rel=>exact⟨k+1,by omega,by omega,by go_num,HBw3,HNn⟩
       case measure=>simp[intOf];omega
     ·have b1:(xh==yh)=false:=by simpa using hh
      have b2:(xh != yh)=true:=by simp only[bne,b1];rfl
      have HNn:=zA (HNx.out (fun h=>hh (HCk.out.1 h).2.2.1));clear hh;go_wp2_with fail
      go_quiet (fail)
      go_wp2_with fail
      go_roundw
      case rel=>exact⟨k+1,by omega,by omega,by go_num,zA (yC HBk2.out _),HNn⟩
      case measure=>simp[intOf];omega
    ·obtain rfl:k=rs.length:=by omega
     have kk:¬(rs.length:Int)<(rs.length:Int):=by omega
     have HNo:Hid (∀i' k',R i' k'->i+1<=i'):=fun i' k' h=>by
      have h1:=HMk.out i' k' h;have h2:=((HCl.out i' k').1 h).2.1;omega
     go_wp2_with fail
     go_roundw
     case rel=>exact⟨i+1,by omega,by go_num,HBk2,HNo⟩
     case measure=>simp[intOf];omega
  ·obtain rfl:i=rs.length:=by omega
   have ii:¬(rs.length:Int)<(rs.length:Int):=by omega
   have HQ:Hid (sU R w wr (.returned (.tuple #[.int .i64 ((0:Nat):Int),.int .i64 ((0:Nat):Int),.bool false]))):=⟨0,0,false,rfl,fun h=>absurd h (by simp),fun _ i' k' h=>by
    have h1:=HM.out i' k' h;have h2:=(HCl.out i' k').1 h;omega,HB.out⟩
   go_wp2_with fail
   first|exact HQ.out|(go_ret3;exact HQ.out)
def vJ(us:List zG):List Bs:=tJ us++jB us
def Fl(us:List zG)(i k:Nat):Prop:=i<k/\k<(kT (vJ us) us).length/\((kT (vJ us) us).getD i zGS).head=((kT (vJ us) us).getD k zGS).head/\ZY us i k=false/\ZY us k i=false/\gO us (vJ us) (tJ us).length ((kT (vJ us) us).getD i zGS) ((kT (vJ us) us).getD k zGS)
theorem Dq{R:List pT}(h:rs.map Prod.fst=R)(i:Nat):(nQ rs i).1=R.getD i zGS:=by
 subst h;unfold nQ;by_cases hi:i<rs.length
 ·simp[List.getD,hi]
 ·simp[List.getD,hi,zHE,zGS]
theorem zE9(h:rs.map Prod.fst=kT (vJ us) us)(i k:Nat):zHN us (vJ us) (tJ us).length rs i k ↔ Fl us i k:=by
 have hl:(kT (vJ us) us).length=rs.length:=by rw[<-h,ms]
 unfold zHN Fl;rw[Dq h,Dq h,hl]
structure CY(ls:List zF)(us:List zG):Prop where
 lines:yQ ls us
 pos:0<(kT (vJ us) us).length->0<(vJ us).length
 lab:(kT (vJ us) us).length=(pS us).length
 bd:∀x∈kT (vJ us) us,∀y∈kT (vJ us) us,∀z∈uG us (vJ us) (tJ us).length x.steps y.steps,-1000000<=z/\z<=1000000
 ok:∀x∈kT (vJ us) us,∀vs:List Int,vs.length=(vJ us).length->Zw (tJ us).length vs x
theorem zEO{w:World}{b:Nat}(hB:nP w b us (vJ us) (tJ us).length rs)(hr:rs.map Prod.fst=kT (vJ us) us)(h:CY ls us):Calls Tryz.prog 41 #[.pointer (some ⟨b,0,none⟩)] w fun e w'=>sU (Fl us) w w' e:=by
 have hm:∀x∈rs,x.1∈kT (vJ us) us:=fun x hx=>by rw[<-hr];exact List.mem_map_of_mem hx
 have hl:(kT (vJ us) us).length=rs.length:=by rw[<-hr,ms]
 refine(zH3 w b ls us (vJ us) (tJ us).length rs hB h.lines (by unfold vJ;simp) (fun h0=>h.pos (by omega)) (by rw[<-h.lab,hl]) (fun x hx y hy=>h.bd _ (hm x hx) _ (hm y hy)) (fun x hx=>h.ok _ (hm x hx))).mono ?_;have e:zHN us (vJ us) (tJ us).length rs=Fl us:=by funext i k;exact propext (zE9 hr i k)
 rw[e];intro e w' h;exact h
theorem yw(l:Bs)(w:World)(k p:Int)(hk:k≠0)(hC:Calls Tryz.prog 39 #[.string ⟨l.toArray⟩] w fun e w'=>e=.returned (.tuple #[.int .i64 k,.int .i64 p])/\Below w.heap.size w w') :
 Calls Tryz.prog 27 #[.string ⟨l.toArray⟩,.bool true] w fun e w'=>e=.returned (.int .i64 k)/\Below w.heap.size w w':=by
 have HC:=zA hC;clear hC;have b0:(k != 0)=true:=by simpa using hk
 clear hk
 go_enter Tryz.func27,Tryz.ntmps27
 go_wp2_with fail
 refine HC.out.mono ?_;rintro e w1 ⟨rfl,hb⟩;have HB:=zA hb;clear hb;go_wp2_with fail
 go_ret
 exact⟨rfl,HB.out⟩
def KM(us:List zG)(w w':World)(e:Ending):Prop:=Below w.heap.size w w'/\((e=.returned (.int .i64 8)/\∃i k,Fl us i k)\/(e=.returned (.int .i64 0)/\∀i k,¬Fl us i k))
theorem KN(l:Bs)(w:World)(p:Int)(ls:List zF)(hl4:l.length<=4000)(hO:CY ls (jZ l))(zIV:∀u∈jZ l,cA u 0=zQ->zH2 u)(hC:Calls Tryz.prog 39 #[.string ⟨l.toArray⟩] w fun e w'=>e=.returned (.tuple #[.int .i64 0,.int .i64 p])/\Below w.heap.size w w') :
 Calls Tryz.prog 27 #[.string ⟨l.toArray⟩,.bool true] w fun e w'=>KM (jZ l) w w' e:=by
 have HC:=zA hC;have HR:=zA (fun w'=>zH1 l w' hl4 ls hO.lines zIV);have HP:Hid (∀w' b rs,nP w' b (jZ l) (tJ (jZ l)++jB (jZ l)) (tJ (jZ l)).length rs->rs.map Prod.fst=kT (tJ (jZ l)++jB (jZ l)) (jZ l)->Calls Tryz.prog 41 #[.pointer (some ⟨b,0,none⟩)] w' fun e w2=>sU (Fl (jZ l)) w' w2 e):=fun w' b rs h1 h2=>zEO h1 h2 hO;have HQ:Hid (∀w' e,Below w.heap.size w w'->((e=.returned (.int .i64 8)/\∃i k,Fl (jZ l) i k)\/(e=.returned (.int .i64 0)/\∀i k,¬Fl (jZ l) i k))->KM (jZ l) w w' e):=fun w' e h1 h2=>⟨h1,h2⟩;clear hC hO zIV;generalize Fl (jZ l)=R at *;generalize KM (jZ l) w=Q at *
 go_enter Tryz.func27,Tryz.ntmps27
 go_wp2_with fail
 refine HC.out.mono ?_;rintro e w1 ⟨rfl,hb⟩;have HB:=zA hb;clear hb;go_wp2_with fail
 refine(HR.out w1).mono ?_;rintro e w2 ⟨b,rs,rfl,hbk,hrs,hb2⟩;have HPw:=zA (HP.out w2 b rs hbk hrs);have HB2:Hid (Below w.heap.size w w2):=HB.out.trans (hb2.mono HB.out.size);clear hbk hrs hb2 HP HR HC;go_wp2_with fail
 refine HPw.out.mono ?_;rintro e w3 ⟨i,k,f,rfl,hy,hn,hb3⟩;have HB3:Hid (Below w.heap.size w w3):=HB2.out.trans (hb3.mono HB2.out.size);clear hb3 HPw;cases f
 ·have HA:=zA (HQ.out w3 _ HB3.out (.inr ⟨rfl,hn rfl⟩))
  clear hy hn;go_wp2_with fail
  first|exact HA.out|(go_ret;exact HA.out)
 ·have HA:=zA (HQ.out w3 _ HB3.out (.inl ⟨rfl,i,k,(hy rfl).1⟩))
  clear hy hn;go_wp2_with fail
  first|exact HA.out|(go_ret;exact HA.out)
structure zF9(r:vG)(s s':vD):Prop where
 sum:∀p∈r.sum,p.kind=3->pF s.has p.place=pF s'.has p.place
 has:∀y∈r.guard,y.kind=5->pF s.has y.place=pF s'.has y.place
 flag:∀y∈r.guard,y.kind=6->(mI s.inputs y.place=1 ↔ mI s'.inputs y.place=1)
 cmp:∀y∈r.guard,y.kind=7->QI y s=QI y s'
theorem yd(h:zF9 r s s'):tP r s=tP r s':=by
 have h1:mN s r.sum=mN s' r.sum:=by
  unfold mN
  exact JB fun p hp=>by
   by_cases k:p.kind=3
   ·rw[h.sum p hp k]
   ·rw[th k];rfl
 have h2:∀(N:List jJ) hs,(∀y∈N,y∈r.guard)->nF s N hs=nF s' N hs:=by
  intro N
  induction N with
  | nil=>intro hs _;rfl
  | cons y t ih =>
    intro hs hy;rw[nF,nF];have hm:=hy y (by simp)
    have e:Cj y s hs=Cj y s' hs:=by
     unfold Cj;by_cases k5:y.kind=5
     ·simp only[k5];exact h.has y hm k5
     ·by_cases k6:y.kind=6
      ·have:=h.flag y hm k6
       have e6:decide (mI s.inputs y.place=1)=decide (mI s'.inputs y.place=1):=by rw[ct];simpa using this
       rw[e6];simp[k6]
      ·by_cases k7:y.kind=7
       ·rw[h.cmp y hm k7];simp[k7]
       ·simp[k5,k6,k7]
    rw[e];exact ih _ fun z hz=>hy z (by simp[hz])
 unfold tP;rw[h1,h2 r.guard [] fun y hy=>hy]
def lQ(r:vG)(c:Nat):Bool:=r.sum.any fun p=>decide (p.kind=3)&&decide (p.place=(c:Int))
def vX(r:vG)(c:Nat):Bool:=r.guard.any fun y=>decide (y.kind=5)&&decide (y.place=(c:Int))
def mB(r:vG)(i:Nat):Bool:=r.guard.any fun y=>if y.kind=6 then decide (y.place=(i:Int)) else if y.kind=7 then decide (y.place=(i:Int)) || (y.two&&decide (y.other=(i:Int))) else false
def xR(r:vG)(i:Nat):List Int:=(r.guard.filter fun y=>decide (y.kind=7)&&(!y.two&&decide (y.place=(i:Int)))).map jJ.num
theorem J7(h:tP r s=true){c:Nat}(hc:lQ r c=true):pF s.has (c:Int)=true:=by
 unfold tP at h;rw[tz]at h;obtain⟨p,hp,h1⟩:=mj.1 hc;rw[tz,pw,pw]at h1;have h2:=List.all_eq_true.1 h.1 p hp;rw[h1.2,tm h1.1]at h2;simpa using h2
structure zBO(r:vG)(tX:Nat->Bool)(s s':vD):Prop where
 len:s.inputs.length=s'.inputs.length
 has:∀c:Nat,(lQ r c || vX r c)=true->pF s.has (c:Int)=pF s'.has (c:Int)
 flag:∀i:Nat,i<s.inputs.length->mB r i=true->tX i=false->s.inputs.getD i 0=s'.inputs.getD i 0
 side:∀i:Nat,i<s.inputs.length->tX i=true->∀b∈xR r i,(s.inputs.getD i 0<b ↔ s'.inputs.getD i 0<b)/\(s.inputs.getD i 0=b ↔ s'.inputs.getD i 0=b)
 order:∀i j:Nat,i<s.inputs.length->j<s.inputs.length->mB r i=true->mB r j=true->tX i=true->tX j=true->(s.inputs.getD i 0<s.inputs.getD j 0 ↔ s'.inputs.getD i 0<s'.inputs.getD j 0)
structure iY(r:vG)(n:Nat)(tX:Nat->Bool):Prop where
 flag:∀y∈r.guard,y.kind=6->∃i,i<n/\y.place=(i:Nat)/\tX i=false
 cmp:∀y∈r.guard,y.kind=7->∃i,i<n/\y.place=(i:Nat)/\tX i=true
 two:∀y∈r.guard,y.kind=7->y.two=true->∃i,i<n/\y.other=(i:Nat)/\tX i=true
theorem DL{l:List Bool}{a:Int}(h:a<0):pF l a=false:=by unfold pF;rw[th (by omega)];rfl
theorem aB{l:List Int}(h:i<l.length):mI l (i:Int)=l.getD i 0:=by unfold mI;rw[tj ⟨by omega,by omega⟩];rfl
theorem CU{tX:Nat->Bool}(hp:iY r s.inputs.length tX)(h:zBO r tX s s'):zF9 r s s':=by
 have hT:∀a:Int,(∀c:Nat,a=(c:Int)->(lQ r c || vX r c)=true)->pF s.has a=pF s'.has a:=fun a ha=>by
  rcases cr a 0 with h0|h0
  ·rw[DL h0,DL h0]
  ·obtain⟨c,rfl⟩:∃c:Nat,a=(c:Int):=⟨a.toNat,by omega⟩
   exact h.has c (ha c rfl)
 refine⟨fun p hpm k=>hT _ fun c e=>?_,fun y hy k=>hT _ fun c e=>?_,fun y hy k=>?_,fun y hy k=>?_⟩
 ·rw[mz];exact .inl (mj.2 ⟨p,hpm,by simp[k,e]⟩)
 ·rw[mz];exact .inr (mj.2 ⟨y,hy,by simp[k,e]⟩)
 ·obtain⟨i,hi,e,hn⟩:=hp.flag y hy k
  rw[e,aB hi,aB (by rw[<-h.len];exact hi),h.flag i hi (mj.2 ⟨y,hy,by simp[k,e]⟩) hn]
 ·obtain⟨i,hi,e,hn⟩:=hp.cmp y hy k
  have ha:mB r i=true:=mj.2 ⟨y,hy,by simp[k,e]⟩;unfold QI;rw[e,aB hi,aB (show i<s'.inputs.length by rw[<-h.len];exact hi)];cases h2:y.two
  ·have hb:y.num∈xR r i:=mn.2 ⟨y,ma.2 ⟨hy,by simp[k,h2,e]⟩,rfl⟩
   have hs:=h.side i hi hn _ hb;simp only[Bool.false_eq_true,if_false];generalize s.inputs.getD i 0=a at *;generalize s'.inputs.getD i 0=a' at *;by_cases c1:a<y.num
   ·rw[tj c1,tj (hs.1.1 c1)]
   ·rw[tg c1,tg (fun c=>c1 (hs.1.2 c))]
    by_cases c2:y.num<a
    ·rw[tj c2,tj (by omega)]
    ·rw[tg c2,tg (by omega)]
  ·obtain⟨j,hj,e2,hn2⟩:=hp.two y hy k h2
   have ha2:mB r j=true:=mj.2 ⟨y,hy,by simp[k,h2,e2]⟩;have o1:=h.order i j hi hj ha ha2 hn hn2;have o2:=h.order j i hj hi ha2 ha hn2 hn;simp only[if_true];rw[e2,aB hj,aB (show j<s'.inputs.length by rw[<-h.len];exact hj)];generalize s.inputs.getD i 0=a at *;generalize s'.inputs.getD i 0=a' at *;generalize s.inputs.getD j 0=b at *;generalize s'.inputs.getD j 0=b' at *;by_cases c1:a<b
   ·rw[tj c1,tj (o1.1 c1)]
   ·rw[tg c1,tg (fun c=>c1 (o1.2 c))]
    by_cases c2:b<a
    ·rw[tj c2,tj (o2.1 c2)]
    ·rw[tg c2,tg (fun c=>c2 (o2.2 c))]
theorem JC{tX:Nat->Bool}(hp:iY r s.inputs.length tX)(h:zBO r tX s s'):tP r s=tP r s':=yd (CU hp h)
theorem VI{α:Type}(d:α)(P:Nat->α->Prop):∀n,(∀p,p<n->∃z,P p z)->∃Z:List α,Z.length=n/\∀p,p<n->P p (Z.getD p d):=by
 intro n
 induction n with
 | zero=>intro _;exact⟨[],rfl,fun p h=>absurd h (by omega)⟩
 | succ n ih =>
   intro h;obtain⟨Z,h1,h2⟩:=ih fun p hp=>h p (by omega);obtain⟨z,hz⟩:=h n (by omega);refine⟨Z++[z],by simp[h1],fun p hp=>?_⟩;by_cases hp2:p<n
   ·have:(Z++[z]).getD p d=Z.getD p d:=by simp[List.getD,m6 (show p<Z.length by omega)]
    rw[this];exact h2 p hp2
   ·obtain rfl:p=n:=by omega
    have:(Z++[z]).getD p d=z:=by simp[List.getD,<-h1]
    rw[this];exact hz
def jA(I:List yH)(i:Nat):yH:=I.getD i x9
def xU(I:List yH)(i:Nat):Bool := !(jA I i).isFlag
structure oS(I:List yH)(H:Nat)(y:vD):Prop where
 inl:y.inputs.length=I.length
 hal:y.has.length=H
 num:∀i,i<I.length->xU I i=true->(jA I i).low<=y.inputs.getD i 0/\y.inputs.getD i 0<=(jA I i).high
 flag:∀i,i<I.length->xU I i=false->y.inputs.getD i 0=0\/y.inputs.getD i 0=1
def kQ(e l:vG)(i:Nat):Bool:=mB e i || mB l i
def uS(e l:vG)(c:Nat):Bool:=lQ e c || lQ l c
def vO(I:List yH)(e l:vG):List Nat:=(List.range I.length).filter fun i=>kQ e l i&&xU I i
theorem lL:i∈vO I e l ↔ i<I.length/\kQ e l i=true/\xU I i=true:=by
 unfold vO;rw[ma,db,tz]
theorem nZ{p:Nat}(h:p<(vO I e l).length):(vO I e l).getD p 0∈vO I e l:=by simp[List.getD,h]
theorem YM(hi:i<I.length)(ha:kQ e l i=true)(hn:xU I i=true):∃p,p<(vO I e l).length/\(vO I e l).getD p 0=i:=by
 obtain⟨p,hp,e⟩:=f9 (lL.2 ⟨hi,ha,hn⟩);exact⟨p,hp,by simp[List.getD,hp,e]⟩
def mC(I:List yH)(e l:vG)(i:Nat):List (Int × Int):=nS (jA I i).low (jA I i).high (xR e i) (xR l i)
structure zF4(I:List yH)(e l:vG)(rk:List Nat)(o:List Int)(y t:vD):Prop where
 inl:t.inputs.length=I.length
 num:∀p,p<(vO I e l).length->t.inputs.getD ((vO I e l).getD p 0) 0=o.getD (rk.getD p 0) 0
 flag:∀i,i<I.length->kQ e l i=true->xU I i=false->t.inputs.getD i 0=y.inputs.getD i 0
 need:∀c:Nat,uS e l c=true->pF t.has (c:Int)=true
 has:∀c:Nat,uS e l c=false->(vX e c || vX l c)=true->pF t.has (c:Int)=pF y.has (c:Int)
theorem U6(h:b∈xR r i):mB r i=true:=by
 obtain⟨y,hy,_⟩:=mn.1 h;have hf:=ma.1 hy;have h2:=hf.2;simp only[tz,pw]at h2;exact mj.2 ⟨y,hf.1,by simp[h2.1,h2.2.2]⟩
theorem Vl{H:Nat}(hpe:iY e I.length (xU I))(hpl:iY l I.length (xU I))(hr:∀i,i<I.length->xU I i=true->0<=(jA I i).low/\(jA I i).high<=9999){y:vD}(hy:oS I H y)(he:tP e y=true)(hl:tP l y=true) :
 ∃Z:List (Int × Int),Z.length=(vO I e l).length/\(∀p,p<(vO I e l).length->Z.getD p (0,0)∈mC I e l ((vO I e l).getD p 0))/\∃rk:List Nat,rk.length=Z.length/\(∀r∈rk,r<Z.length)/\∃o,rC (gY Z rk)=some o/\∀t,zF4 I e l rk o y t->tP e t=true/\tP l t=true:=by
 obtain⟨Z,hZl,hZ⟩:=VI (0,0) (fun p z=>z∈mC I e l ((vO I e l).getD p 0)/\z.1<=y.inputs.getD ((vO I e l).getD p 0) 0/\y.inputs.getD ((vO I e l).getD p 0) 0<=z.2) (vO I e l).length (fun p hp=>by
  obtain⟨hi,_,hn⟩:=lL.1 (nZ hp);have hrm:=hy.num _ hi hn;obtain⟨z,hz,h1⟩:=(Xa (jA I ((vO I e l).getD p 0)).low (jA I ((vO I e l).getD p 0)).high (xR e ((vO I e l).getD p 0)) (xR l ((vO I e l).getD p 0))).cover _ hrm.1 hrm.2;exact⟨z,hz,h1⟩)
 have hYg:∀p,p<(vO I e l).length->((vO I e l).map fun i=>y.inputs.getD i 0).getD p 0=y.inputs.getD ((vO I e l).getD p 0) 0:=fun p hp=>by simp[List.getD,hp]
 obtain⟨rk,hrl,hrr,o,ho,hord⟩:=F8 Z ((vO I e l).map fun i=>y.inputs.getD i 0) (by simp[hZl]) (fun p hp=>by
  rw[hYg p (by omega)];exact(hZ p (by omega)).2) (fun x hx=>by
  obtain⟨i,hi,rfl⟩:=mn.1 hx;obtain⟨h1,_,h3⟩:=lL.1 hi;have:=hr i h1 h3;have:=hy.num i h1 h3;show 0<=y.inputs.getD i 0/\y.inputs.getD i 0<=9999;omega)
 refine⟨Z,hZl,fun p hp=>(hZ p hp).1,rk,hrl,hrr,o,ho,fun t ht=>?_⟩
 have hsound:=Xo (L:=gY Z rk) (fun n hn=>by
  obtain⟨i,hi,rfl⟩:=Jd hn;rw[Je];exact hrr _ (by simp[List.getD,show i<rk.length by omega])) ho
 have zIR:∀p,p<(vO I e l).length->(Z.getD p (0,0)).1<=t.inputs.getD ((vO I e l).getD p 0) 0/\t.inputs.getD ((vO I e l).getD p 0) 0<=(Z.getD p (0,0)).2:=fun p hp=>by
  rw[ht.num p hp];exact hsound _ (Vs rk (show p<Z.length by omega))
 have hal:∀r:vG,(r=e\/r=l)->zBO r (xU I) y t:=fun r hre=>by
  have hask:∀i,mB r i=true->kQ e l i=true:=fun i h=>by unfold kQ;rcases hre with rfl|rfl <;> rw[h] <;> simp
  have hnd:∀c,lQ r c=true->uS e l c=true:=fun c h=>by unfold uS;rcases hre with rfl|rfl <;> rw[h] <;> simp
  have hah:∀c,vX r c=true->(vX e c || vX l c)=true:=fun c h=>by rcases hre with rfl|rfl <;> rw[h] <;> simp
  have hny:∀c,uS e l c=true->pF y.has (c:Int)=true:=fun c h=>by
   unfold uS at h;rcases(mz _ _).mp h with h|h
   ·exact J7 he h
   ·exact J7 hl h
  refine⟨by rw[hy.inl,ht.inl],fun c hc=>?_,fun i hi ha hn=>?_,fun i hi hn b hb=>?_,fun i j hi hj ha ha2 hn hn2=>?_⟩
  ·cases hnc:uS e l c
   ·rcases(mz _ _).mp hc with hc|hc
    ·rw[hnd c hc]at hnc;exact absurd hnc (by decide)
    ·exact(ht.has c hnc (hah c hc)).symm
   ·rw[hny c hnc,ht.need c hnc]
  ·exact(ht.flag i (by rw[<-hy.inl];exact hi) (hask i ha) hn).symm
  ·obtain⟨p,hp,e1⟩:=YM (by rw[<-hy.inl];exact hi) (hask i (U6 hb)) hn
   have hz:=hZ p hp;have ht2:=zIR p hp;rw[e1]at hz ht2;have:=(Xa (jA I i).low (jA I i).high (xR e i) (xR l i)).side _ hz.1 b (by rcases hre with rfl|rfl <;> simp[hb]) _ ht2.1 ht2.2 _ hz.2.1 hz.2.2;exact this
  ·obtain⟨p,hp,e1⟩:=YM (by rw[<-hy.inl];exact hi) (hask i ha) hn
   obtain⟨q,hq,e2⟩:=YM (by rw[<-hy.inl];exact hj) (hask j ha2) hn2;have h1:=hord p q (by omega) (by omega);rw[hYg p hp,hYg q hq,e1,e2]at h1;have h2:=ht.num p hp;have h3:=ht.num q hq;rw[e1]at h2;rw[e2]at h3;rw[h2,h3];exact h1.symm
 exact⟨by rw[<-JC (hy.inl ▸ hpe) (hal e (.inl rfl))];exact he,by rw[<-JC (hy.inl ▸ hpl) (hal l (.inr rfl))];exact hl⟩
theorem zDL{l:List zF}(h:(l.map zF.name).Nodup):∀x∈l,∀z∈l,x.name=z.name->x=z:=by
 induction l with
 | nil=>intro x hx;cases hx
 | cons a r ih =>
   rw[dm,List.nodup_cons]at h;intro x hx z hz e;rcases pi.1 hx with h1|h1
   ·rcases pi.1 hz with h2|h2
    ·rw[h1,h2]
    ·rw[h1]at e;exact absurd (mn.2 ⟨z,h2,e.symm⟩) h.1
   ·rcases pi.1 hz with h2|h2
    ·rw[h2]at e;exact absurd (mn.2 ⟨x,h1,e⟩) h.1
    ·exact ih h.2 x h1 z h2 e
theorem K5(h:uL ls){z:zF}(hx:x∈DQ ls)(hz:z∈DQ ls)(e:x.name=z.name):x=z:=zDL (by rw[<-XT];exact XS h) x hx z hz e
theorem nD(hi:i<(yM ls).length):∃x,x∈DQ ls/\x∈ls/\jA (yM ls) i=oY x/\(xM ls).getD i []=x.name:=by
 rw[Zp,ms]at hi;have hm:(DQ ls).getD i UU∈DQ ls:=Zs _ hi;refine⟨(DQ ls).getD i UU,hm,(ma.1 hm).1,?_,?_⟩
 ·unfold jA;rw[Zp];exact XY _ _ _ _ _ hi
 ·rw[XT];exact XY _ _ _ _ _ hi
theorem DP(h:x∈ls)(hk:x.kind=1\/x.kind=2):x∈DQ ls:=ma.2 ⟨h,tm hk⟩
theorem zAC{k:Int}(h:x∈ls)(hk:x.kind=k):vP ls k x.name=true:=mj.2 ⟨x,h,by unfold Zn;rw[tm hk];simp⟩
theorem jm{nm:Bs}{k:Int}(h:vP ls k nm=true):∃x∈ls,x.kind=k/\x.name=nm:=by
 obtain⟨x,h1,h2⟩:=mj.1 h;unfold Zn at h2;rw[tz,pw,pw]at h2;exact⟨x,h1,h2.1,h2.2⟩
def iE(ls:List zF)(k:Nat):Bool:=decide (k<(yM ls).length)&&xU (yM ls) k
theorem mP(hk:x.kind=1\/x.kind=2):(!(oY x).isFlag)=decide (x.kind=1):=by
 unfold oY;rcases hk with h|h
 ·rw[tj h,tm h];rfl
 ·rw[tg (by omega),th (by omega)];rfl
theorem Vp(hA:yQ ls us)(h:uL ls){ins:Nat}(hk:k<ins)(hx:x∈DQ ls)(hn:x.kind=1)(e:names.getD k []=x.name):qG us names ins k=(x.low,x.high):=by
 have hr:tE us (names.getD k [])=true:=by rw[Za hA,e];exact zAC (ma.1 hx).1 hn
 have h0:0<=zV us xK 1 (names.getD k []):=bg hr;unfold qG;rw[tj ⟨hk,h0⟩];have h1:=pO (aG xK 1 (names.getD k [])) us 0;have h2:=iP (aG xK 1 (names.getD k [])) us 0 h0;obtain⟨f,hf⟩:∃f:Nat,zV us xK 1 (names.getD k [])=f:=⟨(zV us xK 1 (names.getD k [])).toNat,by omega⟩;have hf2:vR (aG xK 1 (names.getD k [])) us 0=f:=hf;rw[hf2]at h1 h2;have zIB:f<us.length:=by omega
 have hL:=hA.get f zIB;have h3:aG xK 1 (names.getD k []) (uA us f)=true:=by simpa using h2
 unfold aG at h3;rw[tz,pw,pw]at h3
 have hz:(lA ls f).kind=1/\xF 0 (tA (uA us f) 2)=(lA ls f).low/\xF 0 (tA (uA us f) 4)=(lA ls f).high:=by
  rcases hL.kind with ⟨q1,-,-,-,-,q2,q3⟩|⟨-,q⟩|⟨-,q,-⟩|⟨-,q,-⟩
  ·exact⟨q1,q2,q3⟩
  ·rw[h3.1]at q;exact absurd q (by decide)
  ·rw[h3.1]at q;exact absurd q (by decide)
  ·rw[h3.1]at q;exact absurd q (by decide)
 have hml:lA ls f∈ls:=by unfold lA;exact Zs _ (by rw[hA.len];exact zIB)
 have hxz:lA ls f=x:=K5 h (DP hml (.inl hz.1)) hx (by rw[<-hL.name,h3.2,e]);rw[hf,Int.toNat_natCast,hz.2.1,hz.2.2,hxz]
theorem Xs{ins:Nat}(h:ins<=k\/tE us (names.getD k [])=false):qG us names ins k=(0,1):=by
 unfold qG;rw[tg];rintro⟨h1,h2⟩;rcases h with h|h
 ·omega
 ·unfold tE at h;rw[tm h2]at h;cases h
theorem Qd{k:Int}{m:Nat}(hl:Zj k=m)(h:∀i,i<ls.length->mJ ls i=false):uW k ls<=m:=by
 have key:∀n,n<=ls.length->uW k (ls.take n)<=m:=by
  intro n
  induction n with
  | zero=>intro _;simp[uW]
  | succ n ih =>
    intro hn;rw[pG ls n (by omega),U2];have ih:=ih (by omega);by_cases hk:(lA ls n).kind=k
    ·have hm:=h n (by omega)
     unfold mJ at hm;rw[lj,bk,hk,hl]at hm;simp only[uW,hk,if_true];omega
    ·simp only[uW,tg hk];omega
 have:=key ls.length (t9 _)
 rwa [lp]at this
theorem J1{α:Type}(p:α->Bool)(d:α):∀(l:List α) (n:Nat),((List.range n).filter fun k=>decide (k<l.length)&&p (l.getD k d)).length<=(l.filter p).length
 | [],n=>by
   rw[List.filter_eq_nil_iff.2 (by intro k _;simp)];exact tr _
 | a::l,0=>by simp
 | a::l,n+1=>by
   have ih:=J1 p d l n;rw[List.range_succ_eq_map,List.filter_cons,List.filter_map,List.filter_cons]
   have e:((fun k=>decide (k<(a::l).length)&&p ((a::l).getD k d)) ∘ Nat.succ)=fun k=>decide (k<l.length)&&p (l.getD k d):=by
    funext k;simp[List.getD]
   rw[e];have e0:(decide (0<(a::l).length)&&p ((a::l).getD 0 d))=p a:=by simp[List.getD]
   rw[e0];cases p a <;> simp only[if_true,if_false,p7,ms,Bool.false_eq_true] <;> omega
theorem qo(ls:List zF):((yM ls).filter fun m => !m.isFlag).length<=uW 1 ls:=by
 rw[Zp];unfold DQ
 induction ls with
 | nil=>simp
 | cons x r ih =>
   rw[List.filter_cons,uW];by_cases h1:x.kind=1\/x.kind=2
   ·rw[tm h1,tj rfl,dm,List.filter_cons,mP h1]
    by_cases h2:x.kind=1
    ·rw[tm h2,tj rfl,tj h2,p7];omega
    ·rw[th h2,tg (by simp),tg h2];omega
   ·rw[th h1,tg (by simp),tg (by omega)];omega
theorem jz(ls:List zF):(yM ls).length=uW 1 ls+uW 2 ls:=by
 rw[Zp,ms];unfold DQ
 induction ls with
 | nil=>simp[uW]
 | cons x r ih =>
   rw[List.filter_cons,uW,uW];by_cases h1:x.kind=1
   ·rw[tm (.inl h1),tj rfl,tj h1,tg (by omega),p7,ih];omega
   ·by_cases h2:x.kind=2
    ·rw[tm (.inr h2),tj rfl,tg h1,tj h2,p7,ih];omega
    ·rw[th (by omega),tg (by simp),tg h1,tg h2,ih];omega
theorem VZ(h:uL ls):(yM ls).length<=6:=by
 have h1:=Qd (k:=1) (m:=3) (by decide) h.many;have h2:=Qd (k:=2) (m:=3) (by decide) h.many;rw[jz];omega
theorem tU(ls:List zF):(xM ls).length=(yM ls).length:=by unfold xM;rw[ms]
theorem VD(h:uL ls)(hx:x∈ls)(hk:x.kind=1):x.low<=x.high:=by
 obtain⟨i,hi,rfl⟩:=XC hx;have he:=h.err i hi;unfold pP at he;rw[tj hk]at he;unfold iF at he;by_cases h0:lV ls i=0
 ·rw[tj h0]at he
  rcases cr (lA ls i).high (lA ls i).low with h1|h1
  ·rw[tj h1]at he;exact absurd he (by decide)
  ·exact h1
 ·rw[tg h0]at he;exact absurd he h0
theorem Co(hA:yQ ls us)(hk:k<(yM ls).length):(vJ us).getD k []=(xM ls).getD k []:=by
 unfold vJ;rw[dS hA];simp[List.getD,m6 (show k<(xM ls).length by rw[tU];exact hk)]
theorem ke(hA:yQ ls us)(h:uL ls):zBD us (vJ us) (tJ us).length (iE ls):=by
 have hins:(tJ us).length=(yM ls).length:=by rw[dS hA,tU]
 have hk1:∀k,iE ls k=true->k<(yM ls).length/\xU (yM ls) k=true:=fun k hk=>by
  unfold iE at hk;rw[tz,pw]at hk;exact hk
 refine⟨fun k hk=>by rw[hins];exact(hk1 k hk).1,fun k _ hn=>?_,fun k _ hn=>?_,?_⟩
 ·obtain⟨zIB,hn⟩:=hk1 k hn
  obtain⟨x,x1,x2,x3,x4⟩:=nD zIB;have hk:=aJ x1
  have h1:x.kind=1:=by
   unfold xU at hn;rw[x3,mP hk]at hn;exact bg hn
  have e:=(Co hA zIB).trans x4;refine⟨by rw[Za hA,e];exact zAC x2 h1,?_,?_⟩
  ·rw[ZP hA,e]
   cases hc:vP ls 2 x.name with
   | false=>rfl
   | true =>
     obtain⟨z,z1,z2,z3⟩:=jm hc;have:=K5 h (DP z1 (.inr z2)) x1 z3;rw[this]at z2;omega
  ·rw[Vp hA h (by rw[hins];exact zIB) x1 h1 e]
   exact VD h x2 h1
 ·by_cases zIB:k<(yM ls).length
  ·obtain⟨x,x1,x2,x3,x4⟩:=nD zIB
   have hk:=aJ x1
   have h2:x.kind=2:=by
    unfold iE at hn;rw[tm zIB,md]at hn;unfold xU at hn;rw[x3,mP hk,bk]at hn;omega
   have e:=(Co hA zIB).trans x4;refine⟨.inr (by rw[ZP hA,e];exact zAC x2 h2),Xs (.inr ?_)⟩;rw[Za hA,e]
   cases hc:vP ls 1 x.name with
   | false=>rfl
   | true =>
     obtain⟨z,z1,z2,z3⟩:=jm hc;have:=K5 h (DP z1 (.inl z2)) x1 z3;rw[this]at z2;omega
  ·exact⟨.inl (by rw[hins];omega),Xs (.inl (by rw[hins];omega))⟩
 ·refine tx ?_ (Qd (k:=1) (m:=3) (by decide) h.many)
  refine tx ?_ (qo ls);exact J1 (fun m:yH => !m.isFlag) x9 (yM ls) (vJ us).length
def zF8(names:List Bs)(N:List zX)(s:vQ):Prop:=s.kind=0\/4<=s.kind\/(∃y∈N,(y.kind=5\/y.kind=6)/\s=⟨1,zH names y.name,0,[],0⟩)\/(∃y∈N,y.kind=7/\y.other=[]/\s=⟨2,zH names y.name,0,y.mark,y.num⟩)\/(∃y∈N,y.kind=7/\y.other≠[]/\s=⟨3,zH names y.name,zH names y.other,y.mark,0⟩)
theorem QV{u:zG}{x:Bs × Int}{N:List zX}{a:Int}(h:Gr k u x N a)(n:Nat)(hn:u.length<n):∀s∈vM names n u,zF8 names N s:=by
 have nmem:∀ {N:List zX} {a:Int},0<=a->a<N.length->qZ N a.toNat∈N:=fun {N a} h0 h1=>by
  unfold qZ;simp[List.getD,show a.toNat<N.length by omega]
 refine Gr.ind (R:=fun _ u _ N _=>∀n,u.length<n->∀s∈vM names n u,zF8 names N s) ?_ ?_ ?_ ?_ ?_ h n hn
 ·intro k u N a h hT n hn
  obtain⟨n,rfl⟩:∃m,n=m+1:=⟨n-1,by omega⟩;have e1:yF u xX = -1:=jM xX (.inl rfl) u h.2 0 0 (-1);have e2:yF u yE = -1:=jM yE (.inr rfl) u h.2 0 0 (-1)
  have hp:tN (cA u 0):=by
   obtain⟨h1,h2⟩:=h
   cases u with
   | nil=>exact absurd rfl h1
   | cons t r=>exact h2 t (mw ..)
  obtain⟨h0,zIB,hk4,-,hTT⟩:=hT;have hE:=nmem h0 zIB;rw[vM,e1,e2,tg (by omega),tg (by omega),tg hp.2.2.2.2.2,tg hp.2.2.2.1];generalize qZ N a.toNat=y at *;intro s hs;rw[pu]at hs;subst hs;rcases hTT with ⟨k4,t,rfl,c1⟩|⟨k5,t,s,rfl,c1,c2,nm⟩|⟨k6,t,rfl,c1,nm⟩|⟨k7,t,m,s,rfl,c1,nm,hm,mk,ho⟩
  ·left;unfold mH;rw[tj (show cA [t] 0=VP from c1)]
  ·refine .inr (.inr (.inl ⟨y,hE,.inl k5,?_⟩))
   unfold mH;rw[tg (by show ¬zR t.2=_;rw[c1];decide),tj (show cA [t,s] 0=iO from c1),nm];rfl
  ·have nh:cA [t] 0≠iO:=by show zR t.2≠_;rw[c1];decide
   refine .inr (.inr (.inl ⟨y,hE,.inr k6,?_⟩));unfold mH;rw[tg (by show ¬zR t.2=_;rw[c1];decide),tg nh,tg (by simp),nm];rfl
  ·have nh:cA [t,m,s] 0≠iO:=by show zR t.2≠_;rw[c1];decide
   have na:¬cA [t,m,s] 0=VP:=by show ¬zR t.2=_;rw[c1];decide
   rcases ho with ⟨cs,ho,zJ5⟩|⟨cs,ho,zIM⟩
   ·refine .inr (.inr (.inr (.inl ⟨y,hE,k7,ho,?_⟩)))
    unfold mH;rw[tg na,tg nh,tj (show [t,m,s].length=3 from rfl),tj (show cA [t,m,s] 2=yA from cs),nm,mk,zJ5];rfl
   ·refine .inr (.inr (.inr (.inr ⟨y,hE,k7,by rw[ho];exact zIM,?_⟩)))
    unfold mH;rw[tg na,tg nh,tj (show [t,m,s].length=3 from rfl),tg (show ¬cA [t,m,s] 2=yA by show ¬zR s.2=_;rw[cs];decide),nm,mk,ho];rfl
 ·intro k t u x N a h1 h2 h3 ih n hn
  obtain⟨n,rfl⟩:∃m,n=m+1:=⟨n-1,by omega⟩;have hW:Gr 0 (t::u) (QE x) N a:=bH.neg _ _ _ _ _ _ h1 h2 h3;have e1:yF (t::u) xX = -1:=hW.out0 xX (.inl rfl) 0 (-1);have e2:yF (t::u) yE = -1:=hW.out0 yE (.inr rfl) 0 (-1);have hc:cA (t::u) 0=yW:=h1;have i1:=ih n (by simp at hn;omega);rw[vM,e1,e2,tg (by omega),tg (by omega),tj hc];simp only[List.drop_succ_cons,List.drop_zero];intro s hs;rcases pt.1 hs with hs|hs
  ·exact i1 s hs
  ·rw[pu]at hs;subst hs;exact .inr (.inl (by decide))
 ·intro k o u c x N a h1 h2 h3 ih n hn
  obtain⟨n,rfl⟩:∃m,n=m+1:=⟨n-1,by omega⟩;have e1:yF (o::(u++[c])) xX = -1:=dB xX (.inl rfl) h1 h2 h3 0 (-1);have e2:yF (o::(u++[c])) yE = -1:=dB yE (.inr rfl) h1 h2 h3 0 (-1);have hc:cA (o::(u++[c])) 0=yP:=h1;have hc':¬cA (o::(u++[c])) 0=yW:=by rw[hc];decide
  rw[vM,e1,e2,tg (by omega),tg (by omega),tg hc',tj hc];have e3:((o::(u++[c])).drop 1).take ((o::(u++[c])).length-2)=u:=by simp
  rw[e3];exact ih n (by simp at hn;omega)
 ·intro k u t v x y N a h1 h2 h3 h4 h5 ihu ihv n hn
  obtain⟨n,rfl⟩:∃m,n=m+1:=⟨n-1,by omega⟩;have hW:Gr 1 (u++t::v) (UC x y) N a:=bH.and _ _ _ _ _ _ _ _ (t9 _) h2 h3 h4 h5;have e1:yF (u++t::v) xX = -1:=hW.out1 (t9 _) 0 (-1)
  have e2:yF (u++t::v) yE=u.length:=by
   unfold yF;rw[qS,h4.op,uU,h2,cC,tj ⟨rfl,rfl⟩,h5.out0 yE (.inr rfl)];omega
  have hl:(u++t::v).length=u.length+1+v.length:=by simp;omega
  have i1:=ihu n (by omega);have j1:=ihv n (by omega);have t1:(u++t::v).take u.length=u:=by simp
  have t2:(u++t::v).drop (u.length+1)=v:=by simp
  rw[vM,e1,e2,tg (by omega),tj (Int.natCast_nonneg _),Int.toNat_natCast,t1,t2];intro s hs;rcases pt.1 hs with hs|hs
  ·rcases pt.1 hs with hs|hs
   ·exact i1 s hs
   ·exact j1 s hs
  ·rw[pu]at hs;subst hs;exact .inr (.inl (by decide))
 ·intro k u t v x y N a h1 h2 h3 h4 h5 ihu ihv n hn
  obtain⟨n,rfl⟩:∃m,n=m+1:=⟨n-1,by omega⟩
  have e2:yF (u++t::v) xX=u.length:=by
   unfold yF;rw[qS,h4.op,uU,h2,rX,tj ⟨rfl,rfl⟩,h5.out1 (t9 _)];omega
  have hl:(u++t::v).length=u.length+1+v.length:=by simp;omega
  have i1:=ihu n (by omega);have j1:=ihv n (by omega);have t1:(u++t::v).take u.length=u:=by simp
  have t2:(u++t::v).drop (u.length+1)=v:=by simp
  rw[vM,e2,tj (Int.natCast_nonneg _),Int.toNat_natCast,t1,t2];intro s hs;rcases pt.1 hs with hs|hs
  ·rcases pt.1 hs with hs|hs
   ·exact i1 s hs
   ·exact j1 s hs
  ·rw[pu]at hs;subst hs;exact .inr (.inl (by decide))
theorem ZW{α:Type}(p:α->Bool)(d:α)(l:List α)(i:Nat)(h:i<l.length):(l.drop i).any p=(p (l.getD i d) || (l.drop (i+1)).any p):=by
 rw[pb h,mt];simp[List.getD,h]
theorem KG{α:Type}(p:α->Bool)(l:List α)(i:Nat)(h:¬i<l.length):(l.drop i).any p=false:=by
 rw[tu (by omega)];rfl
def lP(i:Nat)(y:jJ):Bool:=if y.kind=6 then decide (y.place=(i:Int)) else if y.kind=7 then decide (y.place=(i:Int)) || (y.two&&decide (y.other=(i:Int))) else false
theorem Fh(w:World)(x:MX)(c:Nat)(hx:kJ w x) :
 Calls Tryz.prog 125 #[qW x,.int .i64 (c:Int)] w fun e w'=>e=.returned (.bool (lQ x.1 c))/\Below w.heap.size w w':=by
 obtain⟨pa,pc,e1,hp⟩:=hx.sum;obtain⟨ga,gc,e2,hg⟩:=hx.guard;have HP:=zA hp.cel;have zIP:=hx.few1;obtain⟨⟨lab,cc,ps,gd,root⟩,pv,gv⟩:=x;simp only at e1 e2 HP zIP;subst e1 e2;simp only[qW];have HE0:Hid (∀b,ps.any (fun p=>decide (p.kind=3)&&decide (p.place=(c:Int)))=b->lQ ⟨lab,cc,ps,gd,root⟩ c=b):=fun b h=>h;generalize lQ ⟨lab,cc,ps,gd,root⟩ c=ans at *;clear hx hp hg
 go_enter Tryz.func125,Tryz.ntmps125
 go_wp2_with fail
 generalize hO1:Obj.cells #[.string ⟨lab.toArray⟩,.int .i64 cc,.slice pa ps.length pc,.slice ga gd.length gc,.int .i64 root] 176=O1 at *;clear hO1;have HB0:Hid (Below w.heap.size w (w.alloc O1)):=gj (t9 _) _;generalize w.alloc O1=w0 at *
 go_loopw [10] (fun iv wr=>∃(i:Nat),i<=ps.length/\iv=.int .i64 i/\Hid (Below w.heap.size w wr)/\Hid ((ps.drop i).any (fun p=>decide (p.kind=3)&&decide (p.place=(c:Int)))=ps.any (fun p=>decide (p.kind=3)&&decide (p.place=(c:Int))))) (fun iv _=>ps.length-(intOf iv).toNat)
 case atStart=>exact⟨0,tr _,rfl,HB0,zA rfl⟩
 case round =>
  obtain⟨i,hi,rfl,HB,HE⟩:=hrel;have zIJ:=HB.out.size;by_cases zIB:i<ps.length
  ·have ii:(i:Int)<(ps.length:Int):=by omega
   have zJ7:=HP.out.below HB.out;obtain⟨gp,rfl,q0⟩:=zJ7.at ((zW cW 3 (fun _=>rfl) zD7 ps i 0 zIB (by decide)).trans rfl);have hq:=fun j hj v hv=>(zJ7.at ((zW cW 3 (fun _=>rfl) zD7 ps i j zIB hj).trans hv)).elim fun g' h=>(show gp=g' by simpa using h.1) ▸ (show w.heap.size<=wr.heap.size/\wr.cell? ⟨g',i*3+j,none⟩=some v from ⟨zIJ,h.2⟩).2;have q1:=hq 1 (by decide) _ rfl;have q2:=hq 2 (by decide) _ rfl;rw[pq]at q0;have lgp:=zT q0;have mgp:wr.heap.size≠gp:=by omega
   have hE:=HE.out;rw[ZW (fun p=>decide (p.kind=3)&&decide (p.place=(c:Int))) zD7 ps i zIB]at hE;have HE2:=zA hE;have HBa:Hid (∀o,Below w.heap.size w (wr.alloc o)):=fun o=>HB.out.alloc zIJ o;clear HE hE zJ7 hq;generalize ps.getD i zD7=y at *;obtain⟨yk,yn,yp⟩:=y;simp only at q0 q1 q2 HE2;by_cases k1:yk=3
   ·subst k1
    simp only[fo,md]at HE2;by_cases k2:yp=(c:Int)
    ·subst k2
     have HE3:Hid (ans=true):=HE0.out _ (by rw[<-HE2.out];simp);go_wp2_with fail
     go_ret
     exact⟨zE HE3.out.symm,HBa.out _⟩
    ·have b2:(yp==(c:Int))=false:=by simpa using k2
     have HE3:Hid ((ps.drop (i+1)).any (fun p=>decide (p.kind=3)&&decide (p.place=(c:Int)))=ps.any (fun p=>decide (p.kind=3)&&decide (p.place=(c:Int)))):=by have:=HE2.out;rw[th k2,pm]at this;exact this
     clear k2;go_wp2_with fail
     go_roundw
     case rel=>exact⟨i+1,by omega,by go_num,zA (HBa.out _),HE3⟩
     case measure=>simp[intOf];omega
   ·have b1:(yk==3)=false:=by simpa using k1
    have HE3:Hid ((ps.drop (i+1)).any (fun p=>decide (p.kind=3)&&decide (p.place=(c:Int)))=ps.any (fun p=>decide (p.kind=3)&&decide (p.place=(c:Int)))):=by have:=HE2.out;rw[th k1,l5,pm]at this;exact this
    clear k1;go_wp2_with fail
    go_roundw
    case rel=>exact⟨i+1,by omega,by go_num,zA (HBa.out _),HE3⟩
    case measure=>simp[intOf];omega
  ·have ii:¬(i:Int)<(ps.length:Int):=by omega
   have HE2:Hid (ans=false):=HE0.out _ (by rw[<-HE.out];exact KG _ _ _ zIB);go_wp2_with fail
   go_ret
   exact⟨zE HE2.out.symm,HB.out⟩
theorem JN(w:World)(x:MX)(c:Nat)(hx:kJ w x) :
 Calls Tryz.prog 126 #[qW x,.int .i64 (c:Int)] w fun e w'=>e=.returned (.bool (vX x.1 c))/\Below w.heap.size w w':=by
 obtain⟨pa,pc,e1,hp⟩:=hx.sum;obtain⟨ga,gc,e2,hg⟩:=hx.guard;have HP:=zA hg.cel;have zIP:=hx.few2;obtain⟨⟨lab,cc,ps,gd,root⟩,pv,gv⟩:=x;simp only at e1 e2 HP zIP;subst e1 e2;simp only[qW];have HE0:Hid (∀b,gd.any (fun y=>decide (y.kind=5)&&decide (y.place=(c:Int)))=b->vX ⟨lab,cc,ps,gd,root⟩ c=b):=fun b h=>h;generalize vX ⟨lab,cc,ps,gd,root⟩ c=ans at *;clear hx hp hg
 go_enter Tryz.func126,Tryz.ntmps126
 go_wp2_with fail
 generalize hO1:Obj.cells #[.string ⟨lab.toArray⟩,.int .i64 cc,.slice pa ps.length pc,.slice ga gd.length gc,.int .i64 root] 176=O1 at *;clear hO1;have HB0:Hid (Below w.heap.size w (w.alloc O1)):=gj (t9 _) _;generalize w.alloc O1=w0 at *
 go_loopw [10] (fun iv wr=>∃(i:Nat),i<=gd.length/\iv=.int .i64 i/\Hid (Below w.heap.size w wr)/\Hid ((gd.drop i).any (fun y=>decide (y.kind=5)&&decide (y.place=(c:Int)))=gd.any (fun y=>decide (y.kind=5)&&decide (y.place=(c:Int))))) (fun iv _=>gd.length-(intOf iv).toNat)
 case atStart=>exact⟨0,tr _,rfl,HB0,zA rfl⟩
 case round =>
  obtain⟨i,hi,rfl,HB,HE⟩:=hrel;have zIJ:=HB.out.size;by_cases zIB:i<gd.length
  ·have ii:(i:Int)<(gd.length:Int):=by omega
   have zJ7:=HP.out.below HB.out;obtain⟨gp,rfl,q0⟩:=zJ7.at ((zW kO 10 (fun _=>rfl) sB gd i 0 zIB (by decide)).trans rfl);have hq:=fun j hj v hv=>(zJ7.at ((zW kO 10 (fun _=>rfl) sB gd i j zIB hj).trans hv)).elim fun g' h=>(show gp=g' by simpa using h.1) ▸ (show w.heap.size<=wr.heap.size/\wr.cell? ⟨g',i*10+j,none⟩=some v from ⟨zIJ,h.2⟩).2;have q1:=hq 1 (by decide) _ rfl;have q2:=hq 2 (by decide) _ rfl;have q3:=hq 3 (by decide) _ rfl;have q4:=hq 4 (by decide) _ rfl;have q5:=hq 5 (by decide) _ rfl;have q6:=hq 6 (by decide) _ rfl;have q7:=hq 7 (by decide) _ rfl;have q8:=hq 8 (by decide) _ rfl;have q9:=hq 9 (by decide) _ rfl;rw[pq]at q0;have lgp:=zT q0;have mgp:wr.heap.size≠gp:=by omega
   have hE:=HE.out;rw[ZW (fun y=>decide (y.kind=5)&&decide (y.place=(c:Int))) sB gd i zIB]at hE;have HE2:=zA hE;have HBa:Hid (∀o,Below w.heap.size w (wr.alloc o)):=fun o=>HB.out.alloc zIJ o;clear HE hE zJ7 hq;generalize gd.getD i sB=y at *;obtain⟨yk,yl,yr,yp,y2,yo,yn,yb1,yb2,yb3⟩:=y;simp only at q0 q1 q2 q3 q4 q5 q6 q7 q8 q9 HE2;by_cases k1:yk=5
   ·subst k1
    simp only[fo,md]at HE2;by_cases k2:yp=(c:Int)
    ·subst k2
     have HE3:Hid (ans=true):=HE0.out _ (by rw[<-HE2.out];simp);go_wp2_with fail
     go_ret
     exact⟨zE HE3.out.symm,HBa.out _⟩
    ·have b2:(yp==(c:Int))=false:=by simpa using k2
     have HE3:Hid ((gd.drop (i+1)).any (fun y=>decide (y.kind=5)&&decide (y.place=(c:Int)))=gd.any (fun y=>decide (y.kind=5)&&decide (y.place=(c:Int)))):=by have:=HE2.out;rw[th k2,pm]at this;exact this
     clear k2;go_wp2_with fail
     go_roundw
     case rel=>exact⟨i+1,by omega,by go_num,zA (HBa.out _),HE3⟩
     case measure=>simp[intOf];omega
   ·have b1:(yk==5)=false:=by simpa using k1
    have HE3:Hid ((gd.drop (i+1)).any (fun y=>decide (y.kind=5)&&decide (y.place=(c:Int)))=gd.any (fun y=>decide (y.kind=5)&&decide (y.place=(c:Int)))):=by have:=HE2.out;rw[th k1,l5,pm]at this;exact this
    clear k1;go_wp2_with fail
    go_roundw
    case rel=>exact⟨i+1,by omega,by go_num,zA (HBa.out _),HE3⟩
    case measure=>simp[intOf];omega
  ·have ii:¬(i:Int)<(gd.length:Int):=by omega
   have HE2:Hid (ans=false):=HE0.out _ (by rw[<-HE.out];exact KG _ _ _ zIB);go_wp2_with fail
   go_ret
   exact⟨zE HE2.out.symm,HB.out⟩
theorem Y6(w:World)(x:MX)(c:Nat)(hx:kJ w x) :
 Calls Tryz.prog 122 #[qW x,.int .i64 (c:Int)] w fun e w'=>e=.returned (.bool (mB x.1 c))/\Below w.heap.size w w':=by
 obtain⟨pa,pc,e1,hp⟩:=hx.sum;obtain⟨ga,gc,e2,hg⟩:=hx.guard;have HP:=zA hg.cel;have zIP:=hx.few2;obtain⟨⟨lab,cc,ps,gd,root⟩,pv,gv⟩:=x;simp only at e1 e2 HP zIP;subst e1 e2;simp only[qW];have HE0:Hid (∀b,gd.any (lP c)=b->mB ⟨lab,cc,ps,gd,root⟩ c=b):=fun b h=>h;generalize mB ⟨lab,cc,ps,gd,root⟩ c=ans at *;clear hx hp hg
 go_enter Tryz.func122,Tryz.ntmps122
 go_wp2_with fail
 generalize hO1:Obj.cells #[.string ⟨lab.toArray⟩,.int .i64 cc,.slice pa ps.length pc,.slice ga gd.length gc,.int .i64 root] 176=O1 at *;clear hO1;have HB0:Hid (Below w.heap.size w (w.alloc O1)):=gj (t9 _) _;generalize w.alloc O1=w0 at *
 go_loopw [10] (fun iv wr=>∃(i:Nat),i<=gd.length/\iv=.int .i64 i/\Hid (Below w.heap.size w wr)/\Hid ((gd.drop i).any (lP c)=gd.any (lP c))) (fun iv _=>gd.length-(intOf iv).toNat)
 case atStart=>exact⟨0,tr _,rfl,HB0,zA rfl⟩
 case round =>
  obtain⟨i,hi,rfl,HB,HE⟩:=hrel;have zIJ:=HB.out.size;by_cases zIB:i<gd.length
  ·have ii:(i:Int)<(gd.length:Int):=by omega
   have zJ7:=HP.out.below HB.out;obtain⟨gp,rfl,q0⟩:=zJ7.at ((zW kO 10 (fun _=>rfl) sB gd i 0 zIB (by decide)).trans rfl);have hq:=fun j hj v hv=>(zJ7.at ((zW kO 10 (fun _=>rfl) sB gd i j zIB hj).trans hv)).elim fun g' h=>(show gp=g' by simpa using h.1) ▸ (show w.heap.size<=wr.heap.size/\wr.cell? ⟨g',i*10+j,none⟩=some v from ⟨zIJ,h.2⟩).2;have q1:=hq 1 (by decide) _ rfl;have q2:=hq 2 (by decide) _ rfl;have q3:=hq 3 (by decide) _ rfl;have q4:=hq 4 (by decide) _ rfl;have q5:=hq 5 (by decide) _ rfl;have q6:=hq 6 (by decide) _ rfl;have q7:=hq 7 (by decide) _ rfl;have q8:=hq 8 (by decide) _ rfl;have q9:=hq 9 (by decide) _ rfl;rw[pq]at q0;have lgp:=zT q0;have mgp:wr.heap.size≠gp:=by omega
   have hE:=HE.out;rw[ZW (lP c) sB gd i zIB]at hE;have HE2:=zA hE;have HBa:Hid (∀o,Below w.heap.size w (wr.alloc o)):=fun o=>HB.out.alloc zIJ o;clear HE hE zJ7 hq;generalize gd.getD i sB=y at *;obtain⟨yk,yl,yr,yp,y2,yo,yn,yb1,yb2,yb3⟩:=y;simp only at q0 q1 q2 q3 q4 q5 q6 q7 q8 q9;unfold lP at HE2;simp only at HE2;have HTr:Hid (∀b,((b || (gd.drop (i+1)).any (lP c))=gd.any (lP c))->b=true->ans=true):=fun b h1 h2=>HE0.out _ (by rw[<-h1,h2];rfl);have HFa:Hid (∀b,((b || (gd.drop (i+1)).any (lP c))=gd.any (lP c))->b=false->(gd.drop (i+1)).any (lP c)=gd.any (lP c)):=fun b h1 h2=>by rw[h2,pm]at h1;exact h1
   by_cases k1:yk=6
   ·subst k1
    simp only[if_true]at HE2;by_cases k2:yp=(c:Int)
    ·have HE3:=zA (HTr.out _ HE2.out (tm k2))
     subst k2;clear HTr HFa HE2;go_wp2_with fail
     go_ret
     exact⟨zE HE3.out.symm,HBa.out _⟩
    ·have b2:(yp==(c:Int))=false:=by simpa using k2
     have HE3:=zA (HFa.out _ HE2.out (th k2));clear k2 HTr HFa HE2;go_wp2_with fail
     go_roundw
     case rel=>exact⟨i+1,by omega,by go_num,zA (HBa.out _),HE3⟩
     case measure=>simp[intOf];omega
   rw[tg k1]at HE2;have b1:(yk==6)=false:=by simpa using k1
   clear k1;by_cases k3:yk=7
   ·subst k3
    simp only[if_true]at HE2;by_cases k2:yp=(c:Int)
    ·have HE3:=zA (HTr.out _ HE2.out (by rw[tm k2];rfl))
     subst k2;clear HTr HFa HE2;go_wp2_with fail
     go_ret
     exact⟨zE HE3.out.symm,HBa.out _⟩
    ·have b2:(yp==(c:Int))=false:=by simpa using k2
     rw[th k2,pm]at HE2;clear k2;cases y2
     ·have HE3:=zA (HFa.out _ HE2.out (by rfl))
      clear HTr HFa HE2;go_wp2_with fail
      go_roundw
      case rel=>exact⟨i+1,by omega,by go_num,zA (HBa.out _),HE3⟩
      case measure=>simp[intOf];omega
     ·by_cases k4:yo=(c:Int)
      ·have HE3:=zA (HTr.out _ HE2.out (by rw[tm k4];rfl))
       subst k4;clear HTr HFa HE2;go_wp2_with fail
       go_ret
       exact⟨zE HE3.out.symm,HBa.out _⟩
      ·have b4:(yo==(c:Int))=false:=by simpa using k4
       have HE3:=zA (HFa.out _ HE2.out (by rw[th k4];rfl));clear k4 HTr HFa HE2;go_wp2_with fail
       go_roundw
       case rel=>exact⟨i+1,by omega,by go_num,zA (HBa.out _),HE3⟩
       case measure=>simp[intOf];omega
   ·have b3:(yk==7)=false:=by simpa using k3
    have HE3:=zA (HFa.out _ HE2.out (by rw[tg k3]));clear k3 HTr HFa HE2;go_wp2_with fail
    go_roundw
    case rel=>exact⟨i+1,by omega,by go_num,zA (HBa.out _),HE3⟩
    case measure=>simp[intOf];omega
  ·have ii:¬(i:Int)<(gd.length:Int):=by omega
   have HE2:Hid (ans=false):=HE0.out _ (by rw[<-HE.out];exact KG _ _ _ zIB);go_wp2_with fail
   go_ret
   exact⟨zE HE2.out.symm,HB.out⟩
def zv(i:Nat)(y:jJ):Bool:=decide (y.kind=7)&&(!y.two&&decide (y.place=(i:Int)))
def fK(l:List jJ)(i:Nat):List Int:=(l.filter (zv i)).map jJ.num
theorem zw(l:List jJ)(c i:Nat)(h:i<l.length):fK (l.take (i+1)) c=fK (l.take i) c++(if zv c (l.getD i sB)=true then [(l.getD i sB).num] else []):=by
 unfold fK;rw[dj,List.filter_append,List.map_append];congr 1
 rw[pe h,show l.getD i sB=l[i] by simp[List.getD,h]];show ([l[i]].filter (zv c)).map jJ.num=_;rw[List.filter_cons,fe];split <;> rfl
theorem zB0(l:List jJ)(c:Nat):(fK l c).length<=l.length:=by unfold fK;rw[ms];exact dg _ _
theorem US(w:World)(x:MX)(c:Nat)(hx:kJ w x) :
 Calls Tryz.prog 123 #[qW x,.int .i64 (c:Int)] w fun e w'=>∃v,e=.returned v/\w'.ownsRow w.heap.size 3 1 v (xR x.1 c).length (vC (xR x.1 c))/\Below w.heap.size w w':=by
 obtain⟨i0,hi0,hz0,hz1,hz2⟩:=dp nE;obtain⟨pa,pc,e1,hp⟩:=hx.sum;obtain⟨ga,gc,e2,hg⟩:=hx.guard;have HP:=zA hg.cel;have zIP:=hx.few2;obtain⟨⟨lab,cc,ps,gd,root⟩,pv,gv⟩:=x;simp only at e1 e2 HP zIP;subst e1 e2;simp only[qW];have HE0:Hid (xR ⟨lab,cc,ps,gd,root⟩ c=fK gd c):=rfl;rw[HE0.out];clear hx hp hg
 go_enter Tryz.func123,Tryz.ntmps123
 go_wp2_with fail
 generalize hO1:Obj.cells #[.string ⟨lab.toArray⟩,.int .i64 cc,.slice pa ps.length pc,.slice ga gd.length gc,.int .i64 root] 176=O1 at *;clear hO1;have HB0:Hid (Below w.heap.size w (w.alloc O1)):=gj (t9 _) _;have hs0:(w.alloc O1).heap.size=w.heap.size+1:=by simp
 have HO0:Hid (((w.alloc O1).alloc (.cells #[] 3)).ownsRow w.heap.size 3 1 (.slice (some ⟨w.heap.size+1,0,none⟩) 0 0) 0 (vC (fK (gd.take 0) c))):=⟨rfl,.inr ⟨w.heap.size+1,0,#[],rfl,bm _,xY _ _ _ hs0,t9 _,tr _,rfl,rfl⟩⟩;have HB1:Hid (Below w.heap.size w ((w.alloc O1).alloc (.cells #[] 3))):=HB0.out.alloc (by omega) _;generalize (w.alloc O1).alloc (.cells #[] 3)=w0 at *
 go_loopw [5,12] (fun ov iv wr=>∃(i:Nat),i<=gd.length/\iv=.int .i64 i/\Hid (Below w.heap.size w wr)/\Hid (wr.ownsRow w.heap.size 3 1 ov (fK (gd.take i) c).length (vC (fK (gd.take i) c)))) (fun _ iv _=>gd.length-(intOf iv).toNat)
 case atStart=>exact⟨0,tr _,rfl,HB1,HO0⟩
 case round =>
  obtain⟨i,hi,rfl,HB,HO⟩:=hrel;have zIJ:=HB.out.size;obtain⟨oa,oc,rfl⟩:=yG HO.out;have hle:(fK (gd.take i) c).length<=i:=tx (zB0 _ _) (by simp;omega);by_cases zIB:i<gd.length
  ·have ii:(i:Int)<(gd.length:Int):=by omega
   have zJ7:=HP.out.below HB.out;obtain⟨gp,rfl,q0⟩:=zJ7.at ((zW kO 10 (fun _=>rfl) sB gd i 0 zIB (by decide)).trans rfl);have hq:=fun j hj v hv=>(zJ7.at ((zW kO 10 (fun _=>rfl) sB gd i j zIB hj).trans hv)).elim fun g' h=>(show gp=g' by simpa using h.1) ▸ (show w.heap.size<=wr.heap.size/\wr.cell? ⟨g',i*10+j,none⟩=some v from ⟨zIJ,h.2⟩).2;have q1:=hq 1 (by decide) _ rfl;have q2:=hq 2 (by decide) _ rfl;have q3:=hq 3 (by decide) _ rfl;have q4:=hq 4 (by decide) _ rfl;have q5:=hq 5 (by decide) _ rfl;have q6:=hq 6 (by decide) _ rfl;have q7:=hq 7 (by decide) _ rfl;have q8:=hq 8 (by decide) _ rfl;have q9:=hq 9 (by decide) _ rfl;rw[pq]at q0;have lgp:=zT q0;have mgp:wr.heap.size≠gp:=by omega
   have HBa:Hid (∀o,Below w.heap.size w (wr.alloc o)):=fun o=>HB.out.alloc zIJ o;have HOa:Hid (∀o,(wr.alloc o).ownsRow w.heap.size 3 1 (.slice oa (fK (gd.take i) c).length oc) (fK (gd.take i) c).length (vC (fK (gd.take i) c))):=fun o=>HO.out.alloc o;have HTk:=zA (zw gd c i zIB);have HNo:Hid (zv c (gd.getD i sB)=false->fK (gd.take (i+1)) c=fK (gd.take i) c):=fun h=>by rw[HTk.out,h];simp
   have HYes:Hid (zv c (gd.getD i sB)=true->fK (gd.take (i+1)) c=fK (gd.take i) c++[(gd.getD i sB).num]):=fun h=>by rw[HTk.out,tj h]
   clear zJ7 hq HTk;generalize gd.getD i sB=y at *;obtain⟨yk,yl,yr,yp,y2,yo,yn,yb1,yb2,yb3⟩:=y;unfold zv at HNo HYes;simp only at q0 q1 q2 q3 q4 q5 q6 q7 q8 q9 HYes HNo;have no:∀(b:Bool),(decide (yk=7)&&(!y2&&decide (yp=(c:Int))))=false->fK (gd.take (i+1)) c=fK (gd.take i) c:=fun _ h=>HNo.out h;have HNO:=zA no;clear no;by_cases k1:yk=7
   ·subst k1
    cases y2
    ·by_cases k2:yp=(c:Int)
     ·have HE3:=zA (HYes.out (by rw[tm k2];rfl))
      subst k2;clear HYes HNo HNO
      go_upto_region 6 with fail
      generalize hOn:Obj.cells #[Value.int .i64 7,.int .i64 yl,.int .i64 yr,.int .i64 (c:Int),.bool false,.int .i64 yo,.int .i64 yn,.bool yb1,.bool yb2,.bool yb3] 324=On at *;have hcn:(wr.alloc On).cell? ⟨wr.heap.size,6,none⟩=some (.int .i64 yn):=by rw[<-hOn];exact(zD (zM _ _) 6).trans rfl
      have HBn:=zA (HBa.out On);have HOn2:=zA (HOa.out On);have hsn:(wr.alloc On).heap.size=wr.heap.size+1:=by simp
      clear hOn;generalize wr.alloc On=wn at *;have hszn:w.heap.size<=wn.heap.size:=by omega
      clear hsn
      go_wp2_with (at_builtin;refine wpList_append_own _ rfl _ _ 59 rfl w.heap.size 3 i0 _ 1 8 Tryz.underlying59 hi0 hz0 hz1 hz2 rfl (by decide) _ _ _ rfl (HOn2.out.alloc _) ⟨wn.heap.size,0,none⟩ 1 1 [.int .i64 yn] rfl rfl ?c1 ?c2 ?c3 ?c4 ?c5 ?_)
      case c1=>exact zZ _ _ _ _ rfl
      case c2=>intro u hu;simp at hu;subst hu;rfl
      case c3=>unfold maxLen;omega
      case c4=>omega
      case c5=>simp;omega
      intro v' w5 zIE zIC _;have HB5:Hid (Below w.heap.size w w5):=(HBn.out.alloc hszn _).grown zIC (by simp;omega) (zN HOn2.out);have HO5:Hid (w5.ownsRow w.heap.size 3 1 v' (fK (gd.take (i+1)) c).length (vC (fK (gd.take (i+1)) c))):=by unfold Hid;rw[HE3.out,dR,tq];exact zIE
      clear zIC zIE;go_wp2_with fail
      go_roundw
      case rel=>exact⟨i+1,by omega,by go_num,HB5,HO5⟩
      case measure=>simp[intOf];omega
     ·have b2:(yp==(c:Int))=false:=by simpa using k2
      have HE3:=zA (HNO.out true (by rw[th k2];simp));clear HYes HNo HNO k2;go_wp2_with fail
      go_roundw
      case rel=>exact⟨i+1,by omega,by go_num,zA (HBa.out _),by rw[HE3.out];exact zA (HOa.out _)⟩
      case measure=>simp[intOf];omega
    ·have HE3:=zA (HNO.out true (by simp))
     clear HYes HNo HNO;go_wp2_with fail
     go_roundw
     case rel=>exact⟨i+1,by omega,by go_num,zA (HBa.out _),by rw[HE3.out];exact zA (HOa.out _)⟩
     case measure=>simp[intOf];omega
   ·have b1:(yk==7)=false:=by simpa using k1
    have HE3:=zA (HNO.out true (by rw[th k1];rfl));clear HYes HNo HNO k1;go_wp2_with fail
    go_roundw
    case rel=>exact⟨i+1,by omega,by go_num,zA (HBa.out _),by rw[HE3.out];exact zA (HOa.out _)⟩
    case measure=>simp[intOf];omega
  ·have ii:¬(i:Int)<(gd.length:Int):=by omega
   have HE3:Hid (fK (gd.take i) c=fK gd c):=by unfold Hid;rw[cf (by omega)]
   go_wp2_with fail
   go_ret
   exact⟨_,rfl,by rw[<-HE3.out];exact HO.out,HB.out⟩
end Go.Proofs.YtnbpdffdnphbeaaGreatDoor
