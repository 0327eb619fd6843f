import Derived.Test.YtnbpdffdnphbeaaGreatDoorPMod
import Derived.Test.YtnbpdffdnphbeaaGreatDoorDTry
set_option maxHeartbeats 2000000
set_option maxRecDepth 100000
namespace Go.Proofs.YtnbpdffdnphbeaaGreatDoor
variable{b:Int}{names:List Bs}{rs:List RX}{I:List yI}{ls:List zF}{us:List zG}{i k:Nat}{s' s:vF}{l r e:vI}{x:zF}
def kZ(z:Int × Int)(b:Int):List (Int × Int) :=
 if b<z.1\/z.2<b then [z] else ((if z.1<b then [(z.1,b-1)] else [])++[(b,b)])++(if b<z.2 then [(b+1,z.2)] else [])
def vM(zs:List (Int × Int))(b:Int):List (Int × Int):=zs.flatMap fun z=>kZ z b
def xU(zs:List (Int × Int))(bs:List Int):List (Int × Int):=bs.foldl vM zs
def nW(lo hi:Int)(b1 b2:List Int):List (Int × Int):=xU (xU [(lo,hi)] b1) b2
def zB1(z:Int × Int)(b:Int):Prop:=z.2<b\/(z.1=b/\z.2=b)\/b<z.1
theorem nY{z x:Int × Int}(h:x∈kZ z b):z.1<=x.1/\x.2<=z.2/\zB1 x b:=by
 unfold kZ at h;unfold zB1;by_cases h1:b<z.1\/z.2<b
 ·rw[tl h1]at h;simp at h;subst h;omega
 ·rw[tg h1]at h
  simp only[pt,pu]at h;rcases h with (h|h)|h
  ·by_cases h2:z.1<b
   ·rw[tl h2]at h;simp at h;subst h;simp;omega
   ·rw[tg h2]at h;simp at h
  ·subst h;simp;omega
  ·by_cases h2:b<z.2
   ·rw[tl h2]at h;simp at h;subst h;simp;omega
   ·rw[tg h2]at h;simp at h
theorem JW{z:Int × Int}{y:Int}(h:z.1<=y/\y<=z.2):∃x∈kZ z b,x.1<=y/\y<=x.2:=by
 unfold kZ;by_cases h1:b<z.1\/z.2<b
 ·rw[tl h1];exact⟨z,by simp,h⟩
 ·rw[tg h1]
  rcases Int.lt_trichotomy y b with h2|h2|h2
  ·exact⟨(z.1,b-1),by simp[show z.1<b by omega],by simp;omega⟩
  ·exact⟨(b,b),by simp,by simp;omega⟩
  ·exact⟨(b+1,z.2),by simp[show b<z.2 by omega],by simp;omega⟩
structure zEW(lo hi:Int)(bs:List Int)(zs:List (Int × Int)):Prop where
 sub:∀z∈zs,lo<=z.1/\z.2<=hi
 cover:∀y,lo<=y->y<=hi->∃z∈zs,z.1<=y/\y<=z.2
 side:∀z∈zs,∀b∈bs,∀y,z.1<=y->y<=z.2->∀x,z.1<=x->x<=z.2->(x<b ↔ y<b)/\(x=b ↔ y=b)
theorem zEW.split{lo hi:Int}{bs:List Int}{zs:List (Int × Int)}(h:zEW lo hi bs zs)(b:Int):zEW lo hi (bs++[b]) (vM zs b):=by
 refine⟨fun z hz=>?_,fun y h1 h2=>?_,fun z hz c hc y h1 h2 x h3 h4=>?_⟩
 ·obtain⟨z0,hz0,hz1⟩:=List.mem_flatMap.1 hz
  have:=h.sub z0 hz0;have:=nY hz1;omega
 ·obtain⟨z,hz,hy⟩:=h.cover y h1 h2
  obtain⟨x,hx,hxy⟩:=JW (b:=b) hy;exact⟨x,List.mem_flatMap.2 ⟨z,hz,hx⟩,hxy⟩
 ·obtain⟨z0,hz0,hz1⟩:=List.mem_flatMap.1 hz
  have hs:=nY hz1;rcases pt.1 hc with hc|hc
  ·exact h.side z0 hz0 c hc y (by omega) (by omega) x (by omega) (by omega)
  ·simp at hc;subst hc
   have:=hs.2.2;unfold zB1 at this;omega
theorem zEW.splits{lo hi:Int}(b2:List Int):∀ {bs:List Int} {zs:List (Int × Int)},zEW lo hi bs zs->zEW lo hi (bs++b2) (xU zs b2):=by
 induction b2 with
 | nil=>intro bs zs h;simpa[xU] using h
 | cons b r ih =>
   intro bs zs h;have:=ih (h.split b);rw[mn]at this;exact this
theorem Xh(lo hi:Int)(b1 b2:List Int):zEW lo hi (b1++b2) (nW lo hi b1 b2):=by
 have h0:zEW lo hi [] [(lo,hi)]:=⟨fun z hz=>by simp at hz;subst hz;simp,fun y h1 h2=>⟨(lo,hi),by simp,h1,h2⟩,fun z _ b hb=>by simp at hb⟩;have:=(h0.splits b1).splits b2;unfold nW;simpa using this
theorem CW{α:Type}(p q:α->Bool)(h:∀x,¬(p x=true/\q x=true))(l:List α):(l.filter p).length+(l.filter q).length<=l.length:=by
 induction l with
 | nil=>simp
 | cons x r ih =>
   have hx:=h x;cases hp:p x <;> cases hq:q x <;> simp[hp,hq]at hx ⊢ <;> omega
theorem FC(l:List Int):∃T:List Int,T.Pairwise (· < ·)/\(∀x,x∈T ↔ x∈l)/\T.length<=l.length:=by
 induction l with
 | nil=>exact⟨[],List.Pairwise.nil,fun x=>Iff.rfl,t9 _⟩
 | cons a r ih =>
   obtain⟨T,h1,h2,h3⟩:=ih;refine⟨T.filter (fun x=>decide (x<a))++a::T.filter (fun x=>decide (a<x)),?_,fun x=>?_,?_⟩
   ·rw[List.pairwise_append,List.pairwise_cons]
    refine⟨h1.filter _,⟨fun x hx=>by simpa using (ma.1 hx).2,h1.filter _⟩,fun x hx y hy=>?_⟩;have hx2:x<a:=by simpa using (ma.1 hx).2
    rcases pi.1 hy with rfl|hy
    ·exact hx2
    ·have:a<y:=by simpa using (ma.1 hy).2
     omega
   ·simp only[pt,pi,ma,py,h2]
    constructor
    ·rintro(h|h|h)
     ·exact .inr h.1
     ·exact .inl h
     ·exact .inr h.1
    ·rintro(h|h)
     ·exact .inr (.inl h)
     ·rcases Int.lt_trichotomy x a with h4|h4|h4
      ·exact .inl ⟨h,h4⟩
      ·exact .inr (.inl h4)
      ·exact .inr (.inr ⟨h,h4⟩)
   ·have:=CW (fun x:Int=>decide (x<a)) (fun x=>decide (a<x)) (fun x=>by simp;omega) T
    simp;omega
structure bI where
 lo:Int
 hi:Int
 rank:Nat
def kO(r:Nat):List bI->Int × Int->Int × Int
 | [],s=>s
 | n::L,s=>kO r L (if n.rank=r then (if s.1<n.lo then n.lo else s.1,if n.hi<s.2 then n.hi else s.2) else s)
def uE(L:List bI)(r:Nat):Int × Int:=kO r L (0,9999)
def dQ(r:Nat):List bI->Nat
 | []=>0
 | n::L=>(if n.rank=r then 1 else 0)+dQ r L
def ZD(L:List bI):Nat->Nat->Int->Nat->List Int->Option (List Int)
 | 0,_,_,_,out=>some out
 | f+1,r,vL,placed,out =>
   if placed=L.length then some out
   else if (uE L r).2<(if (uE L r).1<vL then vL else (uE L r).1) then none
   else if dQ r L=0 then none
   else ZD L f (r+1) ((if (uE L r).1<vL then vL else (uE L r).1)+1) (placed+dQ r L) (out++[if (uE L r).1<vL then vL else (uE L r).1])
def rD(L:List bI):Option (List Int):=ZD L L.length 0 0 0 []
theorem eW(r:Nat)(L:List bI):∀s,s.1<=(kO r L s).1/\(kO r L s).2<=s.2/\∀n∈L,n.rank=r->n.lo<=(kO r L s).1/\(kO r L s).2<=n.hi:=by
 induction L with
 | nil=>intro s;exact⟨dk _,dk _,fun n hn=>by simp at hn⟩
 | cons m L ih =>
   intro s;rw[kO];obtain⟨h1,h2,h3⟩:=ih (if m.rank=r then (if s.1<m.lo then m.lo else s.1,if m.hi<s.2 then m.hi else s.2) else s);by_cases hr:m.rank=r
   ·rw[tl hr]at h1 h2 h3 ⊢
    generalize kO r L (if s.1<m.lo then m.lo else s.1,if m.hi<s.2 then m.hi else s.2)=q at h1 h2 h3 ⊢;simp only at h1 h2;refine⟨by split at h1 <;> omega,by split at h2 <;> omega,fun n hn hnr=>?_⟩;rcases pi.1 hn with rfl|hn
    ·exact⟨by split at h1 <;> omega,by split at h2 <;> omega⟩
    ·exact h3 n hn hnr
   ·rw[tg hr]at h1 h2 h3 ⊢
    refine⟨h1,h2,fun n hn hnr=>?_⟩;rcases pi.1 hn with rfl|hn
    ·exact absurd hnr hr
    ·exact h3 n hn hnr
theorem By(r:Nat)(v:Int)(L:List bI):∀s:Int × Int,s.1<=v->v<=s.2->(∀n∈L,n.rank=r->n.lo<=v/\v<=n.hi)->(kO r L s).1<=v/\v<=(kO r L s).2:=by
 induction L with
 | nil=>intro s h1 h2 _;exact⟨h1,h2⟩
 | cons m L ih =>
   intro s h1 h2 h;rw[kO];by_cases hr:m.rank=r
   ·rw[tl hr]
    have:=h m (by simp) hr;exact ih _ (by simp only;split <;> omega) (by simp only;split <;> omega) fun n hn=>h n (by simp[hn])
   ·rw[tg hr];exact ih _ h1 h2 fun n hn=>h n (by simp[hn])
def lF(r:Nat):List bI->Nat
 | []=>0
 | n::L=>(if n.rank<r then 1 else 0)+lF r L
theorem iQ(r:Nat)(L:List bI):lF (r+1) L=lF r L+dQ r L:=by
 induction L with
 | nil=>rfl
 | cons n L ih=>rw[lF,lF,dQ,ih];split <;> split <;> split <;> omega
theorem iP(L:List bI):lF 0 L=0:=by
 induction L with
 | nil=>rfl
 | cons n L ih=>rw[lF,ih];simp
theorem ZW(r:Nat)(L:List bI):lF r L<=L.length/\((∀n∈L,n.rank<r)->lF r L=L.length):=by
 induction L with
 | nil=>simp[lF]
 | cons n L ih =>
   rw[lF,p7];refine⟨by have:=ih.1;split <;> omega,fun h=>?_⟩;rw[ih.2 fun m hm=>h m (by simp[hm]),tl (h n (by simp))];omega
theorem zAK{r:Nat}{L:List bI}(h:∃n∈L,n.rank=r):dQ r L≠0:=by
 induction L with
 | nil=>obtain⟨n,hn,_⟩:=h;simp at hn
 | cons m L ih =>
   obtain⟨n,hn,hr⟩:=h;rw[dQ];rcases pi.1 hn with rfl|hn
   ·rw[tl hr];omega
   ·have:=ih ⟨n,hn,hr⟩;omega
structure Q2(L:List bI)(r:Nat)(vL:Int)(out:List Int):Prop where
 len:out.length=r
 zone:∀n∈L,n.rank<r->n.lo<=out.getD n.rank 0/\out.getD n.rank 0<=n.hi
 up:∀a b,a<b->b<r->out.getD a 0<out.getD b 0
 last:∀a,a<r->out.getD a 0<vL
theorem Q2.snoc{L:List bI}{r:Nat}{vL v:Int}{out:List Int}(h:Q2 L r vL out)(hv:vL<=v)(hz:∀n∈L,n.rank=r->n.lo<=v/\v<=n.hi):Q2 L (r+1) (v+1) (out++[v]):=by
 have hl:=h.len;have e1:∀a,a<r->(out++[v]).getD a 0=out.getD a 0:=fun a ha=>by simp[List.getD,pw (show a<out.length by omega)]
 have e2:(out++[v]).getD r 0=v:=by simp[List.getD,<-hl]
 refine⟨by simp[hl],fun n hn hr=>?_,fun a b hab hb=>?_,fun a ha=>?_⟩
 ·by_cases hr2:n.rank<r
  ·rw[e1 _ hr2];exact h.zone n hn hr2
  ·have hr3:n.rank=r:=by omega
   rw[hr3,e2];exact hz n hn hr3
 ·by_cases hb2:b<r
  ·rw[e1 _ hb2,e1 _ (by omega)];exact h.up a b hab hb2
  ·have hb3:b=r:=by omega
   rw[hb3,e2,e1 _ (by omega)];have:=h.last a (by omega);omega
 ·by_cases ha2:a<r
  ·rw[e1 _ ha2];have:=h.last a ha2;omega
  ·have ha3:a=r:=by omega
   rw[ha3,e2];omega
theorem B4(L:List bI):∀f r vL placed out,placed=lF r L->Q2 L r vL out->∀o,ZD L f r vL placed out=some o->∃r' l',r<=r'/\(r'=r+f\/lF r' L=L.length)/\Q2 L r' l' o:=by
 intro f
 induction f with
 | zero=>intro r vL placed out _ h o ho;rw[ZD]at ho;obtain rfl:=co ho;exact⟨r,vL,t9 _,.inl rfl,h⟩
 | succ f ih =>
   intro r vL placed out hp h o ho;rw[ZD]at ho;by_cases h1:placed=L.length
   ·rw[tl h1]at ho;obtain rfl:=co ho;exact⟨r,vL,t9 _,.inr (by rw[<-hp,h1]),h⟩
   ·rw[tg h1]at ho
    have hg:=eW r L (0,9999);have hs:kO r L (0,9999)=uE L r:=rfl;rw[hs]at hg;generalize hv:(if (uE L r).1<vL then vL else (uE L r).1)=v at ho;have hv2:vL<=v/\(uE L r).1<=v:=by rw[<-hv];split <;> omega
    by_cases h2:(uE L r).2<v
    ·rw[tl h2]at ho;exact absurd ho (by simp)
    ·rw[tg h2]at ho
     by_cases h3:dQ r L=0
     ·rw[tl h3]at ho;exact absurd ho (by simp)
     ·rw[tg h3]at ho
      obtain⟨r',l',q1,q2,q3⟩:=ih (r+1) (v+1) _ _ (by rw[iQ,hp]) (h.snoc hv2.1 fun n hn hr=>by have:=hg.2.2 n hn hr;omega) o ho;exact⟨r',l',by omega,by rcases q2 with q2|q2;exact .inl (by omega);exact .inr q2,q3⟩
theorem iR{r:Nat}{L:List bI}(h:lF r L=L.length):∀n∈L,n.rank<r:=by
 induction L with
 | nil=>intro n hn;simp at hn
 | cons m L ih =>
   rw[lF,p7]at h;have hl:=(ZW r L).1;intro n hn;by_cases hm:m.rank<r
   ·rw[tl hm]at h
    rcases pi.1 hn with rfl|hn
    ·exact hm
    ·exact ih (by omega) n hn
   ·rw[tg hm]at h;omega
theorem Xv{L:List bI}(hr:∀n∈L,n.rank<L.length){o:List Int}(h:rD L=some o):∀n∈L,n.lo<=o.getD n.rank 0/\o.getD n.rank 0<=n.hi:=by
 obtain⟨r',l',_,h2,h3⟩:=B4 L L.length 0 0 0 [] (iP L).symm ⟨rfl,fun n _ h=>absurd h (by omega),fun a b _ h=>absurd h (by omega),fun a h=>absurd h (by omega)⟩ o h;intro n hn;refine h3.zone n hn ?_;rcases h2 with h2|h2
 ·have:=hr n hn;omega
 ·exact iR h2 n hn
theorem FG(L:List bI)(T:List Int)(hT:T.Pairwise (· < ·))(zIK:∀n∈L,n.rank<T.length/\n.lo<=T.getD n.rank 0/\T.getD n.rank 0<=n.hi)(hall:∀r,r<T.length->∃n∈L,n.rank=r)(h0:∀x∈T,0<=x/\x<=9999) :
 ∀f r vL placed out,T.length-r<=f->placed=lF r L->r<=T.length->(r<T.length->vL<=T.getD r 0)->Q2 L r vL out->∃o l',ZD L f r vL placed out=some o/\Q2 L T.length l' o:=by
 intro f
 induction f with
 | zero=>intro r vL placed out hf _ hr _ h;obtain rfl:r=T.length:=by omega
         exact⟨out,vL,by rw[ZD],h⟩
 | succ f ih =>
   intro r vL placed out hf hp hr hl h;by_cases zI6:r<T.length
   ·obtain⟨n0,hn0,hr0⟩:=hall r zI6
    have hpl:placed≠L.length:=fun e=>by
     have:=iR (r:=r) (L:=L) (by rw[<-hp,e]) n0 hn0;omega
    have hm:T.getD r 0∈T:=by simp[List.getD,zI6]
    have hle:=By r (T.getD r 0) L (0,9999) (h0 _ hm).1 (h0 _ hm).2 fun n hn hnr=>by have:=zIK n hn;rw[hnr]at this;exact this.2
    have hg:=eW r L (0,9999);have hs:kO r L (0,9999)=uE L r:=rfl;rw[hs]at hle hg;rw[ZD,tg hpl];generalize hv:(if (uE L r).1<vL then vL else (uE L r).1)=v;have hll:=hl zI6;have hv2:vL<=v/\(uE L r).1<=v/\v<=T.getD r 0:=by rw[<-hv];split <;> omega
    rw[tg (by omega),tg (zAK ⟨n0,hn0,hr0⟩)];refine ih (r+1) (v+1) _ _ (by omega) (by rw[iQ,hp]) zI6 (fun h2=>?_) (h.snoc hv2.1 fun n hn hnr=>by have:=hg.2.2 n hn hnr;omega)
    have:T.getD r 0<T.getD (r+1) 0:=by
     have:=List.pairwise_iff_getElem.1 hT r (r+1) zI6 h2 (by omega);simpa[List.getD,zI6,h2] using this
    omega
   ·obtain rfl:r=T.length:=by omega
    have:placed=L.length:=by rw[hp];exact(ZW _ L).2 fun n hn=>(zIK n hn).1
    exact⟨out,vL,by rw[ZD,tl this],h⟩
theorem D3{T:List Int}(hT:T.Pairwise (· < ·)){a b:Nat}(ha:a<T.length)(hb:b<T.length):(T.getD a 0<T.getD b 0 ↔ a<b)/\(T.getD a 0=T.getD b 0->a=b):=by
 have key:∀a b,a<T.length->b<T.length->a<b->T.getD a 0<T.getD b 0:=fun a b ha hb hab=>by
  have:=List.pairwise_iff_getElem.1 hT a b ha hb hab;simpa[List.getD,ha,hb] using this
 have h1:=key a b ha hb;have h2:=key b a hb ha;rcases Nat.lt_trichotomy a b with h|h|h
 ·have:=h1 h;omega
 ·subst h;simp
 ·have:=h2 h;omega
def nC(Z:List (Int × Int))(rk:List Nat):List bI:=(List.range Z.length).map fun i=>⟨(Z.getD i (0,0)).1,(Z.getD i (0,0)).2,rk.getD i 0⟩
theorem Jm(Z:List (Int × Int))(rk:List Nat):(nC Z rk).length=Z.length:=by simp[nC]
theorem Jl{Z:List (Int × Int)}{rk:List Nat}{n:bI}(h:n∈nC Z rk):∃i,i<Z.length/\n=⟨(Z.getD i (0,0)).1,(Z.getD i (0,0)).2,rk.getD i 0⟩:=by
 obtain⟨i,hi,rfl⟩:=ml.1 h;exact⟨i,by simpa using hi,rfl⟩
theorem Vz{Z:List (Int × Int)}(rk:List Nat)(hi:i<Z.length):(⟨(Z.getD i (0,0)).1,(Z.getD i (0,0)).2,rk.getD i 0⟩:bI)∈nC Z rk:=ml.2 ⟨i,by simpa using hi,rfl⟩
theorem FE(Z:List (Int × Int))(y:List Int)(hl:y.length=Z.length)(h:∀i,i<Z.length->(Z.getD i (0,0)).1<=y.getD i 0/\y.getD i 0<=(Z.getD i (0,0)).2)(h0:∀x∈y,0<=x/\x<=9999) :
 ∃rk:List Nat,rk.length=Z.length/\(∀r∈rk,r<Z.length)/\∃o,rD (nC Z rk)=some o/\∀i j,i<Z.length->j<Z.length->(o.getD (rk.getD i 0) 0<o.getD (rk.getD j 0) 0 ↔ y.getD i 0<y.getD j 0):=by
 obtain⟨T,hT,hm,zIC⟩:=FC y
 have hex:∀x∈y,∃r,r<T.length/\T.getD r 0=x:=fun x hx=>by
  obtain⟨r,hr,e⟩:=f8 ((hm x).2 hx);exact⟨r,hr,by simp[List.getD,hr,e]⟩
 obtain⟨g,hg⟩:∃g:Int->Nat,∀x∈y,g x<T.length/\T.getD (g x) 0=x:=by
  refine⟨fun x=>if hx:x∈y then Classical.choose (hex x hx) else 0,fun x hx=>?_⟩;simp only[hx,dite_true];exact Classical.choose_spec (hex x hx)
 have hyi:∀i,i<Z.length->y.getD i 0∈y:=fun i hi=>by simp[List.getD,show i<y.length by omega]
 have hri:∀i,i<Z.length->(y.map g).getD i 0=g (y.getD i 0):=fun i hi=>by simp[List.getD,show i<y.length by omega]
 refine⟨y.map g,by simp[hl],fun r hr=>?_,?_⟩
 ·obtain⟨x,hx,rfl⟩:=ml.1 hr
  have:=(hg x hx).1;omega
 have zIK:∀n∈nC Z (y.map g),n.rank<T.length/\n.lo<=T.getD n.rank 0/\T.getD n.rank 0<=n.hi:=fun n hn=>by
  obtain⟨i,hi,rfl⟩:=Jl hn;simp only;rw[hri i hi];have h1:=hg _ (hyi i hi);rw[h1.2];exact⟨h1.1,h i hi⟩
 have hall:∀r,r<T.length->∃n∈nC Z (y.map g),n.rank=r:=fun r hr=>by
  have hx:T.getD r 0∈y:=(hm _).1 (by simp[List.getD,hr]);obtain⟨i,hi,e⟩:=f8 hx;have hi2:i<Z.length:=by omega
  refine⟨_,Vz (y.map g) hi2,?_⟩;simp only;rw[hri i hi2];have e2:y.getD i 0=T.getD r 0:=by simp[List.getD,hi,e]
  have h1:=hg _ (hyi i hi2);rw[e2]at h1 ⊢;exact(D3 hT h1.1 hr).2 h1.2
 obtain⟨o,l',ho,zIP⟩:=FG (nC Z (y.map g)) T hT zIK hall (fun x hx=>h0 x ((hm x).1 hx)) (nC Z (y.map g)).length 0 0 0 [] (by rw[Jm];omega) (iP _).symm (tr _) (fun hh=>(h0 _ ((hm _).1 (by simp[List.getD,hh]))).1) ⟨rfl,fun n _ h=>absurd h (by omega),fun a b _ h=>absurd h (by omega),fun a h=>absurd h (by omega)⟩;refine⟨o,ho,fun i j hi hj=>?_⟩;rw[hri i hi,hri j hj];have a1:=hg _ (hyi i hi);have a2:=hg _ (hyi j hj);have hp:=(D3 hT a1.1 a2.1).1;rw[a1.2,a2.2]at hp;rw[hp];constructor
 ·intro h3
  rcases Nat.lt_trichotomy (g (y.getD i 0)) (g (y.getD j 0)) with h4|h4|h4
  ·exact h4
  ·rw[h4]at h3;omega
  ·have:=zIP.up _ _ h4 a1.1;omega
 ·intro h3;exact zIP.up _ _ h3 a2.1
def oU(R:Nat->Nat->Prop)(i k:Nat):Prop:=R i k/\∀i' k',R i' k'->i<i'\/(i=i'/\k<=k')
theorem Qf{R:Nat->Nat->Prop}{i' k':Nat}(h:oU R i k)(h':oU R i' k'):i=i'/\k=k':=by
 have h1:=h.2 i' k' h'.1;have h2:=h'.2 i k h.1;omega
open Go.RowKit
def zH7:RX:=(⟨[],0,[],[]⟩,.slice none 0 0,.slice none 0 0)
def bL(rs:List RX)(i:Nat):RX:=rs.getD i zH7
def zHG(us:List zG)(names:List Bs)(ins:Nat)(rs:List RX)(i k:Nat):Prop:=i<k/\k<rs.length/\(bL rs i).1.head=(bL rs k).1.head/\Yc us i k=false/\Yc us k i=false/\gQ us names ins (bL rs i).1 (bL rs k).1
theorem wH{w:World}{a:Option Addr}(h:jX w a (KE rs))(hi:i<rs.length):∃g,a=some ⟨g,0,none⟩/\w.cell? ⟨g,i*4,none⟩=some (.string ⟨(bL rs i).1.label.toArray⟩)/\w.cell? ⟨g,i*4+1,none⟩=some (.int .i64 (bL rs i).1.head)/\w.cell? ⟨g,i*4+2,none⟩=some (bL rs i).2.1/\w.cell? ⟨g,i*4+3,none⟩=some (bL rs i).2.2:=by
 obtain⟨g,e,c0⟩:=h.at ((zV zHZ 4 (fun _=>rfl) zH7 rs i 0 hi (by decide)).trans rfl);obtain⟨g1,e1,c1⟩:=h.at ((zV zHZ 4 (fun _=>rfl) zH7 rs i 1 hi (by decide)).trans rfl);obtain⟨g2,e2,c2⟩:=h.at ((zV zHZ 4 (fun _=>rfl) zH7 rs i 2 hi (by decide)).trans rfl);obtain⟨g3,e3,c3⟩:=h.at ((zV zHZ 4 (fun _=>rfl) zH7 rs i 3 hi (by decide)).trans rfl);obtain rfl:g=g1:=by rw[e]at e1;simpa using e1
 obtain rfl:g=g2:=by rw[e]at e2;simpa using e2
 obtain rfl:g=g3:=by rw[e]at e3;simpa using e3
 exact⟨g,e,c0,c1,c2,c3⟩
theorem cE(h:i<rs.length):bL rs i∈rs:=by simp[bL,List.getD,h]
def nV(R:Nat->Nat->Prop)(w w':World)(e:Ending):Prop:=∃(i k:Nat) (f:Bool),e=.returned (.tuple #[.int .i64 (i:Nat),.int .i64 (k:Nat),.bool f])/\(f=true->oU R i k)/\(f=false->∀i k,¬R i k)/\Below w.heap.size w w'
theorem zGX(w:World)(b:Nat)(ls:List zF)(us:List zG)(names:List Bs)(ins:Nat)(rs:List RX)(hB:cU w b us names ins rs)(hA:yP ls us)(zIK:ins<=names.length)(hpos:0<rs.length->0<names.length)(hlab:rs.length=(pT us).length)(hbd:∀x∈rs,∀y∈rs,∀z∈uJ us names ins x.1.steps y.1.steps,-1000000<=z/\z<=1000000)(zIP:∀x∈rs,∀vs:List Int,vs.length=names.length->Zw ins vs x.1) :
 Calls Tryz.prog 41 #[.pointer (some ⟨b,0,none⟩)] w fun e w'=>nV (zHG us names ins rs) w w' e:=by
 have hf:=hB.few;have HBk:=zA (fun w' (hb:Below w.heap.size w w')=>(hB.down hb).rul);have HAb:=zA (fun w' (hb:Below w.heap.size w w') (i k:Nat) (hk:k<rs.length)=>zEK w' b ls us names ins rs i k (hB.down hb) hA (by rw[<-hlab];exact hk));have HBo:=zA (fun w' (hb:Below w.heap.size w w') (i k:Nat) (hi:i<rs.length) (hk:k<rs.length)=>zH5 w' b ls us names ins rs (bL rs i) (bL rs k) (hB.down hb) hA zIK (hpos (by omega)) ((hB.down hb).rows _ (cE hi)) ((hB.down hb).rows _ (cE hk)) (hbd _ (cE hi) _ (cE hk)) (fun vs hv=>⟨zIP _ (cE hi) vs hv,zIP _ (cE hk) vs hv⟩))
 have HSl:Hid (∀i,i<rs.length->(∃a c,(bL rs i).2.1=.slice a (bL rs i).1.parts.length c)/\∃a c,(bL rs i).2.2=.slice a (bL rs i).1.steps.length c):=fun i hi=>by
  obtain⟨a,c,e,-⟩:=(hB.rows _ (cE hi)).parts;obtain⟨a',c',e',-⟩:=(hB.rows _ (cE hi)).steps;exact⟨⟨a,c,e⟩,a',c',e'⟩
 have HCl:Hid (∀i k,zHG us names ins rs i k ↔ (i<k/\k<rs.length/\(bL rs i).1.head=(bL rs k).1.head/\Yc us i k=false/\Yc us k i=false/\gQ us names ins (bL rs i).1 (bL rs k).1)):=fun _ _=>Iff.rfl;clear hB hA hlab hbd zIP hpos zIK;generalize zHG us names ins rs=R at *
 go_enter Tryz.func41,Tryz.ntmps41
 go_wp2_with fail
 go_loopw [5] (fun iv wr=>∃(i:Nat),i<=rs.length/\iv=.int .i64 i/\Hid (Below w.heap.size w wr)/\Hid (∀i' k',R i' k'->i<=i')) (fun iv _=>rs.length-(intOf iv).toNat)
 case atStart=>exact⟨0,tr _,rfl,zA (tj _ _),zA fun _ _ _=>tr _⟩
 case round =>
  obtain⟨i,hi,rfl,HB,HM⟩:=hrel;obtain⟨ra,rc,d3,-⟩:=HBk.out wr HB.out;by_cases zI6:i<rs.length
  ·have ii:(i:Int)<(rs.length:Int):=by omega
   have HM1:Hid (∀i' k',R i' k'->i<i'\/(i=i'/\i+1<=k')):=fun i' k' h=>by
    have:=HM.out i' k' h;have:=((HCl.out i' k').1 h).1;omega
   generalize hwr:wr=wq at *;clear hwr;go_wp2_with fail
   go_loopw [6] (fun kv wr=>∃(k:Nat),i+1<=k/\k<=rs.length/\kv=.int .i64 k/\Hid (Below w.heap.size w wr)/\Hid (∀i' k',R i' k'->i<i'\/(i=i'/\k<=k'))) (fun kv _=>rs.length-(intOf kv).toNat)
   case atStart=>exact⟨i+1,t9 _,by omega,by go_num,HB,HM1⟩
   case round =>
    obtain⟨k,hik,hk,rfl,HBk2,HMk⟩:=hrel;have zIE:=HBk2.out.size;obtain⟨ra,rc,d3,zIZ⟩:=HBk.out wr HBk2.out;by_cases zJ5:k<rs.length
    ·have kk:(k:Int)<(rs.length:Int):=by omega
     obtain⟨g,rfl,i1,i2,i3,i4⟩:=wH zIZ zI6;obtain⟨g',e',k1,k2,k3,k4⟩:=wH zIZ zJ5;obtain rfl:g=g':=by simpa using e'
     have HCk:=zA (HCl.out i k)
     have HNx:Hid (¬R i k->∀i' k',R i' k'->i<i'\/(i=i'/\k+1<=k')):=fun hn i' k' h=>by
      have h1:=HMk.out i' k' h;rcases h1 with h1|⟨h1,h2⟩
      ·exact .inl h1
      ·by_cases hkk:k=k'
       ·subst h1 hkk;exact absurd h hn
       ·exact .inr ⟨h1,by omega⟩
     have HYs:Hid (R i k->∀w',Below w.heap.size w w'->nV R w w' (.returned (.tuple #[.int .i64 (i:Nat),.int .i64 (k:Nat),.bool true]))):=fun h w' hb=>⟨i,k,true,rfl,fun _=>⟨h,HMk.out⟩,fun h=>absurd h (by simp),hb⟩;have hcell3:=fun w' (hb:Below wr.heap.size wr w')=>(show w'.cell? ⟨b,3,none⟩=some (.slice (some ⟨g,0,none⟩) rs.length rc) from (hb.cell (p:=⟨b,3,none⟩) (zP d3)).trans d3);have HAb1:=zA (fun w' hb=>HAb.out w' hb i k zJ5);have HAb2:=zA (fun w' hb=>HAb.out w' hb k i zI6);have HBoi:=zA (fun w' hb=>HBo.out w' hb i k zI6 zJ5);obtain⟨⟨p1,p2,e1⟩,p3,p4,e2⟩:=HSl.out i zI6;obtain⟨⟨q1,q2,e3⟩,q3,q4,e4⟩:=HSl.out k zJ5;have lg:=zP i1;have lb:=zP d3
     have HCs:Hid (∀w',Below wr.heap.size wr w'->w'.cell? ⟨b,3,none⟩=some (.slice (some ⟨g,0,none⟩) rs.length rc)/\(w'.cell? ⟨g,i*4,none⟩=some (.string ⟨(bL rs i).1.label.toArray⟩)/\w'.cell? ⟨g,i*4+1,none⟩=some (.int .i64 (bL rs i).1.head)/\w'.cell? ⟨g,i*4+2,none⟩=some (.slice p1 (bL rs i).1.parts.length p2)/\w'.cell? ⟨g,i*4+3,none⟩=some (.slice p3 (bL rs i).1.steps.length p4))/\(w'.cell? ⟨g,k*4,none⟩=some (.string ⟨(bL rs k).1.label.toArray⟩)/\w'.cell? ⟨g,k*4+1,none⟩=some (.int .i64 (bL rs k).1.head)/\w'.cell? ⟨g,k*4+2,none⟩=some (.slice q1 (bL rs k).1.parts.length q2)/\w'.cell? ⟨g,k*4+3,none⟩=some (.slice q3 (bL rs k).1.steps.length q4))):=fun w' hb=>by
      have hc:=fun j v (h:wr.cell? ⟨g,j,none⟩=some v)=>(hb.cell (p:=⟨g,j,none⟩) lg).trans h;rw[e1]at i3;rw[e2]at i4;rw[e3]at k3;rw[e4]at k4;exact⟨hcell3 w' hb,⟨hc _ _ i1,hc _ _ i2,hc _ _ i3,hc _ _ i4⟩,hc _ _ k1,hc _ _ k2,hc _ _ k3,hc _ _ k4⟩
     simp only[Qm]at HBoi;rw[e1,e2,e3,e4]at HBoi;clear hcell3 zIZ e' e1 e2 e3 e4 i1 i2 i3 i4 k1 k2 k3 k4;generalize gQ us names ins (bL rs i).1 (bL rs k).1=TB at *;generalize Yc us i k=a1 at *;generalize Yc us k i=a2 at *;generalize (bL rs i).1.label=xl at *;generalize (bL rs i).1.head=xh at *;generalize (bL rs i).1.parts.length=xn at *;generalize (bL rs i).1.steps.length=xm at *;generalize (bL rs k).1.label=yl at *;generalize (bL rs k).1.head=yh at *;generalize (bL rs k).1.parts.length=yn at *;generalize (bL rs k).1.steps.length=ym at *;obtain⟨-,⟨i1,i2,i3,i4⟩,k1,k2,k3,k4⟩:=HCs.out wr (tj _ _);by_cases hh:xh=yh
     ·subst hh
      go_wp2_with fail
      go_quiet (fail)
      have HBq:Hid (Below wr.heap.size wr (wr.drewN nq)):=yA (tj _ _) nq;clear i1 i2 i3 i4 k1 k2 k3 k4 d3;generalize wr.drewN nq=w1 at *;have HBw1:Hid (Below w.heap.size w w1):=HBk2.out.trans (HBq.out.mono zIE);have HA1w:=zA (HAb1.out w1 HBw1.out);go_wp2_with fail
      refine HA1w.out.mono ?_;rintro e w2 ⟨rfl,hb2⟩;have HB2:Hid (Below wr.heap.size wr w2):=HBq.out.trans (hb2.mono HBq.out.size);have HBw2:Hid (Below w.heap.size w w2):=HBk2.out.trans (HB2.out.mono zIE);have HA2w:=zA (HAb2.out w2 HBw2.out);clear hb2;go_wp2_with fail
      refine HA2w.out.mono ?_;rintro e w3 ⟨rfl,hb3⟩;have HB3:Hid (Below wr.heap.size wr w3):=HB2.out.trans (hb3.mono HB2.out.size);have HBw3:Hid (Below w.heap.size w w3):=HBk2.out.trans (HB3.out.mono zIE);clear hb3 HA1w HA2w HBw1 HBw2 HBq HB2;cases a1
      ·cases a2
       ·have HCt:Hid (R i k ↔ TB):=⟨fun h=>(HCk.out.1 h).2.2.2.2.2,fun h=>HCk.out.2 (by refine⟨hik,zJ5,?_,?_,?_,h⟩ <;> simp)⟩
        obtain⟨c3,⟨i1,i2,i3,i4⟩,k1,k2,k3,k4⟩:=HCs.out w3 HB3.out;have HBow:=zA (fun w' (hb:Below w3.heap.size w3 w')=>HBoi.out w' (HBw3.out.trans (hb.mono HBw3.out.size)))
        go_upto_region 11 with fail
        go_region_held3 (fun w'=>w'.cell? ⟨b,3,none⟩=some (.slice (some ⟨g,0,none⟩) rs.length rc)/\(w'.cell? ⟨g,i*4,none⟩=some (.string ⟨xl.toArray⟩)/\w'.cell? ⟨g,i*4+1,none⟩=some (.int .i64 xh)/\w'.cell? ⟨g,i*4+2,none⟩=some (.slice p1 xn p2)/\w'.cell? ⟨g,i*4+3,none⟩=some (.slice p3 xm p4))/\(w'.cell? ⟨g,k*4,none⟩=some (.string ⟨yl.toArray⟩)/\w'.cell? ⟨g,k*4+1,none⟩=some (.int .i64 xh)/\w'.cell? ⟨g,k*4+2,none⟩=some (.slice q1 yn q2)/\w'.cell? ⟨g,k*4+3,none⟩=some (.slice q3 ym q4))) (go_keep) (
         (go_at_call 83;refine(HBow.out _ (me (tj _ _))).mono ?_;rintro e w4 ⟨r,rfl,hiff,hb4⟩;have hB4:Below wr.heap.size wr w4:=HB3.out.trans (((me (tj _ _)).trans hb4).mono HB3.out.size);obtain⟨z1,⟨z2,z3,z4,z5⟩,z6,z7,z8,z9⟩:=HCs.out w4 hB4))
        all_goals
         have HB4:Hid (Below w.heap.size w w4):=HBk2.out.trans (hB4.mono zIE);have HIf:=zA hiff;clear hiff hb4 hB4 z1 z2 z3 z4 z5 z6 z7 z8 z9 i1 i2 i3 i4 k1 k2 k3 k4 c3;cases r
         ·have HNn:=zA (HNx.out (fun h=>by have:=HIf.out.2 (HCt.out.1 h);cases this))
          go_wp2_with fail
          go_roundw
          case rel=>exact⟨k+1,by omega,by omega,by go_num,HB4,HNn⟩
          case measure=>simp[intOf];omega
         ·have HQ:=zA (HYs.out (HCt.out.2 (HIf.out.1 rfl)) w4 HB4.out)
          go_wp2_with fail
          first|exact HQ.out|(go_ret3;exact HQ.out)
       ·have HNn:=zA (HNx.out (fun h=>by have:=(HCk.out.1 h).2.2.2.2.1;cases this))
        go_wp2_with fail
        go_roundw
        case rel=>exact⟨k+1,by omega,by omega,by go_num,HBw3,HNn⟩
        case measure=>simp[intOf];omega
      ·have HNn:=zA (HNx.out (fun h=>by have:=(HCk.out.1 h).2.2.2.1;cases this))
       go_wp2_with fail
       go_roundw
       case rel=>exact⟨k+1,by omega,by omega,by go_num,HBw3,HNn⟩
       case measure=>simp[intOf];omega
     ·have b1:(xh==yh)=false:=by simpa using hh
      have b2:(xh != yh)=true:=by simp only[bne,b1];rfl
      have HNn:=zA (HNx.out (fun h=>hh (HCk.out.1 h).2.2.1));clear hh;go_wp2_with fail
      go_quiet (fail)
      go_wp2_with fail
      go_roundw
      case rel=>exact⟨k+1,by omega,by omega,by go_num,zA (yA HBk2.out _),HNn⟩
      case measure=>simp[intOf];omega
    ·obtain rfl:k=rs.length:=by omega
     have kk:¬(rs.length:Int)<(rs.length:Int):=by omega
     have HNo:Hid (∀i' k',R i' k'->i+1<=i'):=fun i' k' h=>by
      have h1:=HMk.out i' k' h;have h2:=((HCl.out i' k').1 h).2.1;omega
     go_wp2_with fail
     go_roundw
     case rel=>exact⟨i+1,by omega,by go_num,HBk2,HNo⟩
     case measure=>simp[intOf];omega
  ·obtain rfl:i=rs.length:=by omega
   have ii:¬(rs.length:Int)<(rs.length:Int):=by omega
   have HQ:Hid (nV R w wr (.returned (.tuple #[.int .i64 ((0:Nat):Int),.int .i64 ((0:Nat):Int),.bool false]))):=⟨0,0,false,rfl,fun h=>absurd h (by simp),fun _ i' k' h=>by
    have h1:=HM.out i' k' h;have h2:=(HCl.out i' k').1 h;omega,HB.out⟩
   go_wp2_with fail
   first|exact HQ.out|(go_ret3;exact HQ.out)
def yT(us:List zG):List Bs:=qC us++qM us
def Be(us:List zG)(i k:Nat):Prop:=i<k/\k<(vO (yT us) us).length/\((vO (yT us) us).getD i QO).head=((vO (yT us) us).getD k QO).head/\Yc us i k=false/\Yc us k i=false/\gQ us (yT us) (qC us).length ((vO (yT us) us).getD i QO) ((vO (yT us) us).getD k QO)
theorem YP{R:List pU}(h:rs.map Prod.fst=R)(i:Nat):(bL rs i).1=R.getD i QO:=by
 subst h;unfold bL;by_cases hi:i<rs.length
 ·simp[List.getD,hi]
 ·simp[List.getD,hi,zH7,QO]
theorem zE3(h:rs.map Prod.fst=vO (yT us) us)(i k:Nat):zHG us (yT us) (qC us).length rs i k ↔ Be us i k:=by
 have hl:(vO (yT us) us).length=rs.length:=by rw[<-h,ms]
 unfold zHG Be;rw[YP h,YP h,hl]
structure KR(ls:List zF)(us:List zG):Prop where
 lines:yP ls us
 pos:0<(vO (yT us) us).length->0<(yT us).length
 lab:(vO (yT us) us).length=(pT us).length
 bd:∀x∈vO (yT us) us,∀y∈vO (yT us) us,∀z∈uJ us (yT us) (qC us).length x.steps y.steps,-1000000<=z/\z<=1000000
 ok:∀x∈vO (yT us) us,∀vs:List Int,vs.length=(yT us).length->Zw (qC us).length vs x
theorem Fk{w:World}{b:Nat}(hB:cU w b us (yT us) (qC us).length rs)(hr:rs.map Prod.fst=vO (yT us) us)(h:KR ls us):Calls Tryz.prog 41 #[.pointer (some ⟨b,0,none⟩)] w fun e w'=>nV (Be us) w w' e:=by
 have hm:∀x∈rs,x.1∈vO (yT us) us:=fun x hx=>by rw[<-hr];exact List.mem_map_of_mem hx
 have hl:(vO (yT us) us).length=rs.length:=by rw[<-hr,ms]
 refine(zGX w b ls us (yT us) (qC us).length rs hB h.lines (by unfold yT;simp) (fun h0=>h.pos (by omega)) (by rw[<-h.lab,hl]) (fun x hx y hy=>h.bd _ (hm x hx) _ (hm y hy)) (fun x hx=>h.ok _ (hm x hx))).mono ?_;have e:zHG us (yT us) (qC us).length rs=Be us:=by funext i k;exact propext (zE3 hr i k)
 rw[e];intro e w' h;exact h
def x5(w:World)(sa:Option Addr)(names:List Bs)(vs:List Int):Prop:=∀a,a<names.length->∃g,sa=some ⟨g,0,none⟩/\w.cell? ⟨g,a*2,none⟩=some (.string ⟨(names.getD a []).toArray⟩)/\w.cell? ⟨g,a*2+1,none⟩=some (.int .i64 (vs.getD a 0))
theorem x5.below{w w':World}{sa:Option Addr}{vs:List Int}(h:x5 w sa names vs)(hb:Below w.heap.size w w'):x5 w' sa names vs:=fun a ha=>by
 obtain⟨g,e,h1,h2⟩:=h a ha;exact⟨g,e,(hb.cell (p:=⟨g,a*2,none⟩) (zP h1)).trans h1,(hb.cell (p:=⟨g,a*2+1,none⟩) (zP h2)).trans h2⟩
theorem zHO(w:World)(b:Nat)(ls:List zF)(us:List zG)(names:List Bs)(ins:Nat)(rs:List RX)(sa:Option Addr)(sc:Nat)(vs:List Int)(hB:cU w b us names ins rs)(hA:yP ls us)(zIK:ins<=names.length)(hv:vs.length=names.length)(hS:x5 w sa names vs)(hr:∀a,a<names.length->(uK us names ins a).1<=vs.getD a 0/\vs.getD a 0<=(uK us names ins a).2) :
 Calls Tryz.prog 42 #[.pointer (some ⟨b,0,none⟩),.slice sa names.length sc] w fun e w'=>∃g,e=.returned (.tuple #[.slice (some ⟨g,0,none⟩) names.length names.length,.bool true])/\tT w' g vs/\Below w.heap.size w w':=by
 obtain⟨na,nc,c1,zIO⟩:=hB.nam;have hfn:=zIO.few;have hbl:=zP c1;have HRm:=zA (fun w' (hb:Below w.heap.size w w') (a:Nat)=>BJ w' b ls us names ins rs a (hB.down hb) hA zIK);have zJ0:=zA (fun w' (hb:Below w.heap.size w w')=>hS.below hb);have HNm:=zA (fun w' (hb:Below w.heap.size w w') (a:Nat) (ha:a<names.length)=>(zIO.below hb).atN ha);have HC1:=zA (fun w' (hb:Below w.heap.size w w')=>(hb.cell (p:=⟨b,1,none⟩) hbl).trans c1);have HRo:=zA hr;have HEx:Hid (∀L:List Int,L.length=names.length->(∀j,j<names.length->L.getD j 0=vs.getD j 0)->L=vs):=fun L h1 h2=>Uy (by omega) (fun j hj=>h2 j (by omega));have hmk:=run_make_row' (P:=Tryz.prog) 59 3 (.int .i64 0) 8 Tryz.underlying59 dV rfl .i64 .i64 names.length (by omega) (by omega);rw[ZK]at hmk;have b0:((names.length:Int) != (names.length:Int))=false:=by simp
 clear hB hA zIO hS hr hv;generalize uK us names ins=RD at *
 go_enter Tryz.func42,Tryz.ntmps42
 go_wp2_with fail
 have HM0:Hid (tT (w.alloc (.cells (iC (List.replicate names.length 0)) 3)) w.heap.size (List.replicate names.length 0)):=zM _ _;have HB0:Hid (Below w.heap.size w (w.alloc (.cells (iC (List.replicate names.length 0)) 3))):=ge (t9 _) _;clear hmk;generalize w.alloc (.cells (iC (List.replicate names.length 0)) 3)=w0 at *
 go_loopw [7] (fun iv wr=>∃(i:Nat) (L:List Int),i<=names.length/\L.length=names.length/\iv=.int .i64 i/\Hid (tT wr w.heap.size L)/\Hid (Below w.heap.size w wr)/\Hid (∀j,j<i->L.getD j 0=vs.getD j 0)) (fun iv _=>names.length-(intOf iv).toNat)
 case atStart=>exact⟨0,List.replicate names.length 0,tr _,by simp,rfl,HM0,HB0,zA (fun j hj=>by omega)⟩
 case round =>
  obtain⟨i,L,hi',hL,rfl,HM,HB,HE⟩:=hrel;by_cases zI6:i<names.length
  ·have ii:(i:Int)<(names.length:Int):=by omega
   have HRw:=zA (HRm.out wr HB.out i);have hrg:=HRo.out i zI6;generalize hRD:RD i=rd at *;clear hRD;obtain⟨lo,hi⟩:=rd;simp only at HRw hrg;go_wp2_with fail
   refine HRw.out.mono ?_;rintro e w2 ⟨rfl,hb2⟩;have HB2:Hid (Below w.heap.size w w2):=HB.out.trans (hb2.mono HB.out.size);have HM2:=zA (HM.out.below hb2);clear hb2 HRw;obtain⟨g,rfl,s0,s1⟩:=zJ0.out w2 HB2.out i zI6;obtain⟨gn,rfl,cn⟩:=HNm.out w2 HB2.out i zI6;have d1:=HC1.out w2 HB2.out
   have HSet:Hid (∀j,j<i+1->(L.set i (vs.getD i 0)).getD j 0=vs.getD j 0):=fun j hj=>by
    rw[nM L i j _ (by omega)];split
    ·rename_i e;subst e;rfl
    ·exact HE.out j (by omega)
   generalize vs.getD i 0=v at *;generalize names.getD i []=nm at *;obtain⟨r1,r2⟩:=hrg;have r3:¬v<lo:=by omega
   have r4:¬hi<v:=by omega
   have b1:(nm==nm)=true:=by simp
   have b2:(nm != nm)=false:=by simp
   have lg:=zP s0;go_wp2_with fail
   go_quiet (fail)
   have HB3:Hid (Below w.heap.size w (w2.drewN nq)):=yA HB2.out nq;have HM3:Hid (tT (w2.drewN nq) w.heap.size L):=HM2.out.below (yA (tj _ _) nq);have t1:=((yA (tj w2.heap.size w2) nq).cell (p:=⟨g,i*2+1,none⟩) lg).trans s1;clear s0 s1 cn d1 HB2 HM2;generalize w2.drewN nq=w3 at *;have fz:=HM3.out.free i;have cL:=HM3.out.cell (show i<L.length by omega);have HM4:=zA (HM3.out.set i v);generalize L.getD i 0=li at *;go_wp2_with fail
   go_roundw
   case rel=>exact⟨i+1,L.set i v,by omega,by simpa using hL,by go_num,HM4,zA (HB3.out.setCell (t9 _) _),HSet⟩
   case measure=>simp[intOf];omega
  ·obtain rfl:i=names.length:=by omega
   have ii:¬(names.length:Int)<(names.length:Int):=by omega
   obtain rfl:=HEx.out L hL HE.out;go_wp2_with fail
   go_ret2
   exact⟨_,rfl,HM.out,HB.out⟩
theorem UY(l:Bs)(w:World)(k p:Int)(hk:k≠0)(hC:Calls Tryz.prog 39 #[.string ⟨l.toArray⟩] w fun e w'=>e=.returned (.tuple #[.int .i64 k,.int .i64 p])/\Below w.heap.size w w') :
 Calls Tryz.prog 15 #[.string ⟨l.toArray⟩,.slice none 0 0,.slice none 0 0,.int .i64 k] w fun e w'=>e=.returned (.bool true)/\Below w.heap.size w w':=by
 have HC:=zA hC;clear hC;have b0:(k != 0)=true:=by simpa using hk
 have b1:(k==k)=true:=by simp
 clear hk
 go_enter Tryz.func15,Tryz.ntmps15
 go_wp2_with fail
 refine HC.out.mono ?_;rintro e w1 ⟨rfl,hb⟩;have HB:=zA hb;clear hb;go_wp2_with fail
 go_ret
 exact⟨rfl,HB.out⟩
theorem KZ(l:Bs)(w:World)(p:Int)(ls:List zF)(hl4:l.length<=4000)(hO:KR ls (yX l))(zIP:∀u∈yX l,cA u 0=zR->zB6 u)(zJ4:∀i k,¬Be (yX l) i k)(hC:Calls Tryz.prog 39 #[.string ⟨l.toArray⟩] w fun e w'=>e=.returned (.tuple #[.int .i64 0,.int .i64 p])/\Below w.heap.size w w') :
 Calls Tryz.prog 15 #[.string ⟨l.toArray⟩,.slice none 0 0,.slice none 0 0,.int .i64 9] w fun e w'=>e=.returned (.bool true)/\Below w.heap.size w w':=by
 have HC:=zA hC;have HR:=zA (fun w'=>zB4 l w' hl4 ls hO.lines zIP);have HP:Hid (∀w' b rs,cU w' b (yX l) (qC (yX l)++qM (yX l)) (qC (yX l)).length rs->rs.map Prod.fst=vO (qC (yX l)++qM (yX l)) (yX l)->Calls Tryz.prog 41 #[.pointer (some ⟨b,0,none⟩)] w' fun e w2=>nV (Be (yX l)) w' w2 e):=fun w' b rs h1 h2=>Fk h1 h2 hO;have HN:=zA zJ4;clear hC hO zIP zJ4;generalize Be (yX l)=R at *
 go_enter Tryz.func15,Tryz.ntmps15
 go_wp2_with fail
 refine HC.out.mono ?_;rintro e w1 ⟨rfl,hb⟩;have HB:=zA hb;clear hb;go_wp2_with fail
 refine(HR.out w1).mono ?_;rintro e w2 ⟨b,rs,rfl,hbk,hrs,hb2⟩;have HPw:=zA (HP.out w2 b rs hbk hrs);have HB2:Hid (Below w.heap.size w w2):=HB.out.trans (hb2.mono HB.out.size);clear hbk hrs hb2 HP HR HC;go_wp2_with fail
 refine HPw.out.mono ?_;rintro e w3 ⟨i,k,f,rfl,hy,hn,hb3⟩;have HB3:Hid (Below w.heap.size w w3):=HB2.out.trans (hb3.mono HB2.out.size);clear hb3 HPw
 obtain rfl:f=false:=by
  cases f with
  | false=>rfl
  | true=>exact absurd (hy rfl).1 (HN.out i k)
 clear hy hn;go_wp2_with fail
 go_ret
 exact⟨rfl,HB3.out⟩
structure Yd(us:List zG)(w:World)(la sa:Option Addr)(i k:Nat)(vs:List Int):Prop where
 first:oU (Be us) i k
 lab:jX w la [.string ⟨((vO (yT us) us).getD i QO).label.toArray⟩,.string ⟨((vO (yT us) us).getD k QO).label.toArray⟩]
 set:x5 w sa (yT us) vs
 len:vs.length=(yT us).length
 room:∀a,a<(yT us).length->(uK us (yT us) (qC us).length a).1<=vs.getD a 0/\vs.getD a 0<=(uK us (yT us) (qC us).length a).2
 app1:qR (qC us).length vs ((vO (yT us) us).getD i QO)=true
 app2:qR (qC us).length vs ((vO (yT us) us).getD k QO)=true
theorem Yd.below{w w':World}{la sa:Option Addr}{vs:List Int}(h:Yd us w la sa i k vs)(hb:Below w.heap.size w w'):Yd us w' la sa i k vs:=⟨h.first,h.lab.below hb,h.set.below hb,h.len,h.room,h.app1,h.app2⟩
theorem KY(l:Bs)(w:World)(p:Int)(ls:List zF)(la sa:Option Addr)(sc i k:Nat)(vs:List Int)(hl4:l.length<=4000)(hO:KR ls (yX l))(zIP:∀u∈yX l,cA u 0=zR->zB6 u)(hT:Yd (yX l) w la sa i k vs)(hC:Calls Tryz.prog 39 #[.string ⟨l.toArray⟩] w fun e w'=>e=.returned (.tuple #[.int .i64 0,.int .i64 p])/\Below w.heap.size w w') :
 Calls Tryz.prog 15 #[.string ⟨l.toArray⟩,.slice la 2 2,.slice sa (yT (yX l)).length sc,.int .i64 0] w fun e w'=>e=.returned (.bool true)/\Below w.heap.size w w':=by
 have HC:=zA hC;have HR:=zA (fun w'=>zB4 l w' hl4 ls hO.lines zIP);have HP:Hid (∀w' b rs,cU w' b (yX l) (qC (yX l)++qM (yX l)) (qC (yX l)).length rs->rs.map Prod.fst=vO (qC (yX l)++qM (yX l)) (yX l)->Calls Tryz.prog 41 #[.pointer (some ⟨b,0,none⟩)] w' fun e w2=>nV (Be (yX l)) w' w2 e):=fun w' b rs h1 h2=>Fk h1 h2 hO
 have HFi:Hid (∀i' k' f,(f=true->oU (Be (yX l)) i' k')->(f=false->∀i k,¬Be (yX l) i k)->f=true/\i'=i/\k'=k):=fun i' k' f h1 h2=>by
  cases f with
  | false=>exact absurd hT.first.1 (h2 rfl i k)
  | true=>exact⟨rfl,(Qf (h1 rfl) hT.first).1,(Qf (h1 rfl) hT.first).2⟩
 have hik:=hT.first.1
 have HSe:Hid (∀w' b rs,Below w.heap.size w w'->cU w' b (yX l) (qC (yX l)++qM (yX l)) (qC (yX l)).length rs->Calls Tryz.prog 42 #[.pointer (some ⟨b,0,none⟩),.slice sa (yT (yX l)).length sc] w' fun e w2=>∃g,e=.returned (.tuple #[.slice (some ⟨g,0,none⟩) (yT (yX l)).length (yT (yX l)).length,.bool true])/\tT w2 g vs/\Below w'.heap.size w' w2):=fun w' b rs hb hk=>zHO w' b ls (yX l) (yT (yX l)) (qC (yX l)).length rs sa sc vs hk hO.lines (by unfold yT;simp) hT.len (hT.set.below hb) hT.room
 have HGo:Hid (∀w' b rs,cU w' b (yX l) (qC (yX l)++qM (yX l)) (qC (yX l)).length rs->rs.map Prod.fst=vO (qC (yX l)++qM (yX l)) (yX l)->∃g rc p1 p2 n1 m1 p3 p4 q1 q2 n2 m2 q3 q4 h1 h2,i<rs.length/\k<rs.length/\rs.length<=10000/\(∀w2,Below w'.heap.size w' w2->w2.cell? ⟨b,3,none⟩=some (.slice (some ⟨g,0,none⟩) rs.length rc)/\(w2.cell? ⟨g,i*4,none⟩=some (.string ⟨((vO (yT (yX l)) (yX l)).getD i QO).label.toArray⟩)/\w2.cell? ⟨g,i*4+1,none⟩=some (.int .i64 h1)/\w2.cell? ⟨g,i*4+2,none⟩=some (.slice p1 n1 p2)/\w2.cell? ⟨g,i*4+3,none⟩=some (.slice p3 m1 p4))/\(w2.cell? ⟨g,k*4,none⟩=some (.string ⟨((vO (yT (yX l)) (yX l)).getD k QO).label.toArray⟩)/\w2.cell? ⟨g,k*4+1,none⟩=some (.int .i64 h2)/\w2.cell? ⟨g,k*4+2,none⟩=some (.slice q1 n2 q2)/\w2.cell? ⟨g,k*4+3,none⟩=some (.slice q3 m2 q4)))/\∀w2 gv,Below w'.heap.size w' w2->tT w2 gv vs->∀w3,Below w2.heap.size w2 w3->Calls Tryz.prog 43 #[.pointer (some ⟨b,0,none⟩),.agg #[.string ⟨((vO (yT (yX l)) (yX l)).getD i QO).label.toArray⟩,.int .i64 h1,.slice p1 n1 p2,.slice p3 m1 p4],.slice (some ⟨gv,0,none⟩) (yT (yX l)).length (yT (yX l)).length] w3 (fun e w4=>e=.returned (.bool true)/\Below w3.heap.size w3 w4)/\Calls Tryz.prog 43 #[.pointer (some ⟨b,0,none⟩),.agg #[.string ⟨((vO (yT (yX l)) (yX l)).getD k QO).label.toArray⟩,.int .i64 h2,.slice q1 n2 q2,.slice q3 m2 q4],.slice (some ⟨gv,0,none⟩) (yT (yX l)).length (yT (yX l)).length] w3 (fun e w4=>e=.returned (.bool true)/\Below w3.heap.size w3 w4)):=fun w' b rs hbk hrs=>by
  have hl:rs.length=(vO (yT (yX l)) (yX l)).length:=by have:=congrArg List.length hrs;rw[ms]at this;exact this
  have hk1:k<rs.length:=by rw[hl];exact hik.2.1
  have hi1:i<rs.length:=by have:=hik.1;omega
  obtain⟨ra,rc,d3,zIZ⟩:=hbk.rul;obtain⟨g,rfl,i1,i2,i3,i4⟩:=wH zIZ hi1;obtain⟨g',e',k1,k2,k3,k4⟩:=wH zIZ hk1;obtain rfl:g=g':=by simpa using e'
  have hri:=hbk.rows _ (cE hi1);have hrk:=hbk.rows _ (cE hk1);obtain⟨p1,p2,e1,-⟩:=hri.parts;obtain⟨p3,p4,e2,-⟩:=hri.steps;obtain⟨q1,q2,e3,-⟩:=hrk.parts;obtain⟨q3,q4,e4,-⟩:=hrk.steps;have x1:(bL rs i).1=(vO (yT (yX l)) (yX l)).getD i QO:=YP hrs i;have x2:(bL rs k).1=(vO (yT (yX l)) (yX l)).getD k QO:=YP hrs k;have m1:(bL rs i).1∈vO (yT (yX l)) (yX l):=by rw[x1];exact nN _ (by omega)
  have m2:(bL rs k).1∈vO (yT (yX l)) (yX l):=by rw[x2];exact nN _ (by omega)
  have lg:=zP i1;have lb:=zP d3;refine⟨g,rc,p1,p2,(bL rs i).1.parts.length,(bL rs i).1.steps.length,p3,p4,q1,q2,(bL rs k).1.parts.length,(bL rs k).1.steps.length,q3,q4,(bL rs i).1.head,(bL rs k).1.head,hi1,hk1,hbk.few,fun w2 hb=>?_,fun w2 gv hb hv w3 hb3=>?_⟩
  ·have hc:=fun j v (h:w'.cell? ⟨g,j,none⟩=some v)=>(hb.cell (p:=⟨g,j,none⟩) lg).trans h
   rw[e1]at i3;rw[e2]at i4;rw[e3]at k3;rw[e4]at k4;rw[x1]at i1;rw[x2]at k1;exact⟨(hb.cell (p:=⟨b,3,none⟩) lb).trans d3,⟨hc _ _ i1,hc _ _ i2,hc _ _ i3,hc _ _ i4⟩,hc _ _ k1,hc _ _ k2,hc _ _ k3,hc _ _ k4⟩
  ·have hb4:Below w'.heap.size w' w3:=hb.trans (hb3.mono hb.size)
   have zIK:w3.cell? ⟨b,2,none⟩=some (.int .i64 ((qC (yX l)).length:Int)):=(hbk.down hb4).ins;have hfn:(yT (yX l)).length<=10000:=by obtain⟨_,_,_,zIO⟩:=hbk.nam;exact zIO.few
   have hvs:mM w3 (some ⟨gv,0,none⟩) vs:=(hv.below hb3).ints (by rw[hT.len];exact hfn);have a1:=aS w3 b (bL rs i) (qC (yX l)).length (some ⟨gv,0,none⟩) (yT (yX l)).length vs (hri.below hb4) zIK hvs (hO.ok _ m1 vs hT.len);have a2:=aS w3 b (bL rs k) (qC (yX l)).length (some ⟨gv,0,none⟩) (yT (yX l)).length vs (hrk.below hb4) zIK hvs (hO.ok _ m2 vs hT.len);unfold Qm at a1 a2;rw[e1,e2,hT.len,show qR (qC (yX l)).length vs (bL rs i).1=true by rw[x1];exact hT.app1]at a1;rw[e3,e4,hT.len,show qR (qC (yX l)).length vs (bL rs k).1=true by rw[x2];exact hT.app2]at a2;rw[show (bL rs i).1.label=((vO (yT (yX l)) (yX l)).getD i QO).label by rw[x1]]at a1;rw[show (bL rs k).1.label=((vO (yT (yX l)) (yX l)).getD k QO).label by rw[x2]]at a2;exact⟨a1,a2⟩
 have HLb:=zA (fun w' (hb:Below w.heap.size w w')=>hT.lab.below hb);clear hC hO zIP hT hik;generalize ((vO (yT (yX l)) (yX l)).getD i QO).label=xl at *;generalize ((vO (yT (yX l)) (yX l)).getD k QO).label=yl at *;generalize Be (yX l)=R at *;generalize (yT (yX l)).length=NN at *
 go_enter Tryz.func15,Tryz.ntmps15
 go_wp2_with fail
 refine HC.out.mono ?_;rintro e w1 ⟨rfl,hb⟩;have HB:=zA hb;clear hb;go_wp2_with fail
 refine(HR.out w1).mono ?_;rintro e w2 ⟨b,rs,rfl,hbk,hrs,hb2⟩;have HPw:=zA (HP.out w2 b rs hbk hrs);have HB2:Hid (Below w.heap.size w w2):=HB.out.trans (hb2.mono HB.out.size);have HSw:Hid (∀w',Below w2.heap.size w2 w'->Calls Tryz.prog 42 #[.pointer (some ⟨b,0,none⟩),.slice sa NN sc] w' fun e w2=>∃g,e=.returned (.tuple #[.slice (some ⟨g,0,none⟩) NN NN,.bool true])/\tT w2 g vs/\Below w'.heap.size w' w2):=fun w' hb=>HSe.out w' b rs (HB2.out.trans (hb.mono HB2.out.size)) (hbk.down hb);obtain⟨g,rc,p1,p2,n1,m1,p3,p4,q1,q2,n2,m2,q3,q4,h1,h2,hi1,hk1,hf,hcs,hap⟩:=HGo.out w2 b rs hbk hrs;have HCs:=zA hcs;have HAp:=zA hap;clear hbk hrs hb2 HP HR HC HSe HGo hcs hap;go_wp2_with fail
 refine HPw.out.mono ?_;rintro e w3 ⟨i',k',f,rfl,hy,hn,hb3⟩;obtain⟨rfl,rfl,rfl⟩:=HFi.out i' k' f hy hn;have HB3:Hid (Below w2.heap.size w2 w3):=hb3;have HSx:=zA (HSw.out w3 hb3);clear hb3 HPw hy hn HFi HSw;go_wp2_with fail
 refine HSx.out.mono ?_;rintro e w4 ⟨gv,rfl,hv,hb4⟩;have HB4:Hid (Below w2.heap.size w2 w4):=HB3.out.trans (hb4.mono HB3.out.size);have HAq:=zA (HAp.out w4 gv HB4.out hv);have HBw4:Hid (Below w.heap.size w w4):=HB2.out.trans (HB4.out.mono HB2.out.size);clear hb4 HSx hv HAp HB3;have ii:(i':Int)<(rs.length:Int):=by omega
 have kk:(k':Int)<(rs.length:Int):=by omega
 obtain⟨d3,⟨i1,i2,i3,i4⟩,k1,k2,k3,k4⟩:=HCs.out w4 HB4.out;have lb:=zP d3;have lg:=zP i1;have x0:w4.heap.size≠b:=by omega
 have x1:w4.heap.size≠g:=by omega
 go_upto_region 13 with fail
 have HX1:Hid (((w4.alloc (.cells #[.string ⟨xl.toArray⟩,.int .i64 h1,.slice p1 n1 p2,.slice p3 m1 p4] 115)).alloc (.cells #[.string ⟨yl.toArray⟩,.int .i64 h2,.slice q1 n2 q2,.slice q3 m2 q4] 115)).heap[w4.heap.size]? = some (.cells #[.string ⟨xl.toArray⟩,.int .i64 h1,.slice p1 n1 p2,.slice p3 m1 p4] 115 (0,0))):=yJ (zM _ _);have HX2:Hid (((w4.alloc (.cells #[.string ⟨xl.toArray⟩,.int .i64 h1,.slice p1 n1 p2,.slice p3 m1 p4] 115)).alloc (.cells #[.string ⟨yl.toArray⟩,.int .i64 h2,.slice q1 n2 q2,.slice q3 m2 q4] 115)).heap[w4.heap.size+1]? = some (.cells #[.string ⟨yl.toArray⟩,.int .i64 h2,.slice q1 n2 q2,.slice q3 m2 q4] 115 (0,0))):=xX _ _ _ (by simp);have HB5:Hid (Below w4.heap.size w4 ((w4.alloc (.cells #[.string ⟨xl.toArray⟩,.int .i64 h1,.slice p1 n1 p2,.slice p3 m1 p4] 115)).alloc (.cells #[.string ⟨yl.toArray⟩,.int .i64 h2,.slice q1 n2 q2,.slice q3 m2 q4] 115))):=(ge (t9 _) _).alloc (by simp) _;obtain⟨gl,e9,l0⟩:=(HLb.out w4 HBw4.out).at (j:=0) rfl;subst e9;have ll:=zP l0;clear d3 i1 i2 i3 i4 k1 k2 k3 k4 HCs;generalize (w4.alloc (.cells #[.string ⟨xl.toArray⟩,.int .i64 h1,.slice p1 n1 p2,.slice p3 m1 p4] 115)).alloc (.cells #[.string ⟨yl.toArray⟩,.int .i64 h2,.slice q1 n2 q2,.slice q3 m2 q4] 115)=w5 at *;have hs5:=HB5.out.size
 have HCs:Hid (∀w',Below w5.heap.size w5 w'->(w'.cell? ⟨gl,0,none⟩=some (.string ⟨xl.toArray⟩)/\w'.cell? ⟨gl,1,none⟩=some (.string ⟨yl.toArray⟩))/\(w'.cell? ⟨w4.heap.size,0,none⟩=some (.string ⟨xl.toArray⟩)/\w'.cell? ⟨w4.heap.size,1,none⟩=some (.int .i64 h1)/\w'.cell? ⟨w4.heap.size,2,none⟩=some (.slice p1 n1 p2)/\w'.cell? ⟨w4.heap.size,3,none⟩=some (.slice p3 m1 p4))/\(w'.cell? ⟨w4.heap.size+1,0,none⟩=some (.string ⟨yl.toArray⟩)/\w'.cell? ⟨w4.heap.size+1,1,none⟩=some (.int .i64 h2)/\w'.cell? ⟨w4.heap.size+1,2,none⟩=some (.slice q1 n2 q2)/\w'.cell? ⟨w4.heap.size+1,3,none⟩=some (.slice q3 m2 q4))):=fun w' hb=>by
  have hb':Below w.heap.size w w':=HBw4.out.trans ((HB5.out.trans (hb.mono hs5)).mono HBw4.out.size);obtain⟨g1,f1,z0⟩:=(HLb.out w' hb').at (j:=0) rfl;obtain⟨g2,f2,z1⟩:=(HLb.out w' hb').at (j:=1) rfl;obtain rfl:gl=g1:=by simpa using f1
  obtain rfl:gl=g2:=by simpa using f2
  have y1:w'.heap[w4.heap.size]? = _:=(hb.block _ (yK HX1.out)).trans HX1.out;have y2:w'.heap[w4.heap.size+1]? = _:=(hb.block _ (yK HX2.out)).trans HX2.out;exact⟨⟨z0,z1⟩,⟨zD y1 0,zD y1 1,zD y1 2,zD y1 3⟩,zD y2 0,zD y2 1,zD y2 2,zD y2 3⟩
 have HA1:=zA (fun w' (hb:Below w5.heap.size w5 w')=>(HAq.out w' (HB5.out.trans (hb.mono hs5))).1);have HA2:=zA (fun w' (hb:Below w5.heap.size w5 w')=>(HAq.out w' (HB5.out.trans (hb.mono hs5))).2);have HBw5:Hid (Below w.heap.size w w5):=HBw4.out.trans (HB5.out.mono HBw4.out.size);have b1:(xl==xl)=true:=by simp
 have b2:(yl==yl)=true:=by simp
 clear HX1 HX2 HAq HLb l0 HB5 HB4 HBw4;obtain⟨⟨z0,z1⟩,⟨i1,i2,i3,i4⟩,k1,k2,k3,k4⟩:=HCs.out w5 (tj _ _)
 go_region_held3 (fun w'=>(w'.cell? ⟨gl,0,none⟩=some (.string ⟨xl.toArray⟩)/\w'.cell? ⟨gl,1,none⟩=some (.string ⟨yl.toArray⟩))/\(w'.cell? ⟨w4.heap.size,0,none⟩=some (.string ⟨xl.toArray⟩)/\w'.cell? ⟨w4.heap.size,1,none⟩=some (.int .i64 h1)/\w'.cell? ⟨w4.heap.size,2,none⟩=some (.slice p1 n1 p2)/\w'.cell? ⟨w4.heap.size,3,none⟩=some (.slice p3 m1 p4))/\(w'.cell? ⟨w4.heap.size+1,0,none⟩=some (.string ⟨yl.toArray⟩)/\w'.cell? ⟨w4.heap.size+1,1,none⟩=some (.int .i64 h2)/\w'.cell? ⟨w4.heap.size+1,2,none⟩=some (.slice q1 n2 q2)/\w'.cell? ⟨w4.heap.size+1,3,none⟩=some (.slice q3 m2 q4))) (go_keep) (
  (first
   | (go_at_call_of 43 (Value.agg #[.string ⟨xl.toArray⟩,.int .i64 h1,.slice p1 n1 p2,.slice p3 m1 p4]);refine(HA1.out _ (me (tj _ _))).mono ?_;rintro e w6 ⟨rfl,hb6⟩;have hB6:Below w5.heap.size w5 w6:=(me (tj _ _)).trans hb6;obtain⟨⟨z0,z1⟩,⟨i1,i2,i3,i4⟩,k1,k2,k3,k4⟩:=HCs.out w6 hB6)
   | (go_at_call_of 43 (Value.agg #[.string ⟨yl.toArray⟩,.int .i64 h2,.slice q1 n2 q2,.slice q3 m2 q4]);refine(HA2.out _ hB6).mono ?_;rintro e w7 ⟨rfl,hb7⟩;have hB7:Below w5.heap.size w5 w7:=hB6.trans (hb7.mono hB6.size);obtain⟨⟨z0,z1⟩,⟨i1,i2,i3,i4⟩,k1,k2,k3,k4⟩:=HCs.out w7 hB7)))
 all_goals
  go_wp2_with fail
  go_ret
  exact⟨rfl,HBw5.out.trans (hB7.mono HBw5.out.size)⟩
structure zF2(r:vI)(s s':vF):Prop where
 sum:∀p∈r.sum,p.kind=3->pI s.has p.place=pI s'.has p.place
 has:∀y∈r.guard,y.kind=5->pI s.has y.place=pI s'.has y.place
 flag:∀y∈r.guard,y.kind=6->(mJ s.inputs y.place=1 ↔ mJ s'.inputs y.place=1)
 cmp:∀y∈r.guard,y.kind=7->QP y s=QP y s'
theorem yi(h:zF2 r s s'):jW r s=jW r s':=by
 have h1:mP s r.sum=mP s' r.sum:=by
  unfold mP
  exact JI fun p hp=>by
   by_cases k:p.kind=3
   ·rw[h.sum p hp k]
   ·rw[th k];rfl
 have h2:∀(N:List jH) hs,(∀y∈N,y∈r.guard)->nI s N hs=nI s' N hs:=by
  intro N
  induction N with
  | nil=>intro hs _;rfl
  | cons y t ih =>
    intro hs hy;rw[nI,nI];have hm:=hy y (by simp)
    have e:Cs y s hs=Cs y s' hs:=by
     unfold Cs;by_cases k5:y.kind=5
     ·simp only[k5];exact h.has y hm k5
     ·by_cases k6:y.kind=6
      ·have:=h.flag y hm k6
       have e6:decide (mJ s.inputs y.place=1)=decide (mJ s'.inputs y.place=1):=by rw[ct];simpa using this
       rw[e6];simp[k6]
      ·by_cases k7:y.kind=7
       ·rw[h.cmp y hm k7];simp[k7]
       ·simp[k5,k6,k7]
    rw[e];exact ih _ fun z hz=>hy z (by simp[hz])
 unfold jW;rw[h1,h2 r.guard [] fun y hy=>hy]
def lR(r:vI)(c:Nat):Bool:=r.sum.any fun p=>decide (p.kind=3)&&decide (p.place=(c:Int))
def vZ(r:vI)(c:Nat):Bool:=r.guard.any fun y=>decide (y.kind=5)&&decide (y.place=(c:Int))
def mC(r:vI)(i:Nat):Bool:=r.guard.any fun y=>if y.kind=6 then decide (y.place=(i:Int)) else if y.kind=7 then decide (y.place=(i:Int)) || (y.two&&decide (y.other=(i:Int))) else false
def xQ(r:vI)(i:Nat):List Int:=(r.guard.filter fun y=>decide (y.kind=7)&&(!y.two&&decide (y.place=(i:Int)))).map jH.num
theorem JE(h:jW r s=true){c:Nat}(hc:lR r c=true):pI s.has (c:Int)=true:=by
 unfold jW at h;rw[tz]at h;obtain⟨p,hp,h1⟩:=mj.1 hc;rw[tz,py,py]at h1;have h2:=List.all_eq_true.1 h.1 p hp;rw[h1.2,tm h1.1]at h2;simpa using h2
structure zBH(r:vI)(pA:Nat->Bool)(s s':vF):Prop where
 len:s.inputs.length=s'.inputs.length
 has:∀c:Nat,(lR r c || vZ r c)=true->pI s.has (c:Int)=pI s'.has (c:Int)
 flag:∀i:Nat,i<s.inputs.length->mC r i=true->pA i=false->s.inputs.getD i 0=s'.inputs.getD i 0
 side:∀i:Nat,i<s.inputs.length->pA i=true->∀b∈xQ r i,(s.inputs.getD i 0<b ↔ s'.inputs.getD i 0<b)/\(s.inputs.getD i 0=b ↔ s'.inputs.getD i 0=b)
 order:∀i j:Nat,i<s.inputs.length->j<s.inputs.length->mC r i=true->mC r j=true->pA i=true->pA j=true->(s.inputs.getD i 0<s.inputs.getD j 0 ↔ s'.inputs.getD i 0<s'.inputs.getD j 0)
structure iX(r:vI)(n:Nat)(pA:Nat->Bool):Prop where
 flag:∀y∈r.guard,y.kind=6->∃i,i<n/\y.place=(i:Nat)/\pA i=false
 cmp:∀y∈r.guard,y.kind=7->∃i,i<n/\y.place=(i:Nat)/\pA i=true
 two:∀y∈r.guard,y.kind=7->y.two=true->∃i,i<n/\y.other=(i:Nat)/\pA i=true
theorem DP{l:List Bool}{a:Int}(h:a<0):pI l a=false:=by unfold pI;rw[th (by omega)];rfl
theorem aD{l:List Int}(h:i<l.length):mJ l (i:Int)=l.getD i 0:=by unfold mJ;rw[tl ⟨by omega,by omega⟩];rfl
theorem Df{pA:Nat->Bool}(hp:iX r s.inputs.length pA)(h:zBH r pA s s'):zF2 r s s':=by
 have hT:∀a:Int,(∀c:Nat,a=(c:Int)->(lR r c || vZ r c)=true)->pI s.has a=pI s'.has a:=fun a ha=>by
  rcases cr a 0 with h0|h0
  ·rw[DP h0,DP h0]
  ·obtain⟨c,rfl⟩:∃c:Nat,a=(c:Int):=⟨a.toNat,by omega⟩
   exact h.has c (ha c rfl)
 refine⟨fun p hpm k=>hT _ fun c e=>?_,fun y hy k=>hT _ fun c e=>?_,fun y hy k=>?_,fun y hy k=>?_⟩
 ·rw[mz];exact .inl (mj.2 ⟨p,hpm,by simp[k,e]⟩)
 ·rw[mz];exact .inr (mj.2 ⟨y,hy,by simp[k,e]⟩)
 ·obtain⟨i,hi,e,hn⟩:=hp.flag y hy k
  rw[e,aD hi,aD (by rw[<-h.len];exact hi),h.flag i hi (mj.2 ⟨y,hy,by simp[k,e]⟩) hn]
 ·obtain⟨i,hi,e,hn⟩:=hp.cmp y hy k
  have ha:mC r i=true:=mj.2 ⟨y,hy,by simp[k,e]⟩;unfold QP;rw[e,aD hi,aD (show i<s'.inputs.length by rw[<-h.len];exact hi)];cases h2:y.two
  ·have hb:y.num∈xQ r i:=ml.2 ⟨y,ma.2 ⟨hy,by simp[k,h2,e]⟩,rfl⟩
   have hs:=h.side i hi hn _ hb;simp only[Bool.false_eq_true,if_false];generalize s.inputs.getD i 0=a at *;generalize s'.inputs.getD i 0=a' at *;by_cases c1:a<y.num
   ·rw[tl c1,tl (hs.1.1 c1)]
   ·rw[tg c1,tg (fun c=>c1 (hs.1.2 c))]
    by_cases c2:y.num<a
    ·rw[tl c2,tl (by omega)]
    ·rw[tg c2,tg (by omega)]
  ·obtain⟨j,hj,e2,hn2⟩:=hp.two y hy k h2
   have ha2:mC r j=true:=mj.2 ⟨y,hy,by simp[k,h2,e2]⟩;have o1:=h.order i j hi hj ha ha2 hn hn2;have o2:=h.order j i hj hi ha2 ha hn2 hn;simp only[if_true];rw[e2,aD hj,aD (show j<s'.inputs.length by rw[<-h.len];exact hj)];generalize s.inputs.getD i 0=a at *;generalize s'.inputs.getD i 0=a' at *;generalize s.inputs.getD j 0=b at *;generalize s'.inputs.getD j 0=b' at *;by_cases c1:a<b
   ·rw[tl c1,tl (o1.1 c1)]
   ·rw[tg c1,tg (fun c=>c1 (o1.2 c))]
    by_cases c2:b<a
    ·rw[tl c2,tl (o2.1 c2)]
    ·rw[tg c2,tg (fun c=>c2 (o2.2 c))]
theorem JJ{pA:Nat->Bool}(hp:iX r s.inputs.length pA)(h:zBH r pA s s'):jW r s=jW r s':=yi (Df hp h)
theorem VO{α:Type}(d:α)(P:Nat->α->Prop):∀n,(∀p,p<n->∃z,P p z)->∃Z:List α,Z.length=n/\∀p,p<n->P p (Z.getD p d):=by
 intro n
 induction n with
 | zero=>intro _;exact⟨[],rfl,fun p h=>absurd h (by omega)⟩
 | succ n ih =>
   intro h;obtain⟨Z,h1,h2⟩:=ih fun p hp=>h p (by omega);obtain⟨z,hz⟩:=h n (by omega);refine⟨Z++[z],by simp[h1],fun p hp=>?_⟩;by_cases hp2:p<n
   ·have:(Z++[z]).getD p d=Z.getD p d:=by simp[List.getD,pw (show p<Z.length by omega)]
    rw[this];exact h2 p hp2
   ·obtain rfl:p=n:=by omega
    have:(Z++[z]).getD p d=z:=by simp[List.getD,<-h1]
    rw[this];exact hz
def kX(I:List yI)(i:Nat):yI:=I.getD i xb
def xT(I:List yI)(i:Nat):Bool := !(kX I i).isFlag
structure fR(I:List yI)(H:Nat)(y:vF):Prop where
 inl:y.inputs.length=I.length
 hal:y.has.length=H
 num:∀i,i<I.length->xT I i=true->(kX I i).low<=y.inputs.getD i 0/\y.inputs.getD i 0<=(kX I i).high
 flag:∀i,i<I.length->xT I i=false->y.inputs.getD i 0=0\/y.inputs.getD i 0=1
def kS(e l:vI)(i:Nat):Bool:=mC e i || mC l i
def uX(e l:vI)(c:Nat):Bool:=lR e c || lR l c
def vQ(I:List yI)(e l:vI):List Nat:=(List.range I.length).filter fun i=>kS e l i&&xT I i
theorem lO:i∈vQ I e l ↔ i<I.length/\kS e l i=true/\xT I i=true:=by
 unfold vQ;rw[ma,db,tz]
theorem oD{p:Nat}(h:p<(vQ I e l).length):(vQ I e l).getD p 0∈vQ I e l:=by simp[List.getD,h]
theorem YR(hi:i<I.length)(ha:kS e l i=true)(hn:xT I i=true):∃p,p<(vQ I e l).length/\(vQ I e l).getD p 0=i:=by
 obtain⟨p,hp,e⟩:=f8 (lO.2 ⟨hi,ha,hn⟩);exact⟨p,hp,by simp[List.getD,hp,e]⟩
def mD(I:List yI)(e l:vI)(i:Nat):List (Int × Int):=nW (kX I i).low (kX I i).high (xQ e i) (xQ l i)
structure zEX(I:List yI)(e l:vI)(rk:List Nat)(o:List Int)(y t:vF):Prop where
 inl:t.inputs.length=I.length
 num:∀p,p<(vQ I e l).length->t.inputs.getD ((vQ I e l).getD p 0) 0=o.getD (rk.getD p 0) 0
 flag:∀i,i<I.length->kS e l i=true->xT I i=false->t.inputs.getD i 0=y.inputs.getD i 0
 need:∀c:Nat,uX e l c=true->pI t.has (c:Int)=true
 has:∀c:Nat,uX e l c=false->(vZ e c || vZ l c)=true->pI t.has (c:Int)=pI y.has (c:Int)
theorem UA(h:b∈xQ r i):mC r i=true:=by
 obtain⟨y,hy,_⟩:=ml.1 h;have hf:=ma.1 hy;have h2:=hf.2;simp only[tz,py]at h2;exact mj.2 ⟨y,hf.1,by simp[h2.1,h2.2.2]⟩
theorem Vs{H:Nat}(hpe:iX e I.length (xT I))(hpl:iX l I.length (xT I))(hr:∀i,i<I.length->xT I i=true->0<=(kX I i).low/\(kX I i).high<=9999){y:vF}(hy:fR I H y)(he:jW e y=true)(hl:jW l y=true) :
 ∃Z:List (Int × Int),Z.length=(vQ I e l).length/\(∀p,p<(vQ I e l).length->Z.getD p (0,0)∈mD I e l ((vQ I e l).getD p 0))/\∃rk:List Nat,rk.length=Z.length/\(∀r∈rk,r<Z.length)/\∃o,rD (nC Z rk)=some o/\∀t,zEX I e l rk o y t->jW e t=true/\jW l t=true:=by
 obtain⟨Z,hZl,hZ⟩:=VO (0,0) (fun p z=>z∈mD I e l ((vQ I e l).getD p 0)/\z.1<=y.inputs.getD ((vQ I e l).getD p 0) 0/\y.inputs.getD ((vQ I e l).getD p 0) 0<=z.2) (vQ I e l).length (fun p hp=>by
  obtain⟨hi,_,hn⟩:=lO.1 (oD hp);have hrm:=hy.num _ hi hn;obtain⟨z,hz,h1⟩:=(Xh (kX I ((vQ I e l).getD p 0)).low (kX I ((vQ I e l).getD p 0)).high (xQ e ((vQ I e l).getD p 0)) (xQ l ((vQ I e l).getD p 0))).cover _ hrm.1 hrm.2;exact⟨z,hz,h1⟩)
 have hYg:∀p,p<(vQ I e l).length->((vQ I e l).map fun i=>y.inputs.getD i 0).getD p 0=y.inputs.getD ((vQ I e l).getD p 0) 0:=fun p hp=>by simp[List.getD,hp]
 obtain⟨rk,hrl,hrr,o,ho,hord⟩:=FE Z ((vQ I e l).map fun i=>y.inputs.getD i 0) (by simp[hZl]) (fun p hp=>by
  rw[hYg p (by omega)];exact(hZ p (by omega)).2) (fun x hx=>by
  obtain⟨i,hi,rfl⟩:=ml.1 hx;obtain⟨h1,_,h3⟩:=lO.1 hi;have:=hr i h1 h3;have:=hy.num i h1 h3;show 0<=y.inputs.getD i 0/\y.inputs.getD i 0<=9999;omega)
 refine⟨Z,hZl,fun p hp=>(hZ p hp).1,rk,hrl,hrr,o,ho,fun t ht=>?_⟩
 have hsound:=Xv (L:=nC Z rk) (fun n hn=>by
  obtain⟨i,hi,rfl⟩:=Jl hn;rw[Jm];exact hrr _ (by simp[List.getD,show i<rk.length by omega])) ho
 have zIK:∀p,p<(vQ I e l).length->(Z.getD p (0,0)).1<=t.inputs.getD ((vQ I e l).getD p 0) 0/\t.inputs.getD ((vQ I e l).getD p 0) 0<=(Z.getD p (0,0)).2:=fun p hp=>by
  rw[ht.num p hp];exact hsound _ (Vz rk (show p<Z.length by omega))
 have hal:∀r:vI,(r=e\/r=l)->zBH r (xT I) y t:=fun r hre=>by
  have hask:∀i,mC r i=true->kS e l i=true:=fun i h=>by unfold kS;rcases hre with rfl|rfl <;> rw[h] <;> simp
  have hnd:∀c,lR r c=true->uX e l c=true:=fun c h=>by unfold uX;rcases hre with rfl|rfl <;> rw[h] <;> simp
  have hah:∀c,vZ r c=true->(vZ e c || vZ l c)=true:=fun c h=>by rcases hre with rfl|rfl <;> rw[h] <;> simp
  have hny:∀c,uX e l c=true->pI y.has (c:Int)=true:=fun c h=>by
   unfold uX at h;rcases(mz _ _).mp h with h|h
   ·exact JE he h
   ·exact JE hl h
  refine⟨by rw[hy.inl,ht.inl],fun c hc=>?_,fun i hi ha hn=>?_,fun i hi hn b hb=>?_,fun i j hi hj ha ha2 hn hn2=>?_⟩
  ·cases hnc:uX e l c
   ·rcases(mz _ _).mp hc with hc|hc
    ·rw[hnd c hc]at hnc;exact absurd hnc (by decide)
    ·exact(ht.has c hnc (hah c hc)).symm
   ·rw[hny c hnc,ht.need c hnc]
  ·exact(ht.flag i (by rw[<-hy.inl];exact hi) (hask i ha) hn).symm
  ·obtain⟨p,hp,e1⟩:=YR (by rw[<-hy.inl];exact hi) (hask i (UA hb)) hn
   have hz:=hZ p hp;have ht2:=zIK p hp;rw[e1]at hz ht2;have:=(Xh (kX I i).low (kX I i).high (xQ e i) (xQ l i)).side _ hz.1 b (by rcases hre with rfl|rfl <;> simp[hb]) _ ht2.1 ht2.2 _ hz.2.1 hz.2.2;exact this
  ·obtain⟨p,hp,e1⟩:=YR (by rw[<-hy.inl];exact hi) (hask i ha) hn
   obtain⟨q,hq,e2⟩:=YR (by rw[<-hy.inl];exact hj) (hask j ha2) hn2;have h1:=hord p q (by omega) (by omega);rw[hYg p hp,hYg q hq,e1,e2]at h1;have h2:=ht.num p hp;have h3:=ht.num q hq;rw[e1]at h2;rw[e2]at h3;rw[h2,h3];exact h1.symm
 exact⟨by rw[<-JJ (hy.inl ▸ hpe) (hal e (.inl rfl))];exact he,by rw[<-JJ (hy.inl ▸ hpl) (hal l (.inr rfl))];exact hl⟩
theorem zDG{l:List zF}(h:(l.map zF.name).Nodup):∀x∈l,∀z∈l,x.name=z.name->x=z:=by
 induction l with
 | nil=>intro x hx;cases hx
 | cons a r ih =>
   rw[dm,List.nodup_cons]at h;intro x hx z hz e;rcases pi.1 hx with h1|h1
   ·rcases pi.1 hz with h2|h2
    ·rw[h1,h2]
    ·rw[h1]at e;exact absurd (ml.2 ⟨z,h2,e.symm⟩) h.1
   ·rcases pi.1 hz with h2|h2
    ·rw[h2]at e;exact absurd (ml.2 ⟨x,h1,e⟩) h.1
    ·exact ih h.2 x h1 z h2 e
theorem K8(h:uO ls){z:zF}(hx:x∈DV ls)(hz:z∈DV ls)(e:x.name=z.name):x=z:=zDG (by rw[<-XY];exact XX h) x hx z hz e
theorem nH(hi:i<(yG ls).length):∃x,x∈DV ls/\x∈ls/\kX (yG ls) i=oZ x/\(xI ls).getD i []=x.name:=by
 rw[Zq,ms]at hi;have hm:(DV ls).getD i Vc∈DV ls:=nN _ hi;refine⟨(DV ls).getD i Vc,hm,(ma.1 hm).1,?_,?_⟩
 ·unfold kX;rw[Zq];exact Qd _ _ _ _ _ hi
 ·rw[XY];exact Qd _ _ _ _ _ hi
theorem DU(h:x∈ls)(hk:x.kind=1\/x.kind=2):x∈DV ls:=ma.2 ⟨h,tm hk⟩
theorem zA7{k:Int}(h:x∈ls)(hk:x.kind=k):vR ls k x.name=true:=mj.2 ⟨x,h,by unfold Zo;rw[tm hk];simp⟩
theorem jh{nm:Bs}{k:Int}(h:vR ls k nm=true):∃x∈ls,x.kind=k/\x.name=nm:=by
 obtain⟨x,h1,h2⟩:=mj.1 h;unfold Zo at h2;rw[tz,py,py]at h2;exact⟨x,h1,h2.1,h2.2⟩
def aT(ls:List zF)(k:Nat):Bool:=decide (k<(yG ls).length)&&xT (yG ls) k
theorem mQ(hk:x.kind=1\/x.kind=2):(!(oZ x).isFlag)=decide (x.kind=1):=by
 unfold oZ;rcases hk with h|h
 ·rw[tl h,tm h];rfl
 ·rw[tg (by omega),th (by omega)];rfl
theorem Vv(hA:yP ls us)(h:uO ls){ins:Nat}(hk:k<ins)(hx:x∈DV ls)(hn:x.kind=1)(e:names.getD k []=x.name):uK us names ins k=(x.low,x.high):=by
 have hr:tF us (names.getD k [])=true:=by rw[wZ hA,e];exact zA7 (ma.1 hx).1 hn
 have h0:0<=zW us xK 1 (names.getD k []):=bg hr;unfold uK;rw[tl ⟨hk,h0⟩];have h1:=pQ (aG xK 1 (names.getD k [])) us 0;have h2:=iO (aG xK 1 (names.getD k [])) us 0 h0;obtain⟨f,hf⟩:∃f:Nat,zW us xK 1 (names.getD k [])=f:=⟨(zW us xK 1 (names.getD k [])).toNat,by omega⟩;have hf2:vT (aG xK 1 (names.getD k [])) us 0=f:=hf;rw[hf2]at h1 h2;have zI6:f<us.length:=by omega
 have hL:=hA.get f zI6;have h3:aG xK 1 (names.getD k []) (uA us f)=true:=by simpa using h2
 unfold aG at h3;rw[tz,py,py]at h3
 have hz:(lA ls f).kind=1/\xD 0 (tA (uA us f) 2)=(lA ls f).low/\xD 0 (tA (uA us f) 4)=(lA ls f).high:=by
  rcases hL.kind with ⟨q1,-,-,-,-,q2,q3⟩|⟨-,q⟩|⟨-,q,-⟩|⟨-,q,-⟩
  ·exact⟨q1,q2,q3⟩
  ·rw[h3.1]at q;exact absurd q (by decide)
  ·rw[h3.1]at q;exact absurd q (by decide)
  ·rw[h3.1]at q;exact absurd q (by decide)
 have hml:lA ls f∈ls:=by unfold lA;exact nN _ (by rw[hA.len];exact zI6)
 have hxz:lA ls f=x:=K8 h (DU hml (.inl hz.1)) hx (by rw[<-hL.name,h3.2,e]);rw[hf,Int.toNat_natCast,hz.2.1,hz.2.2,hxz]
theorem Xz{ins:Nat}(h:ins<=k\/tF us (names.getD k [])=false):uK us names ins k=(0,1):=by
 unfold uK;rw[tg];rintro⟨h1,h2⟩;rcases h with h|h
 ·omega
 ·unfold tF at h;rw[tm h2]at h;cases h
theorem Qk{k:Int}{m:Nat}(hl:Zk k=m)(h:∀i,i<ls.length->mK ls i=false):qD k ls<=m:=by
 have key:∀n,n<=ls.length->qD k (ls.take n)<=m:=by
  intro n
  induction n with
  | zero=>intro _;simp[qD]
  | succ n ih =>
    intro hn;rw[pJ ls n (by omega),U7];have ih:=ih (by omega);by_cases hk:(lA ls n).kind=k
    ·have hm:=h n (by omega)
     unfold mK at hm;rw[ld,bk,hk,hl]at hm;simp only[qD,hk,if_true];omega
    ·simp only[qD,tg hk];omega
 have:=key ls.length (t9 _)
 rwa [lj]at this
theorem J8{α:Type}(p:α->Bool)(d:α):∀(l:List α) (n:Nat),((List.range n).filter fun k=>decide (k<l.length)&&p (l.getD k d)).length<=(l.filter p).length
 | [],n=>by
   rw[List.filter_eq_nil_iff.2 (by intro k _;simp)];exact tr _
 | a::l,0=>by simp
 | a::l,n+1=>by
   have ih:=J8 p d l n;rw[List.range_succ_eq_map,List.filter_cons,List.filter_map,List.filter_cons]
   have e:((fun k=>decide (k<(a::l).length)&&p ((a::l).getD k d)) ∘ Nat.succ)=fun k=>decide (k<l.length)&&p (l.getD k d):=by
    funext k;simp[List.getD]
   rw[e];have e0:(decide (0<(a::l).length)&&p ((a::l).getD 0 d))=p a:=by simp[List.getD]
   rw[e0];cases p a <;> simp only[if_true,if_false,p7,ms,Bool.false_eq_true] <;> omega
theorem qo(ls:List zF):((yG ls).filter fun m => !m.isFlag).length<=qD 1 ls:=by
 rw[Zq];unfold DV
 induction ls with
 | nil=>simp
 | cons x r ih =>
   rw[List.filter_cons,qD];by_cases h1:x.kind=1\/x.kind=2
   ·rw[tm h1,tl rfl,dm,List.filter_cons,mQ h1]
    by_cases h2:x.kind=1
    ·rw[tm h2,tl rfl,tl h2,p7];omega
    ·rw[th h2,tg (by simp),tg h2];omega
   ·rw[th h1,tg (by simp),tg (by omega)];omega
theorem ju(ls:List zF):(yG ls).length=qD 1 ls+qD 2 ls:=by
 rw[Zq,ms];unfold DV
 induction ls with
 | nil=>simp[qD]
 | cons x r ih =>
   rw[List.filter_cons,qD,qD];by_cases h1:x.kind=1
   ·rw[tm (.inl h1),tl rfl,tl h1,tg (by omega),p7,ih];omega
   ·by_cases h2:x.kind=2
    ·rw[tm (.inr h2),tl rfl,tg h1,tl h2,p7,ih];omega
    ·rw[th (by omega),tg (by simp),tg h1,tg h2,ih];omega
theorem Uf(h:uO ls):(yG ls).length<=6:=by
 have h1:=Qk (k:=1) (m:=3) (by decide) h.many;have h2:=Qk (k:=2) (m:=3) (by decide) h.many;rw[ju];omega
theorem tR(ls:List zF):(xI ls).length=(yG ls).length:=by unfold xI;rw[ms]
theorem VK(h:uO ls)(hx:x∈ls)(hk:x.kind=1):x.low<=x.high:=by
 obtain⟨i,hi,rfl⟩:=XI hx;have he:=h.err i hi;unfold pS at he;rw[tl hk]at he;unfold iE at he;by_cases h0:lW ls i=0
 ·rw[tl h0]at he
  rcases cr (lA ls i).high (lA ls i).low with h1|h1
  ·rw[tl h1]at he;exact absurd he (by decide)
  ·exact h1
 ·rw[tg h0]at he;exact absurd he h0
theorem Cx(hA:yP ls us)(hk:k<(yG ls).length):(yT us).getD k []=(xI ls).getD k []:=by
 unfold yT;rw[lD hA];simp[List.getD,pw (show k<(xI ls).length by rw[tR];exact hk)]
theorem Cw(hA:yP ls us)(h:uO ls):zB8 us (yT us) (qC us).length (aT ls):=by
 have hins:(qC us).length=(yG ls).length:=by rw[lD hA,tR]
 have hk1:∀k,aT ls k=true->k<(yG ls).length/\xT (yG ls) k=true:=fun k hk=>by
  unfold aT at hk;rw[tz,py]at hk;exact hk
 refine⟨fun k hk=>by rw[hins];exact(hk1 k hk).1,fun k _ hn=>?_,fun k _ hn=>?_,?_⟩
 ·obtain⟨zI6,hn⟩:=hk1 k hn
  obtain⟨x,x1,x2,x3,x4⟩:=nH zI6;have hk:=aJ x1
  have h1:x.kind=1:=by
   unfold xT at hn;rw[x3,mQ hk]at hn;exact bg hn
  have e:=(Cx hA zI6).trans x4;refine⟨by rw[wZ hA,e];exact zA7 x2 h1,?_,?_⟩
  ·rw[ZT hA,e]
   cases hc:vR ls 2 x.name with
   | false=>rfl
   | true =>
     obtain⟨z,z1,z2,z3⟩:=jh hc;have:=K8 h (DU z1 (.inr z2)) x1 z3;rw[this]at z2;omega
  ·rw[Vv hA h (by rw[hins];exact zI6) x1 h1 e]
   exact VK h x2 h1
 ·by_cases zI6:k<(yG ls).length
  ·obtain⟨x,x1,x2,x3,x4⟩:=nH zI6
   have hk:=aJ x1
   have h2:x.kind=2:=by
    unfold aT at hn;rw[tm zI6,md]at hn;unfold xT at hn;rw[x3,mQ hk,bk]at hn;omega
   have e:=(Cx hA zI6).trans x4;refine⟨.inr (by rw[ZT hA,e];exact zA7 x2 h2),Xz (.inr ?_)⟩;rw[wZ hA,e]
   cases hc:vR ls 1 x.name with
   | false=>rfl
   | true =>
     obtain⟨z,z1,z2,z3⟩:=jh hc;have:=K8 h (DU z1 (.inl z2)) x1 z3;rw[this]at z2;omega
  ·exact⟨.inl (by rw[hins];omega),Xz (.inl (by rw[hins];omega))⟩
 ·refine tx ?_ (Qk (k:=1) (m:=3) (by decide) h.many)
  refine tx ?_ (qo ls);exact J8 (fun m:yI => !m.isFlag) xb (yG ls) (yT us).length
def zF1(names:List Bs)(N:List zX)(s:vS):Prop:=s.kind=0\/4<=s.kind\/(∃y∈N,(y.kind=5\/y.kind=6)/\s=⟨1,zH names y.name,0,[],0⟩)\/(∃y∈N,y.kind=7/\y.other=[]/\s=⟨2,zH names y.name,0,y.mark,y.num⟩)\/(∃y∈N,y.kind=7/\y.other≠[]/\s=⟨3,zH names y.name,zH names y.other,y.mark,0⟩)
theorem Jd{u:zG}{x:Bs × Int}{N:List zX}{a:Int}(h:Gr k u x N a)(n:Nat)(hn:u.length<n):∀s∈vN names n u,zF1 names N s:=by
 have nmem:∀ {N:List zX} {a:Int},0<=a->a<N.length->kE N a.toNat∈N:=fun {N a} h0 h1=>by
  unfold kE;simp[List.getD,show a.toNat<N.length by omega]
 refine Gr.ind (R:=fun _ u _ N _=>∀n,u.length<n->∀s∈vN names n u,zF1 names N s) ?_ ?_ ?_ ?_ ?_ h n hn
 ·intro k u N a h hT n hn
  obtain⟨n,rfl⟩:∃m,n=m+1:=⟨n-1,by omega⟩;have e1:yF u xW = -1:=jM xW (.inl rfl) u h.2 0 0 (-1);have e2:yF u yE = -1:=jM yE (.inr rfl) u h.2 0 0 (-1)
  have hp:tP (cA u 0):=by
   obtain⟨h1,h2⟩:=h
   cases u with
   | nil=>exact absurd rfl h1
   | cons t r=>exact h2 t (mw ..)
  obtain⟨h0,zI6,hk4,-,hTT⟩:=hT;have hE:=nmem h0 zI6;rw[vN,e1,e2,tg (by omega),tg (by omega),tg hp.2.2.2.2.2,tg hp.2.2.2.1];generalize kE N a.toNat=y at *;intro s hs;rw[pu]at hs;subst hs;rcases hTT with ⟨k4,t,rfl,c1⟩|⟨k5,t,s,rfl,c1,c2,nm⟩|⟨k6,t,rfl,c1,nm⟩|⟨k7,t,m,s,rfl,c1,nm,hm,mk,ho⟩
  ·left;unfold mI;rw[tl (show cA [t] 0=VV from c1)]
  ·refine .inr (.inr (.inl ⟨y,hE,.inl k5,?_⟩))
   unfold mI;rw[tg (by show ¬zS t.2=_;rw[c1];decide),tl (show cA [t,s] 0=iM from c1),nm];rfl
  ·have nh:cA [t] 0≠iM:=by show zS t.2≠_;rw[c1];decide
   refine .inr (.inr (.inl ⟨y,hE,.inr k6,?_⟩));unfold mI;rw[tg (by show ¬zS t.2=_;rw[c1];decide),tg nh,tg (by simp),nm];rfl
  ·have nh:cA [t,m,s] 0≠iM:=by show zS t.2≠_;rw[c1];decide
   have na:¬cA [t,m,s] 0=VV:=by show ¬zS t.2=_;rw[c1];decide
   rcases ho with ⟨cs,ho,zIY⟩|⟨cs,ho,zIH⟩
   ·refine .inr (.inr (.inr (.inl ⟨y,hE,k7,ho,?_⟩)))
    unfold mI;rw[tg na,tg nh,tl (show [t,m,s].length=3 from rfl),tl (show cA [t,m,s] 2=yB from cs),nm,mk,zIY];rfl
   ·refine .inr (.inr (.inr (.inr ⟨y,hE,k7,by rw[ho];exact zIH,?_⟩)))
    unfold mI;rw[tg na,tg nh,tl (show [t,m,s].length=3 from rfl),tg (show ¬cA [t,m,s] 2=yB by show ¬zS s.2=_;rw[cs];decide),nm,mk,ho];rfl
 ·intro k t u x N a h1 h2 h3 ih n hn
  obtain⟨n,rfl⟩:∃m,n=m+1:=⟨n-1,by omega⟩;have hW:Gr 0 (t::u) (QK x) N a:=bH.neg _ _ _ _ _ _ h1 h2 h3;have e1:yF (t::u) xW = -1:=hW.out0 xW (.inl rfl) 0 (-1);have e2:yF (t::u) yE = -1:=hW.out0 yE (.inr rfl) 0 (-1);have hc:cA (t::u) 0=yY:=h1;have i1:=ih n (by simp at hn;omega);rw[vN,e1,e2,tg (by omega),tg (by omega),tl hc];simp only[List.drop_succ_cons,List.drop_zero];intro s hs;rcases pt.1 hs with hs|hs
  ·exact i1 s hs
  ·rw[pu]at hs;subst hs;exact .inr (.inl (by decide))
 ·intro k o u c x N a h1 h2 h3 ih n hn
  obtain⟨n,rfl⟩:∃m,n=m+1:=⟨n-1,by omega⟩;have e1:yF (o::(u++[c])) xW = -1:=dG xW (.inl rfl) h1 h2 h3 0 (-1);have e2:yF (o::(u++[c])) yE = -1:=dG yE (.inr rfl) h1 h2 h3 0 (-1);have hc:cA (o::(u++[c])) 0=yQ:=h1;have hc':¬cA (o::(u++[c])) 0=yY:=by rw[hc];decide
  rw[vN,e1,e2,tg (by omega),tg (by omega),tg hc',tl hc];have e3:((o::(u++[c])).drop 1).take ((o::(u++[c])).length-2)=u:=by simp
  rw[e3];exact ih n (by simp at hn;omega)
 ·intro k u t v x y N a h1 h2 h3 h4 h5 ihu ihv n hn
  obtain⟨n,rfl⟩:∃m,n=m+1:=⟨n-1,by omega⟩;have hW:Gr 1 (u++t::v) (UG x y) N a:=bH.and _ _ _ _ _ _ _ _ (t9 _) h2 h3 h4 h5;have e1:yF (u++t::v) xW = -1:=hW.out1 (t9 _) 0 (-1)
  have e2:yF (u++t::v) yE=u.length:=by
   unfold yF;rw[qW,h4.op,uZ,h2,cF,tl ⟨rfl,rfl⟩,h5.out0 yE (.inr rfl)];omega
  have hl:(u++t::v).length=u.length+1+v.length:=by simp;omega
  have i1:=ihu n (by omega);have j1:=ihv n (by omega);have t1:(u++t::v).take u.length=u:=by simp
  have t2:(u++t::v).drop (u.length+1)=v:=by simp
  rw[vN,e1,e2,tg (by omega),tl (Int.natCast_nonneg _),Int.toNat_natCast,t1,t2];intro s hs;rcases pt.1 hs with hs|hs
  ·rcases pt.1 hs with hs|hs
   ·exact i1 s hs
   ·exact j1 s hs
  ·rw[pu]at hs;subst hs;exact .inr (.inl (by decide))
 ·intro k u t v x y N a h1 h2 h3 h4 h5 ihu ihv n hn
  obtain⟨n,rfl⟩:∃m,n=m+1:=⟨n-1,by omega⟩
  have e2:yF (u++t::v) xW=u.length:=by
   unfold yF;rw[qW,h4.op,uZ,h2,rY,tl ⟨rfl,rfl⟩,h5.out1 (t9 _)];omega
  have hl:(u++t::v).length=u.length+1+v.length:=by simp;omega
  have i1:=ihu n (by omega);have j1:=ihv n (by omega);have t1:(u++t::v).take u.length=u:=by simp
  have t2:(u++t::v).drop (u.length+1)=v:=by simp
  rw[vN,e2,tl (Int.natCast_nonneg _),Int.toNat_natCast,t1,t2];intro s hs;rcases pt.1 hs with hs|hs
  ·rcases pt.1 hs with hs|hs
   ·exact i1 s hs
   ·exact j1 s hs
  ·rw[pu]at hs;subst hs;exact .inr (.inl (by decide))
theorem Ya{α:Type}(p:α->Bool)(d:α)(l:List α)(i:Nat)(h:i<l.length):(l.drop i).any p=(p (l.getD i d) || (l.drop (i+1)).any p):=by
 rw[pb h,mt];simp[List.getD,h]
theorem KJ{α:Type}(p:α->Bool)(l:List α)(i:Nat)(h:¬i<l.length):(l.drop i).any p=false:=by
 rw[tu (by omega)];rfl
def lQ(i:Nat)(y:jH):Bool:=if y.kind=6 then decide (y.place=(i:Int)) else if y.kind=7 then decide (y.place=(i:Int)) || (y.two&&decide (y.other=(i:Int))) else false
theorem Fn(w:World)(x:MX)(c:Nat)(hx:kM w x) :
 Calls Tryz.prog 125 #[kA x,.int .i64 (c:Int)] w fun e w'=>e=.returned (.bool (lR x.1 c))/\Below w.heap.size w w':=by
 obtain⟨pa,pc,e1,hp⟩:=hx.sum;obtain⟨ga,gc,e2,hg⟩:=hx.guard;have HP:=zA hp.cel;have zII:=hx.few1;obtain⟨⟨lab,cc,ps,gd,root⟩,pv,gv⟩:=x;simp only at e1 e2 HP zII;subst e1 e2;simp only[kA];have HE0:Hid (∀b,ps.any (fun p=>decide (p.kind=3)&&decide (p.place=(c:Int)))=b->lR ⟨lab,cc,ps,gd,root⟩ c=b):=fun b h=>h;generalize lR ⟨lab,cc,ps,gd,root⟩ c=ans at *;clear hx hp hg
 go_enter Tryz.func125,Tryz.ntmps125
 go_wp2_with fail
 generalize hO1:Obj.cells #[.string ⟨lab.toArray⟩,.int .i64 cc,.slice pa ps.length pc,.slice ga gd.length gc,.int .i64 root] 176=O1 at *;clear hO1;have HB0:Hid (Below w.heap.size w (w.alloc O1)):=ge (t9 _) _;generalize w.alloc O1=w0 at *
 go_loopw [10] (fun iv wr=>∃(i:Nat),i<=ps.length/\iv=.int .i64 i/\Hid (Below w.heap.size w wr)/\Hid ((ps.drop i).any (fun p=>decide (p.kind=3)&&decide (p.place=(c:Int)))=ps.any (fun p=>decide (p.kind=3)&&decide (p.place=(c:Int))))) (fun iv _=>ps.length-(intOf iv).toNat)
 case atStart=>exact⟨0,tr _,rfl,HB0,zA rfl⟩
 case round =>
  obtain⟨i,hi,rfl,HB,HE⟩:=hrel;have zIE:=HB.out.size;by_cases zI6:i<ps.length
  ·have ii:(i:Int)<(ps.length:Int):=by omega
   have zJ1:=HP.out.below HB.out;obtain⟨gp,rfl,q0⟩:=zJ1.at ((zV dA 3 (fun _=>rfl) zD1 ps i 0 zI6 (by decide)).trans rfl);have hq:=fun j hj v hv=>(zJ1.at ((zV dA 3 (fun _=>rfl) zD1 ps i j zI6 hj).trans hv)).elim fun g' h=>(show gp=g' by simpa using h.1) ▸ (show w.heap.size<=wr.heap.size/\wr.cell? ⟨g',i*3+j,none⟩=some v from ⟨zIE,h.2⟩).2;have q1:=hq 1 (by decide) _ rfl;have q2:=hq 2 (by decide) _ rfl;rw[pq]at q0;have lgp:=zP q0;have mgp:wr.heap.size≠gp:=by omega
   have hE:=HE.out;rw[Ya (fun p=>decide (p.kind=3)&&decide (p.place=(c:Int))) zD1 ps i zI6]at hE;have HE2:=zA hE;have HBa:Hid (∀o,Below w.heap.size w (wr.alloc o)):=fun o=>HB.out.alloc zIE o;clear HE hE zJ1 hq;generalize ps.getD i zD1=y at *;obtain⟨yk,yn,yp⟩:=y;simp only at q0 q1 q2 HE2;by_cases k1:yk=3
   ·subst k1
    simp only[fk,md]at HE2;by_cases k2:yp=(c:Int)
    ·subst k2
     have HE3:Hid (ans=true):=HE0.out _ (by rw[<-HE2.out];simp);go_wp2_with fail
     go_ret
     exact⟨zE HE3.out.symm,HBa.out _⟩
    ·have b2:(yp==(c:Int))=false:=by simpa using k2
     have HE3:Hid ((ps.drop (i+1)).any (fun p=>decide (p.kind=3)&&decide (p.place=(c:Int)))=ps.any (fun p=>decide (p.kind=3)&&decide (p.place=(c:Int)))):=by have:=HE2.out;rw[th k2,pm]at this;exact this
     clear k2;go_wp2_with fail
     go_roundw
     case rel=>exact⟨i+1,by omega,by go_num,zA (HBa.out _),HE3⟩
     case measure=>simp[intOf];omega
   ·have b1:(yk==3)=false:=by simpa using k1
    have HE3:Hid ((ps.drop (i+1)).any (fun p=>decide (p.kind=3)&&decide (p.place=(c:Int)))=ps.any (fun p=>decide (p.kind=3)&&decide (p.place=(c:Int)))):=by have:=HE2.out;rw[th k1,l5,pm]at this;exact this
    clear k1;go_wp2_with fail
    go_roundw
    case rel=>exact⟨i+1,by omega,by go_num,zA (HBa.out _),HE3⟩
    case measure=>simp[intOf];omega
  ·have ii:¬(i:Int)<(ps.length:Int):=by omega
   have HE2:Hid (ans=false):=HE0.out _ (by rw[<-HE.out];exact KJ _ _ _ zI6);go_wp2_with fail
   go_ret
   exact⟨zE HE2.out.symm,HB.out⟩
theorem JR(w:World)(x:MX)(c:Nat)(hx:kM w x) :
 Calls Tryz.prog 126 #[kA x,.int .i64 (c:Int)] w fun e w'=>e=.returned (.bool (vZ x.1 c))/\Below w.heap.size w w':=by
 obtain⟨pa,pc,e1,hp⟩:=hx.sum;obtain⟨ga,gc,e2,hg⟩:=hx.guard;have HP:=zA hg.cel;have zII:=hx.few2;obtain⟨⟨lab,cc,ps,gd,root⟩,pv,gv⟩:=x;simp only at e1 e2 HP zII;subst e1 e2;simp only[kA];have HE0:Hid (∀b,gd.any (fun y=>decide (y.kind=5)&&decide (y.place=(c:Int)))=b->vZ ⟨lab,cc,ps,gd,root⟩ c=b):=fun b h=>h;generalize vZ ⟨lab,cc,ps,gd,root⟩ c=ans at *;clear hx hp hg
 go_enter Tryz.func126,Tryz.ntmps126
 go_wp2_with fail
 generalize hO1:Obj.cells #[.string ⟨lab.toArray⟩,.int .i64 cc,.slice pa ps.length pc,.slice ga gd.length gc,.int .i64 root] 176=O1 at *;clear hO1;have HB0:Hid (Below w.heap.size w (w.alloc O1)):=ge (t9 _) _;generalize w.alloc O1=w0 at *
 go_loopw [10] (fun iv wr=>∃(i:Nat),i<=gd.length/\iv=.int .i64 i/\Hid (Below w.heap.size w wr)/\Hid ((gd.drop i).any (fun y=>decide (y.kind=5)&&decide (y.place=(c:Int)))=gd.any (fun y=>decide (y.kind=5)&&decide (y.place=(c:Int))))) (fun iv _=>gd.length-(intOf iv).toNat)
 case atStart=>exact⟨0,tr _,rfl,HB0,zA rfl⟩
 case round =>
  obtain⟨i,hi,rfl,HB,HE⟩:=hrel;have zIE:=HB.out.size;by_cases zI6:i<gd.length
  ·have ii:(i:Int)<(gd.length:Int):=by omega
   have zJ1:=HP.out.below HB.out;obtain⟨gp,rfl,q0⟩:=zJ1.at ((zV kQ 10 (fun _=>rfl) sC gd i 0 zI6 (by decide)).trans rfl);have hq:=fun j hj v hv=>(zJ1.at ((zV kQ 10 (fun _=>rfl) sC gd i j zI6 hj).trans hv)).elim fun g' h=>(show gp=g' by simpa using h.1) ▸ (show w.heap.size<=wr.heap.size/\wr.cell? ⟨g',i*10+j,none⟩=some v from ⟨zIE,h.2⟩).2;have q1:=hq 1 (by decide) _ rfl;have q2:=hq 2 (by decide) _ rfl;have q3:=hq 3 (by decide) _ rfl;have q4:=hq 4 (by decide) _ rfl;have q5:=hq 5 (by decide) _ rfl;have q6:=hq 6 (by decide) _ rfl;have q7:=hq 7 (by decide) _ rfl;have q8:=hq 8 (by decide) _ rfl;have q9:=hq 9 (by decide) _ rfl;rw[pq]at q0;have lgp:=zP q0;have mgp:wr.heap.size≠gp:=by omega
   have hE:=HE.out;rw[Ya (fun y=>decide (y.kind=5)&&decide (y.place=(c:Int))) sC gd i zI6]at hE;have HE2:=zA hE;have HBa:Hid (∀o,Below w.heap.size w (wr.alloc o)):=fun o=>HB.out.alloc zIE o;clear HE hE zJ1 hq;generalize gd.getD i sC=y at *;obtain⟨yk,yl,yr,yp,y2,yo,yn,yb1,yb2,yb3⟩:=y;simp only at q0 q1 q2 q3 q4 q5 q6 q7 q8 q9 HE2;by_cases k1:yk=5
   ·subst k1
    simp only[fk,md]at HE2;by_cases k2:yp=(c:Int)
    ·subst k2
     have HE3:Hid (ans=true):=HE0.out _ (by rw[<-HE2.out];simp);go_wp2_with fail
     go_ret
     exact⟨zE HE3.out.symm,HBa.out _⟩
    ·have b2:(yp==(c:Int))=false:=by simpa using k2
     have HE3:Hid ((gd.drop (i+1)).any (fun y=>decide (y.kind=5)&&decide (y.place=(c:Int)))=gd.any (fun y=>decide (y.kind=5)&&decide (y.place=(c:Int)))):=by have:=HE2.out;rw[th k2,pm]at this;exact this
     clear k2;go_wp2_with fail
     go_roundw
     case rel=>exact⟨i+1,by omega,by go_num,zA (HBa.out _),HE3⟩
     case measure=>simp[intOf];omega
   ·have b1:(yk==5)=false:=by simpa using k1
    have HE3:Hid ((gd.drop (i+1)).any (fun y=>decide (y.kind=5)&&decide (y.place=(c:Int)))=gd.any (fun y=>decide (y.kind=5)&&decide (y.place=(c:Int)))):=by have:=HE2.out;rw[th k1,l5,pm]at this;exact this
    clear k1;go_wp2_with fail
    go_roundw
    case rel=>exact⟨i+1,by omega,by go_num,zA (HBa.out _),HE3⟩
    case measure=>simp[intOf];omega
  ·have ii:¬(i:Int)<(gd.length:Int):=by omega
   have HE2:Hid (ans=false):=HE0.out _ (by rw[<-HE.out];exact KJ _ _ _ zI6);go_wp2_with fail
   go_ret
   exact⟨zE HE2.out.symm,HB.out⟩
theorem YA(w:World)(x:MX)(c:Nat)(hx:kM w x) :
 Calls Tryz.prog 122 #[kA x,.int .i64 (c:Int)] w fun e w'=>e=.returned (.bool (mC x.1 c))/\Below w.heap.size w w':=by
 obtain⟨pa,pc,e1,hp⟩:=hx.sum;obtain⟨ga,gc,e2,hg⟩:=hx.guard;have HP:=zA hg.cel;have zII:=hx.few2;obtain⟨⟨lab,cc,ps,gd,root⟩,pv,gv⟩:=x;simp only at e1 e2 HP zII;subst e1 e2;simp only[kA];have HE0:Hid (∀b,gd.any (lQ c)=b->mC ⟨lab,cc,ps,gd,root⟩ c=b):=fun b h=>h;generalize mC ⟨lab,cc,ps,gd,root⟩ c=ans at *;clear hx hp hg
 go_enter Tryz.func122,Tryz.ntmps122
 go_wp2_with fail
 generalize hO1:Obj.cells #[.string ⟨lab.toArray⟩,.int .i64 cc,.slice pa ps.length pc,.slice ga gd.length gc,.int .i64 root] 176=O1 at *;clear hO1;have HB0:Hid (Below w.heap.size w (w.alloc O1)):=ge (t9 _) _;generalize w.alloc O1=w0 at *
 go_loopw [10] (fun iv wr=>∃(i:Nat),i<=gd.length/\iv=.int .i64 i/\Hid (Below w.heap.size w wr)/\Hid ((gd.drop i).any (lQ c)=gd.any (lQ c))) (fun iv _=>gd.length-(intOf iv).toNat)
 case atStart=>exact⟨0,tr _,rfl,HB0,zA rfl⟩
 case round =>
  obtain⟨i,hi,rfl,HB,HE⟩:=hrel;have zIE:=HB.out.size;by_cases zI6:i<gd.length
  ·have ii:(i:Int)<(gd.length:Int):=by omega
   have zJ1:=HP.out.below HB.out;obtain⟨gp,rfl,q0⟩:=zJ1.at ((zV kQ 10 (fun _=>rfl) sC gd i 0 zI6 (by decide)).trans rfl);have hq:=fun j hj v hv=>(zJ1.at ((zV kQ 10 (fun _=>rfl) sC gd i j zI6 hj).trans hv)).elim fun g' h=>(show gp=g' by simpa using h.1) ▸ (show w.heap.size<=wr.heap.size/\wr.cell? ⟨g',i*10+j,none⟩=some v from ⟨zIE,h.2⟩).2;have q1:=hq 1 (by decide) _ rfl;have q2:=hq 2 (by decide) _ rfl;have q3:=hq 3 (by decide) _ rfl;have q4:=hq 4 (by decide) _ rfl;have q5:=hq 5 (by decide) _ rfl;have q6:=hq 6 (by decide) _ rfl;have q7:=hq 7 (by decide) _ rfl;have q8:=hq 8 (by decide) _ rfl;have q9:=hq 9 (by decide) _ rfl;rw[pq]at q0;have lgp:=zP q0;have mgp:wr.heap.size≠gp:=by omega
   have hE:=HE.out;rw[Ya (lQ c) sC gd i zI6]at hE;have HE2:=zA hE;have HBa:Hid (∀o,Below w.heap.size w (wr.alloc o)):=fun o=>HB.out.alloc zIE o;clear HE hE zJ1 hq;generalize gd.getD i sC=y at *;obtain⟨yk,yl,yr,yp,y2,yo,yn,yb1,yb2,yb3⟩:=y;simp only at q0 q1 q2 q3 q4 q5 q6 q7 q8 q9;unfold lQ at HE2;simp only at HE2;have HTr:Hid (∀b,((b || (gd.drop (i+1)).any (lQ c))=gd.any (lQ c))->b=true->ans=true):=fun b h1 h2=>HE0.out _ (by rw[<-h1,h2];rfl);have HFa:Hid (∀b,((b || (gd.drop (i+1)).any (lQ c))=gd.any (lQ c))->b=false->(gd.drop (i+1)).any (lQ c)=gd.any (lQ c)):=fun b h1 h2=>by rw[h2,pm]at h1;exact h1
   by_cases k1:yk=6
   ·subst k1
    simp only[if_true]at HE2;by_cases k2:yp=(c:Int)
    ·have HE3:=zA (HTr.out _ HE2.out (tm k2))
     subst k2;clear HTr HFa HE2;go_wp2_with fail
     go_ret
     exact⟨zE HE3.out.symm,HBa.out _⟩
    ·have b2:(yp==(c:Int))=false:=by simpa using k2
     have HE3:=zA (HFa.out _ HE2.out (th k2));clear k2 HTr HFa HE2;go_wp2_with fail
     go_roundw
     case rel=>exact⟨i+1,by omega,by go_num,zA (HBa.out _),HE3⟩
     case measure=>simp[intOf];omega
   rw[tg k1]at HE2;have b1:(yk==6)=false:=by simpa using k1
   clear k1;by_cases k3:yk=7
   ·subst k3
    simp only[if_true]at HE2;by_cases k2:yp=(c:Int)
    ·have HE3:=zA (HTr.out _ HE2.out (by rw[tm k2];rfl))
     subst k2;clear HTr HFa HE2;go_wp2_with fail
     go_ret
     exact⟨zE HE3.out.symm,HBa.out _⟩
    ·have b2:(yp==(c:Int))=false:=by simpa using k2
     rw[th k2,pm]at HE2;clear k2;cases y2
     ·have HE3:=zA (HFa.out _ HE2.out (by rfl))
      clear HTr HFa HE2;go_wp2_with fail
      go_roundw
      case rel=>exact⟨i+1,by omega,by go_num,zA (HBa.out _),HE3⟩
      case measure=>simp[intOf];omega
     ·by_cases k4:yo=(c:Int)
      ·have HE3:=zA (HTr.out _ HE2.out (by rw[tm k4];rfl))
       subst k4;clear HTr HFa HE2;go_wp2_with fail
       go_ret
       exact⟨zE HE3.out.symm,HBa.out _⟩
      ·have b4:(yo==(c:Int))=false:=by simpa using k4
       have HE3:=zA (HFa.out _ HE2.out (by rw[th k4];rfl));clear k4 HTr HFa HE2;go_wp2_with fail
       go_roundw
       case rel=>exact⟨i+1,by omega,by go_num,zA (HBa.out _),HE3⟩
       case measure=>simp[intOf];omega
   ·have b3:(yk==7)=false:=by simpa using k3
    have HE3:=zA (HFa.out _ HE2.out (by rw[tg k3]));clear k3 HTr HFa HE2;go_wp2_with fail
    go_roundw
    case rel=>exact⟨i+1,by omega,by go_num,zA (HBa.out _),HE3⟩
    case measure=>simp[intOf];omega
  ·have ii:¬(i:Int)<(gd.length:Int):=by omega
   have HE2:Hid (ans=false):=HE0.out _ (by rw[<-HE.out];exact KJ _ _ _ zI6);go_wp2_with fail
   go_ret
   exact⟨zE HE2.out.symm,HB.out⟩
def yd(i:Nat)(y:jH):Bool:=decide (y.kind=7)&&(!y.two&&decide (y.place=(i:Int)))
def fO(l:List jH)(i:Nat):List Int:=(l.filter (yd i)).map jH.num
theorem ye(l:List jH)(c i:Nat)(h:i<l.length):fO (l.take (i+1)) c=fO (l.take i) c++(if yd c (l.getD i sC)=true then [(l.getD i sC).num] else []):=by
 unfold fO;rw[dj,List.filter_append,List.map_append];congr 1
 rw[pe h,show l.getD i sC=l[i] by simp[List.getD,h]];show ([l[i]].filter (yd c)).map jH.num=_;rw[List.filter_cons,fd];split <;> rfl
theorem zAT(l:List jH)(c:Nat):(fO l c).length<=l.length:=by unfold fO;rw[ms];exact dg _ _
theorem UZ(w:World)(x:MX)(c:Nat)(hx:kM w x) :
 Calls Tryz.prog 123 #[kA x,.int .i64 (c:Int)] w fun e w'=>∃v,e=.returned v/\w'.ownsRow w.heap.size 3 1 v (xQ x.1 c).length (vD (xQ x.1 c))/\Below w.heap.size w w':=by
 obtain⟨i0,hi0,hz0,hz1,hz2⟩:=dp dV;obtain⟨pa,pc,e1,hp⟩:=hx.sum;obtain⟨ga,gc,e2,hg⟩:=hx.guard;have HP:=zA hg.cel;have zII:=hx.few2;obtain⟨⟨lab,cc,ps,gd,root⟩,pv,gv⟩:=x;simp only at e1 e2 HP zII;subst e1 e2;simp only[kA];have HE0:Hid (xQ ⟨lab,cc,ps,gd,root⟩ c=fO gd c):=rfl;rw[HE0.out];clear hx hp hg
 go_enter Tryz.func123,Tryz.ntmps123
 go_wp2_with fail
 generalize hO1:Obj.cells #[.string ⟨lab.toArray⟩,.int .i64 cc,.slice pa ps.length pc,.slice ga gd.length gc,.int .i64 root] 176=O1 at *;clear hO1;have HB0:Hid (Below w.heap.size w (w.alloc O1)):=ge (t9 _) _;have hs0:(w.alloc O1).heap.size=w.heap.size+1:=by simp
 have HO0:Hid (((w.alloc O1).alloc (.cells #[] 3)).ownsRow w.heap.size 3 1 (.slice (some ⟨w.heap.size+1,0,none⟩) 0 0) 0 (vD (fO (gd.take 0) c))):=⟨rfl,.inr ⟨w.heap.size+1,0,#[],rfl,bm _,xX _ _ _ hs0,t9 _,tr _,rfl,rfl⟩⟩;have HB1:Hid (Below w.heap.size w ((w.alloc O1).alloc (.cells #[] 3))):=HB0.out.alloc (by omega) _;generalize (w.alloc O1).alloc (.cells #[] 3)=w0 at *
 go_loopw [5,12] (fun ov iv wr=>∃(i:Nat),i<=gd.length/\iv=.int .i64 i/\Hid (Below w.heap.size w wr)/\Hid (wr.ownsRow w.heap.size 3 1 ov (fO (gd.take i) c).length (vD (fO (gd.take i) c)))) (fun _ iv _=>gd.length-(intOf iv).toNat)
 case atStart=>exact⟨0,tr _,rfl,HB1,HO0⟩
 case round =>
  obtain⟨i,hi,rfl,HB,HO⟩:=hrel;have zIE:=HB.out.size;obtain⟨oa,oc,rfl⟩:=yH HO.out;have hle:(fO (gd.take i) c).length<=i:=tx (zAT _ _) (by simp;omega);by_cases zI6:i<gd.length
  ·have ii:(i:Int)<(gd.length:Int):=by omega
   have zJ1:=HP.out.below HB.out;obtain⟨gp,rfl,q0⟩:=zJ1.at ((zV kQ 10 (fun _=>rfl) sC gd i 0 zI6 (by decide)).trans rfl);have hq:=fun j hj v hv=>(zJ1.at ((zV kQ 10 (fun _=>rfl) sC gd i j zI6 hj).trans hv)).elim fun g' h=>(show gp=g' by simpa using h.1) ▸ (show w.heap.size<=wr.heap.size/\wr.cell? ⟨g',i*10+j,none⟩=some v from ⟨zIE,h.2⟩).2;have q1:=hq 1 (by decide) _ rfl;have q2:=hq 2 (by decide) _ rfl;have q3:=hq 3 (by decide) _ rfl;have q4:=hq 4 (by decide) _ rfl;have q5:=hq 5 (by decide) _ rfl;have q6:=hq 6 (by decide) _ rfl;have q7:=hq 7 (by decide) _ rfl;have q8:=hq 8 (by decide) _ rfl;have q9:=hq 9 (by decide) _ rfl;rw[pq]at q0;have lgp:=zP q0;have mgp:wr.heap.size≠gp:=by omega
   have HBa:Hid (∀o,Below w.heap.size w (wr.alloc o)):=fun o=>HB.out.alloc zIE o;have HOa:Hid (∀o,(wr.alloc o).ownsRow w.heap.size 3 1 (.slice oa (fO (gd.take i) c).length oc) (fO (gd.take i) c).length (vD (fO (gd.take i) c))):=fun o=>HO.out.alloc o;have HTk:=zA (ye gd c i zI6);have HNo:Hid (yd c (gd.getD i sC)=false->fO (gd.take (i+1)) c=fO (gd.take i) c):=fun h=>by rw[HTk.out,h];simp
   have HYes:Hid (yd c (gd.getD i sC)=true->fO (gd.take (i+1)) c=fO (gd.take i) c++[(gd.getD i sC).num]):=fun h=>by rw[HTk.out,tl h]
   clear zJ1 hq HTk;generalize gd.getD i sC=y at *;obtain⟨yk,yl,yr,yp,y2,yo,yn,yb1,yb2,yb3⟩:=y;unfold yd at HNo HYes;simp only at q0 q1 q2 q3 q4 q5 q6 q7 q8 q9 HYes HNo;have no:∀(b:Bool),(decide (yk=7)&&(!y2&&decide (yp=(c:Int))))=false->fO (gd.take (i+1)) c=fO (gd.take i) c:=fun _ h=>HNo.out h;have HNO:=zA no;clear no;by_cases k1:yk=7
   ·subst k1
    cases y2
    ·by_cases k2:yp=(c:Int)
     ·have HE3:=zA (HYes.out (by rw[tm k2];rfl))
      subst k2;clear HYes HNo HNO
      go_upto_region 6 with fail
      generalize hOn:Obj.cells #[Value.int .i64 7,.int .i64 yl,.int .i64 yr,.int .i64 (c:Int),.bool false,.int .i64 yo,.int .i64 yn,.bool yb1,.bool yb2,.bool yb3] 324=On at *;have hcn:(wr.alloc On).cell? ⟨wr.heap.size,6,none⟩=some (.int .i64 yn):=by rw[<-hOn];exact(zD (zM _ _) 6).trans rfl
      have HBn:=zA (HBa.out On);have HOn2:=zA (HOa.out On);have hsn:(wr.alloc On).heap.size=wr.heap.size+1:=by simp
      clear hOn;generalize wr.alloc On=wn at *;have hszn:w.heap.size<=wn.heap.size:=by omega
      clear hsn
      go_wp2_with (at_builtin;refine wpList_append_own _ rfl _ _ 59 rfl w.heap.size 3 i0 _ 1 8 Tryz.underlying59 hi0 hz0 hz1 hz2 rfl (by decide) _ _ _ rfl (HOn2.out.alloc _) ⟨wn.heap.size,0,none⟩ 1 1 [.int .i64 yn] rfl rfl ?c1 ?c2 ?c3 ?c4 ?c5 ?_)
      case c1=>exact zZ _ _ _ _ rfl
      case c2=>intro u hu;simp at hu;subst hu;rfl
      case c3=>unfold maxLen;omega
      case c4=>omega
      case c5=>simp;omega
      intro v' w5 zI9 zI7 _;have HB5:Hid (Below w.heap.size w w5):=(HBn.out.alloc hszn _).grown zI7 (by simp;omega) (zN HOn2.out);have HO5:Hid (w5.ownsRow w.heap.size 3 1 v' (fO (gd.take (i+1)) c).length (vD (fO (gd.take (i+1)) c))):=by unfold Hid;rw[HE3.out,dU,tq];exact zI9
      clear zI7 zI9;go_wp2_with fail
      go_roundw
      case rel=>exact⟨i+1,by omega,by go_num,HB5,HO5⟩
      case measure=>simp[intOf];omega
     ·have b2:(yp==(c:Int))=false:=by simpa using k2
      have HE3:=zA (HNO.out true (by rw[th k2];simp));clear HYes HNo HNO k2;go_wp2_with fail
      go_roundw
      case rel=>exact⟨i+1,by omega,by go_num,zA (HBa.out _),by rw[HE3.out];exact zA (HOa.out _)⟩
      case measure=>simp[intOf];omega
    ·have HE3:=zA (HNO.out true (by simp))
     clear HYes HNo HNO;go_wp2_with fail
     go_roundw
     case rel=>exact⟨i+1,by omega,by go_num,zA (HBa.out _),by rw[HE3.out];exact zA (HOa.out _)⟩
     case measure=>simp[intOf];omega
   ·have b1:(yk==7)=false:=by simpa using k1
    have HE3:=zA (HNO.out true (by rw[th k1];rfl));clear HYes HNo HNO k1;go_wp2_with fail
    go_roundw
    case rel=>exact⟨i+1,by omega,by go_num,zA (HBa.out _),by rw[HE3.out];exact zA (HOa.out _)⟩
    case measure=>simp[intOf];omega
  ·have ii:¬(i:Int)<(gd.length:Int):=by omega
   have HE3:Hid (fO (gd.take i) c=fO gd c):=by unfold Hid;rw[cf (by omega)]
   go_wp2_with fail
   go_ret
   exact⟨_,rfl,by rw[<-HE3.out];exact HO.out,HB.out⟩
end Go.Proofs.YtnbpdffdnphbeaaGreatDoor
