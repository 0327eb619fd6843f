import Derived.Test.YtnbpdffdnphbeabGreatDoorDAbove
set_option maxHeartbeats 2000000
set_option maxRecDepth 100000
namespace Go.Proofs.YtnbpdffdnphbeabGreatDoor
open Go.RowKit
variable{b:Int}{ls:List zE}{I:List zX}{i:Nat}{TL:Nat->List Int}{w' w:World}{s' s:xQ}{r e l:xU}{x:zE}
theorem vt{B k n:Nat}{t:TypeId}{v:Value}{xs:List Value}(h:w.ownsRow B t k v n xs)(hb:Below w.heap.size w w'):w'.ownsRow B t k v n xs:=⟨h.1,by
 rcases h.2 with q|⟨g',cap,yT,k1,k2,q3,k4⟩
 ·exact .inl q
 ·exact .inr ⟨g',cap,yT,k1,k2,by rw[hb.block g' (zQ q3)];exact q3,k4⟩⟩
structure zI8(w:World)(gt N:Nat)(TL:Nat->List Int):Prop where
 row:∀a,a<N->∃ta tc,w.cell? ⟨gt,a,none⟩=some (.slice ta (TL a).length tc)/\jQ w ta (pU (TL a))
theorem zI8.below{gt N:Nat}(h:zI8 w gt N TL)(hb:Below w.heap.size w w'):zI8 w' gt N TL:=⟨fun a ha=>by
 obtain⟨ta,tc,h1,h2⟩:=h.row a ha;exact⟨ta,tc,(hb.cell (p:=⟨gt,a,none⟩) (zY h1)).trans h1,h2.below hb⟩⟩
structure zIQ(w w0:World)(TL:Nat->List Int)(ov:Value)(i:Nat)(S:List Value):Prop where
 len:S.length=i
 own:w.ownsRow w0.heap.size 22 1 ov i S
 at':∀a,a<i->∃ta tc,S[a]? = some (.slice ta (TL a).length tc)/\xM w 3 ta (pU (TL a))
theorem zIQ.below{w0:World}{ov:Value}{S:List Value}(h:zIQ w w0 TL ov i S)(hb:Below w.heap.size w w'):zIQ w' w0 TL ov i S :=
 ⟨h.len,vt h.own hb,fun a ha=>by obtain⟨ta,tc,h1,h2⟩:=h.at' a ha;exact⟨ta,tc,h1,h2.below hb⟩⟩
theorem zIQ.app{w0:World}{ov v':Value}{S:List Value}{ta:Option Addr}{tc:Nat}(h:zIQ w w0 TL ov i S)(hc:xM w 3 ta (pU (TL i)))(zJU:w'.ownsRow w0.heap.size 22 1 v' (i+1) (S++[.slice ta (TL i).length tc]))(hg:w.grownBy w' ov.ownBlock):zIQ w' w0 TL v' (i+1) (S++[.slice ta (TL i).length tc]):=by
 refine⟨by simp[h.len],zJU,fun a ha=>?_⟩;by_cases hai:a<i
 ·obtain⟨ta',tc',h1,h2⟩:=h.at' a hai
  exact⟨ta',tc',by rw[po (by rw[h.len];exact hai)];exact h1,h2.grown h.own (by decide) hg⟩
 ·obtain rfl:a=i:=by omega
  exact⟨ta,tc,by rw[mq (by rw[h.len];omega),h.len];simp,hc.grown h.own (by decide) hg⟩
theorem wK(X:List Int)(h:X≠[]):∃m∈X,∀x∈X,x<=m:=by
 induction X with
 | nil=>exact absurd rfl h
 | cons a r ih =>
   by_cases hr:r=[]
   ·subst hr;exact⟨a,by simp,by simp⟩
   ·obtain⟨m,h1,h2⟩:=ih hr
    by_cases hm:a<=m
    ·exact⟨m,by simp[h1],fun x hx=>by rcases pf.1 hx with rfl|hx;exact hm;exact h2 x hx⟩
    ·exact⟨a,by simp,fun x hx=>by rcases pf.1 hx with rfl|hx;exact dr _;have:=h2 x hx;omega⟩
theorem zGN(L:Int->Int):∀(n:Nat) (X:List Int),X.length<=n->(∀x∈X,L x<=x)->∃g:Int->Int,(∀x∈X,L x<=g x/\g x<=x/\∃y∈X,∃j:Nat,j<X.length/\g x=L y+j)/\∀x∈X,∀y∈X,x<y->g x<g y:=by
 intro n
 induction n with
 | zero =>
   intro X h _;obtain rfl:X=[]:=bh (by omega);exact⟨id,by simp,by simp⟩
 | succ n ih =>
   intro X h hL;by_cases h0:X=[]
   ·subst h0;exact⟨id,by simp,by simp⟩
   obtain⟨m,hm,hmax⟩:=wK X h0
   have zJV:(X.filter fun x=>decide (x<m)).length<X.length:=by
    rcases py (X.filter fun x=>decide (x<m)).length X.length with h1|h1
    ·exact h1
    ·have h2:(X.filter fun x=>decide (x<m)).length=X.length:=Nat.le_antisymm (dw _ _) h1
     have:=List.length_filter_eq_length_iff.1 h2 m hm;simp at this
   obtain⟨g,g1,g2⟩:=ih (X.filter fun x=>decide (x<m)) (by omega) (fun x hx=>hL x (mw.1 hx).1);have zK3:∀x∈X,x<m->x∈X.filter fun x=>decide (x<m):=fun x hx zJS=>mw.2 ⟨hx,by simpa using zJS⟩;generalize hX':(X.filter fun x=>decide (x<m))=X' at *;have hsub:∀x∈X',x∈X/\x<m:=fun x hx=>by rw[<-hX']at hx;have:=mw.1 hx;exact⟨this.1,by simpa using this.2⟩
   have hv:∃v,L m<=v/\v<=m/\(∃y∈X,∃j:Nat,j<X.length/\v=L y+j)/\∀x∈X',g x<v:=by
    by_cases h1:X'=[]
    ·exact⟨L m,dr _,hL m hm,⟨m,hm,0,by omega,by omega⟩,by simp[h1]⟩
    ·obtain⟨M,hM,hM2⟩:=wK (X'.map g) (by simpa using h1)
     obtain⟨z,hz,rfl⟩:=pd.1 hM;obtain⟨z1,z2,y,hy,j,hj,hz3⟩:=g1 z hz;have hz4:=(hsub z hz).2;have hall:∀x∈X',g x<=g z:=fun x hx=>hM2 _ (pd.2 ⟨x,hx,rfl⟩);by_cases h2:g z<L m
     ·exact⟨L m,dr _,hL m hm,⟨m,hm,0,by omega,by omega⟩,fun x hx=>by have:=hall x hx;omega⟩
     ·exact⟨g z+1,by omega,by omega,⟨y,(hsub y hy).1,j+1,by omega,by omega⟩,fun x hx=>by have:=hall x hx;omega⟩
   obtain⟨v,v1,v2,v3,v4⟩:=hv;refine⟨fun x=>if x<m then g x else v,fun x hx=>?_,fun x hx y hy zJS=>?_⟩
   ·by_cases hxm:x<m
    ·simp only[tr hxm]
     obtain⟨a,b,y,hy,j,hj,e⟩:=g1 x (zK3 x hx hxm);exact⟨a,b,y,(hsub y hy).1,j,by omega,e⟩
    ·obtain rfl:x=m:=by have:=hmax x hx;omega
     simp only[tj hxm];exact⟨v1,v2,v3⟩
   ·have h3:=hmax y hy
    by_cases hym:y<m
    ·simp only[tr hym,tr (show x<m by omega)]
     exact g2 x (zK3 x hx (by omega)) y (zK3 y hy hym) zJS
    ·simp only[tj hym,tr (show x<m by omega)]
     exact v4 x (zK3 x hx (by omega))
theorem Vf(B:List Int)(x lo:Int)(hlo:lo∈B)(hx:lo<=x):∃l,l<=x/\lo<=l/\(∃b∈B,l=b\/l=b+1)/\∀c∈B,(c<=x->c<=l)/\(c<x->c<l):=by
 by_cases hB:x∈B
 ·exact⟨x,dr _,hx,⟨x,hB,.inl rfl⟩,fun c _=>⟨id,id⟩⟩
 ·obtain⟨m,hm,hmax⟩:=wK (B.filter fun b=>decide (b<=x)) (fun h=>by have:lo∈B.filter fun b=>decide (b<=x):=mw.2 ⟨hlo,by simpa using hx⟩;rw[h]at this;simp at this)
  have h1:=mw.1 hm;have h2:m<=x:=by simpa using h1.2
  have h3:m≠x:=fun e=>hB (e ▸ h1.1);have h4:∀c∈B,c<=x->c<=m:=fun c hc hcx=>hmax c (mw.2 ⟨hc,by simpa using hcx⟩);exact⟨m+1,by omega,by have:=h4 lo hlo hx;omega,⟨m,h1.1,.inr rfl⟩,fun c hc=>⟨fun h=>by have:=h4 c hc h;omega,fun h=>by have:=h4 c hc (by omega);omega⟩⟩
theorem moved(B X:List Int)(hlo:∀x∈X,∃lo∈B,lo<=x):∃g:Int->Int,(∀x∈X,g x<=x/\(∃b∈B,∃j:Nat,j<=X.length/\g x=b+j)/\(∀c∈B,(c<=x->c<=g x)/\(x<c ↔ g x<c)/\(x=c ↔ g x=c)))/\∀x∈X,∀y∈X,(x<y ↔ g x<g y)/\(x=y ↔ g x=g y):=by
 have hL:∀x,∃l,x∈X->l<=x/\(∃b∈B,l=b\/l=b+1)/\∀c∈B,(c<=x->c<=l)/\(c<x->c<l):=fun x=>by
  rcases Classical.em (x∈X) with hx|hx
  ·obtain⟨lo,h1,h2⟩:=hlo x hx
   obtain⟨l,a1,_,a3,a4⟩:=Vf B x lo h1 h2;exact⟨l,fun _=>⟨a1,a3,a4⟩⟩
  ·exact⟨0,fun h=>absurd h hx⟩
 have hf:∃L:Int->Int,∀x,x∈X->L x<=x/\(∃b∈B,L x=b\/L x=b+1)/\∀c∈B,(c<=x->c<=L x)/\(c<x->c<L x):=⟨fun x=>Classical.choose (hL x),fun x=>Classical.choose_spec (hL x)⟩;obtain⟨L,hLs⟩:=hf;obtain⟨g,g1,g2⟩:=zGN L X.length X (tg _) (fun x hx=>(hLs x hx).1);refine⟨g,fun x hx=>?_,fun x hx y hy=>?_⟩
 ·obtain⟨a1,a2,y,hy,j,hj,a3⟩:=g1 x hx
  refine⟨a2,?_,fun c hc=>?_⟩
  ·obtain⟨b,hb,hb2⟩:=(hLs y hy).2.1
   rcases hb2 with e|e
   ·exact⟨b,hb,j,by omega,by omega⟩
   ·exact⟨b,hb,j+1,by omega,by omega⟩
  ·obtain⟨c1,c2⟩:=(hLs x hx).2.2 c hc
   refine⟨fun h=>by have:=c1 h;omega,⟨fun h=>by omega,fun h=>?_⟩,⟨fun h=>?_,fun h=>?_⟩⟩
   ·rcases cx x c with h1|h1
    ·exact h1
    ·have:=c1 h1;omega
   ·have:=c1 (by omega);omega
   ·rcases cx c x with h1|h1
    ·have:=c2 h1;omega
    ·omega
 ·have p1:=g2 x hx y hy
  have p2:=g2 y hy x hx;constructor
  ·constructor
   ·exact p1
   ·intro h
    rcases cx x y with h1|h1
    ·exact h1
    ·rcases cx y x with h2|h2
     ·have:=p2 h2;omega
     ·have:x=y:=by omega
      subst this;omega
  ·constructor
   ·intro h;rw[h]
   ·intro h
    rcases cx x y with h1|h1
    ·have:=p1 h1;omega
    ·rcases cx y x with h2|h2
     ·have:=p2 h2;omega
     ·omega
def kA(z:Int × Int)(b:Int):List (Int × Int) :=
 if b<z.1\/z.2<b then [z] else ((if z.1<b then [(z.1,b-1)] else [])++[(b,b)])++(if b<z.2 then [(b+1,z.2)] else [])
def vD(zs:List (Int × Int))(b:Int):List (Int × Int):=zs.flatMap fun z=>kA z b
def xI(zs:List (Int × Int))(bs:List Int):List (Int × Int):=bs.foldl vD zs
def fM(lo hi:Int)(b1 b2:List Int):List (Int × Int):=xI (xI [(lo,hi)] b1) b2
def zAY(z:Int × Int)(b:Int):Prop:=z.2<b\/(z.1=b/\z.2=b)\/b<z.1
theorem fS{z x:Int × Int}(h:x∈kA z b):z.1<=x.1/\x.2<=z.2/\zAY x b:=by
 unfold kA at h;unfold zAY;by_cases h1:b<z.1\/z.2<b
 ·rw[tr h1]at h;simp at h;subst h;omega
 ·rw[tj h1]at h
  simp only[ph,pr]at h;rcases h with (h|h)|h
  ·by_cases h2:z.1<b
   ·rw[tr h2]at h;simp at h;subst h;simp;omega
   ·rw[tj h2]at h;simp at h
  ·subst h;simp;omega
  ·by_cases h2:b<z.2
   ·rw[tr h2]at h;simp at h;subst h;simp;omega
   ·rw[tj h2]at h;simp at h
theorem Jh{z:Int × Int}{y:Int}(h:z.1<=y/\y<=z.2):∃x∈kA z b,x.1<=y/\y<=x.2:=by
 unfold kA;by_cases h1:b<z.1\/z.2<b
 ·rw[tr h1];exact⟨z,by simp,h⟩
 ·rw[tj h1]
  rcases Int.lt_trichotomy y b with h2|h2|h2
  ·exact⟨(z.1,b-1),by simp[show z.1<b by omega],by simp;omega⟩
  ·exact⟨(b,b),by simp,by simp;omega⟩
  ·exact⟨(b+1,z.2),by simp[show b<z.2 by omega],by simp;omega⟩
structure zFS(lo hi:Int)(bs:List Int)(zs:List (Int × Int)):Prop where
 sub:∀z∈zs,lo<=z.1/\z.2<=hi
 cover:∀y,lo<=y->y<=hi->∃z∈zs,z.1<=y/\y<=z.2
 side:∀z∈zs,∀b∈bs,∀y,z.1<=y->y<=z.2->∀x,z.1<=x->x<=z.2->(x<b ↔ y<b)/\(x=b ↔ y=b)
theorem zFS.split{lo hi:Int}{bs:List Int}{zs:List (Int × Int)}(h:zFS lo hi bs zs)(b:Int):zFS lo hi (bs++[b]) (vD zs b):=by
 refine⟨fun z hz=>?_,fun y h1 h2=>?_,fun z hz c hc y h1 h2 x h3 h4=>?_⟩
 ·obtain⟨z0,hz0,hz1⟩:=bq.1 hz
  have:=h.sub z0 hz0;have:=fS hz1;omega
 ·obtain⟨z,hz,hy⟩:=h.cover y h1 h2
  obtain⟨x,hx,hxy⟩:=Jh (b:=b) hy;exact⟨x,bq.2 ⟨z,hz,hx⟩,hxy⟩
 ·obtain⟨z0,hz0,hz1⟩:=bq.1 hz
  have hs:=fS hz1;rcases ph.1 hc with hc|hc
  ·exact h.side z0 hz0 c hc y (by omega) (by omega) x (by omega) (by omega)
  ·simp at hc;subst hc
   have:=hs.2.2;unfold zAY at this;omega
theorem zFS.splits{lo hi:Int}(b2:List Int):∀ {bs:List Int} {zs:List (Int × Int)},zFS lo hi bs zs->zFS lo hi (bs++b2) (xI zs b2):=by
 induction b2 with
 | nil=>intro bs zs h;simpa[xI] using h
 | cons b r ih =>
   intro bs zs h;have:=ih (h.split b);rw[pj]at this;exact this
theorem Yo(lo hi:Int)(b1 b2:List Int):zFS lo hi (b1++b2) (fM lo hi b1 b2):=by
 have h0:zFS lo hi [] [(lo,hi)]:=⟨fun z hz=>by simp at hz;subst hz;simp,fun y h1 h2=>⟨(lo,hi),by simp,h1,h2⟩,fun z _ b hb=>by simp at hb⟩;have:=(h0.splits b1).splits b2;unfold fM;simpa using this
theorem BU{α:Type}(p q:α->Bool)(h:∀x,¬(p x=true/\q x=true))(l:List α):(l.filter p).length+(l.filter q).length<=l.length:=by
 induction l with
 | nil=>simp
 | cons x r ih =>
   have hx:=h x;cases hp:p x <;> cases hq:q x <;> simp[hp,hq]at hx ⊢ <;> omega
theorem DM(l:List Int):∃T:List Int,T.Pairwise (· < ·)/\(∀x,x∈T ↔ x∈l)/\T.length<=l.length:=by
 induction l with
 | nil=>exact⟨[],List.Pairwise.nil,fun x=>Iff.rfl,tg _⟩
 | cons a r ih =>
   obtain⟨T,h1,h2,h3⟩:=ih;refine⟨T.filter (fun x=>decide (x<a))++a::T.filter (fun x=>decide (a<x)),?_,fun x=>?_,?_⟩
   ·rw[List.pairwise_append,List.pairwise_cons]
    refine⟨h1.filter _,⟨fun x hx=>by simpa using (mw.1 hx).2,h1.filter _⟩,fun x hx y hy=>?_⟩;have hx2:x<a:=by simpa using (mw.1 hx).2
    rcases pf.1 hy with rfl|hy
    ·exact hx2
    ·have:a<y:=by simpa using (mw.1 hy).2
     omega
   ·simp only[ph,pf,mw,mj,h2]
    constructor
    ·rintro(h|h|h)
     ·exact .inr h.1
     ·exact .inl h
     ·exact .inr h.1
    ·rintro(h|h)
     ·exact .inr (.inl h)
     ·rcases Int.lt_trichotomy x a with h4|h4|h4
      ·exact .inl ⟨h,h4⟩
      ·exact .inr (.inl h4)
      ·exact .inr (.inr ⟨h,h4⟩)
   ·have:=BU (fun x:Int=>decide (x<a)) (fun x=>decide (a<x)) (fun x=>by simp;omega) T
    simp;omega
structure mP where
 lo:Int
 hi:Int
 rank:Nat
def qL(r:Nat):List mP->Int × Int->Int × Int
 | [],s=>s
 | n::L,s=>qL r L (if n.rank=r then (if s.1<n.lo then n.lo else s.1,if n.hi<s.2 then n.hi else s.2) else s)
def vS(L:List mP)(r:Nat):Int × Int:=qL r L (0,9999)
def bI(r:Nat):List mP->Nat
 | []=>0
 | n::L=>(if n.rank=r then 1 else 0)+bI r L
def wD(L:List mP):Nat->Nat->Int->Nat->List Int->Option (List Int)
 | 0,_,_,_,out=>some out
 | f+1,r,xZ,placed,out =>
   if placed=L.length then some out
   else if (vS L r).2<(if (vS L r).1<xZ then xZ else (vS L r).1) then none
   else if bI r L=0 then none
   else wD L f (r+1) ((if (vS L r).1<xZ then xZ else (vS L r).1)+1) (placed+bI r L) (out++[if (vS L r).1<xZ then xZ else (vS L r).1])
def nD(L:List mP):Option (List Int):=wD L L.length 0 0 0 []
theorem sU(r:Nat)(L:List mP):∀s,s.1<=(qL r L s).1/\(qL r L s).2<=s.2/\∀n∈L,n.rank=r->n.lo<=(qL r L s).1/\(qL r L s).2<=n.hi:=by
 induction L with
 | nil=>intro s;exact⟨dr _,dr _,fun n hn=>by simp at hn⟩
 | cons m L ih =>
   intro s;rw[qL];obtain⟨h1,h2,h3⟩:=ih (if m.rank=r then (if s.1<m.lo then m.lo else s.1,if m.hi<s.2 then m.hi else s.2) else s);by_cases hr:m.rank=r
   ·rw[tr hr]at h1 h2 h3 ⊢
    generalize qL r L (if s.1<m.lo then m.lo else s.1,if m.hi<s.2 then m.hi else s.2)=q at h1 h2 h3 ⊢;simp only at h1 h2;refine⟨by split at h1 <;> omega,by split at h2 <;> omega,fun n hn hnr=>?_⟩;rcases pf.1 hn with rfl|hn
    ·exact⟨by split at h1 <;> omega,by split at h2 <;> omega⟩
    ·exact h3 n hn hnr
   ·rw[tj hr]at h1 h2 h3 ⊢
    refine⟨h1,h2,fun n hn hnr=>?_⟩;rcases pf.1 hn with rfl|hn
    ·exact absurd hnr hr
    ·exact h3 n hn hnr
theorem U2(r:Nat)(v:Int)(L:List mP):∀s:Int × Int,s.1<=v->v<=s.2->(∀n∈L,n.rank=r->n.lo<=v/\v<=n.hi)->(qL r L s).1<=v/\v<=(qL r L s).2:=by
 induction L with
 | nil=>intro s h1 h2 _;exact⟨h1,h2⟩
 | cons m L ih =>
   intro s h1 h2 h;rw[qL];by_cases hr:m.rank=r
   ·rw[tr hr]
    have:=h m (by simp) hr;exact ih _ (by simp only;split <;> omega) (by simp only;split <;> omega) fun n hn=>h n (by simp[hn])
   ·rw[tj hr];exact ih _ h1 h2 fun n hn=>h n (by simp[hn])
def pV(r:Nat):List mP->Nat
 | []=>0
 | n::L=>(if n.rank<r then 1 else 0)+pV r L
theorem aL(r:Nat)(L:List mP):pV (r+1) L=pV r L+bI r L:=by
 induction L with
 | nil=>rfl
 | cons n L ih=>rw[pV,pV,bI,ih];split <;> split <;> split <;> omega
theorem aK(L:List mP):pV 0 L=0:=by
 induction L with
 | nil=>rfl
 | cons n L ih=>rw[pV,ih];simp
theorem Zc(r:Nat)(L:List mP):pV r L<=L.length/\((∀n∈L,n.rank<r)->pV r L=L.length):=by
 induction L with
 | nil=>simp[pV]
 | cons n L ih =>
   rw[pV,tz];refine⟨by have:=ih.1;split <;> omega,fun h=>?_⟩;rw[ih.2 fun m hm=>h m (by simp[hm]),tr (h n (by simp))];omega
theorem zAE{r:Nat}{L:List mP}(h:∃n∈L,n.rank=r):bI r L≠0:=by
 induction L with
 | nil=>obtain⟨n,hn,_⟩:=h;simp at hn
 | cons m L ih =>
   obtain⟨n,hn,hr⟩:=h;rw[bI];rcases pf.1 hn with rfl|hn
   ·rw[tr hr];omega
   ·have:=ih ⟨n,hn,hr⟩;omega
structure X9(L:List mP)(r:Nat)(xZ:Int)(out:List Int):Prop where
 len:out.length=r
 zone:∀n∈L,n.rank<r->n.lo<=out.getD n.rank 0/\out.getD n.rank 0<=n.hi
 up:∀a b,a<b->b<r->out.getD a 0<out.getD b 0
 last:∀a,a<r->out.getD a 0<xZ
theorem X9.snoc{L:List mP}{r:Nat}{xZ v:Int}{out:List Int}(h:X9 L r xZ out)(hv:xZ<=v)(hz:∀n∈L,n.rank=r->n.lo<=v/\v<=n.hi):X9 L (r+1) (v+1) (out++[v]):=by
 have hl:=h.len;have e1:∀a,a<r->(out++[v]).getD a 0=out.getD a 0:=fun a ha=>by simp[List.getD,po (show a<out.length by omega)]
 have e2:(out++[v]).getD r 0=v:=by simp[List.getD,<-hl]
 refine⟨by simp[hl],fun n hn hr=>?_,fun a b hab hb=>?_,fun a ha=>?_⟩
 ·by_cases hr2:n.rank<r
  ·rw[e1 _ hr2];exact h.zone n hn hr2
  ·have hr3:n.rank=r:=by omega
   rw[hr3,e2];exact hz n hn hr3
 ·by_cases hb2:b<r
  ·rw[e1 _ hb2,e1 _ (by omega)];exact h.up a b hab hb2
  ·have hb3:b=r:=by omega
   rw[hb3,e2,e1 _ (by omega)];have:=h.last a (by omega);omega
 ·by_cases ha2:a<r
  ·rw[e1 _ ha2];have:=h.last a ha2;omega
  ·have ha3:a=r:=by omega
   rw[ha3,e2];omega
theorem U5(L:List mP):∀f r xZ placed out,placed=pV r L->X9 L r xZ out->∀o,wD L f r xZ placed out=some o->∃r' l',r<=r'/\(r'=r+f\/pV r' L=L.length)/\X9 L r' l' o:=by
 intro f
 induction f with
 | zero=>intro r xZ placed out _ h o ho;rw[wD]at ho;obtain rfl:=du ho;exact⟨r,xZ,tg _,.inl rfl,h⟩
 | succ f ih =>
   intro r xZ placed out hp h o ho;rw[wD]at ho;by_cases h1:placed=L.length
   ·rw[tr h1]at ho;obtain rfl:=du ho;exact⟨r,xZ,tg _,.inr (by rw[<-hp,h1]),h⟩
   ·rw[tj h1]at ho
    have hg:=sU r L (0,9999);have hs:qL r L (0,9999)=vS L r:=rfl;rw[hs]at hg;generalize hv:(if (vS L r).1<xZ then xZ else (vS L r).1)=v at ho;have hv2:xZ<=v/\(vS L r).1<=v:=by rw[<-hv];split <;> omega
    by_cases h2:(vS L r).2<v
    ·rw[tr h2]at ho;exact absurd ho (by simp)
    ·rw[tj h2]at ho
     by_cases h3:bI r L=0
     ·rw[tr h3]at ho;exact absurd ho (by simp)
     ·rw[tj h3]at ho
      obtain⟨r',l',q1,q2,q3⟩:=ih (r+1) (v+1) _ _ (by rw[aL,hp]) (h.snoc hv2.1 fun n hn hr=>by have:=hg.2.2 n hn hr;omega) o ho;exact⟨r',l',by omega,by rcases q2 with q2|q2;exact .inl (by omega);exact .inr q2,q3⟩
theorem aM{r:Nat}{L:List mP}(h:pV r L=L.length):∀n∈L,n.rank<r:=by
 induction L with
 | nil=>intro n hn;simp at hn
 | cons m L ih =>
   rw[pV,tz]at h;have hl:=(Zc r L).1;intro n hn;by_cases hm:m.rank<r
   ·rw[tr hm]at h
    rcases pf.1 hn with rfl|hn
    ·exact hm
    ·exact ih (by omega) n hn
   ·rw[tj hm]at h;omega
theorem Y8{L:List mP}(hr:∀n∈L,n.rank<L.length){o:List Int}(h:nD L=some o):∀n∈L,n.lo<=o.getD n.rank 0/\o.getD n.rank 0<=n.hi:=by
 obtain⟨r',l',_,h2,h3⟩:=U5 L L.length 0 0 0 [] (aK L).symm ⟨rfl,fun n _ h=>absurd h (by omega),fun a b _ h=>absurd h (by omega),fun a h=>absurd h (by omega)⟩ o h;intro n hn;refine h3.zone n hn ?_;rcases h2 with h2|h2
 ·have:=hr n hn;omega
 ·exact aM h2 n hn
theorem DP(L:List mP)(T:List Int)(hT:T.Pairwise (· < ·))(zK3:∀n∈L,n.rank<T.length/\n.lo<=T.getD n.rank 0/\T.getD n.rank 0<=n.hi)(hall:∀r,r<T.length->∃n∈L,n.rank=r)(h0:∀x∈T,0<=x/\x<=9999) :
 ∀f r xZ placed out,T.length-r<=f->placed=pV r L->r<=T.length->(r<T.length->xZ<=T.getD r 0)->X9 L r xZ out->∃o l',wD L f r xZ placed out=some o/\X9 L T.length l' o:=by
 intro f
 induction f with
 | zero=>intro r xZ placed out hf _ hr _ h;obtain rfl:r=T.length:=by omega
         exact⟨out,xZ,by rw[wD],h⟩
 | succ f ih =>
   intro r xZ placed out hf hp hr hl h;by_cases zJS:r<T.length
   ·obtain⟨n0,hn0,hr0⟩:=hall r zJS
    have hpl:placed≠L.length:=fun e=>by
     have:=aM (r:=r) (L:=L) (by rw[<-hp,e]) n0 hn0;omega
    have hm:T.getD r 0∈T:=by simp[List.getD,zJS]
    have hle:=U2 r (T.getD r 0) L (0,9999) (h0 _ hm).1 (h0 _ hm).2 fun n hn hnr=>by have:=zK3 n hn;rw[hnr]at this;exact this.2
    have hg:=sU r L (0,9999);have hs:qL r L (0,9999)=vS L r:=rfl;rw[hs]at hle hg;rw[wD,tj hpl];generalize hv:(if (vS L r).1<xZ then xZ else (vS L r).1)=v;have hll:=hl zJS;have hv2:xZ<=v/\(vS L r).1<=v/\v<=T.getD r 0:=by rw[<-hv];split <;> omega
    rw[tj (by omega),tj (zAE ⟨n0,hn0,hr0⟩)];refine ih (r+1) (v+1) _ _ (by omega) (by rw[aL,hp]) zJS (fun h2=>?_) (h.snoc hv2.1 fun n hn hnr=>by have:=hg.2.2 n hn hnr;omega)
    have:T.getD r 0<T.getD (r+1) 0:=by
     have:=List.pairwise_iff_getElem.1 hT r (r+1) zJS h2 (by omega);simpa[List.getD,zJS,h2] using this
    omega
   ·obtain rfl:r=T.length:=by omega
    have:placed=L.length:=by rw[hp];exact(Zc _ L).2 fun n hn=>(zK3 n hn).1
    exact⟨out,xZ,by rw[wD,tr this],h⟩
theorem CB{T:List Int}(hT:T.Pairwise (· < ·)){a b:Nat}(ha:a<T.length)(hb:b<T.length):(T.getD a 0<T.getD b 0 ↔ a<b)/\(T.getD a 0=T.getD b 0->a=b):=by
 have key:∀a b,a<T.length->b<T.length->a<b->T.getD a 0<T.getD b 0:=fun a b ha hb hab=>by
  have:=List.pairwise_iff_getElem.1 hT a b ha hb hab;simpa[List.getD,ha,hb] using this
 have h1:=key a b ha hb;have h2:=key b a hb ha;rcases Nat.lt_trichotomy a b with h|h|h
 ·have:=h1 h;omega
 ·subst h;simp
 ·have:=h2 h;omega
def dV(Z:List (Int × Int))(rk:List Nat):List mP:=(List.range Z.length).map fun i=>⟨(Z.getD i (0,0)).1,(Z.getD i (0,0)).2,rk.getD i 0⟩
theorem Qt(Z:List (Int × Int))(rk:List Nat):(dV Z rk).length=Z.length:=by simp[dV]
theorem Qs{Z:List (Int × Int)}{rk:List Nat}{n:mP}(h:n∈dV Z rk):∃i,i<Z.length/\n=⟨(Z.getD i (0,0)).1,(Z.getD i (0,0)).2,rk.getD i 0⟩:=by
 obtain⟨i,hi,rfl⟩:=pd.1 h;exact⟨i,by simpa using hi,rfl⟩
theorem KC{Z:List (Int × Int)}(rk:List Nat)(hi:i<Z.length):(⟨(Z.getD i (0,0)).1,(Z.getD i (0,0)).2,rk.getD i 0⟩:mP)∈dV Z rk:=pd.2 ⟨i,by simpa using hi,rfl⟩
theorem DN(Z:List (Int × Int))(y:List Int)(hl:y.length=Z.length)(h:∀i,i<Z.length->(Z.getD i (0,0)).1<=y.getD i 0/\y.getD i 0<=(Z.getD i (0,0)).2)(h0:∀x∈y,0<=x/\x<=9999) :
 ∃rk:List Nat,rk.length=Z.length/\(∀r∈rk,r<Z.length)/\∃o,nD (dV Z rk)=some o/\∀i j,i<Z.length->j<Z.length->(o.getD (rk.getD i 0) 0<o.getD (rk.getD j 0) 0 ↔ y.getD i 0<y.getD j 0):=by
 obtain⟨T,hT,hm,zJV⟩:=DM y
 have hex:∀x∈y,∃r,r<T.length/\T.getD r 0=x:=fun x hx=>by
  obtain⟨r,hr,e⟩:=List.getElem_of_mem ((hm x).2 hx);exact⟨r,hr,by simp[List.getD,hr,e]⟩
 obtain⟨g,hg⟩:∃g:Int->Nat,∀x∈y,g x<T.length/\T.getD (g x) 0=x:=by
  refine⟨fun x=>if hx:x∈y then Classical.choose (hex x hx) else 0,fun x hx=>?_⟩;simp only[hx,dite_true];exact Classical.choose_spec (hex x hx)
 have hyi:∀i,i<Z.length->y.getD i 0∈y:=fun i hi=>by simp[List.getD,show i<y.length by omega]
 have hri:∀i,i<Z.length->(y.map g).getD i 0=g (y.getD i 0):=fun i hi=>by simp[List.getD,show i<y.length by omega]
 refine⟨y.map g,by simp[hl],fun r hr=>?_,?_⟩
 ·obtain⟨x,hx,rfl⟩:=pd.1 hr
  have:=(hg x hx).1;omega
 have zK3:∀n∈dV Z (y.map g),n.rank<T.length/\n.lo<=T.getD n.rank 0/\T.getD n.rank 0<=n.hi:=fun n hn=>by
  obtain⟨i,hi,rfl⟩:=Qs hn;simp only;rw[hri i hi];have h1:=hg _ (hyi i hi);rw[h1.2];exact⟨h1.1,h i hi⟩
 have hall:∀r,r<T.length->∃n∈dV Z (y.map g),n.rank=r:=fun r hr=>by
  have hx:T.getD r 0∈y:=(hm _).1 (by simp[List.getD,hr]);obtain⟨i,hi,e⟩:=List.getElem_of_mem hx;have hi2:i<Z.length:=by omega
  refine⟨_,KC (y.map g) hi2,?_⟩;simp only;rw[hri i hi2];have e2:y.getD i 0=T.getD r 0:=by simp[List.getD,hi,e]
  have h1:=hg _ (hyi i hi2);rw[e2]at h1 ⊢;exact(CB hT h1.1 hr).2 h1.2
 obtain⟨o,l',ho,zK4⟩:=DP (dV Z (y.map g)) T hT zK3 hall (fun x hx=>h0 x ((hm x).1 hx)) (dV Z (y.map g)).length 0 0 0 [] (by rw[Qt];omega) (aK _).symm (p7 _) (fun hh=>(h0 _ ((hm _).1 (by simp[List.getD,hh]))).1) ⟨rfl,fun n _ h=>absurd h (by omega),fun a b _ h=>absurd h (by omega),fun a h=>absurd h (by omega)⟩;refine⟨o,ho,fun i j hi hj=>?_⟩;rw[hri i hi,hri j hj];have a1:=hg _ (hyi i hi);have a2:=hg _ (hyi j hj);have hp:=(CB hT a1.1 a2.1).1;rw[a1.2,a2.2]at hp;rw[hp];constructor
 ·intro h3
  rcases Nat.lt_trichotomy (g (y.getD i 0)) (g (y.getD j 0)) with h4|h4|h4
  ·exact h4
  ·rw[h4]at h3;omega
  ·have:=zK4.up _ _ h4 a1.1;omega
 ·intro h3;exact zK4.up _ _ h3 a2.1
def Cn(R:Nat->Nat->Prop)(i k:Nat):Prop:=R i k/\∀i' k',R i' k'->i<i'\/(i=i'/\k<=k')
structure zFW(r:xU)(s s':xQ):Prop where
 sum:∀p∈r.sum,p.kind=3->kV s.has p.place=kV s'.has p.place
 has:∀y∈r.guard,y.kind=5->kV s.has y.place=kV s'.has y.place
 flag:∀y∈r.guard,y.kind=6->(tK s.inputs y.place=1 ↔ tK s'.inputs y.place=1)
 cmp:∀y∈r.guard,y.kind=7->XT y s=XT y s'
theorem G3(h:zFW r s s'):jN r s=jN r s':=by
 have h1:pG s r.sum=pG s' r.sum:=by
  unfold pG
  exact G6 fun p hp=>by
   by_cases k:p.kind=3
   ·rw[h.sum p hp k]
   ·rw[tu k];rfl
 have h2:∀(N:List kH) hs,(∀y∈N,y∈r.guard)->gF s N hs=gF s' N hs:=by
  intro N
  induction N with
  | nil=>intro hs _;rfl
  | cons y t ih =>
    intro hs hy;rw[gF,gF];have hm:=hy y (by simp)
    have e:Bj y s hs=Bj y s' hs:=by
     unfold Bj;by_cases k5:y.kind=5
     ·simp only[k5];exact h.has y hm k5
     ·by_cases k6:y.kind=6
      ·have:=h.flag y hm k6
       have e6:decide (tK s.inputs y.place=1)=decide (tK s'.inputs y.place=1):=by rw[Bool.eq_iff_iff];simpa using this
       rw[e6];simp[k6]
      ·by_cases k7:y.kind=7
       ·rw[h.cmp y hm k7];simp[k7]
       ·simp[k5,k6,k7]
    rw[e];exact ih _ fun z hz=>hy z (by simp[hz])
 unfold jN;rw[h1,h2 r.guard [] fun y hy=>hy]
def mG(r:xU)(c:Nat):Bool:=r.sum.any fun p=>decide (p.kind=3)&&decide (p.place=(c:Int))
def vP(r:xU)(c:Nat):Bool:=r.guard.any fun y=>decide (y.kind=5)&&decide (y.place=(c:Int))
def tV(r:xU)(i:Nat):Bool:=r.guard.any fun y=>if y.kind=6 then decide (y.place=(i:Int)) else if y.kind=7 then decide (y.place=(i:Int)) || (y.two&&decide (y.other=(i:Int))) else false
def xG(r:xU)(i:Nat):List Int:=(r.guard.filter fun y=>decide (y.kind=7)&&(!y.two&&decide (y.place=(i:Int)))).map kH.num
theorem QR(h:jN r s=true){c:Nat}(hc:mG r c=true):kV s.has (c:Int)=true:=by
 unfold jN at h;rw[mc]at h;obtain⟨p,hp,h1⟩:=l8.1 hc;rw[mc,mj,mj]at h1;have h2:=List.all_eq_true.1 h.1 p hp;rw[h1.2,ty h1.1]at h2;simpa using h2
structure zBN(r:xU)(kR:Nat->Bool)(s s':xQ):Prop where
 len:s.inputs.length=s'.inputs.length
 has:∀c:Nat,(mG r c || vP r c)=true->kV s.has (c:Int)=kV s'.has (c:Int)
 flag:∀i:Nat,i<s.inputs.length->tV r i=true->kR i=false->s.inputs.getD i 0=s'.inputs.getD i 0
 side:∀i:Nat,i<s.inputs.length->kR i=true->∀b∈xG r i,(s.inputs.getD i 0<b ↔ s'.inputs.getD i 0<b)/\(s.inputs.getD i 0=b ↔ s'.inputs.getD i 0=b)
 order:∀i j:Nat,i<s.inputs.length->j<s.inputs.length->tV r i=true->tV r j=true->kR i=true->kR j=true->(s.inputs.getD i 0<s.inputs.getD j 0 ↔ s'.inputs.getD i 0<s'.inputs.getD j 0)
structure aT(r:xU)(n:Nat)(kR:Nat->Bool):Prop where
 flag:∀y∈r.guard,y.kind=6->∃i,i<n/\y.place=(i:Nat)/\kR i=false
 cmp:∀y∈r.guard,y.kind=7->∃i,i<n/\y.place=(i:Nat)/\kR i=true
 two:∀y∈r.guard,y.kind=7->y.two=true->∃i,i<n/\y.other=(i:Nat)/\kR i=true
theorem CY{l:List Bool}{a:Int}(h:a<0):kV l a=false:=by unfold kV;rw[tu (by omega)];rfl
theorem oZ{l:List Int}(h:i<l.length):tK l (i:Int)=l.getD i 0:=by unfold tK;rw[tr ⟨by omega,by omega⟩];rfl
theorem Ce{kR:Nat->Bool}(hp:aT r s.inputs.length kR)(h:zBN r kR s s'):zFW r s s':=by
 have hT:∀a:Int,(∀c:Nat,a=(c:Int)->(mG r c || vP r c)=true)->kV s.has a=kV s'.has a:=fun a ha=>by
  rcases cx a 0 with h0|h0
  ·rw[CY h0,CY h0]
  ·obtain⟨c,rfl⟩:∃c:Nat,a=(c:Int):=⟨a.toNat,by omega⟩
   exact h.has c (ha c rfl)
 refine⟨fun p hpm k=>hT _ fun c e=>?_,fun y hy k=>hT _ fun c e=>?_,fun y hy k=>?_,fun y hy k=>?_⟩
 ·rw[cr];exact .inl (l8.2 ⟨p,hpm,by simp[k,e]⟩)
 ·rw[cr];exact .inr (l8.2 ⟨y,hy,by simp[k,e]⟩)
 ·obtain⟨i,hi,e,hn⟩:=hp.flag y hy k
  rw[e,oZ hi,oZ (by rw[<-h.len];exact hi),h.flag i hi (l8.2 ⟨y,hy,by simp[k,e]⟩) hn]
 ·obtain⟨i,hi,e,hn⟩:=hp.cmp y hy k
  have ha:tV r i=true:=l8.2 ⟨y,hy,by simp[k,e]⟩;unfold XT;rw[e,oZ hi,oZ (show i<s'.inputs.length by rw[<-h.len];exact hi)];cases h2:y.two
  ·have hb:y.num∈xG r i:=pd.2 ⟨y,mw.2 ⟨hy,by simp[k,h2,e]⟩,rfl⟩
   have hs:=h.side i hi hn _ hb;simp only[Bool.false_eq_true,if_false];generalize s.inputs.getD i 0=a at *;generalize s'.inputs.getD i 0=a' at *;by_cases c1:a<y.num
   ·rw[tr c1,tr (hs.1.1 c1)]
   ·rw[tj c1,tj (fun c=>c1 (hs.1.2 c))]
    by_cases c2:y.num<a
    ·rw[tr c2,tr (by omega)]
    ·rw[tj c2,tj (by omega)]
  ·obtain⟨j,hj,e2,hn2⟩:=hp.two y hy k h2
   have ha2:tV r j=true:=l8.2 ⟨y,hy,by simp[k,h2,e2]⟩;have o1:=h.order i j hi hj ha ha2 hn hn2;have o2:=h.order j i hj hi ha2 ha hn2 hn;simp only[if_true];rw[e2,oZ hj,oZ (show j<s'.inputs.length by rw[<-h.len];exact hj)];generalize s.inputs.getD i 0=a at *;generalize s'.inputs.getD i 0=a' at *;generalize s.inputs.getD j 0=b at *;generalize s'.inputs.getD j 0=b' at *;by_cases c1:a<b
   ·rw[tr c1,tr (o1.1 c1)]
   ·rw[tj c1,tj (fun c=>c1 (o1.2 c))]
    by_cases c2:b<a
    ·rw[tr c2,tr (o2.1 c2)]
    ·rw[tj c2,tj (fun c=>c2 (o2.2 c))]
theorem QV{kR:Nat->Bool}(hp:aT r s.inputs.length kR)(h:zBN r kR s s'):jN r s=jN r s':=G3 (Ce hp h)
theorem KY{α:Type}(d:α)(P:Nat->α->Prop):∀n,(∀p,p<n->∃z,P p z)->∃Z:List α,Z.length=n/\∀p,p<n->P p (Z.getD p d):=by
 intro n
 induction n with
 | zero=>intro _;exact⟨[],rfl,fun p h=>absurd h (by omega)⟩
 | succ n ih =>
   intro h;obtain⟨Z,h1,h2⟩:=ih fun p hp=>h p (by omega);obtain⟨z,hz⟩:=h n (by omega);refine⟨Z++[z],by simp[h1],fun p hp=>?_⟩;by_cases hp2:p<n
   ·have:(Z++[z]).getD p d=Z.getD p d:=by simp[List.getD,po (show p<Z.length by omega)]
    rw[this];exact h2 p hp2
   ·obtain rfl:p=n:=by omega
    have:(Z++[z]).getD p d=z:=by simp[List.getD,<-h1]
    rw[this];exact hz
def jC(I:List zX)(i:Nat):zX:=I.getD i um
def xN(I:List zX)(i:Nat):Bool := !(jC I i).isFlag
structure dN(I:List zX)(H:Nat)(y:xQ):Prop where
 inl:y.inputs.length=I.length
 hal:y.has.length=H
 num:∀i,i<I.length->xN I i=true->(jC I i).low<=y.inputs.getD i 0/\y.inputs.getD i 0<=(jC I i).high
 flag:∀i,i<I.length->xN I i=false->y.inputs.getD i 0=0\/y.inputs.getD i 0=1
def qR(e l:xU)(i:Nat):Bool:=tV e i || tV l i
def uE(e l:xU)(c:Nat):Bool:=mG e c || mG l c
def vI(I:List zX)(e l:xU):List Nat:=(List.range I.length).filter fun i=>qR e l i&&xN I i
theorem mC:i∈vI I e l ↔ i<I.length/\qR e l i=true/\xN I i=true:=by
 unfold vI;rw[mw,md,mc]
theorem fX{p:Nat}(h:p<(vI I e l).length):(vI I e l).getD p 0∈vI I e l:=by simp[List.getD,h]
theorem ZZ(hi:i<I.length)(ha:qR e l i=true)(hn:xN I i=true):∃p,p<(vI I e l).length/\(vI I e l).getD p 0=i:=by
 obtain⟨p,hp,e⟩:=List.getElem_of_mem (mC.2 ⟨hi,ha,hn⟩);exact⟨p,hp,by simp[List.getD,hp,e]⟩
def tW(I:List zX)(e l:xU)(i:Nat):List (Int × Int):=fM (jC I i).low (jC I i).high (xG e i) (xG l i)
structure zFT(I:List zX)(e l:xU)(rk:List Nat)(o:List Int)(y t:xQ):Prop where
 inl:t.inputs.length=I.length
 num:∀p,p<(vI I e l).length->t.inputs.getD ((vI I e l).getD p 0) 0=o.getD (rk.getD p 0) 0
 flag:∀i,i<I.length->qR e l i=true->xN I i=false->t.inputs.getD i 0=y.inputs.getD i 0
 need:∀c:Nat,uE e l c=true->kV t.has (c:Int)=true
 has:∀c:Nat,uE e l c=false->(vP e c || vP l c)=true->kV t.has (c:Int)=kV y.has (c:Int)
theorem VI(h:b∈xG r i):tV r i=true:=by
 obtain⟨y,hy,_⟩:=pd.1 h;have hf:=mw.1 hy;have h2:=hf.2;simp only[mc,mj]at h2;exact l8.2 ⟨y,hf.1,by simp[h2.1,h2.2.2]⟩
theorem K4{H:Nat}(hpe:aT e I.length (xN I))(hpl:aT l I.length (xN I))(hr:∀i,i<I.length->xN I i=true->0<=(jC I i).low/\(jC I i).high<=9999){y:xQ}(hy:dN I H y)(he:jN e y=true)(hl:jN l y=true) :
 ∃Z:List (Int × Int),Z.length=(vI I e l).length/\(∀p,p<(vI I e l).length->Z.getD p (0,0)∈tW I e l ((vI I e l).getD p 0))/\∃rk:List Nat,rk.length=Z.length/\(∀r∈rk,r<Z.length)/\∃o,nD (dV Z rk)=some o/\∀t,zFT I e l rk o y t->jN e t=true/\jN l t=true:=by
 obtain⟨Z,hZl,hZ⟩:=KY (0,0) (fun p z=>z∈tW I e l ((vI I e l).getD p 0)/\z.1<=y.inputs.getD ((vI I e l).getD p 0) 0/\y.inputs.getD ((vI I e l).getD p 0) 0<=z.2) (vI I e l).length (fun p hp=>by
  obtain⟨hi,_,hn⟩:=mC.1 (fX hp);have hrm:=hy.num _ hi hn;obtain⟨z,hz,h1⟩:=(Yo (jC I ((vI I e l).getD p 0)).low (jC I ((vI I e l).getD p 0)).high (xG e ((vI I e l).getD p 0)) (xG l ((vI I e l).getD p 0))).cover _ hrm.1 hrm.2;exact⟨z,hz,h1⟩)
 have hYg:∀p,p<(vI I e l).length->((vI I e l).map fun i=>y.inputs.getD i 0).getD p 0=y.inputs.getD ((vI I e l).getD p 0) 0:=fun p hp=>by simp[List.getD,hp]
 obtain⟨rk,hrl,hrr,o,ho,hord⟩:=DN Z ((vI I e l).map fun i=>y.inputs.getD i 0) (by simp[hZl]) (fun p hp=>by
  rw[hYg p (by omega)];exact(hZ p (by omega)).2) (fun x hx=>by
  obtain⟨i,hi,rfl⟩:=pd.1 hx;obtain⟨h1,_,h3⟩:=mC.1 hi;have:=hr i h1 h3;have:=hy.num i h1 h3;show 0<=y.inputs.getD i 0/\y.inputs.getD i 0<=9999;omega)
 refine⟨Z,hZl,fun p hp=>(hZ p hp).1,rk,hrl,hrr,o,ho,fun t ht=>?_⟩
 have hsound:=Y8 (L:=dV Z rk) (fun n hn=>by
  obtain⟨i,hi,rfl⟩:=Qs hn;rw[Qt];exact hrr _ (by simp[List.getD,show i<rk.length by omega])) ho
 have zK3:∀p,p<(vI I e l).length->(Z.getD p (0,0)).1<=t.inputs.getD ((vI I e l).getD p 0) 0/\t.inputs.getD ((vI I e l).getD p 0) 0<=(Z.getD p (0,0)).2:=fun p hp=>by
  rw[ht.num p hp];exact hsound _ (KC rk (show p<Z.length by omega))
 have hal:∀r:xU,(r=e\/r=l)->zBN r (xN I) y t:=fun r hre=>by
  have hask:∀i,tV r i=true->qR e l i=true:=fun i h=>by unfold qR;rcases hre with rfl|rfl <;> rw[h] <;> simp
  have hnd:∀c,mG r c=true->uE e l c=true:=fun c h=>by unfold uE;rcases hre with rfl|rfl <;> rw[h] <;> simp
  have hah:∀c,vP r c=true->(vP e c || vP l c)=true:=fun c h=>by rcases hre with rfl|rfl <;> rw[h] <;> simp
  have hny:∀c,uE e l c=true->kV y.has (c:Int)=true:=fun c h=>by
   unfold uE at h;rcases(cr _ _).mp h with h|h
   ·exact QR he h
   ·exact QR hl h
  refine⟨by rw[hy.inl,ht.inl],fun c hc=>?_,fun i hi ha hn=>?_,fun i hi hn b hb=>?_,fun i j hi hj ha ha2 hn hn2=>?_⟩
  ·cases hnc:uE e l c
   ·rcases(cr _ _).mp hc with hc|hc
    ·rw[hnd c hc]at hnc;exact absurd hnc (by decide)
    ·exact(ht.has c hnc (hah c hc)).symm
   ·rw[hny c hnc,ht.need c hnc]
  ·exact(ht.flag i (by rw[<-hy.inl];exact hi) (hask i ha) hn).symm
  ·obtain⟨p,hp,e1⟩:=ZZ (by rw[<-hy.inl];exact hi) (hask i (VI hb)) hn
   have hz:=hZ p hp;have ht2:=zK3 p hp;rw[e1]at hz ht2;have:=(Yo (jC I i).low (jC I i).high (xG e i) (xG l i)).side _ hz.1 b (by rcases hre with rfl|rfl <;> simp[hb]) _ ht2.1 ht2.2 _ hz.2.1 hz.2.2;exact this
  ·obtain⟨p,hp,e1⟩:=ZZ (by rw[<-hy.inl];exact hi) (hask i ha) hn
   obtain⟨q,hq,e2⟩:=ZZ (by rw[<-hy.inl];exact hj) (hask j ha2) hn2;have h1:=hord p q (by omega) (by omega);rw[hYg p hp,hYg q hq,e1,e2]at h1;have h2:=ht.num p hp;have h3:=ht.num q hq;rw[e1]at h2;rw[e2]at h3;rw[h2,h3];exact h1.symm
 exact⟨by rw[<-QV (hy.inl ▸ hpe) (hal e (.inl rfl))];exact he,by rw[<-QV (hy.inl ▸ hpl) (hal l (.inr rfl))];exact hl⟩
theorem zE8{l:List zE}(h:(l.map zE.name).Nodup):∀x∈l,∀z∈l,x.name=z.name->x=z:=by
 induction l with
 | nil=>intro x hx;cases hx
 | cons a r ih =>
   rw[cq,List.nodup_cons]at h;intro x hx z hz e;rcases pf.1 hx with h1|h1
   ·rcases pf.1 hz with h2|h2
    ·rw[h1,h2]
    ·rw[h1]at e;exact absurd (pd.2 ⟨z,h2,e.symm⟩) h.1
   ·rcases pf.1 hz with h2|h2
    ·rw[h2]at e;exact absurd (pd.2 ⟨x,h1,e⟩) h.1
    ·exact ih h.2 x h1 z h2 e
theorem zHK(h:tH ls){z:zE}(hx:x∈GL ls)(hz:z∈GL ls)(e:x.name=z.name):x=z:=zE8 (by rw[<-Xh];exact Xd h) x hx z hz e
theorem Xg(hi:i<(yI ls).length):∃x,x∈GL ls/\x∈ls/\jC (yI ls) i=mS x/\(qW ls).getD i []=x.name:=by
 rw[Xf,me]at hi;have hm:(GL ls).getD i zD6∈GL ls:=jc _ hi;refine⟨(GL ls).getD i zD6,hm,(mw.1 hm).1,?_,?_⟩
 ·unfold jC;rw[Xf];exact Xm _ _ _ _ _ hi
 ·rw[Xh];exact Xm _ _ _ _ _ hi
theorem zJ9(h:x∈ls)(hk:x.kind=1\/x.kind=2):x∈GL ls:=mw.2 ⟨h,ty hk⟩
theorem zJ7{nm:Bs}{k:Int}(h:uP ls k nm=true):∃x∈ls,x.kind=k/\x.name=nm:=by
 obtain⟨x,h1,h2⟩:=l8.1 h;unfold Xa at h2;rw[mc,mj,mj]at h2;exact⟨x,h1,h2.1,h2.2⟩
theorem aE(hk:x.kind=1\/x.kind=2):(!(mS x).isFlag)=decide (x.kind=1):=by
 unfold mS;rcases hk with h|h
 ·rw[tr h,ty h];rfl
 ·rw[tj (by omega),tu (by omega)];rfl
theorem V5{k:Int}{m:Nat}(hl:ZK k=m)(h:∀i,i<ls.length->jG ls i=false):vB k ls<=m:=by
 have key:∀n,n<=ls.length->vB k (ls.take n)<=m:=by
  intro n
  induction n with
  | zero=>intro _;simp[vB]
  | succ n ih =>
    intro hn;rw[fQ ls n (by omega),VG];have ih:=ih (by omega);by_cases hk:(lA ls n).kind=k
    ·have hm:=h n (by omega)
     unfold jG at hm;rw[cf,di,hk,hl]at hm;simp only[vB,hk,if_true];omega
    ·simp only[vB,tj hk];omega
 have:=key ls.length (tg _)
 rwa [cd]at this
theorem ke(ls:List zE):(yI ls).length=vB 1 ls+vB 2 ls:=by
 rw[Xf,me];unfold GL
 induction ls with
 | nil=>simp[vB]
 | cons x r ih =>
   rw[List.filter_cons,vB,vB];by_cases h1:x.kind=1
   ·rw[ty (.inl h1),tr rfl,tr h1,tj (by omega),tz,ih];omega
   ·by_cases h2:x.kind=2
    ·rw[ty (.inr h2),tr rfl,tj h1,tr h2,tz,ih];omega
    ·rw[tu (by omega),tj (by simp),tj h1,tj h2,ih];omega
theorem Vl(h:tH ls):(yI ls).length<=6:=by
 have h1:=V5 (k:=1) (m:=3) (by decide) h.many;have h2:=V5 (k:=2) (m:=3) (by decide) h.many;rw[ke];omega
theorem zH1(ls:List zE):(qW ls).length=(yI ls).length:=by unfold qW;rw[me]
theorem qe(h:tH ls)(hx:x∈ls)(hk:x.kind=1):x.low<=x.high:=by
 obtain⟨i,hi,rfl⟩:=Bq hx;have he:=h.err i hi;unfold lE at he;rw[tr hk]at he;unfold wG at he;by_cases h0:oH ls i=0
 ·rw[tr h0]at he
  rcases cx (lA ls i).high (lA ls i).low with h1|h1
  ·rw[tr h1]at he;exact absurd he (by decide)
  ·exact h1
 ·rw[tj h0]at he;exact absurd he h0
theorem Zi{α:Type}(p:α->Bool)(d:α)(l:List α)(i:Nat)(h:i<l.length):(l.drop i).any p=(p (l.getD i d) || (l.drop (i+1)).any p):=by
 rw[pi h,cw];simp[List.getD,h]
theorem JV{α:Type}(p:α->Bool)(l:List α)(i:Nat)(h:¬i<l.length):(l.drop i).any p=false:=by
 rw[pe (by omega)];rfl
def mE(i:Nat)(y:kH):Bool:=if y.kind=6 then decide (y.place=(i:Int)) else if y.kind=7 then decide (y.place=(i:Int)) || (y.two&&decide (y.other=(i:Int))) else false
theorem Dz(w:World)(x:MX)(c:Nat)(hx:qK w x) :
 Calls Tryz.prog 98 #[qB x,.int .i64 (c:Int)] w fun e w'=>e=.returned (.bool (mG x.1 c))/\Below w.heap.size w w':=by
 obtain⟨pa,pc,e1,hp⟩:=hx.sum;obtain⟨ga,gc,e2,hg⟩:=hx.guard;have HP:=zA hp.cel;have zK8:=hx.few1;obtain⟨⟨lab,cc,ps,gd,root⟩,pv,gv⟩:=x;simp only at e1 e2 HP zK8;subst e1 e2;simp only[qB];have HE0:Hid (∀b,ps.any (fun p=>decide (p.kind=3)&&decide (p.place=(c:Int)))=b->mG ⟨lab,cc,ps,gd,root⟩ c=b):=fun b h=>h;generalize mG ⟨lab,cc,ps,gd,root⟩ c=ans at *;clear hx hp hg
 go_enter Tryz.func98,Tryz.ntmps98
 go_wp2_with fail
 generalize hO1:Obj.cells #[.string ⟨lab.toArray⟩,.int .i64 cc,.slice pa ps.length pc,.slice ga gd.length gc,.int .i64 root] 162=O1 at *;clear hO1;have HB0:Hid (Below w.heap.size w (w.alloc O1)):=fe (tg _) _;generalize w.alloc O1=w0 at *
 go_loopw [10] (fun iv wr=>∃(i:Nat),i<=ps.length/\iv=.int .i64 i/\Hid (Below w.heap.size w wr)/\Hid ((ps.drop i).any (fun p=>decide (p.kind=3)&&decide (p.place=(c:Int)))=ps.any (fun p=>decide (p.kind=3)&&decide (p.place=(c:Int))))) (fun iv _=>ps.length-(intOf iv).toNat)
 case atStart=>exact⟨0,p7 _,rfl,HB0,zA rfl⟩
 case round =>
  obtain⟨i,hi,rfl,HB,HE⟩:=hrel;have zK6:=HB.out.size;by_cases zJS:i<ps.length
  ·have ii:(i:Int)<(ps.length:Int):=by omega
   have hpr:=HP.out.below HB.out;obtain⟨gp,rfl,q0⟩:=hpr.at ((zR bA 3 (fun _=>rfl) zDQ ps i 0 zJS (by decide)).trans rfl);have hq:=fun j hj v hv=>(hpr.at ((zR bA 3 (fun _=>rfl) zDQ ps i j zJS hj).trans hv)).elim fun g' h=>(show gp=g' by simpa using h.1) ▸ (show w.heap.size<=wr.heap.size/\wr.cell? ⟨g',i*3+j,none⟩=some v from ⟨zK6,h.2⟩).2;have q1:=hq 1 (by decide) _ rfl;have q2:=hq 2 (by decide) _ rfl;rw[mz]at q0;have lgp:=zY q0;have mgp:wr.heap.size≠gp:=by omega
   have hE:=HE.out;rw[Zi (fun p=>decide (p.kind=3)&&decide (p.place=(c:Int))) zDQ ps i zJS]at hE;have HE2:=zA hE;have HBa:Hid (∀o,Below w.heap.size w (wr.alloc o)):=fun o=>HB.out.alloc zK6 o;clear HE hE hpr hq;generalize ps.getD i zDQ=y at *;obtain⟨yk,yn,yp⟩:=y;simp only at q0 q1 q2 HE2;by_cases k1:yk=3
   ·subst k1
    simp only[decide_true,ld]at HE2;by_cases k2:yp=(c:Int)
    ·subst k2
     have HE3:Hid (ans=true):=HE0.out _ (by rw[<-HE2.out];simp);go_wp2_with fail
     go_ret
     exact⟨zF HE3.out.symm,HBa.out _⟩
    ·have b2:(yp==(c:Int))=false:=by simpa using k2
     have HE3:Hid ((ps.drop (i+1)).any (fun p=>decide (p.kind=3)&&decide (p.place=(c:Int)))=ps.any (fun p=>decide (p.kind=3)&&decide (p.place=(c:Int)))):=by have:=HE2.out;rw[tu k2,ce]at this;exact this
     clear k2;go_wp2_with fail
     go_roundw
     case rel=>exact⟨i+1,by omega,by go_num,zA (HBa.out _),HE3⟩
     case measure=>simp[intOf];omega
   ·have b1:(yk==3)=false:=by simpa using k1
    have HE3:Hid ((ps.drop (i+1)).any (fun p=>decide (p.kind=3)&&decide (p.place=(c:Int)))=ps.any (fun p=>decide (p.kind=3)&&decide (p.place=(c:Int)))):=by have:=HE2.out;rw[tu k1,Bool.false_and,ce]at this;exact this
    clear k1;go_wp2_with fail
    go_roundw
    case rel=>exact⟨i+1,by omega,by go_num,zA (HBa.out _),HE3⟩
    case measure=>simp[intOf];omega
  ·have ii:¬(i:Int)<(ps.length:Int):=by omega
   have HE2:Hid (ans=false):=HE0.out _ (by rw[<-HE.out];exact JV _ _ _ zJS);go_wp2_with fail
   go_ret
   exact⟨zF HE2.out.symm,HB.out⟩
theorem Ja(w:World)(x:MX)(c:Nat)(hx:qK w x) :
 Calls Tryz.prog 99 #[qB x,.int .i64 (c:Int)] w fun e w'=>e=.returned (.bool (vP x.1 c))/\Below w.heap.size w w':=by
 obtain⟨pa,pc,e1,hp⟩:=hx.sum;obtain⟨ga,gc,e2,hg⟩:=hx.guard;have HP:=zA hg.cel;have zK8:=hx.few2;obtain⟨⟨lab,cc,ps,gd,root⟩,pv,gv⟩:=x;simp only at e1 e2 HP zK8;subst e1 e2;simp only[qB];have HE0:Hid (∀b,gd.any (fun y=>decide (y.kind=5)&&decide (y.place=(c:Int)))=b->vP ⟨lab,cc,ps,gd,root⟩ c=b):=fun b h=>h;generalize vP ⟨lab,cc,ps,gd,root⟩ c=ans at *;clear hx hp hg
 go_enter Tryz.func99,Tryz.ntmps99
 go_wp2_with fail
 generalize hO1:Obj.cells #[.string ⟨lab.toArray⟩,.int .i64 cc,.slice pa ps.length pc,.slice ga gd.length gc,.int .i64 root] 162=O1 at *;clear hO1;have HB0:Hid (Below w.heap.size w (w.alloc O1)):=fe (tg _) _;generalize w.alloc O1=w0 at *
 go_loopw [10] (fun iv wr=>∃(i:Nat),i<=gd.length/\iv=.int .i64 i/\Hid (Below w.heap.size w wr)/\Hid ((gd.drop i).any (fun y=>decide (y.kind=5)&&decide (y.place=(c:Int)))=gd.any (fun y=>decide (y.kind=5)&&decide (y.place=(c:Int))))) (fun iv _=>gd.length-(intOf iv).toNat)
 case atStart=>exact⟨0,p7 _,rfl,HB0,zA rfl⟩
 case round =>
  obtain⟨i,hi,rfl,HB,HE⟩:=hrel;have zK6:=HB.out.size;by_cases zJS:i<gd.length
  ·have ii:(i:Int)<(gd.length:Int):=by omega
   have hpr:=HP.out.below HB.out;obtain⟨gp,rfl,q0⟩:=hpr.at ((zR qQ 10 (fun _=>rfl) nX gd i 0 zJS (by decide)).trans rfl);have hq:=fun j hj v hv=>(hpr.at ((zR qQ 10 (fun _=>rfl) nX gd i j zJS hj).trans hv)).elim fun g' h=>(show gp=g' by simpa using h.1) ▸ (show w.heap.size<=wr.heap.size/\wr.cell? ⟨g',i*10+j,none⟩=some v from ⟨zK6,h.2⟩).2;have q1:=hq 1 (by decide) _ rfl;have q2:=hq 2 (by decide) _ rfl;have q3:=hq 3 (by decide) _ rfl;have q4:=hq 4 (by decide) _ rfl;have q5:=hq 5 (by decide) _ rfl;have q6:=hq 6 (by decide) _ rfl;have q7:=hq 7 (by decide) _ rfl;have q8:=hq 8 (by decide) _ rfl;have q9:=hq 9 (by decide) _ rfl;rw[mz]at q0;have lgp:=zY q0;have mgp:wr.heap.size≠gp:=by omega
   have hE:=HE.out;rw[Zi (fun y=>decide (y.kind=5)&&decide (y.place=(c:Int))) nX gd i zJS]at hE;have HE2:=zA hE;have HBa:Hid (∀o,Below w.heap.size w (wr.alloc o)):=fun o=>HB.out.alloc zK6 o;clear HE hE hpr hq;generalize gd.getD i nX=y at *;obtain⟨yk,yl,yr,yp,y2,yo,yn,yb1,yb2,yb3⟩:=y;simp only at q0 q1 q2 q3 q4 q5 q6 q7 q8 q9 HE2;by_cases k1:yk=5
   ·subst k1
    simp only[decide_true,ld]at HE2;by_cases k2:yp=(c:Int)
    ·subst k2
     have HE3:Hid (ans=true):=HE0.out _ (by rw[<-HE2.out];simp);go_wp2_with fail
     go_ret
     exact⟨zF HE3.out.symm,HBa.out _⟩
    ·have b2:(yp==(c:Int))=false:=by simpa using k2
     have HE3:Hid ((gd.drop (i+1)).any (fun y=>decide (y.kind=5)&&decide (y.place=(c:Int)))=gd.any (fun y=>decide (y.kind=5)&&decide (y.place=(c:Int)))):=by have:=HE2.out;rw[tu k2,ce]at this;exact this
     clear k2;go_wp2_with fail
     go_roundw
     case rel=>exact⟨i+1,by omega,by go_num,zA (HBa.out _),HE3⟩
     case measure=>simp[intOf];omega
   ·have b1:(yk==5)=false:=by simpa using k1
    have HE3:Hid ((gd.drop (i+1)).any (fun y=>decide (y.kind=5)&&decide (y.place=(c:Int)))=gd.any (fun y=>decide (y.kind=5)&&decide (y.place=(c:Int)))):=by have:=HE2.out;rw[tu k1,Bool.false_and,ce]at this;exact this
    clear k1;go_wp2_with fail
    go_roundw
    case rel=>exact⟨i+1,by omega,by go_num,zA (HBa.out _),HE3⟩
    case measure=>simp[intOf];omega
  ·have ii:¬(i:Int)<(gd.length:Int):=by omega
   have HE2:Hid (ans=false):=HE0.out _ (by rw[<-HE.out];exact JV _ _ _ zJS);go_wp2_with fail
   go_ret
   exact⟨zF HE2.out.symm,HB.out⟩
theorem ZH(w:World)(x:MX)(c:Nat)(hx:qK w x) :
 Calls Tryz.prog 95 #[qB x,.int .i64 (c:Int)] w fun e w'=>e=.returned (.bool (tV x.1 c))/\Below w.heap.size w w':=by
 obtain⟨pa,pc,e1,hp⟩:=hx.sum;obtain⟨ga,gc,e2,hg⟩:=hx.guard;have HP:=zA hg.cel;have zK8:=hx.few2;obtain⟨⟨lab,cc,ps,gd,root⟩,pv,gv⟩:=x;simp only at e1 e2 HP zK8;subst e1 e2;simp only[qB];have HE0:Hid (∀b,gd.any (mE c)=b->tV ⟨lab,cc,ps,gd,root⟩ c=b):=fun b h=>h;generalize tV ⟨lab,cc,ps,gd,root⟩ c=ans at *;clear hx hp hg
 go_enter Tryz.func95,Tryz.ntmps95
 go_wp2_with fail
 generalize hO1:Obj.cells #[.string ⟨lab.toArray⟩,.int .i64 cc,.slice pa ps.length pc,.slice ga gd.length gc,.int .i64 root] 162=O1 at *;clear hO1;have HB0:Hid (Below w.heap.size w (w.alloc O1)):=fe (tg _) _;generalize w.alloc O1=w0 at *
 go_loopw [10] (fun iv wr=>∃(i:Nat),i<=gd.length/\iv=.int .i64 i/\Hid (Below w.heap.size w wr)/\Hid ((gd.drop i).any (mE c)=gd.any (mE c))) (fun iv _=>gd.length-(intOf iv).toNat)
 case atStart=>exact⟨0,p7 _,rfl,HB0,zA rfl⟩
 case round =>
  obtain⟨i,hi,rfl,HB,HE⟩:=hrel;have zK6:=HB.out.size;by_cases zJS:i<gd.length
  ·have ii:(i:Int)<(gd.length:Int):=by omega
   have hpr:=HP.out.below HB.out;obtain⟨gp,rfl,q0⟩:=hpr.at ((zR qQ 10 (fun _=>rfl) nX gd i 0 zJS (by decide)).trans rfl);have hq:=fun j hj v hv=>(hpr.at ((zR qQ 10 (fun _=>rfl) nX gd i j zJS hj).trans hv)).elim fun g' h=>(show gp=g' by simpa using h.1) ▸ (show w.heap.size<=wr.heap.size/\wr.cell? ⟨g',i*10+j,none⟩=some v from ⟨zK6,h.2⟩).2;have q1:=hq 1 (by decide) _ rfl;have q2:=hq 2 (by decide) _ rfl;have q3:=hq 3 (by decide) _ rfl;have q4:=hq 4 (by decide) _ rfl;have q5:=hq 5 (by decide) _ rfl;have q6:=hq 6 (by decide) _ rfl;have q7:=hq 7 (by decide) _ rfl;have q8:=hq 8 (by decide) _ rfl;have q9:=hq 9 (by decide) _ rfl;rw[mz]at q0;have lgp:=zY q0;have mgp:wr.heap.size≠gp:=by omega
   have hE:=HE.out;rw[Zi (mE c) nX gd i zJS]at hE;have HE2:=zA hE;have HBa:Hid (∀o,Below w.heap.size w (wr.alloc o)):=fun o=>HB.out.alloc zK6 o;clear HE hE hpr hq;generalize gd.getD i nX=y at *;obtain⟨yk,yl,yr,yp,y2,yo,yn,yb1,yb2,yb3⟩:=y;simp only at q0 q1 q2 q3 q4 q5 q6 q7 q8 q9;unfold mE at HE2;simp only at HE2;have HTr:Hid (∀b,((b || (gd.drop (i+1)).any (mE c))=gd.any (mE c))->b=true->ans=true):=fun b h1 h2=>HE0.out _ (by rw[<-h1,h2];rfl);have HFa:Hid (∀b,((b || (gd.drop (i+1)).any (mE c))=gd.any (mE c))->b=false->(gd.drop (i+1)).any (mE c)=gd.any (mE c)):=fun b h1 h2=>by rw[h2,ce]at h1;exact h1
   by_cases k1:yk=6
   ·subst k1
    simp only[if_true]at HE2;by_cases k2:yp=(c:Int)
    ·have HE3:=zA (HTr.out _ HE2.out (ty k2))
     subst k2;clear HTr HFa HE2;go_wp2_with fail
     go_ret
     exact⟨zF HE3.out.symm,HBa.out _⟩
    ·have b2:(yp==(c:Int))=false:=by simpa using k2
     have HE3:=zA (HFa.out _ HE2.out (tu k2));clear k2 HTr HFa HE2;go_wp2_with fail
     go_roundw
     case rel=>exact⟨i+1,by omega,by go_num,zA (HBa.out _),HE3⟩
     case measure=>simp[intOf];omega
   rw[tj k1]at HE2;have b1:(yk==6)=false:=by simpa using k1
   clear k1;by_cases k3:yk=7
   ·subst k3
    simp only[if_true]at HE2;by_cases k2:yp=(c:Int)
    ·have HE3:=zA (HTr.out _ HE2.out (by rw[ty k2];rfl))
     subst k2;clear HTr HFa HE2;go_wp2_with fail
     go_ret
     exact⟨zF HE3.out.symm,HBa.out _⟩
    ·have b2:(yp==(c:Int))=false:=by simpa using k2
     rw[tu k2,ce]at HE2;clear k2;cases y2
     ·have HE3:=zA (HFa.out _ HE2.out (by rfl))
      clear HTr HFa HE2;go_wp2_with fail
      go_roundw
      case rel=>exact⟨i+1,by omega,by go_num,zA (HBa.out _),HE3⟩
      case measure=>simp[intOf];omega
     ·by_cases k4:yo=(c:Int)
      ·have HE3:=zA (HTr.out _ HE2.out (by rw[ty k4];rfl))
       subst k4;clear HTr HFa HE2;go_wp2_with fail
       go_ret
       exact⟨zF HE3.out.symm,HBa.out _⟩
      ·have b4:(yo==(c:Int))=false:=by simpa using k4
       have HE3:=zA (HFa.out _ HE2.out (by rw[tu k4];rfl));clear k4 HTr HFa HE2;go_wp2_with fail
       go_roundw
       case rel=>exact⟨i+1,by omega,by go_num,zA (HBa.out _),HE3⟩
       case measure=>simp[intOf];omega
   ·have b3:(yk==7)=false:=by simpa using k3
    have HE3:=zA (HFa.out _ HE2.out (by rw[tj k3]));clear k3 HTr HFa HE2;go_wp2_with fail
    go_roundw
    case rel=>exact⟨i+1,by omega,by go_num,zA (HBa.out _),HE3⟩
    case measure=>simp[intOf];omega
  ·have ii:¬(i:Int)<(gd.length:Int):=by omega
   have HE2:Hid (ans=false):=HE0.out _ (by rw[<-HE.out];exact JV _ _ _ zJS);go_wp2_with fail
   go_ret
   exact⟨zF HE2.out.symm,HB.out⟩
def G0(i:Nat)(y:kH):Bool:=decide (y.kind=7)&&(!y.two&&decide (y.place=(i:Int)))
def cI(l:List kH)(i:Nat):List Int:=(l.filter (G0 i)).map kH.num
theorem G1(l:List kH)(c i:Nat)(h:i<l.length):cI (l.take (i+1)) c=cI (l.take i) c++(if G0 c (l.getD i nX)=true then [(l.getD i nX).num] else []):=by
 unfold cI;rw[cy,dy,lj];congr 1
 rw[pw h,show l.getD i nX=l[i] by simp[List.getD,h]];show ([l[i]].filter (G0 c)).map kH.num=_;rw[List.filter_cons,List.filter_nil];split <;> rfl
theorem zAO(l:List kH)(c:Nat):(cI l c).length<=l.length:=by unfold cI;rw[me];exact dw _ _
theorem Uf(w:World)(x:MX)(c:Nat)(hx:qK w x) :
 Calls Tryz.prog 96 #[qB x,.int .i64 (c:Int)] w fun e w'=>∃v,e=.returned v/\w'.ownsRow w.heap.size 3 1 v (xG x.1 c).length (pU (xG x.1 c))/\Below w.heap.size w w':=by
 obtain⟨i0,hi0,hz0,hz1,hz2⟩:=info_parts Q9;obtain⟨pa,pc,e1,hp⟩:=hx.sum;obtain⟨ga,gc,e2,hg⟩:=hx.guard;have HP:=zA hg.cel;have zK8:=hx.few2;obtain⟨⟨lab,cc,ps,gd,root⟩,pv,gv⟩:=x;simp only at e1 e2 HP zK8;subst e1 e2;simp only[qB];have HE0:Hid (xG ⟨lab,cc,ps,gd,root⟩ c=cI gd c):=rfl;rw[HE0.out];clear hx hp hg
 go_enter Tryz.func96,Tryz.ntmps96
 go_wp2_with fail
 generalize hO1:Obj.cells #[.string ⟨lab.toArray⟩,.int .i64 cc,.slice pa ps.length pc,.slice ga gd.length gc,.int .i64 root] 162=O1 at *;clear hO1;have HB0:Hid (Below w.heap.size w (w.alloc O1)):=fe (tg _) _;have hs0:(w.alloc O1).heap.size=w.heap.size+1:=by simp
 have HO0:Hid (((w.alloc O1).alloc (.cells #[] 3)).ownsRow w.heap.size 3 1 (.slice (some ⟨w.heap.size+1,0,none⟩) 0 0) 0 (pU (cI (gd.take 0) c))):=⟨rfl,.inr ⟨w.heap.size+1,0,#[],rfl,mu _,vT _ _ _ hs0,tg _,p7 _,rfl,rfl⟩⟩;have HB1:Hid (Below w.heap.size w ((w.alloc O1).alloc (.cells #[] 3))):=HB0.out.alloc (by omega) _;generalize (w.alloc O1).alloc (.cells #[] 3)=w0 at *
 go_loopw [5,12] (fun ov iv wr=>∃(i:Nat),i<=gd.length/\iv=.int .i64 i/\Hid (Below w.heap.size w wr)/\Hid (wr.ownsRow w.heap.size 3 1 ov (cI (gd.take i) c).length (pU (cI (gd.take i) c)))) (fun _ iv _=>gd.length-(intOf iv).toNat)
 case atStart=>exact⟨0,p7 _,rfl,HB1,HO0⟩
 case round =>
  obtain⟨i,hi,rfl,HB,HO⟩:=hrel;have zK6:=HB.out.size;obtain⟨oa,oc,rfl⟩:=zO HO.out;have hle:(cI (gd.take i) c).length<=i:=p8 (zAO _ _) (by simp;omega);by_cases zJS:i<gd.length
  ·have ii:(i:Int)<(gd.length:Int):=by omega
   have hpr:=HP.out.below HB.out;obtain⟨gp,rfl,q0⟩:=hpr.at ((zR qQ 10 (fun _=>rfl) nX gd i 0 zJS (by decide)).trans rfl);have hq:=fun j hj v hv=>(hpr.at ((zR qQ 10 (fun _=>rfl) nX gd i j zJS hj).trans hv)).elim fun g' h=>(show gp=g' by simpa using h.1) ▸ (show w.heap.size<=wr.heap.size/\wr.cell? ⟨g',i*10+j,none⟩=some v from ⟨zK6,h.2⟩).2;have q1:=hq 1 (by decide) _ rfl;have q2:=hq 2 (by decide) _ rfl;have q3:=hq 3 (by decide) _ rfl;have q4:=hq 4 (by decide) _ rfl;have q5:=hq 5 (by decide) _ rfl;have q6:=hq 6 (by decide) _ rfl;have q7:=hq 7 (by decide) _ rfl;have q8:=hq 8 (by decide) _ rfl;have q9:=hq 9 (by decide) _ rfl;rw[mz]at q0;have lgp:=zY q0;have mgp:wr.heap.size≠gp:=by omega
   have HBa:Hid (∀o,Below w.heap.size w (wr.alloc o)):=fun o=>HB.out.alloc zK6 o;have HOa:Hid (∀o,(wr.alloc o).ownsRow w.heap.size 3 1 (.slice oa (cI (gd.take i) c).length oc) (cI (gd.take i) c).length (pU (cI (gd.take i) c))):=fun o=>HO.out.alloc o;have HTk:=zA (G1 gd c i zJS);have HNo:Hid (G0 c (gd.getD i nX)=false->cI (gd.take (i+1)) c=cI (gd.take i) c):=fun h=>by rw[HTk.out,h];simp
   have HYes:Hid (G0 c (gd.getD i nX)=true->cI (gd.take (i+1)) c=cI (gd.take i) c++[(gd.getD i nX).num]):=fun h=>by rw[HTk.out,tr h]
   clear hpr hq HTk;generalize gd.getD i nX=y at *;obtain⟨yk,yl,yr,yp,y2,yo,yn,yb1,yb2,yb3⟩:=y;unfold G0 at HNo HYes;simp only at q0 q1 q2 q3 q4 q5 q6 q7 q8 q9 HYes HNo;have no:∀(b:Bool),(decide (yk=7)&&(!y2&&decide (yp=(c:Int))))=false->cI (gd.take (i+1)) c=cI (gd.take i) c:=fun _ h=>HNo.out h;have HNO:=zA no;clear no;by_cases k1:yk=7
   ·subst k1
    cases y2
    ·by_cases k2:yp=(c:Int)
     ·have HE3:=zA (HYes.out (by rw[ty k2];rfl))
      subst k2;clear HYes HNo HNO
      go_upto_region 6 with fail
      generalize hOn:Obj.cells #[Value.int .i64 7,.int .i64 yl,.int .i64 yr,.int .i64 (c:Int),.bool false,.int .i64 yo,.int .i64 yn,.bool yb1,.bool yb2,.bool yb3] 263=On at *;have hcn:(wr.alloc On).cell? ⟨wr.heap.size,6,none⟩=some (.int .i64 yn):=by rw[<-hOn];exact(zC (zH _ _) 6).trans rfl
      have HBn:=zA (HBa.out On);have HOn2:=zA (HOa.out On);have hsn:(wr.alloc On).heap.size=wr.heap.size+1:=by simp
      clear hOn;generalize wr.alloc On=wn at *;have hszn:w.heap.size<=wn.heap.size:=by omega
      clear hsn
      go_wp2_with (at_builtin;refine wpList_append_own _ rfl _ _ 22 rfl w.heap.size 3 i0 _ 1 8 Tryz.underlying22 hi0 hz0 hz1 hz2 rfl (by decide) _ _ _ rfl (HOn2.out.alloc _) ⟨wn.heap.size,0,none⟩ 1 1 [.int .i64 yn] rfl rfl ?c1 ?c2 ?c3 ?c4 ?c5 ?_)
      case c1=>exact zM _ _ _ _ rfl
      case c2=>intro u hu;simp at hu;subst hu;rfl
      case c3=>unfold maxLen;omega
      case c4=>omega
      case c5=>simp;omega
      intro v' w5 zK0 zJT _;have HB5:Hid (Below w.heap.size w w5):=(HBn.out.alloc hszn _).grown zJT (by simp;omega) (zV HOn2.out);have HO5:Hid (w5.ownsRow w.heap.size 3 1 v' (cI (gd.take (i+1)) c).length (pU (cI (gd.take (i+1)) c))):=by unfold Hid;rw[HE3.out,FI,tq];exact zK0
      clear zJT zK0;go_wp2_with fail
      go_roundw
      case rel=>exact⟨i+1,by omega,by go_num,HB5,HO5⟩
      case measure=>simp[intOf];omega
     ·have b2:(yp==(c:Int))=false:=by simpa using k2
      have HE3:=zA (HNO.out true (by rw[tu k2];simp));clear HYes HNo HNO k2;go_wp2_with fail
      go_roundw
      case rel=>exact⟨i+1,by omega,by go_num,zA (HBa.out _),by rw[HE3.out];exact zA (HOa.out _)⟩
      case measure=>simp[intOf];omega
    ·have HE3:=zA (HNO.out true (by simp))
     clear HYes HNo HNO;go_wp2_with fail
     go_roundw
     case rel=>exact⟨i+1,by omega,by go_num,zA (HBa.out _),by rw[HE3.out];exact zA (HOa.out _)⟩
     case measure=>simp[intOf];omega
   ·have b1:(yk==7)=false:=by simpa using k1
    have HE3:=zA (HNO.out true (by rw[tu k1];rfl));clear HYes HNo HNO k1;go_wp2_with fail
    go_roundw
    case rel=>exact⟨i+1,by omega,by go_num,zA (HBa.out _),by rw[HE3.out];exact zA (HOa.out _)⟩
    case measure=>simp[intOf];omega
  ·have ii:¬(i:Int)<(gd.length:Int):=by omega
   have HE3:Hid (cI (gd.take i) c=cI gd c):=by unfold Hid;rw[List.take_of_length_le (by omega)]
   go_wp2_with fail
   go_ret
   exact⟨_,rfl,by rw[<-HE3.out];exact HO.out,HB.out⟩
end Go.Proofs.YtnbpdffdnphbeabGreatDoor
