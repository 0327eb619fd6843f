import Derived.Test.YtnbpdffdnphbeabGreatDoorDAbove
import Derived.Maps.AppendAt
import Derived.Test.YtnbpdffdnphbeabGreatDoorMLoad
namespace Go.Proofs.YtnbpdffdnphbeabGreatDoor
open Go.RowKit
variable{cs:Array Value}{xs ys:List Value}{ls:List zE}{x y:MX}{k g j m i n B b gi gh h:Nat}{fz:Nat × Nat}{F:Nat->List (Int × Int)}{TL:Nat->List Int}{f:Nat->Value}{t t':TypeId}{nv v' sv v:Value}{w' wx w wy wr:World}
theorem Dz(h:w.ownsRow B t k v n xs)(hb:Below w.heap.size w w'):w'.ownsRow B t k v n xs:=⟨h.1,by
 rcases h.2 with q|⟨g',cap,yJ,k1,k2,q3,k4⟩
 ·exact .inl q
 ·exact .inr ⟨g',cap,yJ,k1,k2,by rw[hb.block g' (zL q3)];exact q3,k4⟩⟩
structure zCB(w:World)(gt N:Nat)(TL:Nat->List Int):Prop where
 row:∀a,a<N->∃ta tc,w.cell? ⟨gt,a,none⟩=some (.slice ta (TL a).length tc)/\bQ w ta (lX (TL a))
theorem zCB.below{gt N:Nat}(h:zCB w gt N TL)(hb:Below w.heap.size w w'):zCB w' gt N TL:=⟨fun a ha=>by
 obtain⟨ta,tc,h1,h2⟩:=h.row a ha;exact⟨ta,tc,(hb.cell (p:=⟨gt,a,none⟩) (yO h1)).trans h1,h2.below hb⟩⟩
structure zCS(w w0:World)(TL:Nat->List Int)(ov:Value)(i:Nat)(S:List Value):Prop where
 len:S.length=i
 own:w.ownsRow w0.heap.size 22 1 ov i S
 at':∀a,a<i->∃ta tc,S[a]? = some (.slice ta (TL a).length tc)/\xB w 3 ta (lX (TL a))
theorem zCS.below{w0:World}{ov:Value}{S:List Value}(h:zCS w w0 TL ov i S)(hb:Below w.heap.size w w'):zCS w' w0 TL ov i S :=
 ⟨h.len,Dz h.own hb,fun a ha=>by obtain⟨ta,tc,h1,h2⟩:=h.at' a ha;exact⟨ta,tc,h1,h2.below hb⟩⟩
theorem zCS.app{w0:World}{ov:Value}{S:List Value}{ta:Option Addr}{tc:Nat}(h:zCS w w0 TL ov i S)(hc:xB w 3 ta (lX (TL i)))(zEA:w'.ownsRow w0.heap.size 22 1 v' (i+1) (S++[.slice ta (TL i).length tc]))(hg:w.grownBy w' ov.ownBlock):zCS w' w0 TL v' (i+1) (S++[.slice ta (TL i).length tc]):=by
 refine⟨by simp[h.len],zEA,fun a ha=>?_⟩;by_cases hai:a<i
 ·obtain⟨ta',tc',h1,h2⟩:=h.at' a hai
  exact⟨ta',tc',by rw[pm (by rw[h.len];exact hai)];exact h1,h2.grown h.own (by decide) hg⟩
 ·obtain rfl:a=i:=by omega
  exact⟨ta,tc,by rw[ma (by rw[h.len];omega),h.len];simp,hc.grown h.own (by decide) hg⟩
theorem aB(X:List Int)(h:X≠[]):∃m∈X,∀x∈X,x<=m:=by
 induction X with
 | nil=>exact absurd rfl h
 | cons a r ih =>
   by_cases hr:r=[]
   ·subst hr;exact⟨a,by simp,by simp⟩
   ·obtain⟨m,h1,h2⟩:=ih hr
    by_cases hm:a<=m
    ·exact⟨m,by simp[h1],fun x hx=>by rcases l3.1 hx with rfl|hx;exact hm;exact h2 x hx⟩
    ·exact⟨a,by simp,fun x hx=>by rcases l3.1 hx with rfl|hx;exact mp _;have:=h2 x hx;omega⟩
theorem zAM(L:Int->Int):∀(n:Nat) (X:List Int),X.length<=n->(∀x∈X,L x<=x)->∃g:Int->Int,(∀x∈X,L x<=g x/\g x<=x/\∃y∈X,∃j:Nat,j<X.length/\g x=L y+j)/\∀x∈X,∀y∈X,x<y->g x<g y:=by
 intro n
 induction n with
 | zero =>
   intro X h _;obtain rfl:X=[]:=ml (by omega);exact⟨id,by simp,by simp⟩
 | succ n ih =>
   intro X h hL;by_cases h0:X=[]
   ·subst h0;exact⟨id,by simp,by simp⟩
   obtain⟨m,hm,hmax⟩:=aB X h0
   have zEE:(X.filter fun x=>decide (x<m)).length<X.length:=by
    rcases pf (X.filter fun x=>decide (x<m)).length X.length with h1|h1
    ·exact h1
    ·have h2:(X.filter fun x=>decide (x<m)).length=X.length:=Nat.le_antisymm (List.length_filter_le _ _) h1
     have:=List.length_filter_eq_length_iff.1 h2 m hm;simp at this
   obtain⟨g,g1,g2⟩:=ih (X.filter fun x=>decide (x<m)) (by omega) (fun x hx=>hL x (mu.1 hx).1);have zEL:∀x∈X,x<m->x∈X.filter fun x=>decide (x<m):=fun x hx zE9=>mu.2 ⟨hx,by simpa using zE9⟩;generalize hX':(X.filter fun x=>decide (x<m))=X' at *;have hsub:∀x∈X',x∈X/\x<m:=fun x hx=>by rw[<-hX']at hx;have:=mu.1 hx;exact⟨this.1,by simpa using this.2⟩
   have hv:∃v,L m<=v/\v<=m/\(∃y∈X,∃j:Nat,j<X.length/\v=L y+j)/\∀x∈X',g x<v:=by
    by_cases h1:X'=[]
    ·exact⟨L m,mp _,hL m hm,⟨m,hm,0,by omega,by omega⟩,by simp[h1]⟩
    ·obtain⟨M,hM,hM2⟩:=aB (X'.map g) (by simpa using h1)
     obtain⟨z,hz,rfl⟩:=p7.1 hM;obtain⟨z1,z2,y,hy,j,hj,hz3⟩:=g1 z hz;have hz4:=(hsub z hz).2;have hall:∀x∈X',g x<=g z:=fun x hx=>hM2 _ (p7.2 ⟨x,hx,rfl⟩);by_cases h2:g z<L m
     ·exact⟨L m,mp _,hL m hm,⟨m,hm,0,by omega,by omega⟩,fun x hx=>by have:=hall x hx;omega⟩
     ·exact⟨g z+1,by omega,by omega,⟨y,(hsub y hy).1,j+1,by omega,by omega⟩,fun x hx=>by have:=hall x hx;omega⟩
   obtain⟨v,v1,v2,v3,v4⟩:=hv;refine⟨fun x=>if x<m then g x else v,fun x hx=>?_,fun x hx y hy zE9=>?_⟩
   ·by_cases hxm:x<m
    ·simp only[tg hxm]
     obtain⟨a,b,y,hy,j,hj,e⟩:=g1 x (zEL x hx hxm);exact⟨a,b,y,(hsub y hy).1,j,by omega,e⟩
    ·obtain rfl:x=m:=by have:=hmax x hx;omega
     simp only[t7 hxm];exact⟨v1,v2,v3⟩
   ·have h3:=hmax y hy
    by_cases hym:y<m
    ·simp only[tg hym,tg (show x<m by omega)]
     exact g2 x (zEL x hx (by omega)) y (zEL y hy hym) zE9
    ·simp only[t7 hym,tg (show x<m by omega)]
     exact v4 x (zEL x hx (by omega))
theorem QJ(B:List Int)(x lo:Int)(hlo:lo∈B)(hx:lo<=x):∃l,l<=x/\lo<=l/\(∃b∈B,l=b\/l=b+1)/\∀c∈B,(c<=x->c<=l)/\(c<x->c<l):=by
 by_cases hB:x∈B
 ·exact⟨x,mp _,hx,⟨x,hB,.inl rfl⟩,fun c _=>⟨id,id⟩⟩
 ·obtain⟨m,hm,hmax⟩:=aB (B.filter fun b=>decide (b<=x)) (fun h=>by have:lo∈B.filter fun b=>decide (b<=x):=mu.2 ⟨hlo,by simpa using hx⟩;rw[h]at this;simp at this)
  have h1:=mu.1 hm;have h2:m<=x:=by simpa using h1.2
  have h3:m≠x:=fun e=>hB (e ▸ h1.1);have h4:∀c∈B,c<=x->c<=m:=fun c hc hcx=>hmax c (mu.2 ⟨hc,by simpa using hcx⟩);exact⟨m+1,by omega,by have:=h4 lo hlo hx;omega,⟨m,h1.1,.inr rfl⟩,fun c hc=>⟨fun h=>by have:=h4 c hc h;omega,fun h=>by have:=h4 c hc (by omega);omega⟩⟩
theorem moved(B X:List Int)(hlo:∀x∈X,∃lo∈B,lo<=x):∃g:Int->Int,(∀x∈X,g x<=x/\(∃b∈B,∃j:Nat,j<=X.length/\g x=b+j)/\(∀c∈B,(c<=x->c<=g x)/\(x<c ↔ g x<c)/\(x=c ↔ g x=c)))/\∀x∈X,∀y∈X,(x<y ↔ g x<g y)/\(x=y ↔ g x=g y):=by
 have hL:∀x,∃l,x∈X->l<=x/\(∃b∈B,l=b\/l=b+1)/\∀c∈B,(c<=x->c<=l)/\(c<x->c<l):=fun x=>by
  rcases Classical.em (x∈X) with hx|hx
  ·obtain⟨lo,h1,h2⟩:=hlo x hx
   obtain⟨l,a1,_,a3,a4⟩:=QJ B x lo h1 h2;exact⟨l,fun _=>⟨a1,a3,a4⟩⟩
  ·exact⟨0,fun h=>absurd h hx⟩
 have hf:∃L:Int->Int,∀x,x∈X->L x<=x/\(∃b∈B,L x=b\/L x=b+1)/\∀c∈B,(c<=x->c<=L x)/\(c<x->c<L x):=⟨fun x=>Classical.choose (hL x),fun x=>Classical.choose_spec (hL x)⟩;obtain⟨L,hLs⟩:=hf;obtain⟨g,g1,g2⟩:=zAM L X.length X (j1 _) (fun x hx=>(hLs x hx).1);refine⟨g,fun x hx=>?_,fun x hx y hy=>?_⟩
 ·obtain⟨a1,a2,y,hy,j,hj,a3⟩:=g1 x hx
  refine⟨a2,?_,fun c hc=>?_⟩
  ·obtain⟨b,hb,hb2⟩:=(hLs y hy).2.1
   rcases hb2 with e|e
   ·exact⟨b,hb,j,by omega,by omega⟩
   ·exact⟨b,hb,j+1,by omega,by omega⟩
  ·obtain⟨c1,c2⟩:=(hLs x hx).2.2 c hc
   refine⟨fun h=>by have:=c1 h;omega,⟨fun h=>by omega,fun h=>?_⟩,⟨fun h=>?_,fun h=>?_⟩⟩
   ·rcases cb x c with h1|h1
    ·exact h1
    ·have:=c1 h1;omega
   ·have:=c1 (by omega);omega
   ·rcases cb c x with h1|h1
    ·have:=c2 h1;omega
    ·omega
 ·have p1:=g2 x hx y hy
  have p2:=g2 y hy x hx;constructor
  ·constructor
   ·exact p1
   ·intro h
    rcases cb x y with h1|h1
    ·exact h1
    ·rcases cb y x with h2|h2
     ·have:=p2 h2;omega
     ·have:x=y:=by omega
      subst this;omega
  ·constructor
   ·intro h;rw[h]
   ·intro h
    rcases cb x y with h1|h1
    ·have:=p1 h1;omega
    ·rcases cb y x with h2|h2
     ·have:=p2 h2;omega
     ·omega
structure Cr where
 lo:Int
 hi:Int
 rank:Nat
def VQ(r:Nat):List Cr->Int × Int->Int × Int
 | [],s=>s
 | n::L,s=>VQ r L (if n.rank=r then (if s.1<n.lo then n.lo else s.1,if n.hi<s.2 then n.hi else s.2) else s)
def dF(L:List Cr)(r:Nat):Int × Int:=VQ r L (0,9999)
def zC6(r:Nat):List Cr->Nat
 | []=>0
 | n::L=>(if n.rank=r then 1 else 0)+zC6 r L
def setG(L:List Cr):Nat->Nat->Int->Nat->List Int->Option (List Int)
 | 0,_,_,_,out=>some out
 | f+1,r,dX,placed,out =>
   if placed=L.length then some out
   else if (dF L r).2<(if (dF L r).1<dX then dX else (dF L r).1) then none
   else if zC6 r L=0 then none
   else setG L f (r+1) ((if (dF L r).1<dX then dX else (dF L r).1)+1) (placed+zC6 r L) (out++[if (dF L r).1<dX then dX else (dF L r).1])
structure GF(L:List Cr)(r:Nat)(dX:Int)(out:List Int):Prop where
 len:out.length=r
 zone:∀n∈L,n.rank<r->n.lo<=out.getD n.rank 0/\out.getD n.rank 0<=n.hi
 up:∀a b,a<b->b<r->out.getD a 0<out.getD b 0
 last:∀a,a<r->out.getD a 0<dX
theorem GF.snoc{L:List Cr}{r:Nat}{dX v:Int}{out:List Int}(h:GF L r dX out)(hv:dX<=v)(hz:∀n∈L,n.rank=r->n.lo<=v/\v<=n.hi):GF L (r+1) (v+1) (out++[v]):=by
 have hl:=h.len;have e1:∀a,a<r->(out++[v]).getD a 0=out.getD a 0:=fun a ha=>by simp[List.getD,pm (show a<out.length by omega)]
 have e2:(out++[v]).getD r 0=v:=by simp[List.getD,<-hl]
 refine⟨by simp[hl],fun n hn hr=>?_,fun a b hab hb=>?_,fun a ha=>?_⟩
 ·by_cases hr2:n.rank<r
  ·rw[e1 _ hr2];exact h.zone n hn hr2
  ·have hr3:n.rank=r:=by omega
   rw[hr3,e2];exact hz n hn hr3
 ·by_cases hb2:b<r
  ·rw[e1 _ hb2,e1 _ (by omega)];exact h.up a b hab hb2
  ·have hb3:b=r:=by omega
   rw[hb3,e2,e1 _ (by omega)];have:=h.last a (by omega);omega
 ·by_cases ha2:a<r
  ·rw[e1 _ ha2];have:=h.last a ha2;omega
  ·have ha3:a=r:=by omega
   rw[ha3,e2];omega
def D6(r:tX)(c:Nat):Bool:=r.sum.any fun p=>decide (p.kind=3)&&decide (p.place=(c:Int))
def Gx(r:tX)(c:Nat):Bool:=r.guard.any fun y=>decide (y.kind=5)&&decide (y.place=(c:Int))
def V1(r:tX)(i:Nat):Bool:=r.guard.any fun y=>if y.kind=6 then decide (y.place=(i:Int)) else if y.kind=7 then decide (y.place=(i:Int)) || (y.two&&decide (y.other=(i:Int))) else false
def U8(r:tX)(i:Nat):List Int:=(r.guard.filter fun y=>decide (y.kind=7)&&(!y.two&&decide (y.place=(i:Int)))).map jQ.num
structure Alike(r:tX)(isNum:Nat->Bool)(s s':xZ):Prop where
 len:s.inputs.length=s'.inputs.length
 has:∀c:Nat,(D6 r c || Gx r c)=true->tH s.has (c:Int)=tH s'.has (c:Int)
 flag:∀i:Nat,i<s.inputs.length->V1 r i=true->isNum i=false->s.inputs.getD i 0=s'.inputs.getD i 0
 side:∀i:Nat,i<s.inputs.length->isNum i=true->∀b∈U8 r i,(s.inputs.getD i 0<b ↔ s'.inputs.getD i 0<b)/\(s.inputs.getD i 0=b ↔ s'.inputs.getD i 0=b)
 order:∀i j:Nat,i<s.inputs.length->j<s.inputs.length->V1 r i=true->V1 r j=true->isNum i=true->isNum j=true->(s.inputs.getD i 0<s.inputs.getD j 0 ↔ s'.inputs.getD i 0<s'.inputs.getD j 0)
structure zCF(r:tX)(n:Nat)(isNum:Nat->Bool):Prop where
 flag:∀y∈r.guard,y.kind=6->∃i,i<n/\y.place=(i:Nat)/\isNum i=false
 cmp:∀y∈r.guard,y.kind=7->∃i,i<n/\y.place=(i:Nat)/\isNum i=true
 two:∀y∈r.guard,y.kind=7->y.two=true->∃i,i<n/\y.other=(i:Nat)/\isNum i=true
def Z6(I:List zV)(i:Nat):zV:=I.getD i eX
def oO(I:List zV)(i:Nat):Bool := !(Z6 I i).isFlag
theorem uh{l:List zE}(h:(l.map zE.name).Nodup):∀x∈l,∀z∈l,x.name=z.name->x=z:=by
 induction l with
 | nil=>intro x hx;cases hx
 | cons a r ih =>
   rw[bw,List.nodup_cons]at h;intro x hx z hz e;rcases l3.1 hx with h1|h1
   ·rcases l3.1 hz with h2|h2
    ·rw[h1,h2]
    ·rw[h1]at e;exact absurd (p7.2 ⟨z,h2,e.symm⟩) h.1
   ·rcases l3.1 hz with h2|h2
    ·rw[h2]at e;exact absurd (p7.2 ⟨x,h1,e⟩) h.1
    ·exact ih h.2 x h1 z h2 e
theorem zBI(h:vJ ls){x z:zE}(hx:x∈C3 ls)(hz:z∈C3 ls)(e:x.name=z.name):x=z:=uh (by rw[<-Z5];exact Zw h) x hx z hz e
theorem Zz(hi:i<(yE ls).length):∃x,x∈C3 ls/\x∈ls/\Z6 (yE ls) i=tQ x/\(uF ls).getD i []=x.name:=by
 rw[Zy,pi]at hi;have hm:(C3 ls).getD i wX∈C3 ls:=Ja _ hi;refine⟨(C3 ls).getD i wX,hm,(mu.1 hm).1,?_,?_⟩
 ·unfold Z6;rw[Zy];exact Jb _ _ _ _ _ hi
 ·rw[Z5];exact Jb _ _ _ _ _ hi
theorem zDJ{x:zE}(h:x∈ls)(hk:x.kind=1\/x.kind=2):x∈C3 ls:=mu.2 ⟨h,tl hk⟩
theorem zDG{nm:Bs}{k:Int}(h:vP ls k nm=true):∃x∈ls,x.kind=k/\x.name=nm:=by
 obtain⟨x,h1,h2⟩:=me.1 h;unfold rX at h2;rw[pr,pu,pu]at h2;exact⟨x,h1,h2.1,h2.2⟩
theorem oN{x:zE}(hk:x.kind=1\/x.kind=2):(!(tQ x).isFlag)=decide (x.kind=1):=by
 unfold tQ;rcases hk with h|h
 ·rw[tg h,tl h];rfl
 ·rw[t7 (by omega),tm (by omega)];rfl
theorem Jn{k:Int}(hl:eY k=m)(h:∀i,i<ls.length->qW ls i=false):xI k ls<=m:=by
 have key:∀n,n<=ls.length->xI k (ls.take n)<=m:=by
  intro n
  induction n with
  | zero=>intro _;simp[xI]
  | succ n ih =>
    intro hn;rw[mY ls n (by omega),Jt];have ih:=ih (by omega);by_cases hk:(lA ls n).kind=k
    ·have hm:=h n (by omega)
     unfold qW at hm;rw[ll,cd,hk,hl]at hm;simp only[xI,hk,if_true];omega
    ·simp only[xI,t7 hk];omega
 have:=key ls.length (j1 _)
 rwa [bm]at this
theorem Fj(ls:List zE):(yE ls).length=xI 1 ls+xI 2 ls:=by
 rw[Zy,pi];unfold C3
 induction ls with
 | nil=>simp[xI]
 | cons x r ih =>
   rw[List.filter_cons,xI,xI];by_cases h1:x.kind=1
   ·rw[tl (.inl h1),tg rfl,tg h1,t7 (by omega),ty,ih];omega
   ·by_cases h2:x.kind=2
    ·rw[tl (.inr h2),tg rfl,t7 h1,tg h2,ty,ih];omega
    ·rw[tm (by omega),t7 (by simp),t7 h1,t7 h2,ih];omega
theorem QT(h:vJ ls):(yE ls).length<=6:=by
 have h1:=Jn (k:=1) (m:=3) (by decide) h.many;have h2:=Jn (k:=2) (m:=3) (by decide) h.many;rw[Fj];omega
theorem zAY(ls:List zE):(uF ls).length=(yE ls).length:=by unfold uF;rw[pi]
theorem DT(h:vJ ls){x:zE}(hx:x∈ls)(hk:x.kind=1):x.low<=x.high:=by
 obtain⟨i,hi,rfl⟩:=Xu hx;have he:=h.err i hi;unfold tT at he;rw[tg hk]at he;unfold aA at he;by_cases h0:fY ls i=0
 ·rw[tg h0]at he
  rcases cb (lA ls i).high (lA ls i).low with h1|h1
  ·rw[tg h1]at he;exact absurd he (by decide)
  ·exact h1
 ·rw[t7 h0]at he;exact absurd he h0
def vX(w:World)(g:Nat)(t:TypeId)(n:Nat)(f:Nat->Value):Prop:=∃cs,w.heap[g]? = some (.cells cs t (0,0))/\∀j,j<n->cs[j]? = some (f j)
theorem vX.cell(h:vX w g t n f)(hj:j<n):w.cell? ⟨g,j,none⟩=some (f j):=by
 obtain⟨cs,h1,h2⟩:=h;exact(zC h1 j).trans (h2 j hj)
theorem vX.free(h:vX w g t n f)(j:Nat):w.frozen? ⟨g,j,none⟩=false:=by
 obtain⟨cs,h1,_⟩:=h;simp[World.frozen?,h1]
theorem vX.lt(h:vX w g t n f):g<w.heap.size:=by
 obtain⟨cs,h1,_⟩:=h;exact zL h1
theorem vX.below(h:vX w g t n f)(hb:Below w.heap.size w w'):vX w' g t n f:=by
 obtain⟨cs,h1,h2⟩:=h;exact⟨cs,by rw[hb.block g (zL h1)];exact h1,h2⟩
theorem vX.other(h:vX w g t n f){g':Nat}(v:Value)(zEB:g≠g'):vX (w.setCell ⟨g',j,none⟩ v) g t n f:=by
 obtain⟨cs,h1,h2⟩:=h;exact⟨cs,by rw[pg w ⟨g',j,none⟩ g v zEB];exact h1,h2⟩
theorem vX.set{f':Nat->Value}(h:vX w g t n f)(v:Value)(hj:j<n)(e1:f' j=v)(e2:∀x,x<n->x≠j->f' x=f x):vX (w.setCell ⟨g,j,none⟩ v) g t n f':=by
 obtain⟨cs,h1,h2⟩:=h
 have zEF:j<cs.size:=by
  rcases pf j cs.size with h3|h3
  ·exact h3
  ·have:=h2 j hj;rw[pb h3]at this;cases this
 refine⟨_,tj w g j cs t v h1,fun x hx=>?_⟩;by_cases hxj:x=j
 ·subst hxj;rw[e1];simp[zEF]
 ·rw[e2 x hx hxj,Array.getElem?_setIfInBounds,t7 (fun e=>hxj e.symm)];exact h2 x hx
theorem vX.cel(h:vX w g t n f):bQ w (some ⟨g,0,none⟩) ((List.range n).map f):=by
 right
 refine⟨g,rfl,fun j hj=>?_⟩;have hj':j<n:=by simpa using hj
 rw[h.cell hj'];simp[hj']
def znC1(z:Int × Int):List Value:=[.int .i64 z.1,.int .i64 z.2]
def znC(l:List (Int × Int)):List Value:=l.flatMap znC1
structure Xa where
 flag:Bool
 place:Nat
variable{T S:List Xa}
structure XL where
 Z:Nat->Int × Int
 rk:Nat->Nat
 inp:Nat->Int
 has:Nat->Bool
variable{s a:XL}
def zAX(S:List Xa)(i:Nat):Prop:=∀t∈S,¬(t.flag=true/\t.place=i)
def zD8(S:List Xa)(c:Nat):Prop:=∀t∈S,¬(t.flag=false/\t.place=c)
structure XI(S:List Xa)(s t:XL):Prop where
 inp:∀i,zAX S i->t.inp i=s.inp i
 has:∀c,zD8 S c->t.has c=s.has c
theorem XI.refl(S:List Xa)(s:XL):XI S s s:=⟨fun _ _=>rfl,fun _ _=>rfl⟩
theorem XI.trans{b c:XL}(h:XI S a b)(k:XI S b c):XI S a c:=⟨fun i hi=>(k.inp i hi).trans (h.inp i hi),fun i hi=>(k.has i hi).trans (h.has i hi)⟩
theorem XI.more{b:XL}(h:XI S a b)(hs:∀t∈S,t∈T):XI T a b:=⟨fun i hi=>h.inp i fun t ht=>hi t (hs t ht),fun i hi=>h.has i fun t ht=>hi t (hs t ht)⟩
structure XM(np:Nat)(P:Nat->Nat)(S:List Xa)(s t:XL):Prop where
 inp:∀i,(∀p,p<np->P p≠i)->zAX S i->t.inp i=s.inp i
 has:∀c,zD8 S c->t.has c=s.has c
theorem XM.refl(np:Nat)(P:Nat->Nat)(S:List Xa)(s:XL):XM np P S s s:=⟨fun _ _ _=>rfl,fun _ _=>rfl⟩
theorem XM.trans{np:Nat}{P:Nat->Nat}{b c:XL}(h:XM np P S a b)(k:XM np P S b c):XM np P S a c:=⟨fun i h1 h2=>(k.inp i h1 h2).trans (h.inp i h1 h2),fun i h1=>(k.has i h1).trans (h.has i h1)⟩
theorem XM.symm{np:Nat}{P:Nat->Nat}{b:XL}(h:XM np P S a b):XM np P S b a:=⟨fun i h1 h2=>(h.inp i h1 h2).symm,fun i h1=>(h.has i h1).symm⟩
def tgC(t:Xa):List Value:=[.bool t.flag,.int .i64 (t.place:Nat)]
structure SK where
 B:Nat
 b:Nat
 e:MX
 l:MX
 np:Nat
 P:Nat->Nat
 zs:Nat->List (Int × Int)
 za:Nat->Option Addr
 zc:Nat->Nat
 na:Option Addr
 gn:Nat
 nc:Nat
 sw:List Xa
 sa:Option Addr
 sc:Nat
 gi:Nat
 gh:Nat
 n:Nat
 h:Nat
variable{K:SK}
def Yj(K:SK)(s:XL)(j:Nat):Value :=
 if j%5=0 then .int .i64 (K.P (j/5):Nat) else if j%5=1 then .slice (K.za (j/5)) (K.zs (j/5)).length (K.zc (j/5)) else if j%5=2 then .int .i64 (s.Z (j/5)).1 else if j%5=3 then .int .i64 (s.Z (j/5)).2 else .int .i64 (s.rk (j/5):Nat)
def srA(K:SK):Array Value := #[.string ⟨K.e.1.label.toArray⟩,.int .i64 K.e.1.conc,K.e.2.1,K.e.2.2,.int .i64 K.e.1.root,.string ⟨K.l.1.label.toArray⟩,.int .i64 K.l.1.conc,K.l.2.1,K.l.2.2,.int .i64 K.l.1.root,.slice K.na K.np K.nc,.slice K.sa K.sw.length K.sc,.slice (some ⟨K.gi,0,none⟩) K.n K.n,.slice (some ⟨K.gh,0,none⟩) K.h K.h,.slice none 0 0]
structure Yr(w:World)(K:SK)(s:XL):Prop where
 hd:w.heap[K.b]? = some (.cells (srA K) 170 (0,0))
 rN:0<K.np->K.na=some ⟨K.gn,0,none⟩/\vX w K.gn 223 (5*K.np) (Yj K s)
 rI:vX w K.gi 3 K.n (fun i=>.int .i64 (s.inp i))
 rH:vX w K.gh 4 K.h (fun c=>.bool (s.has c))
 sw:xB w 216 K.sa (K.sw.flatMap tgC)
 zn:∀p,p<K.np->xB w 221 (K.za p) (znC (K.zs p))
 eM:qQ w K.e
 lM:qQ w K.l
structure SKok(K:SK):Prop where
 lob:K.B<=K.b
 loi:K.B<=K.gi
 loh:K.B<=K.gh
 lon:0<K.np->K.B<=K.gn
 np:K.np<=100
 n:K.n<=10000
 h:K.h<=10000
 sw:K.sw.length<=20000
 zs:∀p,p<K.np->(K.zs p).length<=100000
 P:∀p,p<K.np->K.P p<K.n
 inj:∀p q,p<K.np->q<K.np->K.P p=K.P q->p=q
 off:∀p,p<K.np->zAX K.sw (K.P p)
 tgI:∀t∈K.sw,t.flag=true->t.place<K.n
 tgH:∀t∈K.sw,t.flag=false->t.place<K.h
theorem D8{a:Nat}{cs':Array Value}{fz':Nat × Nat}(h1:w.heap[a]? = some (.cells cs t fz))(h2:w.heap[b]? = some (.cells cs' t' fz'))(zEB:t≠t'):a≠b:=fun e=>by
 subst e;rw[h1]at h2;simp only[mw,Obj.cells.injEq]at h2;exact zEB h2.2.1
theorem vX.ne{a:Nat}{n':Nat}{f':Nat->Value}(h1:vX w a t n f)(h2:vX w b t' n' f')(zEB:t≠t'):a≠b:=by
 obtain⟨cs,q1,_⟩:=h1;obtain⟨cs',q2,_⟩:=h2;exact D8 q1 q2 zEB
theorem xB.row{a:Option Addr}(h:xB w t a xs)(u:Value)(hr:vX w g t' n f)(zEB:t≠t'):xB (w.setCell ⟨g,j,none⟩ u) t a xs:=by
 obtain⟨cs,q,_⟩:=hr;exact h.set q zEB
theorem qQ.row(h:qQ w x)(u:Value)(hr:vX w g t' n f)(h1:260≠t')(h2:263≠t'):qQ (w.setCell ⟨g,j,none⟩ u) x:=by
 obtain⟨a,c,e1,q1⟩:=h.sum;obtain⟨a',c',e2,q2⟩:=h.guard;exact⟨⟨a,c,e1,q1.row u hr h1⟩,⟨a',c',e2,q2.row u hr h2⟩,h.few1,h.few2⟩
theorem Yr.below(h:Yr w K s)(hb:Below w.heap.size w w'):Yr w' K s :=
 ⟨by rw[hb.block _ (zL h.hd)];exact h.hd,fun h0=>⟨(h.rN h0).1,(h.rN h0).2.below hb⟩,h.rI.below hb,h.rH.below hb,h.sw.below hb,fun p hp=>(h.zn p hp).below hb,h.eM.below hb,h.lM.below hb⟩
theorem Yr.congr{s':XL}(h:Yr w K s)(h1:∀i,i<K.n->s.inp i=s'.inp i)(h2:∀c,c<K.h->s.has c=s'.has c)(h3:∀p,p<K.np->s.Z p=s'.Z p/\s.rk p=s'.rk p):Yr w K s':=by
 have key:∀ {g:Nat} {t:TypeId} {n:Nat} {f f':Nat->Value},vX w g t n f->(∀j,j<n->f j=f' j)->vX w g t n f':=fun h he=>by
  obtain⟨cs,h1,h2⟩:=h;exact⟨cs,h1,fun j hj=>by rw[<-he j hj];exact h2 j hj⟩
 refine⟨h.hd,fun h0=>⟨(h.rN h0).1,key (h.rN h0).2 fun j hj=>?_⟩,key h.rI fun i hi=>by rw[h1 i hi],key h.rH fun i hi=>by rw[h2 i hi],h.sw,h.zn,h.eM,h.lM⟩;unfold Yj;rw[(h3 (j/5) (by omega)).1,(h3 (j/5) (by omega)).2]
theorem KV(h:w.heap[b]? = some (.cells cs t fz))(u:Value)(hr:vX w g t' n f)(zEB:t≠t'):(w.setCell ⟨g,j,none⟩ u).heap[b]? = some (.cells cs t fz):=by
 obtain⟨cs',q,_⟩:=hr;rw[pg w ⟨g,j,none⟩ b u (D8 h q zEB)];exact h
theorem Yr.setI(h:Yr w K s)(hi:i<K.n)(v:Int){f:Nat->Int}(e1:f i=v)(e2:∀r,r<K.n->r≠i->f r=s.inp r):Yr (w.setCell ⟨K.gi,i,none⟩ (.int .i64 v)) K { s with inp:=f } :=
 ⟨KV h.hd _ h.rI (by decide),fun h0=>⟨(h.rN h0).1,(h.rN h0).2.other _ ((h.rN h0).2.ne h.rI (by decide))⟩,h.rI.set _ hi (congrArg (Value.int .i64) e1) (fun x hx zEB=>congrArg (Value.int .i64) (e2 x hx zEB)),h.rH.other _ (h.rH.ne h.rI (by decide)),h.sw.row _ h.rI (by decide),fun p hp=>(h.zn p hp).row _ h.rI (by decide),h.eM.row _ h.rI (by decide) (by decide),h.lM.row _ h.rI (by decide) (by decide)⟩
theorem Yr.setH(h:Yr w K s)(hi:i<K.h)(v:Bool){f:Nat->Bool}(e1:f i=v)(e2:∀r,r<K.h->r≠i->f r=s.has r):Yr (w.setCell ⟨K.gh,i,none⟩ (.bool v)) K { s with has:=f } :=
 ⟨KV h.hd _ h.rH (by decide),fun h0=>⟨(h.rN h0).1,(h.rN h0).2.other _ ((h.rN h0).2.ne h.rH (by decide))⟩,h.rI.other _ (h.rI.ne h.rH (by decide)),h.rH.set _ hi (congrArg Value.bool e1) (fun x hx zEB=>congrArg Value.bool (e2 x hx zEB)),h.sw.row _ h.rH (by decide),fun p hp=>(h.zn p hp).row _ h.rH (by decide),h.eM.row _ h.rH (by decide) (by decide),h.lM.row _ h.rH (by decide) (by decide)⟩
theorem Yr.setN{s':XL}(h:Yr w K s)(hj:j<5*K.np)(v:Value)(e0:s'.inp=s.inp/\s'.has=s.has)(e1:Yj K s' j=v)(e2:∀x,x<5*K.np->x≠j->Yj K s' x=Yj K s x):Yr (w.setCell ⟨K.gn,j,none⟩ v) K s':=by
 have hN:=h.rN (by omega);exact⟨KV h.hd _ hN.2 (by decide),fun _=>⟨hN.1,hN.2.set _ hj e1 e2⟩,by rw[e0.1];exact h.rI.other _ (h.rI.ne hN.2 (by decide)),by rw[e0.2];exact h.rH.other _ (h.rH.ne hN.2 (by decide)),h.sw.row _ hN.2 (by decide),fun p hp=>(h.zn p hp).row _ hN.2 (by decide),h.eM.row _ hN.2 (by decide) (by decide),h.lM.row _ hN.2 (by decide) (by decide)⟩
def zCN(K:SK)(s:XL):xZ:=⟨(List.range K.n).map s.inp,(List.range K.h).map s.has,[]⟩
theorem Yr.state(ok:SKok K)(h:Yr w K s):dV w (some ⟨K.gi,0,none⟩) (some ⟨K.gh,0,none⟩) none (zCN K s):=by
 have:=ok.n;have:=ok.h;refine⟨⟨?_,by simp[zCN];omega⟩,⟨?_,by simp[zCN];omega⟩,⟨.inl rfl,by simp[zCN]⟩⟩
 ·have:=h.rI.cel
  simp only[zCN,lX,List.map_map];exact this
 ·have:=h.rH.cel
  simp only[zCN,sK,List.map_map];exact this
theorem Yr.cells(h:Yr w K s)(j:Nat):w.cell? ⟨K.b,j,none⟩=(srA K)[j]? := zC h.hd j
theorem Yr.num(h:Yr w K s){p:Nat}(hp:p<K.np):K.na=some ⟨K.gn,0,none⟩/\w.cell? ⟨K.gn,p*5,none⟩=some (.int .i64 (K.P p:Nat))/\w.cell? ⟨K.gn,p*5+1,none⟩=some (.slice (K.za p) (K.zs p).length (K.zc p))/\w.cell? ⟨K.gn,p*5+2,none⟩=some (.int .i64 (s.Z p).1)/\w.cell? ⟨K.gn,p*5+3,none⟩=some (.int .i64 (s.Z p).2)/\w.cell? ⟨K.gn,p*5+4,none⟩=some (.int .i64 (s.rk p:Nat))/\∀j,w.frozen? ⟨K.gn,j,none⟩=false:=by
 obtain⟨h0,h1⟩:=h.rN (by omega);refine⟨h0,(h1.cell (by omega)).trans ?_,(h1.cell (by omega)).trans ?_,(h1.cell (by omega)).trans ?_,(h1.cell (by omega)).trans ?_,(h1.cell (by omega)).trans ?_,h1.free⟩
 ·unfold Yj;rw[tg (by omega),show (p*5)/5=p by omega]
 ·unfold Yj;rw[t7 (by omega),tg (by omega),show (p*5+1)/5=p by omega]
 ·unfold Yj;rw[t7 (by omega),t7 (by omega),tg (by omega),show (p*5+2)/5=p by omega]
 ·unfold Yj;rw[t7 (by omega),t7 (by omega),t7 (by omega),tg (by omega),show (p*5+3)/5=p by omega]
 ·unfold Yj;rw[t7 (by omega),t7 (by omega),t7 (by omega),t7 (by omega),show (p*5+4)/5=p by omega]
structure kq(w wr:World)(x y:Int):Prop where
 bel:Below w.heap.size w wr
 sz:w.heap.size+2<=wr.heap.size
 res:wr.heap[w.heap.size]? = some (.cells #[.int .i64 0,.int .i64 0] 221 (0,0))
 zn:wr.heap[w.heap.size+1]? = some (.cells #[.int .i64 x,.int .i64 y] 221 (0,0))
theorem kq.alloc{x y:Int}(h:kq w wr x y)(o:Obj):kq w (wr.alloc o) x y:=⟨h.bel.alloc (by have:=h.sz;omega) o,by have:=h.sz;simp;omega,zZ h.res,zZ h.zn⟩
theorem kq.set0{x y:Int}(h:kq w wr x y)(v:Int):kq w (wr.setCell ⟨w.heap.size+1,0,none⟩ (.int .i64 v)) v y :=
 ⟨h.bel.setCell (p:=⟨w.heap.size+1,0,none⟩) (my _) _,by have:=h.sz;simp[World.setCell];exact this,by rw[pg wr ⟨w.heap.size+1,0,none⟩ w.heap.size _ (by simp)];exact h.res,by rw[tj wr _ 0 _ _ _ h.zn];simp⟩
theorem kq.set1{x y:Int}(h:kq w wr x y)(v:Int):kq w (wr.setCell ⟨w.heap.size+1,1,none⟩ (.int .i64 v)) x v :=
 ⟨h.bel.setCell (p:=⟨w.heap.size+1,1,none⟩) (my _) _,by have:=h.sz;simp[World.setCell];exact this,by rw[pg wr ⟨w.heap.size+1,1,none⟩ w.heap.size _ (by simp)];exact h.res,by rw[tj wr _ 1 _ _ _ h.zn];simp⟩
structure NE where
 place:Nat
 za:Option Addr
 zc:Nat
variable{L:List NE}
def neC(F:Nat->List (Int × Int))(x:NE):List Value:=[.int .i64 (x.place:Nat),.slice x.za (F x.place).length x.zc,.int .i64 0,.int .i64 0,.int .i64 0]
def Xo(F:Nat->List (Int × Int))(l:List NE):List Value:=l.flatMap (neC F)
theorem D5(F:Nat->List (Int × Int))(a b:List NE):Xo F (a++b)=Xo F a++Xo F b:=by unfold Xo;rw[bh]
def zCY(l:List Xa):List Value:=l.flatMap tgC
def srB(x y:MX)(nv sv iv hv:Value):Array Value := #[.string ⟨x.1.label.toArray⟩,.int .i64 x.1.conc,x.2.1,x.2.2,.int .i64 x.1.root,.string ⟨y.1.label.toArray⟩,.int .i64 y.1.conc,y.2.1,y.2.2,.int .i64 y.1.root,nv,sv,iv,hv,.slice none 0 0]
def zSr:Array Value := #[.string ⟨#[]⟩,.int .i64 0,.slice none 0 0,.slice none 0 0,.int .i64 0,.string ⟨#[]⟩,.int .i64 0,.slice none 0 0,.slice none 0 0,.int .i64 0,.slice none 0 0,.slice none 0 0,.slice none 0 0,.slice none 0 0,.slice none 0 0]
theorem vX.grown{e:TypeId}(h:vX w g t n f)(zEA:w.ownsRow B e k v m ys)(zEB:t≠e)(hg:w.grownBy w' v.ownBlock):vX w' g t n f:=by
 obtain⟨cs,h1,h2⟩:=h;refine⟨cs,?_,h2⟩;rw[hg.block g (zL h1) (fun e1=>?_)]
 ·exact h1
 ·rcases zEA.2 with ⟨k1,_⟩|⟨g',cap,yJ,k1,_,k3,_⟩
  ·rw[k1]at e1;simp[Value.ownBlock]at e1
  ·rw[k1]at e1;simp[Value.ownBlock]at e1
   subst e1;rw[h1]at k3;simp only[mw,Obj.cells.injEq]at k3;exact zEB k3.2.1
structure iX(w wx:World)(x y:MX)(n h gi gh:Nat)(nv sv:Value)(inp:Nat->Int)(has:Nat->Bool):Prop where
 bel:Below w.heap.size w wx
 sz:w.heap.size+4<=wx.heap.size
 bx:wx.heap[w.heap.size]? = some (.cells #[.string ⟨x.1.label.toArray⟩,.int .i64 x.1.conc,x.2.1,x.2.2,.int .i64 x.1.root] 162 (0,0))
 by':wx.heap[w.heap.size+1]? = some (.cells #[.string ⟨y.1.label.toArray⟩,.int .i64 y.1.conc,y.2.1,y.2.2,.int .i64 y.1.root] 162 (0,0))
 res:wx.heap[w.heap.size+1+1]? = some (.cells zSr 170 (0,0))
 hd:wx.heap[w.heap.size+1+1+1]? = some (.cells (srB x y nv sv (.slice (some ⟨gi,0,none⟩) n n) (.slice (some ⟨gh,0,none⟩) h h)) 170 (0,0))
 rI:vX wx gi 3 n (fun i=>.int .i64 (inp i))
 rH:vX wx gh 4 h (fun c=>.bool (has c))
 loi:w.heap.size+4<=gi
 loh:w.heap.size+4<=gh
theorem iX.below{inp:Nat->Int}{has:Nat->Bool}(k:iX w wx x y n h gi gh nv sv inp has)(hb:Below wx.heap.size wx wy):iX w wy x y n h gi gh nv sv inp has:=by
 have hs:=k.sz;have hz:=hb.size;exact⟨k.bel.trans (hb.mono (by omega)),by omega,by rw[hb.block _ (by omega)];exact k.bx,by rw[hb.block _ (by omega)];exact k.by',by rw[hb.block _ (by omega)];exact k.res,by rw[hb.block _ (by omega)];exact k.hd,k.rI.below hb,k.rH.below hb,k.loi,k.loh⟩
theorem iX.setI{inp f:Nat->Int}{has:Nat->Bool}(k:iX w wx x y n h gi gh nv sv inp has)(hi:i<n)(v:Int)(e1:f i=v)(e2:∀r,r<n->r≠i->f r=inp r):iX w (wx.setCell ⟨gi,i,none⟩ (.int .i64 v)) x y n h gi gh nv sv f has:=by
 have hs:=k.sz;have hl:=k.loi;refine⟨k.bel.setCell (p:=⟨gi,i,none⟩) (by show w.heap.size<=gi;omega) _,by simp[World.setCell];exact hs,?_,?_,?_,?_,k.rI.set _ hi (congrArg (Value.int .i64) e1) (fun a ha zEB=>congrArg (Value.int .i64) (e2 a ha zEB)),k.rH.other _ (k.rH.ne k.rI (by decide)),k.loi,k.loh⟩
 ·rw[pg wx ⟨gi,i,none⟩ _ _ (by show w.heap.size≠gi;omega)];exact k.bx
 ·rw[pg wx ⟨gi,i,none⟩ _ _ (by show w.heap.size+1≠gi;omega)];exact k.by'
 ·rw[pg wx ⟨gi,i,none⟩ _ _ (by show w.heap.size+1+1≠gi;omega)];exact k.res
 ·rw[pg wx ⟨gi,i,none⟩ _ _ (by show w.heap.size+1+1+1≠gi;omega)];exact k.hd
theorem iX.setH{inp:Nat->Int}{has f:Nat->Bool}(k:iX w wx x y n h gi gh nv sv inp has)(hi:i<h)(v:Bool)(e1:f i=v)(e2:∀r,r<h->r≠i->f r=has r):iX w (wx.setCell ⟨gh,i,none⟩ (.bool v)) x y n h gi gh nv sv inp f:=by
 have hs:=k.sz;have hl:=k.loh;refine⟨k.bel.setCell (p:=⟨gh,i,none⟩) (by show w.heap.size<=gh;omega) _,by simp[World.setCell];exact hs,?_,?_,?_,?_,k.rI.other _ (k.rI.ne k.rH (by decide)),k.rH.set _ hi (congrArg Value.bool e1) (fun a ha zEB=>congrArg Value.bool (e2 a ha zEB)),k.loi,k.loh⟩
 ·rw[pg wx ⟨gh,i,none⟩ _ _ (by show w.heap.size≠gh;omega)];exact k.bx
 ·rw[pg wx ⟨gh,i,none⟩ _ _ (by show w.heap.size+1≠gh;omega)];exact k.by'
 ·rw[pg wx ⟨gh,i,none⟩ _ _ (by show w.heap.size+1+1≠gh;omega)];exact k.res
 ·rw[pg wx ⟨gh,i,none⟩ _ _ (by show w.heap.size+1+1+1≠gh;omega)];exact k.hd
theorem iX.setHd{inp:Nat->Int}{has:Nat->Bool}(k:iX w wx x y n h gi gh nv sv inp has){nv' sv':Value}(e:(srB x y nv sv (.slice (some ⟨gi,0,none⟩) n n) (.slice (some ⟨gh,0,none⟩) h h)).setIfInBounds j v=srB x y nv' sv' (.slice (some ⟨gi,0,none⟩) n n) (.slice (some ⟨gh,0,none⟩) h h)):iX w (wx.setCell ⟨w.heap.size+1+1+1,j,none⟩ v) x y n h gi gh nv' sv' inp has:=by
 have hs:=k.sz;have l1:=k.loi;have l2:=k.loh;refine⟨k.bel.setCell (p:=⟨w.heap.size+1+1+1,j,none⟩) (by show w.heap.size<=w.heap.size+1+1+1;omega) _,by simp[World.setCell];exact hs,?_,?_,?_,?_,k.rI.other _ (by omega),k.rH.other _ (by omega),k.loi,k.loh⟩
 ·rw[pg wx ⟨w.heap.size+1+1+1,j,none⟩ _ _ (by show w.heap.size≠w.heap.size+1+1+1;omega)];exact k.bx
 ·rw[pg wx ⟨w.heap.size+1+1+1,j,none⟩ _ _ (by show w.heap.size+1≠w.heap.size+1+1+1;omega)];exact k.by'
 ·rw[pg wx ⟨w.heap.size+1+1+1,j,none⟩ _ _ (by show w.heap.size+1+1≠w.heap.size+1+1+1;omega)];exact k.res
 ·rw[tj wx _ j _ _ _ k.hd,e]
theorem iX.setN{inp:Nat->Int}{has:Nat->Bool}(k:iX w wx x y n h gi gh nv sv inp has)(v:Value):iX w (wx.setCell ⟨w.heap.size+1+1+1,10,none⟩ v) x y n h gi gh v sv inp has:=k.setHd rfl
theorem iX.setS{inp:Nat->Int}{has:Nat->Bool}(k:iX w wx x y n h gi gh nv sv inp has)(v:Value):iX w (wx.setCell ⟨w.heap.size+1+1+1,11,none⟩ v) x y n h gi gh nv v inp has:=k.setHd rfl
theorem iX.grown{inp:Nat->Int}{has:Nat->Bool}(k:iX w wx x y n h gi gh nv sv inp has){e:TypeId}{q:Nat}(zEA:wx.ownsRow (w.heap.size+4) e m v q ys)(h1:3≠e)(h2:4≠e)(hg:wx.grownBy wy v.ownBlock):iX w wy x y n h gi gh nv sv inp has:=by
 have hs:=k.sz;have hb:=fun b (hb:b<w.heap.size+4)=>hg.block b (by omega) (fun e1=>by have:=(uG zEA b e1.symm).1;omega);exact⟨k.bel.grown hg (by omega) (fun b hb=>by have:=(uG zEA b hb).1;omega),by have:=hg.size;omega,by rw[hb _ (by omega)];exact k.bx,by rw[hb _ (by omega)];exact k.by',by rw[hb _ (by omega)];exact k.res,by rw[hb _ (by omega)];exact k.hd,k.rI.grown zEA h1 hg,k.rH.grown zEA h2 hg,k.loi,k.loh⟩
theorem iX.fresh{w4:World}(bx:w4.heap[w.heap.size]? = some (.cells #[.string ⟨x.1.label.toArray⟩,.int .i64 x.1.conc,x.2.1,x.2.2,.int .i64 x.1.root] 162 (0,0)))(by':w4.heap[w.heap.size+1]? = some (.cells #[.string ⟨y.1.label.toArray⟩,.int .i64 y.1.conc,y.2.1,y.2.2,.int .i64 y.1.root] 162 (0,0)))(res:w4.heap[w.heap.size+1+1]? = some (.cells zSr 170 (0,0)))(hd:w4.heap[w.heap.size+1+1+1]? = some (.cells (srB x y (.slice none 0 0) (.slice none 0 0) (.slice none 0 0) (.slice none 0 0)) 170 (0,0)))(bel:Below w.heap.size w w4)(hs:w.heap.size+4<=w4.heap.size)(hb:Below w4.heap.size w4 wx)(hI:wx.heap[gi]? = some (.cells (iC (List.replicate n 0)) 3 (0,0)))(hH:wx.heap[gh]? = some (.cells (gC (List.replicate h false)) 4 (0,0)))(l1:w4.heap.size<=gi)(l2:w4.heap.size<=gh) :
 iX w (((wx.setCell ⟨w.heap.size+1+1+1,12,none⟩ (.slice (some ⟨gi,0,none⟩) n n)).setCell ⟨w.heap.size+1+1+1,13,none⟩ (.slice (some ⟨gh,0,none⟩) h h)).setCell ⟨w.heap.size+1+1+1,14,none⟩ (.slice none 0 0)) x y n h gi gh (.slice none 0 0) (.slice none 0 0) (fun _=>0) (fun _=>false):=by
 have hz:=hb.size;have ne:∀(v:Value) (j:Nat) (W:World) (b:Nat),b≠w.heap.size+1+1+1->(W.setCell ⟨w.heap.size+1+1+1,j,none⟩ v).heap[b]? = W.heap[b]? := fun v j W b hb=>pg W ⟨w.heap.size+1+1+1,j,none⟩ b v hb;have q0:wx.heap[w.heap.size+1+1+1]? = _:=(hb.block _ (by omega)).trans hd;have q1:=tj wx _ 12 _ _ (.slice (some ⟨gi,0,none⟩) n n) q0;have q2:=tj _ _ 13 _ _ (.slice (some ⟨gh,0,none⟩) h h) q1;have q3:=tj _ _ 14 _ _ (.slice none 0 0) q2;refine⟨?_,by simp[World.setCell];omega,?_,?_,?_,q3,?_,?_,by omega,by omega⟩
 ·have h0:w.heap.size<=w.heap.size+1+1+1:=by omega
  exact((((bel.trans (hb.mono (by omega))).setCell (p:=⟨w.heap.size+1+1+1,12,none⟩) h0 _).setCell (p:=⟨w.heap.size+1+1+1,13,none⟩) h0 _).setCell (p:=⟨w.heap.size+1+1+1,14,none⟩) h0 _)
 ·rw[ne _ _ _ _ (by omega),ne _ _ _ _ (by omega),ne _ _ _ _ (by omega),hb.block _ (by omega)];exact bx
 ·rw[ne _ _ _ _ (by omega),ne _ _ _ _ (by omega),ne _ _ _ _ (by omega),hb.block _ (by omega)];exact by'
 ·rw[ne _ _ _ _ (by omega),ne _ _ _ _ (by omega),ne _ _ _ _ (by omega),hb.block _ (by omega)];exact res
 ·refine⟨_,by rw[ne _ _ _ _ (by omega),ne _ _ _ _ (by omega),ne _ _ _ _ (by omega)];exact hI,fun j hj=>?_⟩
  rw[Fu (by simpa using hj)];simp[List.getD,hj]
 ·refine⟨_,by rw[ne _ _ _ _ (by omega),ne _ _ _ _ (by omega),ne _ _ _ _ (by omega)];exact hH,fun j hj=>?_⟩
  rw[ZC (by simpa using hj)];simp[List.getD,hj]
theorem Xl(h:w.ownsRow B t k v n xs){u:Value}(hb:w.heap[b]? = some (.cells cs t' fz))(zEB:t≠t'):(w.setCell ⟨b,j,none⟩ u).ownsRow B t k v n xs:=⟨h.1,by
 rcases h.2 with q|⟨g',cap,yJ,k1,k2,q3,k4⟩
 ·exact .inl q
 ·exact .inr ⟨g',cap,yJ,k1,k2,by rw[pg w ⟨b,j,none⟩ g' u (D8 q3 hb zEB)];exact q3,k4⟩⟩
theorem rE(h:w.ownsRow B t k v n xs)(u:Value)(hr:vX w g t' m f)(zEB:t≠t'):(w.setCell ⟨g,j,none⟩ u).ownsRow B t k v n xs:=by
 obtain⟨cs,q,_⟩:=hr;exact Xl h q zEB
theorem rF(h:w.ownsRow B t k v n xs)(hb:Below w.heap.size w w'):w'.ownsRow B t k v n xs:=⟨h.1,by
 rcases h.2 with q|⟨g',cap,yJ,k1,k2,q3,k4⟩
 ·exact .inl q
 ·exact .inr ⟨g',cap,yJ,k1,k2,by rw[hb.block g' (zL q3)];exact q3,k4⟩⟩
theorem Ks(h:w.ownsRow B t k v n xs){B' q:Nat}(zEA:w.ownsRow B' t' m v' q ys)(zEB:t≠t')(hg:w.grownBy w' v'.ownBlock):w'.ownsRow B t k v n xs:=⟨h.1,by
 rcases h.2 with q|⟨g',cap,yJ,k1,k2,q3,k4⟩
 ·exact .inl q
 ·refine .inr ⟨g',cap,yJ,k1,k2,?_,k4⟩
  rw[hg.block g' (zL q3) (fun e1=>?_)]
  ·exact q3
  ·rcases zEA.2 with ⟨p1,_⟩|⟨g2,_,_,p1,_,p3,_⟩
   ·rw[p1]at e1;simp[Value.ownBlock]at e1
   ·rw[p1]at e1;simp[Value.ownBlock]at e1
    subst e1;rw[q3]at p3;simp only[mw,Obj.cells.injEq]at p3;exact zEB p3.2.1⟩
structure C4(w wr:World)(x y:MX)(n h gi gh:Nat)(F:Nat->List (Int × Int))(nv sv:Value)(L:List NE)(T:List Xa)(inp:Nat->Int)(has:Nat->Bool):Prop where
 ns:iX w wr x y n h gi gh nv sv inp has
 nums:wr.ownsRow (w.heap.size+4) 223 5 nv L.length (Xo F L)
 zn:∀q∈L,xB wr 221 q.za (znC (F q.place))
 sws:wr.ownsRow (w.heap.size+4) 216 2 sv T.length (zCY T)
theorem C4.below{inp:Nat->Int}{has:Nat->Bool}(k:C4 w wr x y n h gi gh F nv sv L T inp has)(hb:Below wr.heap.size wr wy):C4 w wy x y n h gi gh F nv sv L T inp has :=
 ⟨k.ns.below hb,rF k.nums hb,fun q hq=>(k.zn q hq).below hb,rF k.sws hb⟩
theorem C4.setI{inp f:Nat->Int}{has:Nat->Bool}(k:C4 w wr x y n h gi gh F nv sv L T inp has)(hi:i<n)(v:Int)(e1:f i=v)(e2:∀r,r<n->r≠i->f r=inp r):C4 w (wr.setCell ⟨gi,i,none⟩ (.int .i64 v)) x y n h gi gh F nv sv L T f has :=
 ⟨k.ns.setI hi v e1 e2,rE k.nums _ k.ns.rI (by decide),fun q hq=>(k.zn q hq).row _ k.ns.rI (by decide),rE k.sws _ k.ns.rI (by decide)⟩
theorem C4.setH{inp:Nat->Int}{has f:Nat->Bool}(k:C4 w wr x y n h gi gh F nv sv L T inp has)(hi:i<h)(v:Bool)(e1:f i=v)(e2:∀r,r<h->r≠i->f r=has r):C4 w (wr.setCell ⟨gh,i,none⟩ (.bool v)) x y n h gi gh F nv sv L T inp f :=
 ⟨k.ns.setH hi v e1 e2,rE k.nums _ k.ns.rH (by decide),fun q hq=>(k.zn q hq).row _ k.ns.rH (by decide),rE k.sws _ k.ns.rH (by decide)⟩
theorem C4.num{inp:Nat->Int}{has:Nat->Bool}(k:C4 w wr x y n h gi gh F nv sv L T inp has)(q:NE)(hq:xB wr 221 q.za (znC (F q.place)))(zEA:wy.ownsRow (w.heap.size+4) 223 5 v' (L.length+1) (Xo F L++neC F q))(hg:wr.grownBy wy nv.ownBlock):C4 w (wy.setCell ⟨w.heap.size+1+1+1,10,none⟩ v') x y n h gi gh F v' sv (L++[q]) T inp has:=by
 have k1:=k.ns.grown k.nums (by decide) (by decide) hg;refine⟨k1.setN v',?_,fun r hr=>?_,Xl (Ks k.sws k.nums (by decide) hg) k1.hd (by decide)⟩
 ·rw[D5,tb]
  have e:Xo F [q]=neC F q:=by simp[Xo]
  rw[e];exact Xl zEA k1.hd (by decide)
 ·rcases pt.1 hr with hr|hr
  ·exact((k.zn r hr).grown k.nums (by decide) hg).set k1.hd (by decide)
  ·simp at hr;subst hr
   exact(hq.grown k.nums (by decide) hg).set k1.hd (by decide)
structure NsE(w wr:World)(n h gi gh:Nat)(F:Nat->List (Int × Int))(nv sv:Value)(L:List NE)(T:List Xa)(inp:Nat->Int)(has:Nat->Bool):Prop where
 bel:Below w.heap.size w wr
 nums:wr.ownsRow (w.heap.size+4) 223 5 nv L.length (Xo F L)
 zn:∀q∈L,xB wr 221 q.za (znC (F q.place))
 sws:wr.ownsRow (w.heap.size+4) 216 2 sv T.length (zCY T)
 rI:vX wr gi 3 n (fun i=>.int .i64 (inp i))
 rH:vX wr gh 4 h (fun c=>.bool (has c))
 loi:w.heap.size<=gi
 loh:w.heap.size<=gh
structure GO(I:List zV):Prop where
 num:∀i,i<I.length->oO I i=true->0<=(Z6 I i).low/\(Z6 I i).low<=(Z6 I i).high/\(Z6 I i).high<=9999
 flag:∀i,i<I.length->oO I i=false->(Z6 I i).low=0
 few:I.length<=100
structure zCH(w:World)(b o:Nat)(I:List zV)(C:List (Bs × Nat))(rs:List MX)(G:List Bool):Prop where
 inp:∃a c,w.cell? ⟨b,o,none⟩=some (.slice a I.length c)/\xB w 204 a (I.flatMap uN)
 con:∃a c,w.cell? ⟨b,o+1,none⟩=some (.slice a C.length c)/\xB w 208 a (eI C)
 rul:∃a c,w.cell? ⟨b,o+2,none⟩=some (.slice a rs.length c)/\xB w 162 a (rs.flatMap lT)
 rows:∀x∈rs,qQ w x
 gr:kz w b (o+3) G
 few1:I.length<=100
 few2:C.length<=10000
 few3:rs.length<=10000
theorem zCH.below{o:Nat}{I:List zV}{C:List (Bs × Nat)}{rs:List MX}{G:List Bool}(h:zCH w b o I C rs G)(hb:Below w.heap.size w w'):zCH w' b o I C rs G:=by
 obtain⟨a1,c1,p1,q1⟩:=h.inp;obtain⟨a2,c2,p2,q2⟩:=h.con;obtain⟨a3,c3,p3,q3⟩:=h.rul;exact⟨⟨a1,c1,(hb.cell (p:=⟨b,o,none⟩) (yO p1)).trans p1,q1.below hb⟩,⟨a2,c2,(hb.cell (p:=⟨b,o+1,none⟩) (yO p2)).trans p2,q2.below hb⟩,⟨a3,c3,(hb.cell (p:=⟨b,o+2,none⟩) (yO p3)).trans p3,q3.below hb⟩,fun x hx=>(h.rows x hx).below hb,h.gr.below hb,h.few1,h.few2,h.few3⟩
structure zA0(I:List zV)(H:Nat)(r:tX):Prop where
 pl:zCF r I.length (oO I)
 nd:∀c,D6 r c=true->c<H
 ah:∀c,Gx r c=true->c<H
 bd:∀i z,z∈U8 r i -> -1000000<=z/\z<=1000000
theorem NsE.below{inp:Nat->Int}{has:Nat->Bool}(k:NsE w wr n h gi gh F nv sv L T inp has)(hb:Below wr.heap.size wr wy):NsE w wy n h gi gh F nv sv L T inp has :=
 ⟨k.bel.trans (hb.mono k.bel.size),rF k.nums hb,fun q hq=>(k.zn q hq).below hb,rF k.sws hb,k.rI.below hb,k.rH.below hb,k.loi,k.loh⟩
theorem xi(h:vJ ls){x:zE}(hx:x∈ls)(hk:x.kind=3):∀y∈x.nd,xT ls y=true:=by
 obtain⟨i,hi,rfl⟩:=Xu hx;have he:=h.err i hi;unfold tT at he;rw[t7 (by omega),t7 (by omega),tg hk]at he;unfold mA at he
 have hb:(vP (ls.take i) 3 (lA ls i).name || ((lA ls i).sum.any (fun x => !uJ ls x) || (lA ls i).nd.any (fun x => !xT ls x)))=false:=by
  cases hc:(vP (ls.take i) 3 (lA ls i).name || ((lA ls i).sum.any (fun x => !uJ ls x) || (lA ls i).nd.any (fun x => !xT ls x))) with
  | false=>rfl
  | true=>rw[hc,tg rfl]at he;exact absurd he (by decide)
 rw[ll,ll]at hb;intro y hy;have:=List.any_eq_false.1 hb.2.2 y hy;simpa using this
theorem xw{y:zM}(h:xT ls y=true)(k:y.kind=6):vP ls 2 y.name=true:=by unfold xT at h;rwa [t7 (by omega),tg k]at h
theorem D9{y:zM}(h:xT ls y=true)(k:y.kind=7):vP ls 1 y.name=true/\(y.other≠[]->vP ls 1 y.other=true):=by
 unfold xT at h;rw[t7 (by omega),t7 (by omega),tg k,pr,bt,pu]at h;exact⟨h.2,fun ho=>h.1.resolve_left ho⟩
theorem X6(h:vJ ls){nm:Bs}{k:Int}(hk:k=1\/k=2)(hh:vP ls k nm=true):∃i:Nat,zJ (uF ls) nm=i/\i<(yE ls).length/\oO (yE ls) i=decide (k=1):=by
 obtain⟨z,z1,z2,z3⟩:=zDG hh;have hz:z∈C3 ls:=zDJ z1 (by omega);have hm:nm∈uF ls:=by rw[Z5];exact p7.2 ⟨z,hz,z3⟩
 have h0:=(Jl _ _).2 hm;have h1:=kR (uF ls) nm;obtain⟨i,hi⟩:∃i:Nat,zJ (uF ls) nm=i:=⟨(zJ (uF ls) nm).toNat,by omega⟩;have zE9:i<(yE ls).length:=by rw[<-zAY];omega
 have hat:=((YO nm (uF ls) (Zw h) 0 i).1 (by rw[bs];exact hi)).2;obtain⟨x,x1,-,x3,x4⟩:=Zz zE9;have e:x=z:=zBI h x1 hz (by rw[<-x4,hat,z3]);refine⟨i,hi,zE9,?_⟩;unfold oO;rw[x3,e,oN (X4 hz),z2]
theorem zB0{N:List zM}(hg:pD N){y:zM}(hy:y∈N)(hk:y.kind=7):0<=y.num/\y.num<=9999:=by
 obtain⟨a,ha,rfl⟩:=List.getElem_of_mem hy;have e:qR N a=N[a]:=by unfold qR;simp[List.getD,ha]
 have:=(hg a ha).2.2.2 (by rw[e];omega) (by rw[e];omega) (by rw[e];omega);rw[e]at this;exact this.2
theorem zAR(h:vJ ls){x:zE}(hx:x∈ls)(hk:x.kind=3)(hg:cW x):zA0 (yE ls) (zN ls).length (jB (uF ls) (zN ls) x):=by
 have hN:=xi h hx hk;have mem:∀y∈(jB (uF ls) (zN ls) x).guard,∃z∈x.nd,tO (uF ls) (zN ls) z=y:=fun y hy=>p7.1 hy;refine⟨⟨fun y hy hyk=>?_,fun y hy hyk=>?_,fun y hy hyk ht=>?_⟩,fun c hc=>?_,fun c hc=>?_,fun i z hz=>?_⟩
 ·obtain⟨z,hz,rfl⟩:=mem y hy
  have hzk:z.kind=6:=hyk;obtain⟨i,h1,h2,h3⟩:=X6 h (.inr rfl) (xw (hN z hz) hzk);refine⟨i,h2,?_,h3⟩;show JF (uF ls) (zN ls) z=_;unfold JF;rw[t7 (by omega),tg (.inl hzk),h1]
 ·obtain⟨z,hz,rfl⟩:=mem y hy
  have hzk:z.kind=7:=hyk;obtain⟨i,h1,h2,h3⟩:=X6 h (.inl rfl) (D9 (hN z hz) hzk).1;refine⟨i,h2,?_,h3⟩;show JF (uF ls) (zN ls) z=_;unfold JF;rw[t7 (by omega),tg (.inr hzk),h1]
 ·obtain⟨z,hz,rfl⟩:=mem y hy
  have hzk:z.kind=7:=hyk;have ho:z.other≠[]:=ly ht;obtain⟨i,h1,h2,h3⟩:=X6 h (.inl rfl) ((D9 (hN z hz) hzk).2 ho);refine⟨i,h2,?_,h3⟩;show jk (uF ls) z=_;unfold jk;rw[t7 ho,h1]
 ·obtain⟨p,hp,e⟩:=me.1 hc
  rw[pr,pu,pu]at e;obtain⟨q,hq,rfl⟩:=p7.1 hp;have e1:Xr (uF ls) q=3:=e.1;have e2:C1 (uF ls) (zN ls) q=(c:Int):=e.2;unfold Xr at e1;unfold C1 at e2;by_cases hq0:q.name=[]
  ·rw[tg hq0]at e1;exact absurd e1 (by decide)
  ·rw[t7 hq0]at e1 e2
   by_cases hq1:zJ (uF ls) q.name<0
   ·rw[tg hq1]at e2
    have:=kR (zN ls) q.name;omega
   ·rw[t7 hq1]at e1;exact absurd e1 (by decide)
 ·obtain⟨y,hy,e⟩:=me.1 hc
  rw[pr,pu,pu]at e;obtain⟨z,hz,rfl⟩:=mem y hy;have e1:z.kind=5:=e.1;have e2:JF (uF ls) (zN ls) z=(c:Int):=e.2;unfold JF at e2;rw[tg e1]at e2;have:=kR (zN ls) z.name;omega
 ·obtain⟨y,hy,rfl⟩:=p7.1 hz
  obtain⟨h1,h2⟩:=mu.1 hy;rw[pr,pu]at h2;obtain⟨v,hv,rfl⟩:=mem y h1;have:=zB0 hg.nodes hv h2.1;show -1000000<=v.num/\v.num<=1000000;omega
theorem ue(h:vJ ls)(hg:∀x∈ls,cW x):GO (yE ls):=by
 refine⟨fun i hi hn=>?_,fun i hi hn=>?_,by have:=QT h;omega⟩
 ·obtain⟨x,x1,x2,x3,-⟩:=Zz hi
  have hk:x.kind=1:=by unfold oO at hn;rw[x3,oN (X4 x1)]at hn;exact ly hn
  have hp:=hg x x2;have:=DT h x2 hk;have e1:=hp.lo0;have e2:=hp.hi1;rw[x3];unfold tQ;rw[tg hk];exact⟨e1,this,e2⟩
 ·obtain⟨x,x1,x2,x3,-⟩:=Zz hi
  have hk:¬x.kind=1:=by unfold oO at hn;rw[x3,oN (X4 x1)]at hn;exact of_decide_eq_false hn
  rw[x3];unfold tQ;rw[t7 hk]
structure zA2(F:List zE):Prop where
 few:(yE F).length<=100
 inp:GO (yE F)
 rul:∀x∈kJ ((yE F).map zV.name) ((xO F).map Prod.fst) F,zA0 (yE F) (xO F).length x
theorem Zl{F:List zE}(h:vJ F):(xO F).map Prod.fst=zN F:=by
 rw[rO F h.heads h.nam];unfold ZP;rw[List.map_map];refine List.ext_getElem (by simp) fun i h1 h2=>?_;simp only[List.getElem_map,List.getElem_range,Function.comp];rw[tu,p9 h2];rfl
theorem QB{F:List zE}(h:vJ F):(xO F).length=(zN F).length:=by rw[<-Zl h,pi]
theorem zB3(h:vJ ls)(hg:∀x∈ls,cW x):zA2 ls:=by
 refine⟨by have:=QT h;omega,ue h hg,fun r hr=>?_⟩;rw[Zl h,sW]at hr;obtain⟨x,hx,rfl⟩:=p7.1 hr;obtain⟨h1,h2⟩:=mu.1 hx;rw[QB h];exact zAR h h1 (ly h2) (hg x h1)
end Go.Proofs.YtnbpdffdnphbeabGreatDoor
