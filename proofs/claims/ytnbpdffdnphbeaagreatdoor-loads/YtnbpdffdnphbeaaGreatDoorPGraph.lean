import Derived.Test.YtnbpdffdnphbeaaGreatDoorPure5
namespace Go.Proofs.YtnbpdffdnphbeaaGreatDoor
variable{G:List Bool}{ls:List zF}{us:List zG}{w a b:Nat}{x:zF}{u:zG}(m:Nat->Nat->Bool)(i:Nat)(p:zG->Bool)(fr:Bool)(N:Nat)(s:List Bool)(n:Nat)
def TC(M:Nat->Nat->Prop)(a b:Nat):Prop:=∀R:Nat->Nat->Prop,(∀x y,M x y->R x y)->(∀x y z,R x y->R y z->R x z)->R a b
theorem TC.one{M:Nat->Nat->Prop}(h:M a b):TC M a b:=fun _ h1 _=>h1 _ _ h
theorem TC.trans{M:Nat->Nat->Prop}{c:Nat}(h:TC M a b)(h':TC M b c):TC M a c:=fun R h1 h2=>h2 _ _ _ (h R h1 h2) (h' R h1 h2)
theorem TC.mono{M M':Nat->Nat->Prop}(hm:∀x y,M x y->M' x y)(h:TC M a b):TC M' a b:=fun R h1 h2=>h R (fun x y h3=>h1 x y (hm x y h3)) h2
def gA(G:List Bool)(a b:Nat):Bool:=G.getD (a*8+b) false
def wS(q:Nat)(G:List Bool):List Bool:=if gA G (q%64/8) (q/64)&&gA G (q/64) (q%8) then G.set (q%64) true else G
def wA:Nat->Nat->List Bool->List Bool
 | 0,_,G=>G
 | n+1,q,G=>wA n (q+1) (wS q G)
def xB(G:List Bool):List Bool:=wA 512 0 G
theorem zFH(q:Nat)(G:List Bool):(wS q G).length=G.length:=by unfold wS;split <;> simp
theorem rJ:∀q G,(wA n q G).length=G.length:=by
 induction n with
 | zero=>intro q G;rfl
 | succ n ih=>intro q G;rw[wA,ih,zFH]
theorem ve:∀m q G,wA (n+m) q G=wA m (q+n) (wA n q G):=by
 induction n with
 | zero=>intro m q G;simp[wA]
 | succ n ih=>intro m q G;rw[show n+1+m=(n+m)+1 by omega,wA,wA,ih,show q+1+n=q+(n+1) by omega]
theorem C9(hl:G.length=64){p:Nat}(hp:p<64):gA (G.set p true) a b=(gA G a b || decide (a*8+b=p)):=by
 unfold gA;simp only[l9,List.getElem?_set];by_cases h:p=a*8+b
 ·subst h;simp[hl,hp]
 ·rw[tg h,th (fun e=>h e.symm),Bool.or_false]
theorem zFI(hl:G.length=64){m:Nat}(hm:m<8)(p:Nat):p<=64->∀a b,a<8->b<8->gA (wA p (m*64) G) a b=(gA G a b || (decide (a*8+b<p)&&(gA G a m&&gA G m b))):=by
 induction p with
 | zero=>intro _ a b _ _;simp[wA]
 | succ p ih =>
   intro hp a b ha hb;have ih:=ih (by omega);rw[ve p 1,wA,wA];have e1:(m*64+p)%64=p:=by omega
   have e2:(m*64+p)/64=m:=by omega
   have e3:(m*64+p)%8=p%8:=by omega
   unfold wS;rw[e1,e2,e3];have hl2:(wA p (m*64) G).length=64:=by rw[rJ,hl]
   have k1:=ih (p/8) m (by omega) hm;have k2:=ih m (p%8) hm (by omega);have k3:=ih a b ha hb;generalize wA p (m*64) G=H at *;have c1:gA H (p/8) m=gA G (p/8) m:=by rw[k1];cases gA G (p/8) m <;> simp
   have c2:gA H m (p%8)=gA G m (p%8):=by rw[k2];cases gA G m (p%8) <;> simp
   rw[c1,c2];by_cases hab:a*8+b=p
   ·have ea:p/8=a:=by omega
    have eb:p%8=b:=by omega
    rw[ea,eb];have d1:decide (a*8+b<p+1)=true:=by simp;omega
    rw[d1];split
    ·rename_i h;rw[C9 hl2 (by omega),k3,h];simp[hab]
    ·rename_i h;rw[k3];have:(gA G a m&&gA G m b)=false:=by simpa using h
     rw[this];simp
   ·have d1:decide (a*8+b<p+1)=decide (a*8+b<p):=by by_cases h:a*8+b<p <;> simp[h] <;> omega
    rw[d1,<-k3];split
    ·rw[C9 hl2 (by omega),th hab,Bool.or_false]
    ·rfl
theorem Bd(hl:G.length=64){m:Nat}(hm:m<8)(ha:a<8)(hb:b<8):gA (wA 64 (m*64) G) a b=(gA G a b || (gA G a m&&gA G m b)):=by
 rw[zFI hl hm 64 (t9 _) a b ha hb,tm (by omega:a*8+b<64),md]
def KF(G:List Bool)(a b:Nat):Prop:=a<8/\b<8/\gA G a b=true
theorem zBY(hl:G.length=64)(m:Nat):m<=8->(∀a b,KF G a b->KF (wA (m*64) 0 G) a b)/\(∀a b,KF (wA (m*64) 0 G) a b->TC (KF G) a b)/\(∀k,k<m->∀a b,KF (wA (m*64) 0 G) a k->KF (wA (m*64) 0 G) k b->KF (wA (m*64) 0 G) a b):=by
 induction m with
 | zero=>intro _;refine⟨fun a b h=>by simpa[wA] using h,fun a b h=>TC.one (by simpa[wA] using h),fun k hk=>by omega⟩
 | succ m ih =>
   intro hm;obtain⟨i1,i2,i3⟩:=ih (by omega);rw[show (m+1)*64=m*64+64 by omega,ve,l8];have hl2:(wA (m*64) 0 G).length=64:=by rw[rJ,hl]
   generalize wA (m*64) 0 G=H at *
   have key:∀a b,KF (wA 64 (m*64) H) a b ↔ (KF H a b\/KF H a m/\KF H m b):=by
    intro a b;constructor
    ·rintro⟨ha,hb,h⟩
     rw[Bd hl2 (by omega) ha hb,mz,tz]at h;rcases h with h|⟨h,h'⟩
     ·exact .inl ⟨ha,hb,h⟩
     ·exact .inr ⟨⟨ha,by omega,h⟩,⟨by omega,hb,h'⟩⟩
    ·rintro(⟨ha,hb,h⟩|⟨⟨ha,_,h⟩,⟨_,hb,h'⟩⟩)
     ·exact⟨ha,hb,by rw[Bd hl2 (by omega) ha hb,h];rfl⟩
     ·exact⟨ha,hb,by rw[Bd hl2 (by omega) ha hb,h,h'];simp⟩
   refine⟨fun a b h=>(key a b).2 (.inl (i1 a b h)),fun a b h=>?_,fun k hk a b h1 h2=>?_⟩
   ·rcases(key a b).1 h with h|⟨h,h'⟩
    ·exact i2 _ _ h
    ·exact(i2 _ _ h).trans (i2 _ _ h')
   ·rw[key]at h1 h2 ⊢
    by_cases hkm:k=m
    ·subst hkm
     refine .inr ⟨?_,?_⟩
     ·rcases h1 with h1|h1
      ·exact h1
      ·exact h1.1
     ·rcases h2 with h2|h2
      ·exact h2
      ·exact h2.2
    ·have hk':k<m:=by omega
     rcases h1 with h1|⟨h1,h1'⟩ <;> rcases h2 with h2|⟨h2,h2'⟩
     ·exact .inl (i3 k hk' _ _ h1 h2)
     ·exact .inr ⟨i3 k hk' _ _ h1 h2,h2'⟩
     ·exact .inr ⟨h1,i3 k hk' _ _ h1' h2⟩
     ·exact .inr ⟨h1,h2'⟩
theorem iU(hl:G.length=64)(a b:Nat):KF (xB G) a b ↔ TC (KF G) a b:=by
 obtain⟨h1,h2,h3⟩:=zBY hl 8 (t9 _);refine⟨h2 a b,fun h=>h _ h1 (fun x y z h4 h5=>h3 y ?_ x z h4 h5)⟩;exact h4.2.1
def Yt(G:List Bool):Nat->Nat->Nat
 | 0,_=>8
 | n+1,a=>if gA G a a then a else Yt G n (a+1)
def sC(G:List Bool):Nat:=Yt G 8 0
theorem jd(G:List Bool)(n:Nat):∀a,a+n=8->(Yt G n a<8 ↔ ∃b,a<=b/\b<8/\gA G b b=true):=by
 induction n with
 | zero=>intro a h;simp[Yt];intro b h1 h2;omega
 | succ n ih =>
   intro a h;rw[Yt];split
   ·rename_i hg;exact⟨fun _=>⟨a,t9 _,by omega,hg⟩,fun _=>by omega⟩
   ·rename_i hg
    rw[ih (a+1) (by omega)];constructor
    ·rintro⟨b,h1,h2,h3⟩;exact⟨b,by omega,h2,h3⟩
    ·rintro⟨b,h1,h2,h3⟩
     refine⟨b,?_,h2,h3⟩;rcases po a b with h4|h4
     ·exact h4
     ·exfalso;have:b=a:=by omega
      subst this;exact hg h3
def jW(G:List Bool):Bool:=decide (sC (xB G)<8)
theorem Jc(hl:G.length=64):jW G=true ↔ ∃a,a<8/\TC (KF G) a a:=by
 unfold jW sC;rw[pr,jd _ 8 0 rfl];constructor
 ·rintro⟨b,_,h1,h2⟩;exact⟨b,h1,(iU hl b b).1 ⟨h1,h1,h2⟩⟩
 ·rintro⟨b,h1,h2⟩;exact⟨b,tr _,h1,((iU hl b b).2 h2).2.2⟩
def lY(m:Nat->Nat->Bool)(fr:Bool)(x:Nat):Nat->Nat->List Bool->List Bool
 | 0,_,s=>s
 | n+1,y,s=>lY m fr x n (y+1) (if fr&&m x y then s.set y true else s)
def zGK(i x:Nat)(s:List Bool):Bool:=decide (x=i) || s.getD x false
def lX(m:Nat->Nat->Bool)(i N:Nat):Nat->Nat->List Bool->List Bool
 | 0,_,s=>s
 | n+1,x,s=>lX m i N n (x+1) (lY m (zGK i x s) x N 0 s)
def lN(m:Nat->Nat->Bool)(i N:Nat):Nat->List Bool->List Bool
 | 0,s=>s
 | n+1,s=>lN m i N n (lX m i N N 0 s)
def lU(m:Nat->Nat->Bool)(N i k:Nat):Bool:=(lN m i N (N+1) (List.replicate N false)).getD k false
theorem jp(x n:Nat):∀y s,(lY m fr x n y s).length=s.length:=by
 induction n with
 | zero=>intro y s;rfl
 | succ n ih=>intro y s;rw[lY,ih];split <;> simp
theorem jr:∀x s,(lX m i N n x s).length=s.length:=by
 induction n with
 | zero=>intro x s;rfl
 | succ n ih=>intro x s;rw[lX,ih,jp]
theorem zGI:∀s,(lN m i N n s).length=s.length:=by
 induction n with
 | zero=>intro s;rfl
 | succ n ih=>intro s;rw[lN,ih,jr]
theorem Uk(y z:Nat):(s.set y true).getD z false=(s.getD z false || (decide (z=y)&&decide (y<s.length))):=by
 simp only[l9,List.getElem?_set];by_cases h:y=z
 ·subst h
  by_cases h2:y<s.length
  ·simp[h2]
  ·simp[h2]
 ·have h':¬z=y:=fun e=>h e.symm
  simp[h,h']
theorem jn(x n:Nat):∀y s z,s.getD z false=true->(lY m fr x n y s).getD z false=true:=by
 induction n with
 | zero=>intro y s z h;exact h
 | succ n ih =>
   intro y s z h;rw[lY];refine ih _ _ _ ?_;split
   ·rw[Uk,h];rfl
   ·exact h
theorem zEX:∀x s z,s.getD z false=true->(lX m i N n x s).getD z false=true:=by
 induction n with
 | zero=>intro x s z h;exact h
 | succ n ih=>intro x s z h;rw[lX];exact ih _ _ _ (jn _ _ _ _ _ _ _ h)
theorem zGG(x n:Nat):∀y s z,y<=z->z<y+n->z<s.length->m x z=true->(lY m true x n y s).getD z false=true:=by
 induction n with
 | zero=>intro y s z h1 h2;omega
 | succ n ih =>
   intro y s z h1 h2 h3 h4;rw[lY];by_cases h:y=z
   ·subst h;refine jn _ _ _ _ _ _ _ ?_
    rw[h4];simp[h3]
   ·refine ih _ _ _ (by omega) (by omega) ?_ h4
    split <;> simp[h3]
theorem zGH:∀x s x0 z,x<=x0->x0<x+n->z<N->s.length=N->(x0=i\/s.getD x0 false=true)->m x0 z=true->(lX m i N n x s).getD z false=true:=by
 induction n with
 | zero=>intro x s x0 z h1 h2;omega
 | succ n ih =>
   intro x s x0 z h1 h2 h3 h4 h5 h6;rw[lX];by_cases h:x=x0
   ·subst h;refine zEX _ _ _ _ _ _ _ ?_
    have e:zGK i x s=true:=by unfold zGK;exact h5.elim (fun h=>by simp[h]) (fun h=>by rw[h,f8])
    rw[e];exact zGG _ _ _ _ _ _ (tr _) (by omega) (by omega) h6
   ·refine ih _ _ x0 z (by omega) (by omega) h3 (by rw[jp,h4]) ?_ h6
    rcases h5 with h5|h5
    ·exact .inl h5
    ·exact .inr (jn _ _ _ _ _ _ _ h5)
def KW(m:Nat->Nat->Bool)(N:Nat)(a b:Nat):Prop:=a<N/\b<N/\m a b=true
theorem jo{m:Nat->Nat->Bool}{i N:Nat}(x:Nat)(hx:x<N)(fr:Bool)(hfr:fr=true->x=i\/TC (KW m N) i x)(n:Nat):∀y s,y+n=N->(∀z,s.getD z false=true->TC (KW m N) i z)->∀z,(lY m fr x n y s).getD z false=true->TC (KW m N) i z:=by
 induction n with
 | zero=>intro y s _ h;exact h
 | succ n ih =>
   intro y s hy h;rw[lY];refine ih _ _ (by omega) ?_;intro z hz;split at hz
   ·rename_i hc
    rw[tz]at hc;rw[Uk,mz,tz]at hz;rcases hz with hz|⟨hz,_⟩
    ·exact h z hz
    ·have e:z=y:=by simpa using hz
     subst e;have h1:KW m N x z:=⟨hx,by omega,hc.2⟩;rcases hfr hc.1 with h2|h2
     ·rw[<-h2];exact TC.one h1
     ·exact h2.trans (TC.one h1)
   ·exact h z hz
theorem jq{m:Nat->Nat->Bool}{i N:Nat}:∀x s,x+n=N->(∀z,s.getD z false=true->TC (KW m N) i z)->∀z,(lX m i N n x s).getD z false=true->TC (KW m N) i z:=by
 induction n with
 | zero=>intro x s _ h;exact h
 | succ n ih =>
   intro x s hx h;rw[lX];refine ih _ _ (by omega) (jo x (by omega) _ ?_ N 0 s (by omega) h);intro hf;unfold zGK at hf;rw[mz]at hf;rcases hf with hf|hf
   ·exact .inl (by simpa using hf)
   ·exact .inr (h x hf)
theorem js{m:Nat->Nat->Bool}{i N:Nat}:∀s,(∀z,s.getD z false=true->TC (KW m N) i z)->∀z,(lN m i N n s).getD z false=true->TC (KW m N) i z:=by
 induction n with
 | zero=>intro s h;exact h
 | succ n ih=>intro s h;rw[lN];exact ih _ (jq N 0 s (by omega) h)
def U1:List Bool->Nat
 | []=>0
 | b::r=>b.toNat+U1 r
theorem zGW:U1 s<=s.length:=by
 induction s with
 | nil=>exact t9 _
 | cons b r ih=>rw[U1,p7];cases b <;> simp <;> omega
theorem zGV:∀s',s.length=s'.length->(∀z,s.getD z false=true->s'.getD z false=true)->s=s'\/U1 s<U1 s':=by
 induction s with
 | nil=>intro s' h _;cases s' with
   | nil=>exact .inl rfl
   | cons _ _=>simp at h
 | cons b r ih =>
   intro s' h hz
   cases s' with
   | nil=>simp at h
   | cons b' r' =>
     have h0:=hz 0;have ih:=ih r' (by simpa using h) (fun z hh=>by have:=hz (z+1);simpa using this (by simpa using hh));rw[U1,U1];simp only[List.getD_cons_zero]at h0;rcases ih with ih|ih
     ·subst ih
      cases b <;> cases b'
      ·exact .inl rfl
      ·exact .inr (by simp)
      ·exact absurd (h0 rfl) (by simp)
      ·exact .inl rfl
     ·right
      cases b <;> cases b'
      ·simpa using ih
      ·simp;omega
      ·exact absurd (h0 rfl) (by simp)
      ·simpa using ih
theorem zDH:∀s,lN m i N (n+1) s=lX m i N N 0 (lN m i N n s):=by
 induction n with
 | zero=>intro s;rfl
 | succ n ih=>intro s;rw[lN,ih];rfl
theorem zGJ:lX m i N N 0 (lN m i N n s)=lN m i N n s\/n<=U1 (lN m i N n s):=by
 induction n with
 | zero=>exact .inr (tr _)
 | succ n ih =>
   rw[zDH];rcases ih with ih|ih
   ·left;rw[ih,ih]
   ·rcases zGV (lN m i N n s) (lX m i N N 0 (lN m i N n s)) (by rw[jr]) (zEX _ _ _ _ _ _) with h|h
    ·left;rw[<-h,<-h]
    ·right;omega
theorem iM{m:Nat->Nat->Bool}{N i k:Nat}:lU m N i k=true ↔ TC (KW m N) i k:=by
 unfold lU;constructor
 ·intro h
  refine js (N+1) _ ?_ k h;intro z hz;exfalso
  simp only[l9,List.getElem?_replicate]at hz;split at hz <;> simp at hz
 ·intro h
  have zIH:(lN m i N (N+1) (List.replicate N false)).length=N:=by rw[zGI,List.length_replicate]
  have hfix:lX m i N N 0 (lN m i N (N+1) (List.replicate N false))=lN m i N (N+1) (List.replicate N false):=by
   rcases zGJ m i N (List.replicate N false) (N+1) with h1|h1
   ·exact h1
   ·have h2:=zGW (lN m i N (N+1) (List.replicate N false));omega
  generalize lN m i N (N+1) (List.replicate N false)=s at *
  have key:∀x z,KW m N x z->(x=i\/s.getD x false=true)->s.getD z false=true:=by
   intro x z h1 h2;have h3:=zGH m i N N 0 s x z (tr _) (by have:=h1.1;omega) h1.2.1 zIH h2 h1.2.2;rw[hfix]at h3;exact h3
  exact h (fun x z=>(x=i\/s.getD x false=true)->s.getD z false=true) key (fun x y z h1 h2 h3=>h2 (.inr (h1 h3))) (.inl rfl)
theorem vw{m:Nat->Nat->Bool}{N:Nat}(h:TC (KW m N) a b):a<N/\b<N:=h (fun a b=>a<N/\b<N) (fun _ _ h=>⟨h.1,h.2.1⟩) (fun _ _ _ h1 h2=>⟨h1.1,h2.2⟩)
def wN(m:Nat->Nat->Bool)(N:Nat):Bool:=(List.range N).any fun i=>lU m N i i
theorem Jb{m:Nat->Nat->Bool}{N:Nat}(hl:G.length=64)(hN:N<=8)(h:∀a b,a<8->b<8->(gA G a b=true ↔ KW m N a b)):wN m N=jW G:=by
 have e:∀a b,KF G a b ↔ KW m N a b:=fun a b=>⟨fun ⟨h1,h2,h3⟩=>(h a b h1 h2).1 h3,fun h1=>⟨by have:=h1.1;omega,by have:=h1.2.1;omega,(h a b (by have:=h1.1;omega) (by have:=h1.2.1;omega)).2 h1⟩⟩;rw[ct,Jc hl];unfold wN;rw[mj];constructor
 ·rintro⟨i,_,h2⟩
  have h3:=iM.1 h2;exact⟨i,by have:=(vw h3).1;omega,h3.mono fun x y=>(e x y).2⟩
 ·rintro⟨i,_,h2⟩
  have h3:TC (KW m N) i i:=h2.mono fun x y=>(e x y).1;exact⟨i,db.2 (vw h3).1,iM.2 h3⟩
def UU:zF:=⟨0,[],0,0,[],[],[],0,0,0,[]⟩
def lA(ls:List zF)(i:Nat):zF:=ls.getD i UU
def uA(us:List zG)(i:Nat):zG:=us.getD i []
theorem yQ.len:∀ {ls:List zF} {us:List zG},yQ ls us->ls.length=us.length
 | [],[],_=>rfl
 | _::_,_::_,h=>by rw[p7,p7,yQ.len h.2]
 | [],_::_,h=>absurd h id
 | _::_,[],h=>absurd h id
theorem yQ.get:∀ {ls:List zF} {us:List zG},yQ ls us->∀i,i<us.length->LT (lA ls i) (uA us i)
 | [],[],_,i,hi=>absurd hi (by simp)
 | x::xs,u::us,h,0,_=>h.1
 | x::xs,u::us,h,i+1,hi=>yQ.get h.2 i (by simpa using hi)
 | [],_::_,h,_,_=>absurd h id
 | _::_,[],h,_,_=>absurd h id
theorem yQ.take:∀ {ls:List zF} {us:List zG},yQ ls us->∀n,yQ (ls.take n) (us.take n)
 | [],[],_,n=>by simp[yQ]
 | x::xs,u::us,h,0=>trivial
 | x::xs,u::us,h,n+1=>⟨h.1,yQ.take h.2 n⟩
 | [],_::_,h,_=>absurd h id
 | _::_,[],h,_=>absurd h id
def Zj(k:Int):Int:=if k=1 then 3 else if k=2 then 3 else if k=3 then 8 else if k=4 then 28 else 0
def uW(k:Int):List zF->Nat
 | []=>0
 | x::r=>(if x.kind=k then 1 else 0)+uW k r
def pW(S:List yX):Bool:=decide (4<S.length) || S.any tC
def Jn(x:zF):Bool:=decide (6<x.tests) || (decide (4<x.dep) || pW x.sum)
def mJ(ls:List zF)(i:Nat):Bool:=decide (Zj (lA ls i).kind<=(uW (lA ls i).kind (ls.take i):Int)) || (decide ((lA ls i).kind=3)&&Jn (lA ls i))
def Zn(k:Int)(nm:Bs)(x:zF):Bool:=decide (x.kind=k)&&decide (x.name=nm)
def KX(nm:Bs)(x:zF):Bool:=decide (x.kind=3)&&decide (x.conc=nm)
def vP(ls:List zF)(k:Int)(nm:Bs):Bool:=ls.any (Zn k nm)
def jX(ls:List zF)(nm:Bs):Bool:=ls.any (KX nm)
def pA(p:zF->Bool):List zF->Nat->Nat
 | [],i=>i
 | x::r,i=>if p x then i else pA p r (i+1)
def qK(ls:List zF)(nm:Bs):Nat:=pA (Zn 3 nm) ls 0
def Xk(ls:List zF)(nm:Bs):Bool:=vP ls 1 nm || jX ls nm
def rZ(ls:List zF)(y:Nat × Bs):Bool:=if y.1=0 then Xk ls y.2 else if y.1=1 then jX ls y.2 else if y.1=2 then vP ls 1 y.2 else vP ls 2 y.2
def kD(ls:List zF)(x:yX):Bool:=decide (x.name=[]) || Xk ls x.name
def vB(ls:List zF)(x:zX):Bool :=
 if x.kind=5 then jX ls x.name else if x.kind=6 then vP ls 2 x.name else if x.kind=7 then (decide (x.other=[]) || vP ls 1 x.other)&&vP ls 1 x.name else true
def lV(ls:List zF)(i:Nat):Int:=if vP (ls.take i) 1 (lA ls i).name || (vP (ls.take i) 2 (lA ls i).name || jX ls (lA ls i).name) then 4 else 0
def iF(ls:List zF)(i:Nat):Int:=if lV ls i=0 then (if (lA ls i).high<(lA ls i).low then 5 else 0) else lV ls i
def bL(ls:List zF)(i:Nat):Int:=if vP (ls.take i) 3 (lA ls i).name || ((lA ls i).sum.any (fun x => !kD ls x) || (lA ls i).nd.any (fun x => !vB ls x)) then 4 else 0
def lK(ls:List zF)(x:zF):Int :=
 if qK ls x.name=ls.length\/qK ls x.lower=ls.length then 4
 else if x.name=x.lower\/(lA ls (qK ls x.name)).conc≠(lA ls (qK ls x.lower)).conc then 6 else 0
def pP(ls:List zF)(i:Nat):Int :=
 if (lA ls i).kind=1 then iF ls i else if (lA ls i).kind=2 then lV ls i else if (lA ls i).kind=3 then bL ls i else if (lA ls i).kind=4 then lK ls (lA ls i) else 0
def oE(c:Bs):Int:=if c=xK then 3 else if c=xW then 3 else if c=zQ then 8 else 28
def cB(c:Bs):List zG->Nat
 | []=>0
 | u::r=>(if cA u 0=c then 1 else 0)+cB c r
def wC(u:zG):Nat:=(mD u).toNat
def Jo(u:zG):Bool:=mK [] (u.take (wC u)) || (decide (4<(kH (u.take (wC u)):Int)+1) || (decide (6<(yD (u.length+1) (u.drop (wC u+1))).1) || decide (4<(yD (u.length+1) (u.drop (wC u+1))).2)))
def mA(us:List zG)(i:Nat):Bool:=decide (oE (cA (uA us i) 0)<(cB (cA (uA us i) 0) (us.take (i+1)):Int)) || (decide (cA (uA us i) 0=zQ)&&Jo (uA us i))
def vR(p:zG->Bool):List zG->Nat->Int
 | [],_ => -1
 | u::r,i=>if p u then (i:Int) else vR p r (i+1)
def aG(c:Bs)(at':Nat)(nm:Bs)(u:zG):Bool:=decide (cA u 0=c)&&decide (tA u at'=nm)
def zV(us:List zG)(c:Bs)(at':Nat)(nm:Bs):Int:=vR (aG c at' nm) us 0
theorem pO(us:List zG):∀i,-1<=vR p us i/\vR p us i<(i:Int)+us.length/\(0<=vR p us i->(i:Int)<=vR p us i):=by
 induction us with
 | nil=>intro i;simp[vR];omega
 | cons u r ih =>
   intro i;rw[vR];split
   ·simp;omega
   ·have:=ih (i+1);simp only[p7];omega
theorem oH(us:List zG):∀i,0<=vR p us i ↔ us.any p=true:=by
 induction us with
 | nil=>intro i;simp[vR]
 | cons u r ih =>
   intro i;rw[vR,mt];split
   ·rename_i h;simp[h]
   ·rename_i h;rw[ih];simp[h]
theorem sJ(us:List zG):∀(i n:Nat),(0<=vR p us i/\vR p us i<(i:Int)+n) ↔ (us.take n).any p=true:=by
 induction us with
 | nil=>intro i n;simp[vR]
 | cons u r ih =>
   intro i n
   cases n with
   | zero=>have:=pO p (u::r) i;simp;omega
   | succ n =>
     rw[vR,List.take_succ_cons,mt];split
     ·rename_i h;simp[h];omega
     ·rename_i h
      have:=ih (i+1) n;have h':p u=false:=by simpa using h
      rw[h',pm,<-this];omega
theorem Us(p:zF->Bool)(ls:List zF):∀i,i<=pA p ls i/\pA p ls i<=i+ls.length:=by
 induction ls with
 | nil=>intro i;simp[pA]
 | cons x r ih=>intro i;rw[pA];split
                ·simp
                ·have:=ih (i+1);simp only[p7];omega
theorem XZ{p:zF->Bool}{q:zG->Bool}:∀ {ls:List zF} {us:List zG},yQ ls us->(∀x u,LT x u->p x=q u)->∀i:Nat,(pA p ls i=i+ls.length/\vR q us i = -1)\/(pA p ls i<i+ls.length/\vR q us i=(pA p ls i:Int))
 | [],[],_,_,i=>.inl ⟨rfl,rfl⟩
 | x::xs,u::us,h,hpq,i=>by
   rw[pA,vR,<-hpq x u h.1,p7];split
   ·exact .inr ⟨by omega,rfl⟩
   ·rcases XZ h.2 hpq (i+1) with ⟨h1,h2⟩|⟨h1,h2⟩
    ·exact .inl ⟨by omega,h2⟩
    ·exact .inr ⟨by omega,h2⟩
 | [],_::_,h,_,_=>absurd h id
 | _::_,[],h,_,_=>absurd h id
theorem bD{p:zF->Bool}{q:zG->Bool}:∀ {ls:List zF} {us:List zG},yQ ls us->(∀x u,LT x u->p x=q u)->ls.any p=us.any q
 | [],[],_,_=>rfl
 | x::xs,u::us,h,hpq=>by rw[mt,mt,hpq x u h.1,bD h.2 hpq]
 | [],_::_,h,_=>absurd h id
 | _::_,[],h,_=>absurd h id
theorem LT.k1(h:LT x u):x.kind=1 ↔ cA u 0=xK:=by
 rcases h.kind with ⟨a,b,_⟩|⟨a,b⟩|⟨a,b,_⟩|⟨a,b,_⟩ <;> rw[a,b] <;> decide
theorem LT.k2(h:LT x u):x.kind=2 ↔ cA u 0=xW:=by
 rcases h.kind with ⟨a,b,_⟩|⟨a,b⟩|⟨a,b,_⟩|⟨a,b,_⟩ <;> rw[a,b] <;> decide
theorem LT.k3(h:LT x u):x.kind=3 ↔ cA u 0=zQ:=by
 rcases h.kind with ⟨a,b,_⟩|⟨a,b⟩|⟨a,b,_⟩|⟨a,b,_⟩ <;> rw[a,b] <;> decide
theorem LT.k4(h:LT x u):x.kind=4 ↔ cA u 0=tW:=by
 rcases h.kind with ⟨a,b,_⟩|⟨a,b⟩|⟨a,b,_⟩|⟨a,b,_⟩ <;> rw[a,b] <;> decide
theorem LT.rule(h:LT x u)(hk:cA u 0=zQ):∃w,Z2 x u w:=by
 rcases h.kind with ⟨a,b,_⟩|⟨a,b⟩|⟨a,b,_⟩|⟨a,b,hr⟩
 ·exact absurd (b.symm.trans hk) (by decide)
 ·exact absurd (b.symm.trans hk) (by decide)
 ·exact absurd (b.symm.trans hk) (by decide)
 ·exact hr
theorem LT.len(h:LT x u)(hk:cA u 0=zQ):6<=u.length:=by
 obtain⟨w,hw⟩:=h.rule hk;have:=hw.wlo;have:=hw.whi;omega
theorem Z2.wAt(h:Z2 x u w):wC u=w:=by unfold wC mD;rw[h.whenAt];rfl
theorem Z2.wB(h:Z2 x u w):mD u=w:=by unfold mD;rw[h.whenAt]
theorem Zm(h:LT x u)(k:Int)(c:Bs)(hk:(k=1/\c=xK)\/(k=2/\c=xW)\/(k=3/\c=zQ))(nm:Bs):Zn k nm x=aG c 1 nm u:=by
 unfold Zn aG;rw[h.name];rcases hk with ⟨rfl,rfl⟩|⟨rfl,rfl⟩|⟨rfl,rfl⟩
 ·rw[bp.2 h.k1]
 ·rw[bp.2 h.k2]
 ·rw[bp.2 h.k3]
theorem VW(h:LT x u)(nm:Bs):KX nm x=aG zQ 3 nm u:=by
 unfold KX aG;rw[bp.2 h.k3];by_cases hk:cA u 0=zQ
 ·obtain⟨w,hw⟩:=h.rule hk
  rw[hw.conc]
 ·rw[th hk];rfl
theorem ji(h:LT x u):Zj x.kind=oE (cA u 0):=by
 rcases h.kind with ⟨a,b,_⟩|⟨a,b⟩|⟨a,b,_⟩|⟨a,b,_⟩ <;> rw[a,b] <;> decide
theorem DJ{y:zF}{v:zG}(h:LT x u)(h':LT y v):x.kind=y.kind ↔ cA u 0=cA v 0:=by
 rcases h.kind with ⟨a,b,_⟩|⟨a,b⟩|⟨a,b,_⟩|⟨a,b,_⟩ <;> rcases h'.kind with ⟨a',b',_⟩|⟨a',b'⟩|⟨a',b',_⟩|⟨a',b',_⟩ <;> rw[a,b,a',b'] <;> decide
theorem Uz{y:zF}{v:zG}(hy:LT y v):∀ {ls:List zF} {us:List zG},yQ ls us->uW y.kind ls=cB (cA v 0) us
 | [],[],_=>rfl
 | x::xs,u::us,h=>by
   rw[uW,cB,Uz hy h.2];by_cases hk:x.kind=y.kind
   ·rw[tj hk,tj ((DJ h.1 hy).1 hk)]
   ·rw[tg hk,tg (fun e=>hk ((DJ h.1 hy).2 e))]
 | [],_::_,h=>absurd h id
 | _::_,[],h=>absurd h id
theorem zi(c:Bs)(us:List zG):∀i,i<us.length->cB c (us.take (i+1))=cB c (us.take i)+(if cA (uA us i) 0=c then 1 else 0):=by
 induction us with
 | nil=>intro i h;simp at h
 | cons u r ih =>
   intro i h
   cases i with
   | zero=>simp[cB,uA]
   | succ i =>
     rw[List.take_succ_cons,cB,ih i (by simpa using h),List.take_succ_cons,cB,show uA (u::r) (i+1)=uA r i from rfl];omega
theorem Gw(h:LT x u)(hk:cA u 0=zQ):Jn x=Jo u:=by
 obtain⟨w,hw⟩:=h.rule hk;unfold Jn Jo pW;rw[hw.wAt,hw.big,hw.wt (u.length+1) (by rw[ty];omega)];have e:((kH (u.take w):Int)+1)=(x.sum.length:Int):=by have:=hw.parts;omega
 rw[e,show decide (4<x.sum.length)=decide ((4:Int)<(x.sum.length:Int)) by rw[bp];omega];generalize decide ((4:Int)<(x.sum.length:Int))=a;generalize x.sum.any tC=b;show (decide (6<x.tests) || (decide (4<x.dep) || (a || b)))=(b || (a || (decide (6<x.tests) || decide (4<x.dep))));cases a <;> cases b <;> cases decide (6<x.tests) <;> cases decide (4<x.dep) <;> rfl
theorem CO(h:yQ ls us){i:Nat}(hi:i<us.length):mA us i=mJ ls i:=by
 have hx:=h.get i hi;unfold mA mJ;rw[zi _ _ i hi,tj rfl,<-ji hx,Uz hx (h.take i)];have e:decide (Zj (lA ls i).kind<((cB (cA (uA us i) 0) (us.take i)+1:Nat):Int))=decide (Zj (lA ls i).kind<=(cB (cA (uA us i) 0) (us.take i):Int)):=by rw[bp];omega
 rw[e];congr 1
 rw[bp.2 hx.k3];by_cases hk:cA (uA us i) 0=zQ
 ·rw[Gw hx hk]
 ·rw[th hk];rfl
def tE(us:List zG)(nm:Bs):Bool:=decide (0<=zV us xK 1 nm)
def tG(us:List zG)(nm:Bs):Bool:=decide (0<=zV us xW 1 nm)
def tF(us:List zG)(nm:Bs):Bool:=decide (0<=zV us zQ 3 nm)
def D4(u:zG)(k:Nat):Bs:=if k+1<u.length then cA u (k+1) else []
def XO(u:zG)(k:Nat):Nat:=if k<wC u then 0 else mU (cA u (k-1)) (D4 u k)
def x8(us:List zG)(y:Nat × Bs):Bool:=if y.1=0 then tE us y.2 || tF us y.2 else if y.1=1 then tF us y.2 else if y.1=2 then tE us y.2 else tG us y.2
def bA(us:List zG)(u:zG)(k:Nat):Bool:=x8 us (XO u k,tA u k)
def gM(us:List zG)(u:zG):Nat->Nat->Bool
 | 0,_=>false
 | n+1,k=>if cA u k=yT/\bA us u k=false then true else gM us u n (k+1)
def xI(us:List zG)(i:Nat):Bool :=
 if cA (uA us i) 0=xK\/cA (uA us i) 0=xW then
  (decide (0<=zV us xK 1 (tA (uA us i) 1))&&decide (zV us xK 1 (tA (uA us i) 1)<(i:Int))) || ((decide (0<=zV us xW 1 (tA (uA us i) 1))&&decide (zV us xW 1 (tA (uA us i) 1)<(i:Int))) || tF us (tA (uA us i) 1))
 else if cA (uA us i) 0=tW then decide (zV us zQ 1 (tA (uA us i) 1)<0) || decide (zV us zQ 1 (tA (uA us i) 2)<0)
 else decide (zV us zQ 1 (tA (uA us i) 1)<(i:Int)) || gM us (uA us i) ((uA us i).length-5) 5
def Jh(us:List zG)(u:zG):Bool:=decide (tA u 1=tA u 2) || !decide (tA (uA us (zV us zQ 1 (tA u 1)).toNat) 3=tA (uA us (zV us zQ 1 (tA u 2)).toNat) 3)
def jU(us:List zG)(i:Nat):Int :=
 if xI us i=true then 4
 else if cA (uA us i) 0=xK then (if xF 0 (tA (uA us i) 4)<xF 0 (tA (uA us i) 2) then 5 else 0)
 else if cA (uA us i) 0=tW then (if Jh us (uA us i)=true then 6 else 0) else 0
theorem X4(u:zG)(k:Nat):Yq (u.drop (k+1)) []=D4 u k:=by
 unfold D4;split
 ·rename_i h;rw[zJ u (k+1) h];rfl
 ·rename_i h;rw[tu (by omega)];rfl
theorem CS(us:List zG)(u:zG)(n:Nat):∀k,wC u<k->k+n=u.length->gM us u n k=(qT (cA u (k-1)) (u.drop k) []).any (fun y => !x8 us y):=by
 induction n with
 | zero=>intro k _ h;rw[tu (by omega)];rfl
 | succ n ih =>
   intro k hk h;have zIB:k<u.length:=by omega
   rw[zJ u k zIB,qT,gM,X4,ih (k+1) (by omega) (by omega),show k+1-1=k by omega];show _=((if cA u k=yT then [(mU (cA u (k-1)) (D4 u k),tA u k)] else [])++qT (cA u k) (u.drop (k+1)) []).any _;have hf:bA us u k=x8 us (mU (cA u (k-1)) (D4 u k),tA u k):=by unfold bA XO;rw[tg (by omega)]
   by_cases hc:cA u k=yT
   ·rw[tj hc,df]
    by_cases ho:bA us u k=false
    ·rw[tj ⟨hc,ho⟩];rw[hf]at ho;simp[ho]
    ·rw[tg (fun h=>ho h.2)]
     have ho':x8 us (mU (cA u (k-1)) (D4 u k),tA u k)=true:=by rw[<-hf];simpa using ho
     simp[ho']
   ·rw[tg hc,tg (fun h=>hc h.1),bf]
theorem zB5(us:List zG)(u:zG)(hw:wC u=w)(hwl:w<u.length)(n:Nat):∀k,k+n=w->gM us u (u.length-k) k=((cI ((u.take w).drop k)).any (fun y => !x8 us y) || gM us u (u.length-w) w):=by
 induction n with
 | zero=>intro k h;obtain rfl:k=w:=by omega
         rw[tu (by rw[p9];omega)];rfl
 | succ n ih =>
   intro k h;have zIB:k<(u.take w).length:=by rw[p9];omega
   have e0:(u.take w).getD k (0,[])=u.getD k (0,[]):=by rw[List.getD,List.getD,List.getElem?_take_of_lt (by omega)]
   rw[show u.length-k=(u.length-(k+1))+1 by omega,gM,ih (k+1) (by omega),zJ (u.take w) k zIB,e0,cI];show _=(((if cA u k=yT then [(0,tA u k)] else [])++cI ((u.take w).drop (k+1))).any _ || _);have hf:bA us u k=x8 us (0,tA u k):=by unfold bA XO;rw[hw,tj (by omega)]
   by_cases hc:cA u k=yT
   ·rw[tj hc,df]
    by_cases ho:bA us u k=false
    ·rw[tj ⟨hc,ho⟩];rw[hf]at ho;simp[ho]
    ·rw[tg (fun h=>ho h.2)]
     have ho':x8 us (0,tA u k)=true:=by rw[<-hf];simpa using ho
     simp[ho']
   ·rw[tg hc,tg (fun h=>hc h.1),bf]
theorem zEE(us:List zG)(h:Z2 x u w)(hc:cA u w=xO):gM us u (u.length-5) 5=((x.sum.flatMap rR).any (fun y => !x8 us y) || (tD x.nd).any (fun y => !x8 us y)):=by
 have h1:=h.wlo;have h2:=h.whi;rw[zB5 us u h.wAt (by omega) (w-5) 5 (by omega),h.needs];congr 1
 rw[show u.length-w=(u.length-(w+1))+1 by omega,gM,tg (fun e=>absurd (hc.symm.trans e.1) (by decide)),CS us u _ (w+1) (by rw[h.wAt];omega) (by omega),show w+1-1=w by omega,hc,h.needs2]
theorem Za(h:yQ ls us)(nm:Bs):tE us nm=vP ls 1 nm:=by
 unfold tE vP zV;rw[bD h (fun x u hx=>Zm hx 1 xK (.inl ⟨rfl,rfl⟩) nm),ct,pr,oH]
theorem ZP(h:yQ ls us)(nm:Bs):tG us nm=vP ls 2 nm:=by
 unfold tG vP zV;rw[bD h (fun x u hx=>Zm hx 2 xW (.inr (.inl ⟨rfl,rfl⟩)) nm),ct,pr,oH]
theorem ZJ(h:yQ ls us)(nm:Bs):tF us nm=jX ls nm:=by
 unfold tF jX zV;rw[bD h (fun x u hx=>VW hx nm),ct,pr,oH]
theorem D3(h:yQ ls us)(y:Nat × Bs):x8 us y=rZ ls y:=by
 unfold x8 rZ Xk;rw[Za h,ZP h,ZJ h]
theorem FV(ls:List zF)(S:List yX):(S.flatMap rR).any (fun y => !rZ ls y)=S.any (fun x => !kD ls x):=by
 induction S with
 | nil=>rfl
 | cons x r ih =>
   rw[ff,df,ih,mt];congr 1
   unfold rR kD;by_cases h:x.name=[]
   ·rw[tj h,tm h];rfl
   ·rw[tg h,th h];simp[rZ]
theorem Gj(ls:List zF)(N:List zX):(tD N).any (fun y => !rZ ls y)=N.any (fun x => !vB ls x):=by
 induction N with
 | nil=>rfl
 | cons x r ih =>
   unfold tD at ih ⊢;rw[ff,df,ih,mt];congr 1
   unfold V3 vB;by_cases h5:x.kind=5
   ·rw[tj h5,tj h5];simp[rZ]
   ·rw[tg h5,tg h5]
    by_cases h6:x.kind=6
    ·rw[tj h6,tj h6];simp[rZ]
    ·rw[tg h6,tg h6]
     by_cases h7:x.kind=7
     ·rw[tj h7,tj h7]
      by_cases ho:x.other=[]
      ·rw[tj ho,tm ho];simp[rZ]
      ·rw[tg ho,th ho]
       show ((!vP ls 1 x.name) || ((!vP ls 1 x.other) || false)) = !((false || vP ls 1 x.other)&&vP ls 1 x.name);cases vP ls 1 x.name <;> cases vP ls 1 x.other <;> rfl
     ·rw[tg h7,tg h7];rfl
theorem fJ(h:yQ ls us)(k:Int)(c:Bs)(hk:(k=1/\c=xK)\/(k=2/\c=xW)\/(k=3/\c=zQ))(nm:Bs)(i:Nat):(decide (0<=zV us c 1 nm)&&decide (zV us c 1 nm<(i:Int)))=vP (ls.take i) k nm:=by
 unfold vP zV;rw[bD (h.take i) (fun x u hx=>Zm hx k c hk nm),ct,tz,pr,pr,<-sJ (aG c 1 nm) us 0 i];simp
theorem Jv(h:yQ ls us)(nm:Bs):(qK ls nm=ls.length/\zV us zQ 1 nm = -1)\/(qK ls nm<ls.length/\zV us zQ 1 nm=(qK ls nm:Int)):=by
 have:=XZ h (fun x u hx=>Zm hx 3 zQ (.inr (.inr ⟨rfl,rfl⟩)) nm) 0;unfold qK zV;simpa using this
theorem Jx(p:zF->Bool)(ls:List zF):∀i,pA p ls i<i+ls.length->p (lA ls (pA p ls i-i))=true:=by
 induction ls with
 | nil=>intro i h;simp[pA]at h
 | cons x r ih =>
   intro i h;rw[pA]at h ⊢;split
   ·rename_i hp;simpa[lA] using hp
   ·rename_i hp
    rw[tg hp]at h;have h1:=(Us p r (i+1)).1;have:=ih (i+1) (by rw[p7]at h;omega);rw[show pA p r (i+1)-i=(pA p r (i+1)-(i+1))+1 by omega];exact this
theorem Qe(h:yQ ls us){i:Nat}(hi:i<us.length):jU us i=pP ls i:=by
 have hx:=h.get i hi;unfold jU;rcases hx.kind with ⟨a,b,_,_,_,d1,d2⟩|⟨a,b⟩|⟨a,b,_,d⟩|⟨a,b,d⟩
 ·have e:xI us i=decide (lV ls i=4):=by
   unfold xI lV;rw[tj (.inl b),fJ h 1 xK (.inl ⟨rfl,rfl⟩),fJ h 2 xW (.inr (.inl ⟨rfl,rfl⟩)),ZJ h,hx.name];generalize (vP (ls.take i) 1 (lA ls i).name || (vP (ls.take i) 2 (lA ls i).name || jX ls (lA ls i).name))=z;cases z <;> decide
  have eR:pP ls i=iF ls i:=by unfold pP;rw[tj a]
  rw[e,eR,tj b,d1,d2];unfold iF;have h4:lV ls i=4\/lV ls i=0:=by unfold lV;split;exact .inl rfl;exact .inr rfl
  rcases h4 with h4|h4
  ·rw[h4];simp
  ·rw[h4];simp
 ·have e:xI us i=decide (lV ls i=4):=by
   unfold xI lV;rw[tj (.inr b),fJ h 1 xK (.inl ⟨rfl,rfl⟩),fJ h 2 xW (.inr (.inl ⟨rfl,rfl⟩)),ZJ h,hx.name];generalize (vP (ls.take i) 1 (lA ls i).name || (vP (ls.take i) 2 (lA ls i).name || jX ls (lA ls i).name))=z;cases z <;> decide
  have eR:pP ls i=lV ls i:=by unfold pP;rw[tg (by rw[a];decide),tj a]
  rw[e,eR,tg (show ¬cA (uA us i) 0=xK by rw[b];decide),tg (show ¬cA (uA us i) 0=tW by rw[b];decide)];have h4:lV ls i=4\/lV ls i=0:=by unfold lV;split;exact .inl rfl;exact .inr rfl
  rcases h4 with h4|h4 <;> rw[h4] <;> rfl
 ·have eR:pP ls i=lK ls (lA ls i):=by unfold pP;rw[tg (by rw[a];decide),tg (by rw[a];decide),tg (by rw[a];decide),tj a]
  rw[eR,tg (show ¬cA (uA us i) 0=xK by rw[b];decide),tj b]
  have eN:xI us i=(decide (zV us zQ 1 (tA (uA us i) 1)<0) || decide (zV us zQ 1 (tA (uA us i) 2)<0)):=by
   unfold xI;rw[tg (show ¬(cA (uA us i) 0=xK\/cA (uA us i) 0=xW) by rw[b];decide),tj b]
  have hl:=h.len;rw[hx.name,d]at eN;rcases Jv h (lA ls i).name with ⟨f1,f2⟩|⟨f1,f2⟩
  ·have e1:lK ls (lA ls i)=4:=by unfold lK;rw[tj (.inl f1)]
   rw[e1,tj (by rw[eN,f2];rfl)]
  ·rcases Jv h (lA ls i).lower with ⟨g1,g2⟩|⟨g1,g2⟩
   ·have e1:lK ls (lA ls i)=4:=by unfold lK;rw[tj (.inr g1)]
    rw[e1,tj (by rw[eN,g2];simp)]
   ·have e1:lK ls (lA ls i)=if (lA ls i).name=(lA ls i).lower\/(lA ls (qK ls (lA ls i).name)).conc≠(lA ls (qK ls (lA ls i).lower)).conc then 6 else 0:=by
     unfold lK;rw[tg (by rintro(e|e) <;> omega)]
    have e2:xI us i=false:=by
     rw[eN,f2,g2,th (by omega),th (by omega)];rfl
    have q1:=h.get (qK ls (lA ls i).name) (by omega);have q2:=h.get (qK ls (lA ls i).lower) (by omega);have p1:Zn 3 (lA ls i).name (lA ls (qK ls (lA ls i).name))=true:=Jx (Zn 3 (lA ls i).name) ls 0 (by rw[l8];exact f1);have p2:Zn 3 (lA ls i).lower (lA ls (qK ls (lA ls i).lower))=true:=Jx (Zn 3 (lA ls i).lower) ls 0 (by rw[l8];exact g1)
    have p1':(lA ls (qK ls (lA ls i).name)).kind=3:=by
     unfold Zn at p1;rw[tz]at p1;simpa using p1.1
    have p2':(lA ls (qK ls (lA ls i).lower)).kind=3:=by
     unfold Zn at p2;rw[tz]at p2;simpa using p2.1
    obtain⟨w1,r1⟩:=q1.rule (q1.k3.1 p1');obtain⟨w2,r2⟩:=q2.rule (q2.k3.1 p2')
    have e3:Jh us (uA us i)=(decide ((lA ls i).name=(lA ls i).lower) || !decide ((lA ls (qK ls (lA ls i).name)).conc=(lA ls (qK ls (lA ls i).lower)).conc)):=by
     unfold Jh;rw[hx.name,d,f2,g2,Int.toNat_natCast,Int.toNat_natCast,r1.conc,r2.conc]
    rw[e1,e3,tg (by rw[e2];decide)];by_cases c1:(lA ls i).name=(lA ls i).lower
    ·simp[c1]
    ·by_cases c2:(lA ls (qK ls (lA ls i).name)).conc=(lA ls (qK ls (lA ls i).lower)).conc
     ·simp[c1,c2]
     ·simp[c1,c2]
 ·obtain⟨w,hw⟩:=d
  have eR:pP ls i=bL ls i:=by unfold pP;rw[tg (by rw[a];decide),tg (by rw[a];decide),tj a]
  rw[eR,tg (show ¬cA (uA us i) 0=xK by rw[b];decide),tg (show ¬cA (uA us i) 0=tW by rw[b];decide)]
  have hcw:cA (uA us i) w=xO:=by
   have hwhen:∀(u:zG) (k j:Nat),mR u k=some j->k<=j/\cA u (j-k)=xO:=by
    intro u
    induction u with
    | nil=>intro k j h;simp[mR]at h
    | cons t r ih =>
      intro k j h;rw[mR]at h;split at h
      ·rename_i ht
       obtain rfl:=co h;exact⟨t9 _,by rw[bj];exact ht⟩
      ·obtain⟨h1,h2⟩:=ih (k+1) j h
       refine⟨by omega,?_⟩;rw[show j-k=(j-(k+1))+1 by omega];exact h2
   have:=(hwhen _ 0 w hw.whenAt).2;simpa using this
  have e:xI us i=(vP (ls.take i) 3 (lA ls i).name || ((lA ls i).sum.any (fun x => !kD ls x) || (lA ls i).nd.any (fun x => !vB ls x))):=by
   unfold xI;rw[tg (show ¬(cA (uA us i) 0=xK\/cA (uA us i) 0=xW) by rw[b];decide),tg (show ¬cA (uA us i) 0=tW by rw[b];decide),zEE us hw hcw,hx.name]
   have h0:0<=zV us zQ 1 (lA ls i).name:=by
    unfold zV;rw[oH];refine mj.2 ⟨uA us i,?_,?_⟩
    ·unfold uA;rw[List.getD,pe hi];exact List.getElem_mem hi
    ·unfold aG;rw[hx.name,tm b];simp
   have:=fJ h 3 zQ (.inr (.inr ⟨rfl,rfl⟩)) (lA ls i).name i;rw[tm h0,md]at this;rw[this,<-FV,<-Gj];congr 1
   congr 1
   ·congr 1;funext y;rw[D3 h]
   ·congr 1;funext y;rw[D3 h]
  rw[e];unfold bL;generalize (vP (ls.take i) 3 (lA ls i).name || ((lA ls i).sum.any (fun x => !kD ls x) || (lA ls i).nd.any (fun x => !vB ls x)))=z;cases z <;> rfl
end Go.Proofs.YtnbpdffdnphbeaaGreatDoor
