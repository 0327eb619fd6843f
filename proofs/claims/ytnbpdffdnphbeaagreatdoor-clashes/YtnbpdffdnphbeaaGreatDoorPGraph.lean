import Derived.Test.YtnbpdffdnphbeaaGreatDoorPure5
namespace Go.Proofs.YtnbpdffdnphbeaaGreatDoor
variable{G:List Bool}{ls:List zF}{us:List zG}{a b w:Nat}{x:zF}{u:zG}(m:Nat->Nat->Bool)(i:Nat)(p:zG->Bool)(fr:Bool)(N:Nat)(s:List Bool)(n:Nat)
def TC(M:Nat->Nat->Prop)(a b:Nat):Prop:=∀R:Nat->Nat->Prop,(∀x y,M x y->R x y)->(∀x y z,R x y->R y z->R x z)->R a b
theorem TC.one{M:Nat->Nat->Prop}(h:M a b):TC M a b:=fun _ h1 _=>h1 _ _ h
theorem TC.trans{M:Nat->Nat->Prop}{c:Nat}(h:TC M a b)(h':TC M b c):TC M a c:=fun R h1 h2=>h2 _ _ _ (h R h1 h2) (h' R h1 h2)
theorem TC.mono{M M':Nat->Nat->Prop}(hm:∀x y,M x y->M' x y)(h:TC M a b):TC M' a b:=fun R h1 h2=>h R (fun x y h3=>h1 x y (hm x y h3)) h2
def gA(G:List Bool)(a b:Nat):Bool:=G.getD (a*8+b) false
def wS(q:Nat)(G:List Bool):List Bool:=if gA G (q%64/8) (q/64)&&gA G (q/64) (q%8) then G.set (q%64) true else G
def wA:Nat->Nat->List Bool->List Bool
 | 0,_,G=>G
 | n+1,q,G=>wA n (q+1) (wS q G)
def xE(G:List Bool):List Bool:=wA 512 0 G
theorem zFA(q:Nat)(G:List Bool):(wS q G).length=G.length:=by unfold wS;split <;> simp
theorem eO:∀q G,(wA n q G).length=G.length:=by
 induction n with
 | zero=>intro q G;rfl
 | succ n ih=>intro q G;rw[wA,ih,zFA]
theorem vg:∀m q G,wA (n+m) q G=wA m (q+n) (wA n q G):=by
 induction n with
 | zero=>intro m q G;simp[wA]
 | succ n ih=>intro m q G;rw[show n+1+m=(n+m)+1 by omega,wA,wA,ih,show q+1+n=q+(n+1) by omega]
theorem CK(hl:G.length=64){p:Nat}(hp:p<64):gA (G.set p true) a b=(gA G a b || decide (a*8+b=p)):=by
 unfold gA;simp only[l8,List.getElem?_set];by_cases h:p=a*8+b
 ·subst h;simp[hl,hp]
 ·rw[tg h,th (fun e=>h e.symm),Bool.or_false]
theorem zFB(hl:G.length=64){m:Nat}(hm:m<8)(p:Nat):p<=64->∀a b,a<8->b<8->gA (wA p (m*64) G) a b=(gA G a b || (decide (a*8+b<p)&&(gA G a m&&gA G m b))):=by
 induction p with
 | zero=>intro _ a b _ _;simp[wA]
 | succ p ih =>
   intro hp a b ha hb;have ih:=ih (by omega);rw[vg p 1,wA,wA];have e1:(m*64+p)%64=p:=by omega
   have e2:(m*64+p)/64=m:=by omega
   have e3:(m*64+p)%8=p%8:=by omega
   unfold wS;rw[e1,e2,e3];have hl2:(wA p (m*64) G).length=64:=by rw[eO,hl]
   have k1:=ih (p/8) m (by omega) hm;have k2:=ih m (p%8) hm (by omega);have k3:=ih a b ha hb;generalize wA p (m*64) G=H at *;have c1:gA H (p/8) m=gA G (p/8) m:=by rw[k1];cases gA G (p/8) m <;> simp
   have c2:gA H m (p%8)=gA G m (p%8):=by rw[k2];cases gA G m (p%8) <;> simp
   rw[c1,c2];by_cases hab:a*8+b=p
   ·have ea:p/8=a:=by omega
    have eb:p%8=b:=by omega
    rw[ea,eb];have d1:decide (a*8+b<p+1)=true:=by simp;omega
    rw[d1];split
    ·rename_i h;rw[CK hl2 (by omega),k3,h];simp[hab]
    ·rename_i h;rw[k3];have:(gA G a m&&gA G m b)=false:=by simpa using h
     rw[this];simp
   ·have d1:decide (a*8+b<p+1)=decide (a*8+b<p):=by by_cases h:a*8+b<p <;> simp[h] <;> omega
    rw[d1,<-k3];split
    ·rw[CK hl2 (by omega),th hab,Bool.or_false]
    ·rfl
theorem Bl(hl:G.length=64){m:Nat}(hm:m<8)(ha:a<8)(hb:b<8):gA (wA 64 (m*64) G) a b=(gA G a b || (gA G a m&&gA G m b)):=by
 rw[zFB hl hm 64 (t9 _) a b ha hb,tm (by omega:a*8+b<64),md]
def KI(G:List Bool)(a b:Nat):Prop:=a<8/\b<8/\gA G a b=true
theorem zBR(hl:G.length=64)(m:Nat):m<=8->(∀a b,KI G a b->KI (wA (m*64) 0 G) a b)/\(∀a b,KI (wA (m*64) 0 G) a b->TC (KI G) a b)/\(∀k,k<m->∀a b,KI (wA (m*64) 0 G) a k->KI (wA (m*64) 0 G) k b->KI (wA (m*64) 0 G) a b):=by
 induction m with
 | zero=>intro _;refine⟨fun a b h=>by simpa[wA] using h,fun a b h=>TC.one (by simpa[wA] using h),fun k hk=>by omega⟩
 | succ m ih =>
   intro hm;obtain⟨i1,i2,i3⟩:=ih (by omega);rw[show (m+1)*64=m*64+64 by omega,vg,lu];have hl2:(wA (m*64) 0 G).length=64:=by rw[eO,hl]
   generalize wA (m*64) 0 G=H at *
   have key:∀a b,KI (wA 64 (m*64) H) a b ↔ (KI H a b\/KI H a m/\KI H m b):=by
    intro a b;constructor
    ·rintro⟨ha,hb,h⟩
     rw[Bl hl2 (by omega) ha hb,mz,tz]at h;rcases h with h|⟨h,h'⟩
     ·exact .inl ⟨ha,hb,h⟩
     ·exact .inr ⟨⟨ha,by omega,h⟩,⟨by omega,hb,h'⟩⟩
    ·rintro(⟨ha,hb,h⟩|⟨⟨ha,_,h⟩,⟨_,hb,h'⟩⟩)
     ·exact⟨ha,hb,by rw[Bl hl2 (by omega) ha hb,h];rfl⟩
     ·exact⟨ha,hb,by rw[Bl hl2 (by omega) ha hb,h,h'];simp⟩
   refine⟨fun a b h=>(key a b).2 (.inl (i1 a b h)),fun a b h=>?_,fun k hk a b h1 h2=>?_⟩
   ·rcases(key a b).1 h with h|⟨h,h'⟩
    ·exact i2 _ _ h
    ·exact(i2 _ _ h).trans (i2 _ _ h')
   ·rw[key]at h1 h2 ⊢
    by_cases hkm:k=m
    ·subst hkm
     refine .inr ⟨?_,?_⟩
     ·rcases h1 with h1|h1
      ·exact h1
      ·exact h1.1
     ·rcases h2 with h2|h2
      ·exact h2
      ·exact h2.2
    ·have hk':k<m:=by omega
     rcases h1 with h1|⟨h1,h1'⟩ <;> rcases h2 with h2|⟨h2,h2'⟩
     ·exact .inl (i3 k hk' _ _ h1 h2)
     ·exact .inr ⟨i3 k hk' _ _ h1 h2,h2'⟩
     ·exact .inr ⟨h1,i3 k hk' _ _ h1' h2⟩
     ·exact .inr ⟨h1,h2'⟩
theorem iT(hl:G.length=64)(a b:Nat):KI (xE G) a b ↔ TC (KI G) a b:=by
 obtain⟨h1,h2,h3⟩:=zBR hl 8 (t9 _);refine⟨h2 a b,fun h=>h _ h1 (fun x y z h4 h5=>h3 y ?_ x z h4 h5)⟩;exact h4.2.1
def Yy(G:List Bool):Nat->Nat->Nat
 | 0,_=>8
 | n+1,a=>if gA G a a then a else Yy G n (a+1)
def sF(G:List Bool):Nat:=Yy G 8 0
theorem ja(G:List Bool)(n:Nat):∀a,a+n=8->(Yy G n a<8 ↔ ∃b,a<=b/\b<8/\gA G b b=true):=by
 induction n with
 | zero=>intro a h;simp[Yy];intro b h1 h2;omega
 | succ n ih =>
   intro a h;rw[Yy];split
   ·rename_i hg;exact⟨fun _=>⟨a,t9 _,by omega,hg⟩,fun _=>by omega⟩
   ·rename_i hg
    rw[ih (a+1) (by omega)];constructor
    ·rintro⟨b,h1,h2,h3⟩;exact⟨b,by omega,h2,h3⟩
    ·rintro⟨b,h1,h2,h3⟩
     refine⟨b,?_,h2,h3⟩;rcases po a b with h4|h4
     ·exact h4
     ·exfalso;have:b=a:=by omega
      subst this;exact hg h3
def jY(G:List Bool):Bool:=decide (sF (xE G)<8)
theorem Jk(hl:G.length=64):jY G=true ↔ ∃a,a<8/\TC (KI G) a a:=by
 unfold jY sF;rw[pr,ja _ 8 0 rfl];constructor
 ·rintro⟨b,_,h1,h2⟩;exact⟨b,h1,(iT hl b b).1 ⟨h1,h1,h2⟩⟩
 ·rintro⟨b,h1,h2⟩;exact⟨b,tr _,h1,((iT hl b b).2 h2).2.2⟩
def lY(m:Nat->Nat->Bool)(fr:Bool)(x:Nat):Nat->Nat->List Bool->List Bool
 | 0,_,s=>s
 | n+1,y,s=>lY m fr x n (y+1) (if fr&&m x y then s.set y true else s)
def zGF(i x:Nat)(s:List Bool):Bool:=decide (x=i) || s.getD x false
def lX(m:Nat->Nat->Bool)(i N:Nat):Nat->Nat->List Bool->List Bool
 | 0,_,s=>s
 | n+1,x,s=>lX m i N n (x+1) (lY m (zGF i x s) x N 0 s)
def lN(m:Nat->Nat->Bool)(i N:Nat):Nat->List Bool->List Bool
 | 0,s=>s
 | n+1,s=>lN m i N n (lX m i N N 0 s)
def lV(m:Nat->Nat->Bool)(N i k:Nat):Bool:=(lN m i N (N+1) (List.replicate N false)).getD k false
theorem jl(x n:Nat):∀y s,(lY m fr x n y s).length=s.length:=by
 induction n with
 | zero=>intro y s;rfl
 | succ n ih=>intro y s;rw[lY,ih];split <;> simp
theorem jn:∀x s,(lX m i N n x s).length=s.length:=by
 induction n with
 | zero=>intro x s;rfl
 | succ n ih=>intro x s;rw[lX,ih,jl]
theorem zGD:∀s,(lN m i N n s).length=s.length:=by
 induction n with
 | zero=>intro s;rfl
 | succ n ih=>intro s;rw[lN,ih,jn]
theorem Up(y z:Nat):(s.set y true).getD z false=(s.getD z false || (decide (z=y)&&decide (y<s.length))):=by
 simp only[l8,List.getElem?_set];by_cases h:y=z
 ·subst h
  by_cases h2:y<s.length
  ·simp[h2]
  ·simp[h2]
 ·have h':¬z=y:=fun e=>h e.symm
  simp[h,h']
theorem ji(x n:Nat):∀y s z,s.getD z false=true->(lY m fr x n y s).getD z false=true:=by
 induction n with
 | zero=>intro y s z h;exact h
 | succ n ih =>
   intro y s z h;rw[lY];refine ih _ _ _ ?_;split
   ·rw[Up,h];rfl
   ·exact h
theorem zEQ:∀x s z,s.getD z false=true->(lX m i N n x s).getD z false=true:=by
 induction n with
 | zero=>intro x s z h;exact h
 | succ n ih=>intro x s z h;rw[lX];exact ih _ _ _ (ji _ _ _ _ _ _ _ h)
theorem zGB(x n:Nat):∀y s z,y<=z->z<y+n->z<s.length->m x z=true->(lY m true x n y s).getD z false=true:=by
 induction n with
 | zero=>intro y s z h1 h2;omega
 | succ n ih =>
   intro y s z h1 h2 h3 h4;rw[lY];by_cases h:y=z
   ·subst h;refine ji _ _ _ _ _ _ _ ?_
    rw[h4];simp[h3]
   ·refine ih _ _ _ (by omega) (by omega) ?_ h4
    split <;> simp[h3]
theorem zGC:∀x s x0 z,x<=x0->x0<x+n->z<N->s.length=N->(x0=i\/s.getD x0 false=true)->m x0 z=true->(lX m i N n x s).getD z false=true:=by
 induction n with
 | zero=>intro x s x0 z h1 h2;omega
 | succ n ih =>
   intro x s x0 z h1 h2 h3 h4 h5 h6;rw[lX];by_cases h:x=x0
   ·subst h;refine zEQ _ _ _ _ _ _ _ ?_
    have e:zGF i x s=true:=by unfold zGF;exact h5.elim (fun h=>by simp[h]) (fun h=>by rw[h,dy])
    rw[e];exact zGB _ _ _ _ _ _ (tr _) (by omega) (by omega) h6
   ·refine ih _ _ x0 z (by omega) (by omega) h3 (by rw[jl,h4]) ?_ h6
    rcases h5 with h5|h5
    ·exact .inl h5
    ·exact .inr (ji _ _ _ _ _ _ _ h5)
def Vb(m:Nat->Nat->Bool)(N:Nat)(a b:Nat):Prop:=a<N/\b<N/\m a b=true
theorem jk{m:Nat->Nat->Bool}{i N:Nat}(x:Nat)(hx:x<N)(fr:Bool)(hfr:fr=true->x=i\/TC (Vb m N) i x)(n:Nat):∀y s,y+n=N->(∀z,s.getD z false=true->TC (Vb m N) i z)->∀z,(lY m fr x n y s).getD z false=true->TC (Vb m N) i z:=by
 induction n with
 | zero=>intro y s _ h;exact h
 | succ n ih =>
   intro y s hy h;rw[lY];refine ih _ _ (by omega) ?_;intro z hz;split at hz
   ·rename_i hc
    rw[tz]at hc;rw[Up,mz,tz]at hz;rcases hz with hz|⟨hz,_⟩
    ·exact h z hz
    ·have e:z=y:=by simpa using hz
     subst e;have h1:Vb m N x z:=⟨hx,by omega,hc.2⟩;rcases hfr hc.1 with h2|h2
     ·rw[<-h2];exact TC.one h1
     ·exact h2.trans (TC.one h1)
   ·exact h z hz
theorem jm{m:Nat->Nat->Bool}{i N:Nat}:∀x s,x+n=N->(∀z,s.getD z false=true->TC (Vb m N) i z)->∀z,(lX m i N n x s).getD z false=true->TC (Vb m N) i z:=by
 induction n with
 | zero=>intro x s _ h;exact h
 | succ n ih =>
   intro x s hx h;rw[lX];refine ih _ _ (by omega) (jk x (by omega) _ ?_ N 0 s (by omega) h);intro hf;unfold zGF at hf;rw[mz]at hf;rcases hf with hf|hf
   ·exact .inl (by simpa using hf)
   ·exact .inr (h x hf)
theorem jo{m:Nat->Nat->Bool}{i N:Nat}:∀s,(∀z,s.getD z false=true->TC (Vb m N) i z)->∀z,(lN m i N n s).getD z false=true->TC (Vb m N) i z:=by
 induction n with
 | zero=>intro s h;exact h
 | succ n ih=>intro s h;rw[lN];exact ih _ (jm N 0 s (by omega) h)
def U6:List Bool->Nat
 | []=>0
 | b::r=>b.toNat+U6 r
theorem zGQ:U6 s<=s.length:=by
 induction s with
 | nil=>exact t9 _
 | cons b r ih=>rw[U6,p7];cases b <;> simp <;> omega
theorem zGP:∀s',s.length=s'.length->(∀z,s.getD z false=true->s'.getD z false=true)->s=s'\/U6 s<U6 s':=by
 induction s with
 | nil=>intro s' h _;cases s' with
   | nil=>exact .inl rfl
   | cons _ _=>simp at h
 | cons b r ih =>
   intro s' h hz
   cases s' with
   | nil=>simp at h
   | cons b' r' =>
     have h0:=hz 0;have ih:=ih r' (by simpa using h) (fun z hh=>by have:=hz (z+1);simpa using this (by simpa using hh));rw[U6,U6];simp only[List.getD_cons_zero]at h0;rcases ih with ih|ih
     ·subst ih
      cases b <;> cases b'
      ·exact .inl rfl
      ·exact .inr (by simp)
      ·exact absurd (h0 rfl) (by simp)
      ·exact .inl rfl
     ·right
      cases b <;> cases b'
      ·simpa using ih
      ·simp;omega
      ·exact absurd (h0 rfl) (by simp)
      ·simpa using ih
theorem zDC:∀s,lN m i N (n+1) s=lX m i N N 0 (lN m i N n s):=by
 induction n with
 | zero=>intro s;rfl
 | succ n ih=>intro s;rw[lN,ih];rfl
theorem zGE:lX m i N N 0 (lN m i N n s)=lN m i N n s\/n<=U6 (lN m i N n s):=by
 induction n with
 | zero=>exact .inr (tr _)
 | succ n ih =>
   rw[zDC];rcases ih with ih|ih
   ·left;rw[ih,ih]
   ·rcases zGP (lN m i N n s) (lX m i N N 0 (lN m i N n s)) (by rw[jn]) (zEQ _ _ _ _ _ _) with h|h
    ·left;rw[<-h,<-h]
    ·right;omega
theorem iL{m:Nat->Nat->Bool}{N i k:Nat}:lV m N i k=true ↔ TC (Vb m N) i k:=by
 unfold lV;constructor
 ·intro h
  refine jo (N+1) _ ?_ k h;intro z hz;exfalso
  simp only[l8,List.getElem?_replicate]at hz;split at hz <;> simp at hz
 ·intro h
  have zIC:(lN m i N (N+1) (List.replicate N false)).length=N:=by rw[zGD,List.length_replicate]
  have hfix:lX m i N N 0 (lN m i N (N+1) (List.replicate N false))=lN m i N (N+1) (List.replicate N false):=by
   rcases zGE m i N (List.replicate N false) (N+1) with h1|h1
   ·exact h1
   ·have h2:=zGQ (lN m i N (N+1) (List.replicate N false));omega
  generalize lN m i N (N+1) (List.replicate N false)=s at *
  have key:∀x z,Vb m N x z->(x=i\/s.getD x false=true)->s.getD z false=true:=by
   intro x z h1 h2;have h3:=zGC m i N N 0 s x z (tr _) (by have:=h1.1;omega) h1.2.1 zIC h2 h1.2.2;rw[hfix]at h3;exact h3
  exact h (fun x z=>(x=i\/s.getD x false=true)->s.getD z false=true) key (fun x y z h1 h2 h3=>h2 (.inr (h1 h3))) (.inl rfl)
theorem vy{m:Nat->Nat->Bool}{N:Nat}(h:TC (Vb m N) a b):a<N/\b<N:=h (fun a b=>a<N/\b<N) (fun _ _ h=>⟨h.1,h.2.1⟩) (fun _ _ _ h1 h2=>⟨h1.1,h2.2⟩)
def wK(m:Nat->Nat->Bool)(N:Nat):Bool:=(List.range N).any fun i=>lV m N i i
theorem Jj{m:Nat->Nat->Bool}{N:Nat}(hl:G.length=64)(hN:N<=8)(h:∀a b,a<8->b<8->(gA G a b=true ↔ Vb m N a b)):wK m N=jY G:=by
 have e:∀a b,KI G a b ↔ Vb m N a b:=fun a b=>⟨fun ⟨h1,h2,h3⟩=>(h a b h1 h2).1 h3,fun h1=>⟨by have:=h1.1;omega,by have:=h1.2.1;omega,(h a b (by have:=h1.1;omega) (by have:=h1.2.1;omega)).2 h1⟩⟩;rw[ct,Jk hl];unfold wK;rw[mj];constructor
 ·rintro⟨i,_,h2⟩
  have h3:=iL.1 h2;exact⟨i,by have:=(vy h3).1;omega,h3.mono fun x y=>(e x y).2⟩
 ·rintro⟨i,_,h2⟩
  have h3:TC (Vb m N) i i:=h2.mono fun x y=>(e x y).1;exact⟨i,db.2 (vy h3).1,iL.2 h3⟩
def Vc:zF:=⟨0,[],0,0,[],[],[],0,0,0,[]⟩
def lA(ls:List zF)(i:Nat):zF:=ls.getD i Vc
def uA(us:List zG)(i:Nat):zG:=us.getD i []
theorem yP.len:∀ {ls:List zF} {us:List zG},yP ls us->ls.length=us.length
 | [],[],_=>rfl
 | _::_,_::_,h=>by rw[p7,p7,yP.len h.2]
 | [],_::_,h=>absurd h id
 | _::_,[],h=>absurd h id
theorem yP.get:∀ {ls:List zF} {us:List zG},yP ls us->∀i,i<us.length->LT (lA ls i) (uA us i)
 | [],[],_,i,hi=>absurd hi (by simp)
 | x::xs,u::us,h,0,_=>h.1
 | x::xs,u::us,h,i+1,hi=>yP.get h.2 i (by simpa using hi)
 | [],_::_,h,_,_=>absurd h id
 | _::_,[],h,_,_=>absurd h id
theorem yP.take:∀ {ls:List zF} {us:List zG},yP ls us->∀n,yP (ls.take n) (us.take n)
 | [],[],_,n=>by simp[yP]
 | x::xs,u::us,h,0=>trivial
 | x::xs,u::us,h,n+1=>⟨h.1,yP.take h.2 n⟩
 | [],_::_,h,_=>absurd h id
 | _::_,[],h,_=>absurd h id
def Zk(k:Int):Int:=if k=1 then 3 else if k=2 then 3 else if k=3 then 8 else if k=4 then 28 else 0
def qD(k:Int):List zF->Nat
 | []=>0
 | x::r=>(if x.kind=k then 1 else 0)+qD k r
def pX(S:List yZ):Bool:=decide (4<S.length) || S.any tD
def Jv(x:zF):Bool:=decide (6<x.tests) || (decide (4<x.dep) || pX x.sum)
def mK(ls:List zF)(i:Nat):Bool:=decide (Zk (lA ls i).kind<=(qD (lA ls i).kind (ls.take i):Int)) || (decide ((lA ls i).kind=3)&&Jv (lA ls i))
def Zo(k:Int)(nm:Bs)(x:zF):Bool:=decide (x.kind=k)&&decide (x.name=nm)
def Vd(nm:Bs)(x:zF):Bool:=decide (x.kind=3)&&decide (x.conc=nm)
def vR(ls:List zF)(k:Int)(nm:Bs):Bool:=ls.any (Zo k nm)
def jZ(ls:List zF)(nm:Bs):Bool:=ls.any (Vd nm)
def pD(p:zF->Bool):List zF->Nat->Nat
 | [],i=>i
 | x::r,i=>if p x then i else pD p r (i+1)
def qO(ls:List zF)(nm:Bs):Nat:=pD (Zo 3 nm) ls 0
def Xr(ls:List zF)(nm:Bs):Bool:=vR ls 1 nm || jZ ls nm
def sA(ls:List zF)(y:Nat × Bs):Bool:=if y.1=0 then Xr ls y.2 else if y.1=1 then jZ ls y.2 else if y.1=2 then vR ls 1 y.2 else vR ls 2 y.2
def kH(ls:List zF)(x:yZ):Bool:=decide (x.name=[]) || Xr ls x.name
def vC(ls:List zF)(x:zX):Bool :=
 if x.kind=5 then jZ ls x.name else if x.kind=6 then vR ls 2 x.name else if x.kind=7 then (decide (x.other=[]) || vR ls 1 x.other)&&vR ls 1 x.name else true
def lW(ls:List zF)(i:Nat):Int:=if vR (ls.take i) 1 (lA ls i).name || (vR (ls.take i) 2 (lA ls i).name || jZ ls (lA ls i).name) then 4 else 0
def iE(ls:List zF)(i:Nat):Int:=if lW ls i=0 then (if (lA ls i).high<(lA ls i).low then 5 else 0) else lW ls i
def bM(ls:List zF)(i:Nat):Int:=if vR (ls.take i) 3 (lA ls i).name || ((lA ls i).sum.any (fun x => !kH ls x) || (lA ls i).nd.any (fun x => !vC ls x)) then 4 else 0
def lL(ls:List zF)(x:zF):Int :=
 if qO ls x.name=ls.length\/qO ls x.lower=ls.length then 4
 else if x.name=x.lower\/(lA ls (qO ls x.name)).conc≠(lA ls (qO ls x.lower)).conc then 6 else 0
def pS(ls:List zF)(i:Nat):Int :=
 if (lA ls i).kind=1 then iE ls i else if (lA ls i).kind=2 then lW ls i else if (lA ls i).kind=3 then bM ls i else if (lA ls i).kind=4 then lL ls (lA ls i) else 0
def oH(c:Bs):Int:=if c=xK then 3 else if c=xV then 3 else if c=zR then 8 else 28
def cD(c:Bs):List zG->Nat
 | []=>0
 | u::r=>(if cA u 0=c then 1 else 0)+cD c r
def iZ(u:zG):Nat:=(mE u).toNat
def Jw(u:zG):Bool:=mL [] (u.take (iZ u)) || (decide (4<(kK (u.take (iZ u)):Int)+1) || (decide (6<(yD (u.length+1) (u.drop (iZ u+1))).1) || decide (4<(yD (u.length+1) (u.drop (iZ u+1))).2)))
def mB(us:List zG)(i:Nat):Bool:=decide (oH (cA (uA us i) 0)<(cD (cA (uA us i) 0) (us.take (i+1)):Int)) || (decide (cA (uA us i) 0=zR)&&Jw (uA us i))
def vT(p:zG->Bool):List zG->Nat->Int
 | [],_ => -1
 | u::r,i=>if p u then (i:Int) else vT p r (i+1)
def aG(c:Bs)(at':Nat)(nm:Bs)(u:zG):Bool:=decide (cA u 0=c)&&decide (tA u at'=nm)
def zW(us:List zG)(c:Bs)(at':Nat)(nm:Bs):Int:=vT (aG c at' nm) us 0
theorem pQ(us:List zG):∀i,-1<=vT p us i/\vT p us i<(i:Int)+us.length/\(0<=vT p us i->(i:Int)<=vT p us i):=by
 induction us with
 | nil=>intro i;simp[vT];omega
 | cons u r ih =>
   intro i;rw[vT];split
   ·simp;omega
   ·have:=ih (i+1);simp only[p7];omega
theorem oK(us:List zG):∀i,0<=vT p us i ↔ us.any p=true:=by
 induction us with
 | nil=>intro i;simp[vT]
 | cons u r ih =>
   intro i;rw[vT,mt];split
   ·rename_i h;simp[h]
   ·rename_i h;rw[ih];simp[h]
theorem sM(us:List zG):∀(i n:Nat),(0<=vT p us i/\vT p us i<(i:Int)+n) ↔ (us.take n).any p=true:=by
 induction us with
 | nil=>intro i n;simp[vT]
 | cons u r ih =>
   intro i n
   cases n with
   | zero=>have:=pQ p (u::r) i;simp;omega
   | succ n =>
     rw[vT,List.take_succ_cons,mt];split
     ·rename_i h;simp[h];omega
     ·rename_i h
      have:=ih (i+1) n;have h':p u=false:=by simpa using h
      rw[h',pm,<-this];omega
theorem Uw(p:zF->Bool)(ls:List zF):∀i,i<=pD p ls i/\pD p ls i<=i+ls.length:=by
 induction ls with
 | nil=>intro i;simp[pD]
 | cons x r ih=>intro i;rw[pD];split
                ·simp
                ·have:=ih (i+1);simp only[p7];omega
theorem Qg{p:zF->Bool}{q:zG->Bool}:∀ {ls:List zF} {us:List zG},yP ls us->(∀x u,LT x u->p x=q u)->∀i:Nat,(pD p ls i=i+ls.length/\vT q us i = -1)\/(pD p ls i<i+ls.length/\vT q us i=(pD p ls i:Int))
 | [],[],_,_,i=>.inl ⟨rfl,rfl⟩
 | x::xs,u::us,h,hpq,i=>by
   rw[pD,vT,<-hpq x u h.1,p7];split
   ·exact .inr ⟨by omega,rfl⟩
   ·rcases Qg h.2 hpq (i+1) with ⟨h1,h2⟩|⟨h1,h2⟩
    ·exact .inl ⟨by omega,h2⟩
    ·exact .inr ⟨by omega,h2⟩
 | [],_::_,h,_,_=>absurd h id
 | _::_,[],h,_,_=>absurd h id
theorem bE{p:zF->Bool}{q:zG->Bool}:∀ {ls:List zF} {us:List zG},yP ls us->(∀x u,LT x u->p x=q u)->ls.any p=us.any q
 | [],[],_,_=>rfl
 | x::xs,u::us,h,hpq=>by rw[mt,mt,hpq x u h.1,bE h.2 hpq]
 | [],_::_,h,_=>absurd h id
 | _::_,[],h,_=>absurd h id
theorem LT.k1(h:LT x u):x.kind=1 ↔ cA u 0=xK:=by
 rcases h.kind with ⟨a,b,_⟩|⟨a,b⟩|⟨a,b,_⟩|⟨a,b,_⟩ <;> rw[a,b] <;> decide
theorem LT.k2(h:LT x u):x.kind=2 ↔ cA u 0=xV:=by
 rcases h.kind with ⟨a,b,_⟩|⟨a,b⟩|⟨a,b,_⟩|⟨a,b,_⟩ <;> rw[a,b] <;> decide
theorem LT.k3(h:LT x u):x.kind=3 ↔ cA u 0=zR:=by
 rcases h.kind with ⟨a,b,_⟩|⟨a,b⟩|⟨a,b,_⟩|⟨a,b,_⟩ <;> rw[a,b] <;> decide
theorem LT.k4(h:LT x u):x.kind=4 ↔ cA u 0=tZ:=by
 rcases h.kind with ⟨a,b,_⟩|⟨a,b⟩|⟨a,b,_⟩|⟨a,b,_⟩ <;> rw[a,b] <;> decide
theorem LT.rule(h:LT x u)(hk:cA u 0=zR):∃w,Z2 x u w:=by
 rcases h.kind with ⟨a,b,_⟩|⟨a,b⟩|⟨a,b,_⟩|⟨a,b,hr⟩
 ·exact absurd (b.symm.trans hk) (by decide)
 ·exact absurd (b.symm.trans hk) (by decide)
 ·exact absurd (b.symm.trans hk) (by decide)
 ·exact hr
theorem LT.len(h:LT x u)(hk:cA u 0=zR):6<=u.length:=by
 obtain⟨w,hw⟩:=h.rule hk;have:=hw.wlo;have:=hw.whi;omega
theorem Z2.wAt(h:Z2 x u w):iZ u=w:=by unfold iZ mE;rw[h.whenAt];rfl
theorem Z2.wB(h:Z2 x u w):mE u=w:=by unfold mE;rw[h.whenAt]
theorem Zn(h:LT x u)(k:Int)(c:Bs)(hk:(k=1/\c=xK)\/(k=2/\c=xV)\/(k=3/\c=zR))(nm:Bs):Zo k nm x=aG c 1 nm u:=by
 unfold Zo aG;rw[h.name];rcases hk with ⟨rfl,rfl⟩|⟨rfl,rfl⟩|⟨rfl,rfl⟩
 ·rw[bp.2 h.k1]
 ·rw[bp.2 h.k2]
 ·rw[bp.2 h.k3]
theorem Uc(h:LT x u)(nm:Bs):Vd nm x=aG zR 3 nm u:=by
 unfold Vd aG;rw[bp.2 h.k3];by_cases hk:cA u 0=zR
 ·obtain⟨w,hw⟩:=h.rule hk
  rw[hw.conc]
 ·rw[th hk];rfl
theorem je(h:LT x u):Zk x.kind=oH (cA u 0):=by
 rcases h.kind with ⟨a,b,_⟩|⟨a,b⟩|⟨a,b,_⟩|⟨a,b,_⟩ <;> rw[a,b] <;> decide
theorem DN{y:zF}{v:zG}(h:LT x u)(h':LT y v):x.kind=y.kind ↔ cA u 0=cA v 0:=by
 rcases h.kind with ⟨a,b,_⟩|⟨a,b⟩|⟨a,b,_⟩|⟨a,b,_⟩ <;> rcases h'.kind with ⟨a',b',_⟩|⟨a',b'⟩|⟨a',b',_⟩|⟨a',b',_⟩ <;> rw[a,b,a',b'] <;> decide
theorem U4{y:zF}{v:zG}(hy:LT y v):∀ {ls:List zF} {us:List zG},yP ls us->qD y.kind ls=cD (cA v 0) us
 | [],[],_=>rfl
 | x::xs,u::us,h=>by
   rw[qD,cD,U4 hy h.2];by_cases hk:x.kind=y.kind
   ·rw[tl hk,tl ((DN h.1 hy).1 hk)]
   ·rw[tg hk,tg (fun e=>hk ((DN h.1 hy).2 e))]
 | [],_::_,h=>absurd h id
 | _::_,[],h=>absurd h id
theorem zp(c:Bs)(us:List zG):∀i,i<us.length->cD c (us.take (i+1))=cD c (us.take i)+(if cA (uA us i) 0=c then 1 else 0):=by
 induction us with
 | nil=>intro i h;simp at h
 | cons u r ih =>
   intro i h
   cases i with
   | zero=>simp[cD,uA]
   | succ i =>
     rw[List.take_succ_cons,cD,ih i (by simpa using h),List.take_succ_cons,cD,show uA (u::r) (i+1)=uA r i from rfl];omega
theorem G1(h:LT x u)(hk:cA u 0=zR):Jv x=Jw u:=by
 obtain⟨w,hw⟩:=h.rule hk;unfold Jv Jw pX;rw[hw.wAt,hw.big,hw.wt (u.length+1) (by rw[ty];omega)];have e:((kK (u.take w):Int)+1)=(x.sum.length:Int):=by have:=hw.parts;omega
 rw[e,show decide (4<x.sum.length)=decide ((4:Int)<(x.sum.length:Int)) by rw[bp];omega];generalize decide ((4:Int)<(x.sum.length:Int))=a;generalize x.sum.any tD=b;show (decide (6<x.tests) || (decide (4<x.dep) || (a || b)))=(b || (a || (decide (6<x.tests) || decide (4<x.dep))));cases a <;> cases b <;> cases decide (6<x.tests) <;> cases decide (4<x.dep) <;> rfl
theorem CZ(h:yP ls us){i:Nat}(hi:i<us.length):mB us i=mK ls i:=by
 have hx:=h.get i hi;unfold mB mK;rw[zp _ _ i hi,tl rfl,<-je hx,U4 hx (h.take i)];have e:decide (Zk (lA ls i).kind<((cD (cA (uA us i) 0) (us.take i)+1:Nat):Int))=decide (Zk (lA ls i).kind<=(cD (cA (uA us i) 0) (us.take i):Int)):=by rw[bp];omega
 rw[e];congr 1
 rw[bp.2 hx.k3];by_cases hk:cA (uA us i) 0=zR
 ·rw[G1 hx hk]
 ·rw[th hk];rfl
def tF(us:List zG)(nm:Bs):Bool:=decide (0<=zW us xK 1 nm)
def tH(us:List zG)(nm:Bs):Bool:=decide (0<=zW us xV 1 nm)
def tG(us:List zG)(nm:Bs):Bool:=decide (0<=zW us zR 3 nm)
def D9(u:zG)(k:Nat):Bs:=if k+1<u.length then cA u (k+1) else []
def XT(u:zG)(k:Nat):Nat:=if k<iZ u then 0 else mW (cA u (k-1)) (D9 u k)
def xa(us:List zG)(y:Nat × Bs):Bool:=if y.1=0 then tF us y.2 || tG us y.2 else if y.1=1 then tG us y.2 else if y.1=2 then tF us y.2 else tH us y.2
def bB(us:List zG)(u:zG)(k:Nat):Bool:=xa us (XT u k,tA u k)
def gP(us:List zG)(u:zG):Nat->Nat->Bool
 | 0,_=>false
 | n+1,k=>if cA u k=yU/\bB us u k=false then true else gP us u n (k+1)
def xG(us:List zG)(i:Nat):Bool :=
 if cA (uA us i) 0=xK\/cA (uA us i) 0=xV then
  (decide (0<=zW us xK 1 (tA (uA us i) 1))&&decide (zW us xK 1 (tA (uA us i) 1)<(i:Int))) || ((decide (0<=zW us xV 1 (tA (uA us i) 1))&&decide (zW us xV 1 (tA (uA us i) 1)<(i:Int))) || tG us (tA (uA us i) 1))
 else if cA (uA us i) 0=tZ then decide (zW us zR 1 (tA (uA us i) 1)<0) || decide (zW us zR 1 (tA (uA us i) 2)<0)
 else decide (zW us zR 1 (tA (uA us i) 1)<(i:Int)) || gP us (uA us i) ((uA us i).length-5) 5
def Jp(us:List zG)(u:zG):Bool:=decide (tA u 1=tA u 2) || !decide (tA (uA us (zW us zR 1 (tA u 1)).toNat) 3=tA (uA us (zW us zR 1 (tA u 2)).toNat) 3)
def jV(us:List zG)(i:Nat):Int :=
 if xG us i=true then 4
 else if cA (uA us i) 0=xK then (if xD 0 (tA (uA us i) 4)<xD 0 (tA (uA us i) 2) then 5 else 0)
 else if cA (uA us i) 0=tZ then (if Jp us (uA us i)=true then 6 else 0) else 0
theorem XB(u:zG)(k:Nat):Yv (u.drop (k+1)) []=D9 u k:=by
 unfold D9;split
 ·rename_i h;rw[zJ u (k+1) h];rfl
 ·rename_i h;rw[tu (by omega)];rfl
theorem Dd(us:List zG)(u:zG)(n:Nat):∀k,iZ u<k->k+n=u.length->gP us u n k=(qX (cA u (k-1)) (u.drop k) []).any (fun y => !xa us y):=by
 induction n with
 | zero=>intro k _ h;rw[tu (by omega)];rfl
 | succ n ih =>
   intro k hk h;have zI6:k<u.length:=by omega
   rw[zJ u k zI6,qX,gP,XB,ih (k+1) (by omega) (by omega),show k+1-1=k by omega];show _=((if cA u k=yU then [(mW (cA u (k-1)) (D9 u k),tA u k)] else [])++qX (cA u k) (u.drop (k+1)) []).any _;have hf:bB us u k=xa us (mW (cA u (k-1)) (D9 u k),tA u k):=by unfold bB XT;rw[tg (by omega)]
   by_cases hc:cA u k=yU
   ·rw[tl hc,df]
    by_cases ho:bB us u k=false
    ·rw[tl ⟨hc,ho⟩];rw[hf]at ho;simp[ho]
    ·rw[tg (fun h=>ho h.2)]
     have ho':xa us (mW (cA u (k-1)) (D9 u k),tA u k)=true:=by rw[<-hf];simpa using ho
     simp[ho']
   ·rw[tg hc,tg (fun h=>hc h.1),bf]
theorem zAY(us:List zG)(u:zG)(hw:iZ u=w)(hwl:w<u.length)(n:Nat):∀k,k+n=w->gP us u (u.length-k) k=((cK ((u.take w).drop k)).any (fun y => !xa us y) || gP us u (u.length-w) w):=by
 induction n with
 | zero=>intro k h;obtain rfl:k=w:=by omega
         rw[tu (by rw[p9];omega)];rfl
 | succ n ih =>
   intro k h;have zI6:k<(u.take w).length:=by rw[p9];omega
   have e0:(u.take w).getD k (0,[])=u.getD k (0,[]):=by rw[List.getD,List.getD,List.getElem?_take_of_lt (by omega)]
   rw[show u.length-k=(u.length-(k+1))+1 by omega,gP,ih (k+1) (by omega),zJ (u.take w) k zI6,e0,cK];show _=(((if cA u k=yU then [(0,tA u k)] else [])++cK ((u.take w).drop (k+1))).any _ || _);have hf:bB us u k=xa us (0,tA u k):=by unfold bB XT;rw[hw,tl (by omega)]
   by_cases hc:cA u k=yU
   ·rw[tl hc,df]
    by_cases ho:bB us u k=false
    ·rw[tl ⟨hc,ho⟩];rw[hf]at ho;simp[ho]
    ·rw[tg (fun h=>ho h.2)]
     have ho':xa us (0,tA u k)=true:=by rw[<-hf];simpa using ho
     simp[ho']
   ·rw[tg hc,tg (fun h=>hc h.1),bf]
theorem zE8(us:List zG)(h:Z2 x u w)(hc:cA u w=xO):gP us u (u.length-5) 5=((x.sum.flatMap rS).any (fun y => !xa us y) || (tE x.nd).any (fun y => !xa us y)):=by
 have h1:=h.wlo;have h2:=h.whi;rw[zAY us u h.wAt (by omega) (w-5) 5 (by omega),h.needs];congr 1
 rw[show u.length-w=(u.length-(w+1))+1 by omega,gP,tg (fun e=>absurd (hc.symm.trans e.1) (by decide)),Dd us u _ (w+1) (by rw[h.wAt];omega) (by omega),show w+1-1=w by omega,hc,h.needs2]
theorem wZ(h:yP ls us)(nm:Bs):tF us nm=vR ls 1 nm:=by
 unfold tF vR zW;rw[bE h (fun x u hx=>Zn hx 1 xK (.inl ⟨rfl,rfl⟩) nm),ct,pr,oK]
theorem ZT(h:yP ls us)(nm:Bs):tH us nm=vR ls 2 nm:=by
 unfold tH vR zW;rw[bE h (fun x u hx=>Zn hx 2 xV (.inr (.inl ⟨rfl,rfl⟩)) nm),ct,pr,oK]
theorem ZN(h:yP ls us)(nm:Bs):tG us nm=jZ ls nm:=by
 unfold tG jZ zW;rw[bE h (fun x u hx=>Uc hx nm),ct,pr,oK]
theorem D8(h:yP ls us)(y:Nat × Bs):xa us y=sA ls y:=by
 unfold xa sA Xr;rw[wZ h,ZT h,ZN h]
theorem Ga(ls:List zF)(S:List yZ):(S.flatMap rS).any (fun y => !sA ls y)=S.any (fun x => !kH ls x):=by
 induction S with
 | nil=>rfl
 | cons x r ih =>
   rw[fe,df,ih,mt];congr 1
   unfold rS kH;by_cases h:x.name=[]
   ·rw[tl h,tm h];rfl
   ·rw[tg h,th h];simp[sA]
theorem Gq(ls:List zF)(N:List zX):(tE N).any (fun y => !sA ls y)=N.any (fun x => !vC ls x):=by
 induction N with
 | nil=>rfl
 | cons x r ih =>
   unfold tE at ih ⊢;rw[fe,df,ih,mt];congr 1
   unfold VA vC;by_cases h5:x.kind=5
   ·rw[tl h5,tl h5];simp[sA]
   ·rw[tg h5,tg h5]
    by_cases h6:x.kind=6
    ·rw[tl h6,tl h6];simp[sA]
    ·rw[tg h6,tg h6]
     by_cases h7:x.kind=7
     ·rw[tl h7,tl h7]
      by_cases ho:x.other=[]
      ·rw[tl ho,tm ho];simp[sA]
      ·rw[tg ho,th ho]
       show ((!vR ls 1 x.name) || ((!vR ls 1 x.other) || false)) = !((false || vR ls 1 x.other)&&vR ls 1 x.name);cases vR ls 1 x.name <;> cases vR ls 1 x.other <;> rfl
     ·rw[tg h7,tg h7];rfl
theorem fN(h:yP ls us)(k:Int)(c:Bs)(hk:(k=1/\c=xK)\/(k=2/\c=xV)\/(k=3/\c=zR))(nm:Bs)(i:Nat):(decide (0<=zW us c 1 nm)&&decide (zW us c 1 nm<(i:Int)))=vR (ls.take i) k nm:=by
 unfold vR zW;rw[bE (h.take i) (fun x u hx=>Zn hx k c hk nm),ct,tz,pr,pr,<-sM (aG c 1 nm) us 0 i];simp
theorem J2(h:yP ls us)(nm:Bs):(qO ls nm=ls.length/\zW us zR 1 nm = -1)\/(qO ls nm<ls.length/\zW us zR 1 nm=(qO ls nm:Int)):=by
 have:=Qg h (fun x u hx=>Zn hx 3 zR (.inr (.inr ⟨rfl,rfl⟩)) nm) 0;unfold qO zW;simpa using this
theorem J4(p:zF->Bool)(ls:List zF):∀i,pD p ls i<i+ls.length->p (lA ls (pD p ls i-i))=true:=by
 induction ls with
 | nil=>intro i h;simp[pD]at h
 | cons x r ih =>
   intro i h;rw[pD]at h ⊢;split
   ·rename_i hp;simpa[lA] using hp
   ·rename_i hp
    rw[tg hp]at h;have h1:=(Uw p r (i+1)).1;have:=ih (i+1) (by rw[p7]at h;omega);rw[show pD p r (i+1)-i=(pD p r (i+1)-(i+1))+1 by omega];exact this
theorem Ql(h:yP ls us){i:Nat}(hi:i<us.length):jV us i=pS ls i:=by
 have hx:=h.get i hi;unfold jV;rcases hx.kind with ⟨a,b,_,_,_,d1,d2⟩|⟨a,b⟩|⟨a,b,_,d⟩|⟨a,b,d⟩
 ·have e:xG us i=decide (lW ls i=4):=by
   unfold xG lW;rw[tl (.inl b),fN h 1 xK (.inl ⟨rfl,rfl⟩),fN h 2 xV (.inr (.inl ⟨rfl,rfl⟩)),ZN h,hx.name];generalize (vR (ls.take i) 1 (lA ls i).name || (vR (ls.take i) 2 (lA ls i).name || jZ ls (lA ls i).name))=z;cases z <;> decide
  have eR:pS ls i=iE ls i:=by unfold pS;rw[tl a]
  rw[e,eR,tl b,d1,d2];unfold iE;have h4:lW ls i=4\/lW ls i=0:=by unfold lW;split;exact .inl rfl;exact .inr rfl
  rcases h4 with h4|h4
  ·rw[h4];simp
  ·rw[h4];simp
 ·have e:xG us i=decide (lW ls i=4):=by
   unfold xG lW;rw[tl (.inr b),fN h 1 xK (.inl ⟨rfl,rfl⟩),fN h 2 xV (.inr (.inl ⟨rfl,rfl⟩)),ZN h,hx.name];generalize (vR (ls.take i) 1 (lA ls i).name || (vR (ls.take i) 2 (lA ls i).name || jZ ls (lA ls i).name))=z;cases z <;> decide
  have eR:pS ls i=lW ls i:=by unfold pS;rw[tg (by rw[a];decide),tl a]
  rw[e,eR,tg (show ¬cA (uA us i) 0=xK by rw[b];decide),tg (show ¬cA (uA us i) 0=tZ by rw[b];decide)];have h4:lW ls i=4\/lW ls i=0:=by unfold lW;split;exact .inl rfl;exact .inr rfl
  rcases h4 with h4|h4 <;> rw[h4] <;> rfl
 ·have eR:pS ls i=lL ls (lA ls i):=by unfold pS;rw[tg (by rw[a];decide),tg (by rw[a];decide),tg (by rw[a];decide),tl a]
  rw[eR,tg (show ¬cA (uA us i) 0=xK by rw[b];decide),tl b]
  have eN:xG us i=(decide (zW us zR 1 (tA (uA us i) 1)<0) || decide (zW us zR 1 (tA (uA us i) 2)<0)):=by
   unfold xG;rw[tg (show ¬(cA (uA us i) 0=xK\/cA (uA us i) 0=xV) by rw[b];decide),tl b]
  have hl:=h.len;rw[hx.name,d]at eN;rcases J2 h (lA ls i).name with ⟨f1,f2⟩|⟨f1,f2⟩
  ·have e1:lL ls (lA ls i)=4:=by unfold lL;rw[tl (.inl f1)]
   rw[e1,tl (by rw[eN,f2];rfl)]
  ·rcases J2 h (lA ls i).lower with ⟨g1,g2⟩|⟨g1,g2⟩
   ·have e1:lL ls (lA ls i)=4:=by unfold lL;rw[tl (.inr g1)]
    rw[e1,tl (by rw[eN,g2];simp)]
   ·have e1:lL ls (lA ls i)=if (lA ls i).name=(lA ls i).lower\/(lA ls (qO ls (lA ls i).name)).conc≠(lA ls (qO ls (lA ls i).lower)).conc then 6 else 0:=by
     unfold lL;rw[tg (by rintro(e|e) <;> omega)]
    have e2:xG us i=false:=by
     rw[eN,f2,g2,th (by omega),th (by omega)];rfl
    have q1:=h.get (qO ls (lA ls i).name) (by omega);have q2:=h.get (qO ls (lA ls i).lower) (by omega);have p1:Zo 3 (lA ls i).name (lA ls (qO ls (lA ls i).name))=true:=J4 (Zo 3 (lA ls i).name) ls 0 (by rw[lu];exact f1);have p2:Zo 3 (lA ls i).lower (lA ls (qO ls (lA ls i).lower))=true:=J4 (Zo 3 (lA ls i).lower) ls 0 (by rw[lu];exact g1)
    have p1':(lA ls (qO ls (lA ls i).name)).kind=3:=by
     unfold Zo at p1;rw[tz]at p1;simpa using p1.1
    have p2':(lA ls (qO ls (lA ls i).lower)).kind=3:=by
     unfold Zo at p2;rw[tz]at p2;simpa using p2.1
    obtain⟨w1,r1⟩:=q1.rule (q1.k3.1 p1');obtain⟨w2,r2⟩:=q2.rule (q2.k3.1 p2')
    have e3:Jp us (uA us i)=(decide ((lA ls i).name=(lA ls i).lower) || !decide ((lA ls (qO ls (lA ls i).name)).conc=(lA ls (qO ls (lA ls i).lower)).conc)):=by
     unfold Jp;rw[hx.name,d,f2,g2,Int.toNat_natCast,Int.toNat_natCast,r1.conc,r2.conc]
    rw[e1,e3,tg (by rw[e2];decide)];by_cases c1:(lA ls i).name=(lA ls i).lower
    ·simp[c1]
    ·by_cases c2:(lA ls (qO ls (lA ls i).name)).conc=(lA ls (qO ls (lA ls i).lower)).conc
     ·simp[c1,c2]
     ·simp[c1,c2]
 ·obtain⟨w,hw⟩:=d
  have eR:pS ls i=bM ls i:=by unfold pS;rw[tg (by rw[a];decide),tg (by rw[a];decide),tl a]
  rw[eR,tg (show ¬cA (uA us i) 0=xK by rw[b];decide),tg (show ¬cA (uA us i) 0=tZ by rw[b];decide)]
  have hcw:cA (uA us i) w=xO:=by
   have hwhen:∀(u:zG) (k j:Nat),mS u k=some j->k<=j/\cA u (j-k)=xO:=by
    intro u
    induction u with
    | nil=>intro k j h;simp[mS]at h
    | cons t r ih =>
      intro k j h;rw[mS]at h;split at h
      ·rename_i ht
       obtain rfl:=co h;exact⟨t9 _,by rw[bj];exact ht⟩
      ·obtain⟨h1,h2⟩:=ih (k+1) j h
       refine⟨by omega,?_⟩;rw[show j-k=(j-(k+1))+1 by omega];exact h2
   have:=(hwhen _ 0 w hw.whenAt).2;simpa using this
  have e:xG us i=(vR (ls.take i) 3 (lA ls i).name || ((lA ls i).sum.any (fun x => !kH ls x) || (lA ls i).nd.any (fun x => !vC ls x))):=by
   unfold xG;rw[tg (show ¬(cA (uA us i) 0=xK\/cA (uA us i) 0=xV) by rw[b];decide),tg (show ¬cA (uA us i) 0=tZ by rw[b];decide),zE8 us hw hcw,hx.name]
   have h0:0<=zW us zR 1 (lA ls i).name:=by
    unfold zW;rw[oK];refine mj.2 ⟨uA us i,?_,?_⟩
    ·unfold uA;rw[List.getD,pe hi];exact List.getElem_mem hi
    ·unfold aG;rw[hx.name,tm b];simp
   have:=fN h 3 zR (.inr (.inr ⟨rfl,rfl⟩)) (lA ls i).name i;rw[tm h0,md]at this;rw[this,<-Ga,<-Gq];congr 1
   congr 1
   ·congr 1;funext y;rw[D8 h]
   ·congr 1;funext y;rw[D8 h]
  rw[e];unfold bM;generalize (vR (ls.take i) 3 (lA ls i).name || ((lA ls i).sum.any (fun x => !kH ls x) || (lA ls i).nd.any (fun x => !vC ls x)))=z;cases z <;> rfl
end Go.Proofs.YtnbpdffdnphbeaaGreatDoor
