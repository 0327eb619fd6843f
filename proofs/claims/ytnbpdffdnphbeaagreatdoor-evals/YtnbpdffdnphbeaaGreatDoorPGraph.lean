import Derived.Test.YtnbpdffdnphbeaaGreatDoorPure5
namespace Go.Proofs.YtnbpdffdnphbeaaGreatDoor
def TC(M:Nat->Nat->Prop)(a b:Nat):Prop:=∀R:Nat->Nat->Prop,(∀x y,M x y->R x y)->(∀x y z,R x y->R y z->R x z)->R a b
theorem TC.one{M:Nat->Nat->Prop}{a b:Nat}(h:M a b):TC M a b:=fun _ h1 _=>h1 _ _ h
theorem TC.trans{M:Nat->Nat->Prop}{a b c:Nat}(h:TC M a b)(h':TC M b c):TC M a c:=fun R h1 h2=>h2 _ _ _ (h R h1 h2) (h' R h1 h2)
theorem TC.mono{M M':Nat->Nat->Prop}(hm:∀x y,M x y->M' x y){a b:Nat}(h:TC M a b):TC M' a b:=fun R h1 h2=>h R (fun x y h3=>h1 x y (hm x y h3)) h2
def gA(G:List Bool)(a b:Nat):Bool:=G.getD (a*8+b) false
def wS(q:Nat)(G:List Bool):List Bool:=if gA G (q%64/8) (q/64)&&gA G (q/64) (q%8) then G.set (q%64) true else G
def wA:Nat->Nat->List Bool->List Bool
 | 0,_,G=>G
 | n+1,q,G=>wA n (q+1) (wS q G)
def yZ(G:List Bool):List Bool:=wA 512 0 G
theorem zD7(q:Nat)(G:List Bool):(wS q G).length=G.length:=by unfold wS;split <;> simp
theorem rU(n:Nat):∀q G,(wA n q G).length=G.length:=by
 induction n with
 | zero=>intro q G;rfl
 | succ n ih=>intro q G;rw[wA,ih,zD7]
theorem GF(n:Nat):∀m q G,wA (n+m) q G=wA m (q+n) (wA n q G):=by
 induction n with
 | zero=>intro m q G;simp[wA]
 | succ n ih=>intro m q G;rw[show n+1+m=(n+m)+1 by omega,wA,wA,ih,show q+1+n=q+(n+1) by omega]
theorem BF{G:List Bool}(hl:G.length=64){p a b:Nat}(hp:p<64):gA (G.set p true) a b=(gA G a b || decide (a*8+b=p)):=by
 unfold gA;simp only[List.getD_eq_getElem?_getD,List.getElem?_set];by_cases h:p=a*8+b
 ·subst h;simp[hl,hp]
 ·rw[if_neg h,decide_eq_false (fun e=>h e.symm),Bool.or_false]
theorem zD8{G:List Bool}(hl:G.length=64){m:Nat}(hm:m<8)(p:Nat):p<=64->∀a b,a<8->b<8->gA (wA p (m*64) G) a b=(gA G a b || (decide (a*8+b<p)&&(gA G a m&&gA G m b))):=by
 induction p with
 | zero=>intro _ a b _ _;simp[wA]
 | succ p ih =>
   intro hp a b ha hb;have ih:=ih (by omega);rw[GF p 1,wA,wA];have e1:(m*64+p)%64=p:=by omega
   have e2:(m*64+p)/64=m:=by omega
   have e3:(m*64+p)%8=p%8:=by omega
   unfold wS;rw[e1,e2,e3];have hl2:(wA p (m*64) G).length=64:=by rw[rU,hl]
   have k1:=ih (p/8) m (by omega) hm;have k2:=ih m (p%8) hm (by omega);have k3:=ih a b ha hb;generalize wA p (m*64) G=H at *;have c1:gA H (p/8) m=gA G (p/8) m:=by rw[k1];cases gA G (p/8) m <;> simp
   have c2:gA H m (p%8)=gA G m (p%8):=by rw[k2];cases gA G m (p%8) <;> simp
   rw[c1,c2];by_cases hab:a*8+b=p
   ·have ea:p/8=a:=by omega
    have eb:p%8=b:=by omega
    rw[ea,eb];have d1:decide (a*8+b<p+1)=true:=by simp;omega
    rw[d1];split
    ·rename_i h;rw[BF hl2 (by omega),k3,h];simp[hab]
    ·rename_i h;rw[k3];have:(gA G a m&&gA G m b)=false:=by simpa using h
     rw[this];simp
   ·have d1:decide (a*8+b<p+1)=decide (a*8+b<p):=by by_cases h:a*8+b<p <;> simp[h] <;> omega
    rw[d1,<-k3];split
    ·rw[BF hl2 (by omega),decide_eq_false hab,Bool.or_false]
    ·rfl
theorem Uu{G:List Bool}(hl:G.length=64){m:Nat}(hm:m<8){a b:Nat}(ha:a<8)(hb:b<8):gA (wA 64 (m*64) G) a b=(gA G a b || (gA G a m&&gA G m b)):=by
 rw[zD8 hl hm 64 (Nat.le_refl _) a b ha hb,decide_eq_true (by omega:a*8+b<64),Bool.true_and]
def Qs(G:List Bool)(a b:Nat):Prop:=a<8/\b<8/\gA G a b=true
theorem jj{G:List Bool}(hl:G.length=64)(m:Nat):m<=8->(∀a b,Qs G a b->Qs (wA (m*64) 0 G) a b)/\(∀a b,Qs (wA (m*64) 0 G) a b->TC (Qs G) a b)/\(∀k,k<m->∀a b,Qs (wA (m*64) 0 G) a k->Qs (wA (m*64) 0 G) k b->Qs (wA (m*64) 0 G) a b):=by
 induction m with
 | zero=>intro _;refine⟨fun a b h=>by simpa[wA] using h,fun a b h=>TC.one (by simpa[wA] using h),fun k hk=>by omega⟩
 | succ m ih =>
   intro hm;obtain⟨i1,i2,i3⟩:=ih (by omega);rw[show (m+1)*64=m*64+64 by omega,GF,Nat.zero_add];have hl2:(wA (m*64) 0 G).length=64:=by rw[rU,hl]
   generalize wA (m*64) 0 G=H at *
   have key:∀a b,Qs (wA 64 (m*64) H) a b ↔ (Qs H a b\/Qs H a m/\Qs H m b):=by
    intro a b;constructor
    ·rintro⟨ha,hb,h⟩
     rw[Uu hl2 (by omega) ha hb,Bool.or_eq_true,Bool.and_eq_true]at h;rcases h with h|⟨h,h'⟩
     ·exact .inl ⟨ha,hb,h⟩
     ·exact .inr ⟨⟨ha,by omega,h⟩,⟨by omega,hb,h'⟩⟩
    ·rintro(⟨ha,hb,h⟩|⟨⟨ha,_,h⟩,⟨_,hb,h'⟩⟩)
     ·exact⟨ha,hb,by rw[Uu hl2 (by omega) ha hb,h];rfl⟩
     ·exact⟨ha,hb,by rw[Uu hl2 (by omega) ha hb,h,h'];simp⟩
   refine⟨fun a b h=>(key a b).2 (.inl (i1 a b h)),fun a b h=>?_,fun k hk a b h1 h2=>?_⟩
   ·rcases(key a b).1 h with h|⟨h,h'⟩
    ·exact i2 _ _ h
    ·exact(i2 _ _ h).trans (i2 _ _ h')
   ·rw[key]at h1 h2 ⊢
    by_cases hkm:k=m
    ·subst hkm
     refine .inr ⟨?_,?_⟩
     ·rcases h1 with h1|h1
      ·exact h1
      ·exact h1.1
     ·rcases h2 with h2|h2
      ·exact h2
      ·exact h2.2
    ·have hk':k<m:=by omega
     rcases h1 with h1|⟨h1,h1'⟩ <;> rcases h2 with h2|⟨h2,h2'⟩
     ·exact .inl (i3 k hk' _ _ h1 h2)
     ·exact .inr ⟨i3 k hk' _ _ h1 h2,h2'⟩
     ·exact .inr ⟨h1,i3 k hk' _ _ h1' h2⟩
     ·exact .inr ⟨h1,h2'⟩
theorem oV{G:List Bool}(hl:G.length=64)(a b:Nat):Qs (yZ G) a b ↔ TC (Qs G) a b:=by
 obtain⟨h1,h2,h3⟩:=jj hl 8 (Nat.le_refl _);refine⟨h2 a b,fun h=>h _ h1 (fun x y z h4 h5=>h3 y ?_ x z h4 h5)⟩;exact h4.2.1
def Ya(G:List Bool):Nat->Nat->Nat
 | 0,_=>8
 | n+1,a=>if gA G a a then a else Ya G n (a+1)
def sN(G:List Bool):Nat:=Ya G 8 0
theorem xi(G:List Bool)(n:Nat):∀a,a+n=8->(Ya G n a<8 ↔ ∃b,a<=b/\b<8/\gA G b b=true):=by
 induction n with
 | zero=>intro a h;simp[Ya];intro b h1 h2;omega
 | succ n ih =>
   intro a h;rw[Ya];split
   ·rename_i hg;exact⟨fun _=>⟨a,Nat.le_refl _,by omega,hg⟩,fun _=>by omega⟩
   ·rename_i hg
    rw[ih (a+1) (by omega)];constructor
    ·rintro⟨b,h1,h2,h3⟩;exact⟨b,by omega,h2,h3⟩
    ·rintro⟨b,h1,h2,h3⟩
     refine⟨b,?_,h2,h3⟩;rcases Nat.lt_or_ge a b with h4|h4
     ·exact h4
     ·exfalso;have:b=a:=by omega
      subst this;exact hg h3
def kY(G:List Bool):Bool:=decide (sN (yZ G)<8)
theorem Zx{G:List Bool}(hl:G.length=64):kY G=true ↔ ∃a,a<8/\TC (Qs G) a a:=by
 unfold kY sN;rw[decide_eq_true_iff,xi _ 8 0 rfl];constructor
 ·rintro⟨b,_,h1,h2⟩;exact⟨b,h1,(oV hl b b).1 ⟨h1,h1,h2⟩⟩
 ·rintro⟨b,h1,h2⟩;exact⟨b,Nat.zero_le _,h1,((oV hl b b).2 h2).2.2⟩
def lY(m:Nat->Nat->Bool)(fr:Bool)(x:Nat):Nat->Nat->List Bool->List Bool
 | 0,_,s=>s
 | n+1,y,s=>lY m fr x n (y+1) (if fr&&m x y then s.set y true else s)
def zE4(i x:Nat)(s:List Bool):Bool:=decide (x=i) || s.getD x false
def lX(m:Nat->Nat->Bool)(i N:Nat):Nat->Nat->List Bool->List Bool
 | 0,_,s=>s
 | n+1,x,s=>lX m i N n (x+1) (lY m (zE4 i x s) x N 0 s)
def lN(m:Nat->Nat->Bool)(i N:Nat):Nat->List Bool->List Bool
 | 0,s=>s
 | n+1,s=>lN m i N n (lX m i N N 0 s)
def lO(m:Nat->Nat->Bool)(N i k:Nat):Bool:=(lN m i N (N+1) (List.replicate N false)).getD k false
theorem vo(m:Nat->Nat->Bool)(fr:Bool)(x n:Nat):∀y s,(lY m fr x n y s).length=s.length:=by
 induction n with
 | zero=>intro y s;rfl
 | succ n ih=>intro y s;rw[lY,ih];split <;> simp
theorem vr(m:Nat->Nat->Bool)(i N n:Nat):∀x s,(lX m i N n x s).length=s.length:=by
 induction n with
 | zero=>intro x s;rfl
 | succ n ih=>intro x s;rw[lX,ih,vo]
theorem zE2(m:Nat->Nat->Bool)(i N n:Nat):∀s,(lN m i N n s).length=s.length:=by
 induction n with
 | zero=>intro s;rfl
 | succ n ih=>intro s;rw[lN,ih,vr]
theorem Vu(s:List Bool)(y z:Nat):(s.set y true).getD z false=(s.getD z false || (decide (z=y)&&decide (y<s.length))):=by
 simp only[List.getD_eq_getElem?_getD,List.getElem?_set];by_cases h:y=z
 ·subst h
  by_cases h2:y<s.length
  ·simp[h2]
  ·simp[h2]
 ·have h':¬z=y:=fun e=>h e.symm
  simp[h,h']
theorem vj(m:Nat->Nat->Bool)(fr:Bool)(x n:Nat):∀y s z,s.getD z false=true->(lY m fr x n y s).getD z false=true:=by
 induction n with
 | zero=>intro y s z h;exact h
 | succ n ih =>
   intro y s z h;rw[lY];refine ih _ _ _ ?_;split
   ·rw[Vu,h];rfl
   ·exact h
theorem zCP(m:Nat->Nat->Bool)(i N n:Nat):∀x s z,s.getD z false=true->(lX m i N n x s).getD z false=true:=by
 induction n with
 | zero=>intro x s z h;exact h
 | succ n ih=>intro x s z h;rw[lX];exact ih _ _ _ (vj _ _ _ _ _ _ _ h)
theorem zE0(m:Nat->Nat->Bool)(x n:Nat):∀y s z,y<=z->z<y+n->z<s.length->m x z=true->(lY m true x n y s).getD z false=true:=by
 induction n with
 | zero=>intro y s z h1 h2;omega
 | succ n ih =>
   intro y s z h1 h2 h3 h4;rw[lY];by_cases h:y=z
   ·subst h;refine vj _ _ _ _ _ _ _ ?_
    rw[h4];simp[h3]
   ·refine ih _ _ _ (by omega) (by omega) ?_ h4
    split <;> simp[h3]
theorem zE1(m:Nat->Nat->Bool)(i N n:Nat):∀x s x0 z,x<=x0->x0<x+n->z<N->s.length=N->(x0=i\/s.getD x0 false=true)->m x0 z=true->(lX m i N n x s).getD z false=true:=by
 induction n with
 | zero=>intro x s x0 z h1 h2;omega
 | succ n ih =>
   intro x s x0 z h1 h2 h3 h4 h5 h6;rw[lX];by_cases h:x=x0
   ·subst h;refine zCP _ _ _ _ _ _ _ ?_
    have e:zE4 i x s=true:=by unfold zE4;exact h5.elim (fun h=>by simp[h]) (fun h=>by rw[h,Bool.or_true])
    rw[e];exact zE0 _ _ _ _ _ _ (Nat.zero_le _) (by omega) (by omega) h6
   ·refine ih _ _ x0 z (by omega) (by omega) h3 (by rw[vo,h4]) ?_ h6
    rcases h5 with h5|h5
    ·exact .inl h5
    ·exact .inr (vj _ _ _ _ _ _ _ h5)
def Kl(m:Nat->Nat->Bool)(N:Nat)(a b:Nat):Prop:=a<N/\b<N/\m a b=true
theorem vm{m:Nat->Nat->Bool}{i N:Nat}(x:Nat)(hx:x<N)(fr:Bool)(hfr:fr=true->x=i\/TC (Kl m N) i x)(n:Nat):∀y s,y+n=N->(∀z,s.getD z false=true->TC (Kl m N) i z)->∀z,(lY m fr x n y s).getD z false=true->TC (Kl m N) i z:=by
 induction n with
 | zero=>intro y s _ h;exact h
 | succ n ih =>
   intro y s hy h;rw[lY];refine ih _ _ (by omega) ?_;intro z hz;split at hz
   ·rename_i hc
    rw[Bool.and_eq_true]at hc;rw[Vu,Bool.or_eq_true,Bool.and_eq_true]at hz;rcases hz with hz|⟨hz,_⟩
    ·exact h z hz
    ·have e:z=y:=by simpa using hz
     subst e;have h1:Kl m N x z:=⟨hx,by omega,hc.2⟩;rcases hfr hc.1 with h2|h2
     ·rw[<-h2];exact TC.one h1
     ·exact h2.trans (TC.one h1)
   ·exact h z hz
theorem vq{m:Nat->Nat->Bool}{i N:Nat}(n:Nat):∀x s,x+n=N->(∀z,s.getD z false=true->TC (Kl m N) i z)->∀z,(lX m i N n x s).getD z false=true->TC (Kl m N) i z:=by
 induction n with
 | zero=>intro x s _ h;exact h
 | succ n ih =>
   intro x s hx h;rw[lX];refine ih _ _ (by omega) (vm x (by omega) _ ?_ N 0 s (by omega) h);intro hf;unfold zE4 at hf;rw[Bool.or_eq_true]at hf;rcases hf with hf|hf
   ·exact .inl (by simpa using hf)
   ·exact .inr (h x hf)
theorem vt{m:Nat->Nat->Bool}{i N:Nat}(n:Nat):∀s,(∀z,s.getD z false=true->TC (Kl m N) i z)->∀z,(lN m i N n s).getD z false=true->TC (Kl m N) i z:=by
 induction n with
 | zero=>intro s h;exact h
 | succ n ih=>intro s h;rw[lN];exact ih _ (vq N 0 s (by omega) h)
def VD:List Bool->Nat
 | []=>0
 | b::r=>b.toNat+VD r
theorem zEJ(s:List Bool):VD s<=s.length:=by
 induction s with
 | nil=>exact Nat.le_refl _
 | cons b r ih=>rw[VD,List.length_cons];cases b <;> simp <;> omega
theorem zEI(s:List Bool):∀s',s.length=s'.length->(∀z,s.getD z false=true->s'.getD z false=true)->s=s'\/VD s<VD s':=by
 induction s with
 | nil=>intro s' h _;cases s' with
   | nil=>exact .inl rfl
   | cons _ _=>simp at h
 | cons b r ih =>
   intro s' h hz
   cases s' with
   | nil=>simp at h
   | cons b' r' =>
     have h0:=hz 0;have ih:=ih r' (by simpa using h) (fun z hh=>by have:=hz (z+1);simpa using this (by simpa using hh));rw[VD,VD];simp only[List.getD_cons_zero]at h0;rcases ih with ih|ih
     ·subst ih
      cases b <;> cases b'
      ·exact .inl rfl
      ·exact .inr (by simp)
      ·exact absurd (h0 rfl) (by simp)
      ·exact .inl rfl
     ·right
      cases b <;> cases b'
      ·simpa using ih
      ·simp;omega
      ·exact absurd (h0 rfl) (by simp)
      ·simpa using ih
theorem zB3(m:Nat->Nat->Bool)(i N n:Nat):∀s,lN m i N (n+1) s=lX m i N N 0 (lN m i N n s):=by
 induction n with
 | zero=>intro s;rfl
 | succ n ih=>intro s;rw[lN,ih];rfl
theorem zE3(m:Nat->Nat->Bool)(i N:Nat)(s:List Bool)(n:Nat):lX m i N N 0 (lN m i N n s)=lN m i N n s\/n<=VD (lN m i N n s):=by
 induction n with
 | zero=>exact .inr (Nat.zero_le _)
 | succ n ih =>
   rw[zB3];rcases ih with ih|ih
   ·left;rw[ih,ih]
   ·rcases zEI (lN m i N n s) (lX m i N N 0 (lN m i N n s)) (by rw[vr]) (zCP _ _ _ _ _ _) with h|h
    ·left;rw[<-h,<-h]
    ·right;omega
theorem iK{m:Nat->Nat->Bool}{N i k:Nat}:lO m N i k=true ↔ TC (Kl m N) i k:=by
 unfold lO;constructor
 ·intro h
  refine vt (N+1) _ ?_ k h;intro z hz;exfalso
  simp only[List.getD_eq_getElem?_getD,List.getElem?_replicate]at hz;split at hz <;> simp at hz
 ·intro h
  have zG4:(lN m i N (N+1) (List.replicate N false)).length=N:=by rw[zE2,List.length_replicate]
  have hfix:lX m i N N 0 (lN m i N (N+1) (List.replicate N false))=lN m i N (N+1) (List.replicate N false):=by
   rcases zE3 m i N (List.replicate N false) (N+1) with h1|h1
   ·exact h1
   ·have h2:=zEJ (lN m i N (N+1) (List.replicate N false));omega
  generalize lN m i N (N+1) (List.replicate N false)=s at *
  have key:∀x z,Kl m N x z->(x=i\/s.getD x false=true)->s.getD z false=true:=by
   intro x z h1 h2;have h3:=zE1 m i N N 0 s x z (Nat.zero_le _) (by have:=h1.1;omega) h1.2.1 zG4 h2 h1.2.2;rw[hfix]at h3;exact h3
  exact h (fun x z=>(x=i\/s.getD x false=true)->s.getD z false=true) key (fun x y z h1 h2 h3=>h2 (.inr (h1 h3))) (.inl rfl)
theorem GZ{m:Nat->Nat->Bool}{N a b:Nat}(h:TC (Kl m N) a b):a<N/\b<N:=h (fun a b=>a<N/\b<N) (fun _ _ h=>⟨h.1,h.2.1⟩) (fun _ _ _ h1 h2=>⟨h1.1,h2.2⟩)
def wG(m:Nat->Nat->Bool)(N:Nat):Bool:=(List.range N).any fun i=>lO m N i i
theorem QB{m:Nat->Nat->Bool}{N:Nat}{G:List Bool}(hl:G.length=64)(hN:N<=8)(h:∀a b,a<8->b<8->(gA G a b=true ↔ Kl m N a b)):wG m N=kY G:=by
 have e:∀a b,Qs G a b ↔ Kl m N a b:=fun a b=>⟨fun ⟨h1,h2,h3⟩=>(h a b h1 h2).1 h3,fun h1=>⟨by have:=h1.1;omega,by have:=h1.2.1;omega,(h a b (by have:=h1.1;omega) (by have:=h1.2.1;omega)).2 h1⟩⟩;rw[Bool.eq_iff_iff,Zx hl];unfold wG;rw[List.any_eq_true];constructor
 ·rintro⟨i,_,h2⟩
  have h3:=iK.1 h2;exact⟨i,by have:=(GZ h3).1;omega,h3.mono fun x y=>(e x y).2⟩
 ·rintro⟨i,_,h2⟩
  have h3:TC (Kl m N) i i:=h2.mono fun x y=>(e x y).1;exact⟨i,List.mem_range.2 (GZ h3).1,iK.2 h3⟩
def rQ:zH:=⟨0,[],0,0,[],[],[],0,0,0,[]⟩
def lA(ls:List zH)(i:Nat):zH:=ls.getD i rQ
def uA(us:List zJ)(i:Nat):zJ:=us.getD i []
theorem yY.len:∀ {ls:List zH} {us:List zJ},yY ls us->ls.length=us.length
 | [],[],_=>rfl
 | _::_,_::_,h=>by rw[List.length_cons,List.length_cons,yY.len h.2]
 | [],_::_,h=>absurd h id
 | _::_,[],h=>absurd h id
theorem yY.get:∀ {ls:List zH} {us:List zJ},yY ls us->∀i,i<us.length->LT (lA ls i) (uA us i)
 | [],[],_,i,hi=>absurd hi (by simp)
 | x::xs,u::us,h,0,_=>h.1
 | x::xs,u::us,h,i+1,hi=>yY.get h.2 i (by simpa using hi)
 | [],_::_,h,_,_=>absurd h id
 | _::_,[],h,_,_=>absurd h id
theorem yY.take:∀ {ls:List zH} {us:List zJ},yY ls us->∀n,yY (ls.take n) (us.take n)
 | [],[],_,n=>by simp[yY]
 | x::xs,u::us,h,0=>trivial
 | x::xs,u::us,h,n+1=>⟨h.1,yY.take h.2 n⟩
 | [],_::_,h,_=>absurd h id
 | _::_,[],h,_=>absurd h id
def Z3(k:Int):Int:=if k=1 then 3 else if k=2 then 3 else if k=3 then 8 else if k=4 then 28 else 0
def kO(k:Int):List zH->Nat
 | []=>0
 | x::r=>(if x.kind=k then 1 else 0)+kO k r
def pP(S:List xC):Bool:=decide (4<S.length) || S.any jT
def QN(x:zH):Bool:=decide (6<x.tests) || (decide (4<x.dep) || pP x.sum)
def lL(ls:List zH)(i:Nat):Bool:=decide (Z3 (lA ls i).kind<=(kO (lA ls i).kind (ls.take i):Int)) || (decide ((lA ls i).kind=3)&&QN (lA ls i))
def iU(k:Int)(nm:Bs)(x:zH):Bool:=decide (x.kind=k)&&decide (x.name=nm)
def Qr(nm:Bs)(x:zH):Bool:=decide (x.kind=3)&&decide (x.conc=nm)
def uJ(ls:List zH)(k:Int)(nm:Bs):Bool:=ls.any (iU k nm)
def jZ(ls:List zH)(nm:Bs):Bool:=ls.any (Qr nm)
def pA(p:zH->Bool):List zH->Nat->Nat
 | [],i=>i
 | x::r,i=>if p x then i else pA p r (i+1)
def vP(ls:List zH)(nm:Bs):Nat:=pA (iU 3 nm) ls 0
def YM(ls:List zH)(nm:Bs):Bool:=uJ ls 1 nm || jZ ls nm
def sL(ls:List zH)(y:Nat × Bs):Bool:=if y.1=0 then YM ls y.2 else if y.1=1 then jZ ls y.2 else if y.1=2 then uJ ls 1 y.2 else uJ ls 2 y.2
def kQ(ls:List zH)(x:xC):Bool:=decide (x.name=[]) || YM ls x.name
def uM(ls:List zH)(x:yB):Bool :=
 if x.kind=5 then jZ ls x.name else if x.kind=6 then uJ ls 2 x.name else if x.kind=7 then (decide (x.other=[]) || uJ ls 1 x.other)&&uJ ls 1 x.name else true
def bA(ls:List zH)(i:Nat):Int:=if uJ (ls.take i) 1 (lA ls i).name || (uJ (ls.take i) 2 (lA ls i).name || jZ ls (lA ls i).name) then 4 else 0
def wQ(ls:List zH)(i:Nat):Int:=if bA ls i=0 then (if (lA ls i).high<(lA ls i).low then 5 else 0) else bA ls i
def cC(ls:List zH)(i:Nat):Int:=if uJ (ls.take i) 3 (lA ls i).name || ((lA ls i).sum.any (fun x => !kQ ls x) || (lA ls i).nd.any (fun x => !uM ls x)) then 4 else 0
def mO(ls:List zH)(x:zH):Int :=
 if vP ls x.name=ls.length\/vP ls x.lower=ls.length then 4
 else if x.name=x.lower\/(lA ls (vP ls x.name)).conc≠(lA ls (vP ls x.lower)).conc then 6 else 0
def pU(ls:List zH)(i:Nat):Int :=
 if (lA ls i).kind=1 then wQ ls i else if (lA ls i).kind=2 then bA ls i else if (lA ls i).kind=3 then cC ls i else if (lA ls i).kind=4 then mO ls (lA ls i) else 0
def oO(c:Bs):Int:=if c=vE then 3 else if c=xB then 3 else if c=zW then 8 else 28
def bV(c:Bs):List zJ->Nat
 | []=>0
 | u::r=>(if cA u 0=c then 1 else 0)+bV c r
def iW(u:zJ):Nat:=(pW u).toNat
def QO(u:zJ):Bool:=mD [] (u.take (iW u)) || (decide (4<(qV (u.take (iW u)):Int)+1) || (decide (6<(yG (u.length+1) (u.drop (iW u+1))).1) || decide (4<(yG (u.length+1) (u.drop (iW u+1))).2)))
def pV(us:List zJ)(i:Nat):Bool:=decide (oO (cA (uA us i) 0)<(bV (cA (uA us i) 0) (us.take (i+1)):Int)) || (decide (cA (uA us i) 0=zW)&&QO (uA us i))
def vZ(p:zJ->Bool):List zJ->Nat->Int
 | [],_ => -1
 | u::r,i=>if p u then (i:Int) else vZ p r (i+1)
def YA(c:Bs)(at':Nat)(nm:Bs)(u:zJ):Bool:=decide (cA u 0=c)&&decide (tA u at'=nm)
def yF(us:List zJ)(c:Bs)(at':Nat)(nm:Bs):Int:=vZ (YA c at' nm) us 0
theorem dM(p:zJ->Bool)(us:List zJ):∀i,-1<=vZ p us i/\vZ p us i<(i:Int)+us.length/\(0<=vZ p us i->(i:Int)<=vZ p us i):=by
 induction us with
 | nil=>intro i;simp[vZ];omega
 | cons u r ih =>
   intro i;rw[vZ];split
   ·simp;omega
   ·have:=ih (i+1);simp only[List.length_cons];omega
theorem oS(p:zJ->Bool)(us:List zJ):∀i,0<=vZ p us i ↔ us.any p=true:=by
 induction us with
 | nil=>intro i;simp[vZ]
 | cons u r ih =>
   intro i;rw[vZ,List.any_cons];split
   ·rename_i h;simp[h]
   ·rename_i h;rw[ih];simp[h]
theorem sW(p:zJ->Bool)(us:List zJ):∀(i n:Nat),(0<=vZ p us i/\vZ p us i<(i:Int)+n) ↔ (us.take n).any p=true:=by
 induction us with
 | nil=>intro i n;simp[vZ]
 | cons u r ih =>
   intro i n
   cases n with
   | zero=>have:=dM p (u::r) i;simp;omega
   | succ n =>
     rw[vZ,List.take_succ_cons,List.any_cons];split
     ·rename_i h;simp[h];omega
     ·rename_i h
      have:=ih (i+1) n;have h':p u=false:=by simpa using h
      rw[h',Bool.false_or,<-this];omega
theorem V0(p:zH->Bool)(ls:List zH):∀i,i<=pA p ls i/\pA p ls i<=i+ls.length:=by
 induction ls with
 | nil=>intro i;simp[pA]
 | cons x r ih=>intro i;rw[pA];split
                ·simp
                ·have:=ih (i+1);simp only[List.length_cons];omega
theorem XH{p:zH->Bool}{q:zJ->Bool}:∀ {ls:List zH} {us:List zJ},yY ls us->(∀x u,LT x u->p x=q u)->∀i:Nat,(pA p ls i=i+ls.length/\vZ q us i = -1)\/(pA p ls i<i+ls.length/\vZ q us i=(pA p ls i:Int))
 | [],[],_,_,i=>.inl ⟨rfl,rfl⟩
 | x::xs,u::us,h,hpq,i=>by
   rw[pA,vZ,<-hpq x u h.1,List.length_cons];split
   ·exact .inr ⟨by omega,rfl⟩
   ·rcases XH h.2 hpq (i+1) with ⟨h1,h2⟩|⟨h1,h2⟩
    ·exact .inl ⟨by omega,h2⟩
    ·exact .inr ⟨by omega,h2⟩
 | [],_::_,h,_,_=>absurd h id
 | _::_,[],h,_,_=>absurd h id
theorem mE{p:zH->Bool}{q:zJ->Bool}:∀ {ls:List zH} {us:List zJ},yY ls us->(∀x u,LT x u->p x=q u)->ls.any p=us.any q
 | [],[],_,_=>rfl
 | x::xs,u::us,h,hpq=>by rw[List.any_cons,List.any_cons,hpq x u h.1,mE h.2 hpq]
 | [],_::_,h,_=>absurd h id
 | _::_,[],h,_=>absurd h id
theorem LT.k1{x:zH}{u:zJ}(h:LT x u):x.kind=1 ↔ cA u 0=vE:=by
 rcases h.kind with ⟨a,b,_⟩|⟨a,b⟩|⟨a,b,_⟩|⟨a,b,_⟩ <;> rw[a,b] <;> decide
theorem LT.k2{x:zH}{u:zJ}(h:LT x u):x.kind=2 ↔ cA u 0=xB:=by
 rcases h.kind with ⟨a,b,_⟩|⟨a,b⟩|⟨a,b,_⟩|⟨a,b,_⟩ <;> rw[a,b] <;> decide
theorem LT.k3{x:zH}{u:zJ}(h:LT x u):x.kind=3 ↔ cA u 0=zW:=by
 rcases h.kind with ⟨a,b,_⟩|⟨a,b⟩|⟨a,b,_⟩|⟨a,b,_⟩ <;> rw[a,b] <;> decide
theorem LT.k4{x:zH}{u:zJ}(h:LT x u):x.kind=4 ↔ cA u 0=tW:=by
 rcases h.kind with ⟨a,b,_⟩|⟨a,b⟩|⟨a,b,_⟩|⟨a,b,_⟩ <;> rw[a,b] <;> decide
theorem LT.rule{x:zH}{u:zJ}(h:LT x u)(hk:cA u 0=zW):∃w,Zm x u w:=by
 rcases h.kind with ⟨a,b,_⟩|⟨a,b⟩|⟨a,b,_⟩|⟨a,b,hr⟩
 ·exact absurd (b.symm.trans hk) (by decide)
 ·exact absurd (b.symm.trans hk) (by decide)
 ·exact absurd (b.symm.trans hk) (by decide)
 ·exact hr
theorem LT.len{x:zH}{u:zJ}(h:LT x u)(hk:cA u 0=zW):6<=u.length:=by
 obtain⟨w,hw⟩:=h.rule hk;have:=hw.wlo;have:=hw.whi;omega
theorem Zm.wAt{x:zH}{u:zJ}{w:Nat}(h:Zm x u w):iW u=w:=by unfold iW pW;rw[h.whenAt];rfl
theorem Zm.wB{x:zH}{u:zJ}{w:Nat}(h:Zm x u w):pW u=w:=by unfold pW;rw[h.whenAt]
theorem Zc{x:zH}{u:zJ}(h:LT x u)(k:Int)(c:Bs)(hk:(k=1/\c=vE)\/(k=2/\c=xB)\/(k=3/\c=zW))(nm:Bs):iU k nm x=YA c 1 nm u:=by
 unfold iU YA;rw[h.name];rcases hk with ⟨rfl,rfl⟩|⟨rfl,rfl⟩|⟨rfl,rfl⟩
 ·rw[decide_eq_decide.2 h.k1]
 ·rw[decide_eq_decide.2 h.k2]
 ·rw[decide_eq_decide.2 h.k3]
theorem Vi{x:zH}{u:zJ}(h:LT x u)(nm:Bs):Qr nm x=YA zW 3 nm u:=by
 unfold Qr YA;rw[decide_eq_decide.2 h.k3];by_cases hk:cA u 0=zW
 ·obtain⟨w,hw⟩:=h.rule hk
  rw[hw.conc]
 ·rw[decide_eq_false hk];rfl
theorem vb{x:zH}{u:zJ}(h:LT x u):Z3 x.kind=oO (cA u 0):=by
 rcases h.kind with ⟨a,b,_⟩|⟨a,b⟩|⟨a,b,_⟩|⟨a,b,_⟩ <;> rw[a,b] <;> decide
theorem CQ{x y:zH}{u v:zJ}(h:LT x u)(h':LT y v):x.kind=y.kind ↔ cA u 0=cA v 0:=by
 rcases h.kind with ⟨a,b,_⟩|⟨a,b⟩|⟨a,b,_⟩|⟨a,b,_⟩ <;> rcases h'.kind with ⟨a',b',_⟩|⟨a',b'⟩|⟨a',b',_⟩|⟨a',b',_⟩ <;> rw[a,b,a',b'] <;> decide
theorem VC{y:zH}{v:zJ}(hy:LT y v):∀ {ls:List zH} {us:List zJ},yY ls us->kO y.kind ls=bV (cA v 0) us
 | [],[],_=>rfl
 | x::xs,u::us,h=>by
   rw[kO,bV,VC hy h.2];by_cases hk:x.kind=y.kind
   ·rw[if_pos hk,if_pos ((CQ h.1 hy).1 hk)]
   ·rw[if_neg hk,if_neg (fun e=>hk ((CQ h.1 hy).2 e))]
 | [],_::_,h=>absurd h id
 | _::_,[],h=>absurd h id
theorem Ga(c:Bs)(us:List zJ):∀i,i<us.length->bV c (us.take (i+1))=bV c (us.take i)+(if cA (uA us i) 0=c then 1 else 0):=by
 induction us with
 | nil=>intro i h;simp at h
 | cons u r ih =>
   intro i h
   cases i with
   | zero=>simp[bV,uA]
   | succ i =>
     rw[List.take_succ_cons,bV,ih i (by simpa using h),List.take_succ_cons,bV,show uA (u::r) (i+1)=uA r i from rfl];omega
theorem Fb{x:zH}{u:zJ}(h:LT x u)(hk:cA u 0=zW):QN x=QO u:=by
 obtain⟨w,hw⟩:=h.rule hk;unfold QN QO pP;rw[hw.wAt,hw.big,hw.wt (u.length+1) (by rw[List.length_drop];omega)];have e:((qV (u.take w):Int)+1)=(x.sum.length:Int):=by have:=hw.parts;omega
 rw[e,show decide (4<x.sum.length)=decide ((4:Int)<(x.sum.length:Int)) by rw[decide_eq_decide];omega];generalize decide ((4:Int)<(x.sum.length:Int))=a;generalize x.sum.any jT=b;show (decide (6<x.tests) || (decide (4<x.dep) || (a || b)))=(b || (a || (decide (6<x.tests) || decide (4<x.dep))));cases a <;> cases b <;> cases decide (6<x.tests) <;> cases decide (4<x.dep) <;> rfl
theorem BW{ls:List zH}{us:List zJ}(h:yY ls us){i:Nat}(hi:i<us.length):pV us i=lL ls i:=by
 have hx:=h.get i hi;unfold pV lL;rw[Ga _ _ i hi,if_pos rfl,<-vb hx,VC hx (h.take i)];have e:decide (Z3 (lA ls i).kind<((bV (cA (uA us i) 0) (us.take i)+1:Nat):Int))=decide (Z3 (lA ls i).kind<=(bV (cA (uA us i) 0) (us.take i):Int)):=by rw[decide_eq_decide];omega
 rw[e];congr 1
 rw[decide_eq_decide.2 hx.k3];by_cases hk:cA (uA us i) 0=zW
 ·rw[Fb hx hk]
 ·rw[decide_eq_false hk];rfl
def cY(us:List zJ)(nm:Bs):Bool:=decide (0<=yF us vE 1 nm)
def dL(us:List zJ)(nm:Bs):Bool:=decide (0<=yF us xB 1 nm)
def jW(us:List zJ)(nm:Bs):Bool:=decide (0<=yF us zW 3 nm)
def CD(u:zJ)(k:Nat):Bs:=if k+1<u.length then cA u (k+1) else []
def X6(u:zJ)(k:Nat):Nat:=if k<iW u then 0 else mT (cA u (k-1)) (CD u k)
def GA(us:List zJ)(y:Nat × Bs):Bool:=if y.1=0 then cY us y.2 || jW us y.2 else if y.1=1 then jW us y.2 else if y.1=2 then cY us y.2 else dL us y.2
def lQ(us:List zJ)(u:zJ)(k:Nat):Bool:=GA us (X6 u k,tA u k)
def nK(us:List zJ)(u:zJ):Nat->Nat->Bool
 | 0,_=>false
 | n+1,k=>if cA u k=yP/\lQ us u k=false then true else nK us u n (k+1)
def xM(us:List zJ)(i:Nat):Bool :=
 if cA (uA us i) 0=vE\/cA (uA us i) 0=xB then
  (decide (0<=yF us vE 1 (tA (uA us i) 1))&&decide (yF us vE 1 (tA (uA us i) 1)<(i:Int))) || ((decide (0<=yF us xB 1 (tA (uA us i) 1))&&decide (yF us xB 1 (tA (uA us i) 1)<(i:Int))) || jW us (tA (uA us i) 1))
 else if cA (uA us i) 0=tW then decide (yF us zW 1 (tA (uA us i) 1)<0) || decide (yF us zW 1 (tA (uA us i) 2)<0)
 else decide (yF us zW 1 (tA (uA us i) 1)<(i:Int)) || nK us (uA us i) ((uA us i).length-5) 5
def QE(us:List zJ)(u:zJ):Bool:=decide (tA u 1=tA u 2) || !decide (tA (uA us (yF us zW 1 (tA u 1)).toNat) 3=tA (uA us (yF us zW 1 (tA u 2)).toNat) 3)
def jM(us:List zJ)(i:Nat):Int :=
 if xM us i=true then 4
 else if cA (uA us i) 0=vE then (if xH 0 (tA (uA us i) 4)<xH 0 (tA (uA us i) 2) then 5 else 0)
 else if cA (uA us i) 0=tW then (if QE us (uA us i)=true then 6 else 0) else 0
theorem Xn(u:zJ)(k:Nat):ZY (u.drop (k+1)) []=CD u k:=by
 unfold CD;split
 ·rename_i h;rw[zO u (k+1) h];rfl
 ·rename_i h;rw[List.drop_eq_nil_of_le (by omega)];rfl
theorem Ce(us:List zJ)(u:zJ)(n:Nat):∀k,iW u<k->k+n=u.length->nK us u n k=(qN (cA u (k-1)) (u.drop k) []).any (fun y => !GA us y):=by
 induction n with
 | zero=>intro k _ h;rw[List.drop_eq_nil_of_le (by omega)];rfl
 | succ n ih =>
   intro k hk h;have zFY:k<u.length:=by omega
   rw[zO u k zFY,qN,nK,Xn,ih (k+1) (by omega) (by omega),show k+1-1=k by omega];show _=((if cA u k=yP then [(mT (cA u (k-1)) (CD u k),tA u k)] else [])++qN (cA u k) (u.drop (k+1)) []).any _;have hf:lQ us u k=GA us (mT (cA u (k-1)) (CD u k),tA u k):=by unfold lQ X6;rw[if_neg (by omega)]
   by_cases hc:cA u k=yP
   ·rw[if_pos hc,List.any_append]
    by_cases ho:lQ us u k=false
    ·rw[if_pos ⟨hc,ho⟩];rw[hf]at ho;simp[ho]
    ·rw[if_neg (fun h=>ho h.2)]
     have ho':GA us (mT (cA u (k-1)) (CD u k),tA u k)=true:=by rw[<-hf];simpa using ho
     simp[ho']
   ·rw[if_neg hc,if_neg (fun h=>hc h.1),List.nil_append]
theorem qt(us:List zJ)(u:zJ){w:Nat}(hw:iW u=w)(hwl:w<u.length)(n:Nat):∀k,k+n=w->nK us u (u.length-k) k=((cF ((u.take w).drop k)).any (fun y => !GA us y) || nK us u (u.length-w) w):=by
 induction n with
 | zero=>intro k h;obtain rfl:k=w:=by omega
         rw[List.drop_eq_nil_of_le (by rw[List.length_take];omega)];rfl
 | succ n ih =>
   intro k h;have zFY:k<(u.take w).length:=by rw[List.length_take];omega
   have e0:(u.take w).getD k (0,[])=u.getD k (0,[]):=by rw[List.getD,List.getD,List.getElem?_take_of_lt (by omega)]
   rw[show u.length-k=(u.length-(k+1))+1 by omega,nK,ih (k+1) (by omega),zO (u.take w) k zFY,e0,cF];show _=(((if cA u k=yP then [(0,tA u k)] else [])++cF ((u.take w).drop (k+1))).any _ || _);have hf:lQ us u k=GA us (0,tA u k):=by unfold lQ X6;rw[hw,if_pos (by omega)]
   by_cases hc:cA u k=yP
   ·rw[if_pos hc,List.any_append]
    by_cases ho:lQ us u k=false
    ·rw[if_pos ⟨hc,ho⟩];rw[hf]at ho;simp[ho]
    ·rw[if_neg (fun h=>ho h.2)]
     have ho':GA us (0,tA u k)=true:=by rw[<-hf];simpa using ho
     simp[ho']
   ·rw[if_neg hc,if_neg (fun h=>hc h.1),List.nil_append]
theorem zBY(us:List zJ){x:zH}{u:zJ}{w:Nat}(h:Zm x u w)(hc:cA u w=xY):nK us u (u.length-5) 5=((x.sum.flatMap sE).any (fun y => !GA us y) || (jV x.nd).any (fun y => !GA us y)):=by
 have h1:=h.wlo;have h2:=h.whi;rw[qt us u h.wAt (by omega) (w-5) 5 (by omega),h.needs];congr 1
 rw[show u.length-w=(u.length-(w+1))+1 by omega,nK,if_neg (fun e=>absurd (hc.symm.trans e.1) (by decide)),Ce us u _ (w+1) (by rw[h.wAt];omega) (by omega),show w+1-1=w by omega,hc,h.needs2]
theorem ym{ls:List zH}{us:List zJ}(h:yY ls us)(nm:Bs):cY us nm=uJ ls 1 nm:=by
 unfold cY uJ yF;rw[mE h (fun x u hx=>Zc hx 1 vE (.inl ⟨rfl,rfl⟩) nm),Bool.eq_iff_iff,decide_eq_true_iff,oS]
theorem FJ{ls:List zH}{us:List zJ}(h:yY ls us)(nm:Bs):dL us nm=uJ ls 2 nm:=by
 unfold dL uJ yF;rw[mE h (fun x u hx=>Zc hx 2 xB (.inr (.inl ⟨rfl,rfl⟩)) nm),Bool.eq_iff_iff,decide_eq_true_iff,oS]
theorem Z6{ls:List zH}{us:List zJ}(h:yY ls us)(nm:Bs):jW us nm=jZ ls nm:=by
 unfold jW jZ yF;rw[mE h (fun x u hx=>Vi hx nm),Bool.eq_iff_iff,decide_eq_true_iff,oS]
theorem CC{ls:List zH}{us:List zJ}(h:yY ls us)(y:Nat × Bs):GA us y=sL ls y:=by
 unfold GA sL YM;rw[ym h,FJ h,Z6 h]
theorem DG(ls:List zH)(S:List xC):(S.flatMap sE).any (fun y => !sL ls y)=S.any (fun x => !kQ ls x):=by
 induction S with
 | nil=>rfl
 | cons x r ih =>
   rw[List.flatMap_cons,List.any_append,ih,List.any_cons];congr 1
   unfold sE kQ;by_cases h:x.name=[]
   ·rw[if_pos h,decide_eq_true h];rfl
   ·rw[if_neg h,decide_eq_false h];simp[sL]
theorem DQ(ls:List zH)(N:List yB):(jV N).any (fun y => !sL ls y)=N.any (fun x => !uM ls x):=by
 induction N with
 | nil=>rfl
 | cons x r ih =>
   unfold jV at ih ⊢;rw[List.flatMap_cons,List.any_append,ih,List.any_cons];congr 1
   unfold KI uM;by_cases h5:x.kind=5
   ·rw[if_pos h5,if_pos h5];simp[sL]
   ·rw[if_neg h5,if_neg h5]
    by_cases h6:x.kind=6
    ·rw[if_pos h6,if_pos h6];simp[sL]
    ·rw[if_neg h6,if_neg h6]
     by_cases h7:x.kind=7
     ·rw[if_pos h7,if_pos h7]
      by_cases ho:x.other=[]
      ·rw[if_pos ho,decide_eq_true ho];simp[sL]
      ·rw[if_neg ho,decide_eq_false ho]
       show ((!uJ ls 1 x.name) || ((!uJ ls 1 x.other) || false)) = !((false || uJ ls 1 x.other)&&uJ ls 1 x.name);cases uJ ls 1 x.name <;> cases uJ ls 1 x.other <;> rfl
     ·rw[if_neg h7,if_neg h7];rfl
theorem fK{ls:List zH}{us:List zJ}(h:yY ls us)(k:Int)(c:Bs)(hk:(k=1/\c=vE)\/(k=2/\c=xB)\/(k=3/\c=zW))(nm:Bs)(i:Nat):(decide (0<=yF us c 1 nm)&&decide (yF us c 1 nm<(i:Int)))=uJ (ls.take i) k nm:=by
 unfold uJ yF;rw[mE (h.take i) (fun x u hx=>Zc hx k c hk nm),Bool.eq_iff_iff,Bool.and_eq_true,decide_eq_true_iff,decide_eq_true_iff,<-sW (YA c 1 nm) us 0 i];simp
theorem QY{ls:List zH}{us:List zJ}(h:yY ls us)(nm:Bs):(vP ls nm=ls.length/\yF us zW 1 nm = -1)\/(vP ls nm<ls.length/\yF us zW 1 nm=(vP ls nm:Int)):=by
 have:=XH h (fun x u hx=>Zc hx 3 zW (.inr (.inr ⟨rfl,rfl⟩)) nm) 0;unfold vP yF;simpa using this
theorem ZC(p:zH->Bool)(ls:List zH):∀i,pA p ls i<i+ls.length->p (lA ls (pA p ls i-i))=true:=by
 induction ls with
 | nil=>intro i h;simp[pA]at h
 | cons x r ih =>
   intro i h;rw[pA]at h ⊢;split
   ·rename_i hp;simpa[lA] using hp
   ·rename_i hp
    rw[if_neg hp]at h;have h1:=(V0 p r (i+1)).1;have:=ih (i+1) (by rw[List.length_cons]at h;omega);rw[show pA p r (i+1)-i=(pA p r (i+1)-(i+1))+1 by omega];exact this
theorem XM{ls:List zH}{us:List zJ}(h:yY ls us){i:Nat}(hi:i<us.length):jM us i=pU ls i:=by
 have hx:=h.get i hi;unfold jM;rcases hx.kind with ⟨a,b,_,_,_,d1,d2⟩|⟨a,b⟩|⟨a,b,_,d⟩|⟨a,b,d⟩
 ·have e:xM us i=decide (bA ls i=4):=by
   unfold xM bA;rw[if_pos (.inl b),fK h 1 vE (.inl ⟨rfl,rfl⟩),fK h 2 xB (.inr (.inl ⟨rfl,rfl⟩)),Z6 h,hx.name];generalize (uJ (ls.take i) 1 (lA ls i).name || (uJ (ls.take i) 2 (lA ls i).name || jZ ls (lA ls i).name))=z;cases z <;> decide
  have eR:pU ls i=wQ ls i:=by unfold pU;rw[if_pos a]
  rw[e,eR,if_pos b,d1,d2];unfold wQ;have h4:bA ls i=4\/bA ls i=0:=by unfold bA;split;exact .inl rfl;exact .inr rfl
  rcases h4 with h4|h4
  ·rw[h4];simp
  ·rw[h4];simp
 ·have e:xM us i=decide (bA ls i=4):=by
   unfold xM bA;rw[if_pos (.inr b),fK h 1 vE (.inl ⟨rfl,rfl⟩),fK h 2 xB (.inr (.inl ⟨rfl,rfl⟩)),Z6 h,hx.name];generalize (uJ (ls.take i) 1 (lA ls i).name || (uJ (ls.take i) 2 (lA ls i).name || jZ ls (lA ls i).name))=z;cases z <;> decide
  have eR:pU ls i=bA ls i:=by unfold pU;rw[if_neg (by rw[a];decide),if_pos a]
  rw[e,eR,if_neg (show ¬cA (uA us i) 0=vE by rw[b];decide),if_neg (show ¬cA (uA us i) 0=tW by rw[b];decide)];have h4:bA ls i=4\/bA ls i=0:=by unfold bA;split;exact .inl rfl;exact .inr rfl
  rcases h4 with h4|h4 <;> rw[h4] <;> rfl
 ·have eR:pU ls i=mO ls (lA ls i):=by unfold pU;rw[if_neg (by rw[a];decide),if_neg (by rw[a];decide),if_neg (by rw[a];decide),if_pos a]
  rw[eR,if_neg (show ¬cA (uA us i) 0=vE by rw[b];decide),if_pos b]
  have eN:xM us i=(decide (yF us zW 1 (tA (uA us i) 1)<0) || decide (yF us zW 1 (tA (uA us i) 2)<0)):=by
   unfold xM;rw[if_neg (show ¬(cA (uA us i) 0=vE\/cA (uA us i) 0=xB) by rw[b];decide),if_pos b]
  have hl:=h.len;rw[hx.name,d]at eN;rcases QY h (lA ls i).name with ⟨f1,f2⟩|⟨f1,f2⟩
  ·have e1:mO ls (lA ls i)=4:=by unfold mO;rw[if_pos (.inl f1)]
   rw[e1,if_pos (by rw[eN,f2];rfl)]
  ·rcases QY h (lA ls i).lower with ⟨g1,g2⟩|⟨g1,g2⟩
   ·have e1:mO ls (lA ls i)=4:=by unfold mO;rw[if_pos (.inr g1)]
    rw[e1,if_pos (by rw[eN,g2];simp)]
   ·have e1:mO ls (lA ls i)=if (lA ls i).name=(lA ls i).lower\/(lA ls (vP ls (lA ls i).name)).conc≠(lA ls (vP ls (lA ls i).lower)).conc then 6 else 0:=by
     unfold mO;rw[if_neg (by rintro(e|e) <;> omega)]
    have e2:xM us i=false:=by
     rw[eN,f2,g2,decide_eq_false (by omega),decide_eq_false (by omega)];rfl
    have q1:=h.get (vP ls (lA ls i).name) (by omega);have q2:=h.get (vP ls (lA ls i).lower) (by omega);have p1:iU 3 (lA ls i).name (lA ls (vP ls (lA ls i).name))=true:=ZC (iU 3 (lA ls i).name) ls 0 (by rw[Nat.zero_add];exact f1);have p2:iU 3 (lA ls i).lower (lA ls (vP ls (lA ls i).lower))=true:=ZC (iU 3 (lA ls i).lower) ls 0 (by rw[Nat.zero_add];exact g1)
    have p1':(lA ls (vP ls (lA ls i).name)).kind=3:=by
     unfold iU at p1;rw[Bool.and_eq_true]at p1;simpa using p1.1
    have p2':(lA ls (vP ls (lA ls i).lower)).kind=3:=by
     unfold iU at p2;rw[Bool.and_eq_true]at p2;simpa using p2.1
    obtain⟨w1,r1⟩:=q1.rule (q1.k3.1 p1');obtain⟨w2,r2⟩:=q2.rule (q2.k3.1 p2')
    have e3:QE us (uA us i)=(decide ((lA ls i).name=(lA ls i).lower) || !decide ((lA ls (vP ls (lA ls i).name)).conc=(lA ls (vP ls (lA ls i).lower)).conc)):=by
     unfold QE;rw[hx.name,d,f2,g2,Int.toNat_natCast,Int.toNat_natCast,r1.conc,r2.conc]
    rw[e1,e3,if_neg (by rw[e2];decide)];by_cases c1:(lA ls i).name=(lA ls i).lower
    ·simp[c1]
    ·by_cases c2:(lA ls (vP ls (lA ls i).name)).conc=(lA ls (vP ls (lA ls i).lower)).conc
     ·simp[c1,c2]
     ·simp[c1,c2]
 ·obtain⟨w,hw⟩:=d
  have eR:pU ls i=cC ls i:=by unfold pU;rw[if_neg (by rw[a];decide),if_neg (by rw[a];decide),if_pos a]
  rw[eR,if_neg (show ¬cA (uA us i) 0=vE by rw[b];decide),if_neg (show ¬cA (uA us i) 0=tW by rw[b];decide)]
  have hcw:cA (uA us i) w=xY:=by
   have hwhen:∀(u:zJ) (k j:Nat),mN u k=some j->k<=j/\cA u (j-k)=xY:=by
    intro u
    induction u with
    | nil=>intro k j h;simp[mN]at h
    | cons t r ih =>
      intro k j h;rw[mN]at h;split at h
      ·rename_i ht
       obtain rfl:=Option.some.inj h;exact⟨Nat.le_refl _,by rw[Nat.sub_self];exact ht⟩
      ·obtain⟨h1,h2⟩:=ih (k+1) j h
       refine⟨by omega,?_⟩;rw[show j-k=(j-(k+1))+1 by omega];exact h2
   have:=(hwhen _ 0 w hw.whenAt).2;simpa using this
  have e:xM us i=(uJ (ls.take i) 3 (lA ls i).name || ((lA ls i).sum.any (fun x => !kQ ls x) || (lA ls i).nd.any (fun x => !uM ls x))):=by
   unfold xM;rw[if_neg (show ¬(cA (uA us i) 0=vE\/cA (uA us i) 0=xB) by rw[b];decide),if_neg (show ¬cA (uA us i) 0=tW by rw[b];decide),zBY us hw hcw,hx.name]
   have h0:0<=yF us zW 1 (lA ls i).name:=by
    unfold yF;rw[oS];refine List.any_eq_true.2 ⟨uA us i,?_,?_⟩
    ·unfold uA;rw[List.getD,List.getElem?_eq_getElem hi];exact List.getElem_mem hi
    ·unfold YA;rw[hx.name,decide_eq_true b];simp
   have:=fK h 3 zW (.inr (.inr ⟨rfl,rfl⟩)) (lA ls i).name i;rw[decide_eq_true h0,Bool.true_and]at this;rw[this,<-DG,<-DQ];congr 1
   congr 1
   ·congr 1;funext y;rw[CC h]
   ·congr 1;funext y;rw[CC h]
  rw[e];unfold cC;generalize (uJ (ls.take i) 3 (lA ls i).name || ((lA ls i).sum.any (fun x => !kQ ls x) || (lA ls i).nd.any (fun x => !uM ls x)))=z;cases z <;> rfl
end Go.Proofs.YtnbpdffdnphbeaaGreatDoor
