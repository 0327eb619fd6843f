import Derived.Test.YtnbpdffdnphbeabGreatDoorPItoa
namespace Go.Proofs.YtnbpdffdnphbeabGreatDoor
variable{v w:Bs}{i k:Int}{low:List Nat}{N:List zJ}{a m n:Nat}(t:yH)(l:List yH)(lo:Bool)
def lT(t:yH):zJ :=
 if t.kind=0 then ⟨4,0,0,[],[],[],0⟩ else if t.kind=1 then ⟨6,0,0,xC t.x.toNat,[],[],0⟩ else if t.kind=2 then ⟨5,0,0,xU 99 t.x.toNat,[],[],0⟩ else
 if t.kind=3 then ⟨7,0,0,xC t.x.toNat,aL t.mark.toNat,[],t.n⟩ else ⟨7,0,0,xC t.x.toNat,aL t.mark.toNat,xC t.y.toNat,0⟩
theorem XG:4<=(lT t).kind:=by
 unfold lT;split
 ·simp
 ·split
  ·simp
  ·split
   ·simp
   ·split <;> simp
def jg(v:Bs):Prop:=v=qM\/v=vF\/v=xW\/v=tC
theorem jg.cmp(h:jg v):tD.contains v=false:=by rcases h with rfl|rfl|rfl|rfl <;> decide
theorem Dq{k:Nat}(hk:k<6):tD.contains (aL k)=true/\yG (aL k)=4/\(aL k).isEmpty=false:=by
 have h:k=0\/k=1\/k=2\/k=3\/k=4\/k=5:=by omega
 rcases h with rfl|rfl|rfl|rfl|rfl|rfl <;> decide
variable {P:List PT}
theorem Ic{k:Nat}(hk:k<6)(h:At P a (aL k)):vK P (a,false)=(aL k,(a+1,false)):=by
 obtain⟨h1,h2,-⟩:=Dq hk;unfold vK;simp only[h.2.1,h1,cC h h2]
theorem L7(h:At P a v)(hv:tD.contains v=false):vK P (a,false)=([],(a,false)):=by
 unfold vK;simp only[h.2.1,hv]
theorem GZ(h:At P a w)(hk:yG w=2)(h2:At P (a+1) v)(hv:tD.contains v=false):xH P (a,false)=(⟨6,0,0,w,[],[],0⟩,(a+1,false)):=by
 unfold xH;simp only[kT h [97,108,119,97,121,115] (λk=>M' (hk.symm.trans k)),kT h [104,97,115] (λk=>M' (hk.symm.trans k)),bL h hk,L7 h2 hv,List.isEmpty_nil]
theorem S2{n:Bs}(h:At P a w)(hk:yG w=2)(hm:m<6)(h2:At P (a+1) (aL m))(h3:At P (a+1+1) n)(hn:yG n=3):xH P (a,false)=(⟨7,0,0,w,aL m,[],kM n⟩,(a+1+1+1,false)):=by
 unfold xH;simp only[kT h [97,108,119,97,121,115] (λk=>M' (hk.symm.trans k)),kT h [104,97,115] (λk=>M' (hk.symm.trans k)),bL h hk,Ic hm h2,(Dq hm).2.2,Vo h3 hn,sB h3 hn]
theorem S5{n:Bs}(h:At P a w)(hk:yG w=2)(hm:m<6)(h2:At P (a+1) (aL m))(h3:At P (a+1+1) n)(hn:yG n=2):xH P (a,false)=(⟨7,0,0,w,aL m,n,0⟩,(a+1+1+1,false)):=by
 unfold xH;simp only[kT h [97,108,119,97,121,115] (λk=>M' (hk.symm.trans k)),kT h [104,97,115] (λk=>M' (hk.symm.trans k)),bL h hk,Ic hm h2,(Dq hm).2.2,Gl h3 (by rw[hn];decide),bL h3 hn]
theorem Kn(aA:∀d∈low,d<4){t:yH}(h:vO low t)(hv:jg v)(hA:ZW P a (uZ t++[v])):(∃w r,uZ t=w::r/\(yG w=4->w≠xE/\w≠yS))/\xH P (a,false)=(lT t,(a+(uZ t).length,false)):=by
 have nk:∀w:Bs,yG w=2->yG w=4->w≠xE/\w≠yS:=λw h1 h2=>M' (h1.symm.trans h2);rcases h with h|⟨h,x1,x2⟩|⟨h,d,hd,hx⟩|⟨h,⟨x1,x2⟩,⟨y1,y2⟩,⟨m1,m2⟩,n1,n2⟩
 ·have e1:uZ t=[ZB]:=by unfold uZ;rw[tr h]
  have e2:lT t=⟨4,0,0,[],[],[],0⟩:=by unfold lT;rw[tr h]
  rw[e1]at hA ⊢;rw[e2];exact⟨⟨_,_,rfl,λ_=>by decide⟩,Sz hA.1⟩
 ·have e1:uZ t=[xC t.x.toNat]:=by unfold uZ;rw[i6,tr h]
  have e2:lT t=⟨6,0,0,xC t.x.toNat,[],[],0⟩:=by unfold lT;rw[i6,tr h]
  have hk:yG (xC t.x.toNat)=2:=dN (by omega);rw[e1]at hA ⊢;rw[e2];exact⟨⟨_,_,rfl,nk _ hk⟩,GZ hA.1 hk hA.2.1 hv.cmp⟩
 ·have e1:uZ t=[eU,xU 99 t.x.toNat]:=by unfold uZ;rw[i6,i6,tr h]
  have e2:lT t=⟨5,0,0,xU 99 t.x.toNat,[],[],0⟩:=by unfold lT;rw[i6,i6,tr h]
  have:=aA d hd;have hk:yG (xU 99 t.x.toNat)=2:=lD (.inr (.inr (.inl rfl))) (by omega);rw[e1]at hA ⊢;rw[e2];exact⟨⟨_,_,rfl,λ_=>by decide⟩,S1 hA.1 hA.2.1 hk⟩
 ·have hk:yG (xC t.x.toNat)=2:=dN (by omega)
  have ae:yG (xC t.y.toNat)=2:=dN (by omega);rcases h with h|h
  ·have e1:uZ t=[xC t.x.toNat,aL t.mark.toNat,Lib.itoa t.n]:=by unfold uZ;rw[i6,i6,i6,tr h]
   have e2:lT t=⟨7,0,0,xC t.x.toNat,aL t.mark.toNat,[],t.n⟩:=(by unfold lT;rw[i6,i6,i6,tr h]);obtain⟨k1,k2⟩:=aO n1 n2;rw[e1]at hA ⊢;rw[e2];refine⟨⟨_,_,rfl,nk _ hk⟩,?_⟩;rw[S2 hA.1 hk (by omega) hA.2.1 hA.2.2.1 k1,k2];rfl
  ·have e1:uZ t=[xC t.x.toNat,aL t.mark.toNat,xC t.y.toNat]:=by unfold uZ;rw[i6,i6,i6,i6]
   have e2:lT t=⟨7,0,0,xC t.x.toNat,aL t.mark.toNat,xC t.y.toNat,0⟩:=(by unfold lT;rw[i6,i6,i6,i6]);rw[e1]at hA ⊢;rw[e2];refine⟨⟨_,_,rfl,nk _ hk⟩,?_⟩;rw[S5 hA.1 hk (by omega) hA.2.1 hA.2.2.1 ae];rfl
theorem QG{b:Nat}{aP:List zJ}{t' p':Int}(nd:List zJ)(t p d:Int)(h:At P a yS)(hf:dC P (yQ P n) ⟨(a+1,false),nd,t,p⟩ (d+1)=(i,⟨(b,false),aP,t',p'⟩))(hs:At P b vF):yQ P (n+1) ⟨(a,false),nd,t,p⟩ d=(i,⟨(b+1,false),aP,t',p'⟩):=by
 rw[yQ];simp only[kT h xE (λ_=>by decide),cC h (by decide),GS.to,hf,gP hs (by decide)]
def Fc(t:yH)(lo:Bool):List Bs:=(if (lo&&t.pair)=true then [yS] else [])++uZ t++(if (lo&&t.pair)=true then [vF] else [])
theorem PB:xM t lo=(if t.not=true then [xE] else [])++Fc t lo:=by
 unfold xM Fc;rw[<-po,<-po];rfl
theorem G5(aA:∀d∈low,d<4){t:yH}(h:vO low t)(lo:Bool)(nd:List zJ)(tt p d D:Int)(hv:jg v)(hA:ZW P a (Fc t lo++[v]))(hn:(Fc t lo).length<=n)(hP:0<P.length)(hp:p<=D)(hd:d+1<=D:=by omega) :
 ∃p',p'<=D/\yQ P n ⟨(a,false),nd,tt,p⟩ d=(((nd.length:Nat):Int),⟨(a+(Fc t lo).length,false),nd++[lT t],tt+1,p'⟩):=by
 have hc:=(QN t).1;cases hb:(lo&&t.pair)
 ·have e:Fc t lo=uZ t:=by simp[Fc,hb]
  rw[e]at hA hn ⊢;obtain⟨⟨w,r,ew,hw⟩,ht⟩:=Kn aA h hv hA;obtain⟨n,rfl⟩:∃k,n=k+1:=⟨n-1,by omega⟩;have h0:At P a w:=by rw[ew]at hA;exact hA.1
  exact⟨dp p d,by unfold dp;split <;> omega,QF nd tt p d h0 hw ht⟩
 ·have e:Fc t lo=yS::(uZ t++[vF]):=by simp[Fc,hb]
  rw[e]at hA hn ⊢;obtain⟨h0,h1⟩:=hA;obtain⟨h2,-⟩:=ZW.app (us:=[v]) (ws:=uZ t++[vF]) h1;obtain⟨⟨w,r,ew,hw⟩,ht⟩:=Kn aA h (v:=vF) (.inr (.inl rfl)) h2;have hs:=h2.app.2.1;have hl:(yS::(uZ t++[vF])).length=(uZ t).length+2:=by simp
  rw[hl]at hn ⊢;obtain⟨n,rfl⟩:∃k,n=k+1+1:=⟨n-2,by omega⟩;have ag:At P (a+1) w:=by rw[ew]at h2;exact h2.1
  have hf:=QF (n:=n) nd tt p (d+1) ag hw ht;refine⟨dp p (d+1),by unfold dp;split <;> omega,?_⟩;rw[QG nd tt p d h0 (V7 hP (Ya hP hf hs (λ_=>by decide)) hs (λ_=>by decide)) hs];rw[show a+1+(uZ t).length+1=a+((uZ t).length+2) by omega]
structure GA where
 α:Type
 core:yH->α
 EF:α->α->α
 LA:α->α->α
 sr:Bool->α->α
 J:List zJ->Int->Int->α->Prop
structure GA.Ok(A:GA)(low:List Nat):Prop where
 ext:∀N E i k x,A.J N i k x->A.J (N++E) i k x
 core:∀N t,vO low t->A.J (N++[lT t]) ((N.length:Nat):Int) (lT t).kind (A.core t)
 and:∀N l kl x r kr y,A.J N l kl x->A.J N r kr y->kl≠1->kr≠1->A.J (N++[⟨2,l,r,[],[],[],0⟩]) ((N.length:Nat):Int) 2 (A.EF x y)
 or:∀N l kl x r kr y,A.J N l kl x->A.J N r kr y->A.J (N++[⟨1,l,r,[],[],[],0⟩]) ((N.length:Nat):Int) 1 (A.LA x y)
 not:∀N l kl x,A.J N l kl x->A.J (N++[⟨3,l,0,[],[],[],0⟩]) ((N.length:Nat):Int) 3 (A.sr (decide (kl=1\/kl=2)) x)
abbrev GX:=∀A:GA,A.α
def pU(t:yH):GX:=λA=>if t.not=true then A.sr false (A.core t) else A.core t
def Ax(x y:GX):GX:=λA=>A.EF (x A) (y A)
def ES(x y:GX):GX:=λA=>A.LA (x A) (y A)
def Hb(b:Bool)(x:GX):GX:=λA=>A.sr b (x A)
def s8(low:List Nat)(N:List zJ)(i k:Int)(x:GX):Prop:=∀A:GA,A.Ok low->A.J N i k (x A)
def EH(low:List Nat)(x:zJ):Prop:=(x.kind=1\/x.kind=2\/x.kind=3)\/∃t,vO low t/\x=lT t
def Xh(low:List Nat)(nd E:List zJ)(m:Nat):Prop:=(∀z∈E,EH low z)/\(qZ nd->qZ (nd++E))/\E.length<=m
theorem DD{z:zJ}(h:qZ N)(h1:z.kind=1\/z.kind=2->0<=z.left/\z.left<N.length/\0<=z.right/\z.right<N.length)(h3:z.kind=3->0<=z.left/\z.left<N.length)(h4:¬z.kind=1->¬z.kind=2->¬z.kind=3->(4<=z.kind/\z.kind<=7)/\0<=z.num/\z.num<=9999):qZ (N++[z]):=by
 intro a ha;rcases mc a N.length with h5|h5
 ·have e:vY (N++[z]) a=vY N a:=by unfold vY;rw[mq,mq,mj h5]
  rw[e];exact h a h5
 ·have e:a=N.length:=by rw[tm,pu]at ha;omega
  subst e;have e2:vY (N++[z]) N.length=z:=by unfold vY;simp[List.getD]
  rw[e2];exact⟨λq=>h1 (.inl q),λq=>h1 (.inr q),h3,h4⟩
theorem Yq:qZ []:=by intro a ha;exact x' ha (by simp)
theorem O4{t:yH}(h:vO low t):(lT t).kind<=7/\0<=(lT t).num/\(lT t).num<=9999:=by
 unfold lT;rcases h with h0|⟨h0,-⟩|⟨h0,-⟩|⟨h0|h0,-,-,-,n1,n2⟩
 ·rw[tr h0];exact⟨show (4:Int)<=7 by decide,bp _,show (0:Int)<=9999 by decide⟩
 ·rw[i6,tr h0];exact⟨show (6:Int)<=7 by decide,bp _,show (0:Int)<=9999 by decide⟩
 ·rw[i6,i6,tr h0];exact⟨show (5:Int)<=7 by decide,bp _,show (0:Int)<=9999 by decide⟩
 ·rw[i6,i6,i6,tr h0];exact⟨show (7:Int)<=7 by decide,n1,n2⟩
 ·rw[i6,i6,i6,i6];exact⟨show (7:Int)<=7 by decide,bp _,show (0:Int)<=9999 by decide⟩
theorem Ng(h:qZ N){t:yH}(ht:vO low t):qZ (N++[lT t]):=by
 have h1:=XG t;have h2:=O4 ht;exact DD h (λq=>by omega) (λq=>by omega) (λ_ _ _=>⟨⟨h1,h2.1⟩,h2.2⟩)
theorem DC(h:qZ N)(h0:0<=i)(h1:i<N.length):qZ (N++[⟨3,i,0,[],[],[],0⟩]) :=
 DD h (λq=>x' q (show ¬((3:Int)=1\/(3:Int)=2) by decide)) (λ_=>⟨h0,h1⟩) (λ_ _ q=>x' rfl q)
theorem MJ(h:qZ N){l r:Int}(hk:k=1\/k=2)(l0:0<=l)(l1:l<N.length)(r0:0<=r)(r1:r<N.length):qZ (N++[⟨k,l,r,[],[],[],0⟩]) :=
 DD h (λ_=>⟨l0,l1,r0,r1⟩) (λq=>x' (show k=3 from q) (by omega)) (λq1 q2 _=>x' hk (λh=>h.elim (λh=>q1 h) (λh=>q2 h)))
def LI:GA:=⟨Unit,λ_=>(),λ_ _=>(),λ_ _=>(),λ_ _=>(),λN i _ _=>0<=i/\i<N.length⟩
theorem Lz(low:List Nat):LI.Ok low where
 ext:=λN E i k x ⟨h0,h1⟩=>⟨h0,by rw[tm];omega⟩
 core:=λN t _=>⟨by omega,by rw[tm,pu];omega⟩
 and:=λN l kl x r kr y _ _ _ _=>⟨by omega,by rw[tm,pu];omega⟩
 or:=λN l kl x r kr y _ _=>⟨by omega,by rw[tm,pu];omega⟩
 not:=λN l kl x _=>⟨by omega,by rw[tm,pu];omega⟩
theorem ZL{x:GX}(h:s8 low N i k x):0<=i/\i<N.length:=h LI (Lz low)
theorem Xh.nil(low:List Nat)(nd:List zJ)(m:Nat):Xh low nd [] m:=⟨λz hz=>(by cases hz),λh=>by rw[mt];exact h,p8⟩
theorem Xh.app{nd E E':List zJ}{m':Nat}(h:Xh low nd E m)(h':Xh low (nd++E) E' m')(hn:m+m'<=n):Xh low nd (E++E') n:=by
 refine⟨λz hz=>?_,λhg=>by rw[<-po];exact h'.2.1 (h.2.1 hg),by rw[tm];have:=h.2.2;have:=h'.2.2;omega⟩;rcases pj.1 hz with hz|hz
 ·exact h.1 z hz
 ·exact h'.1 z hz
theorem Xh.two{nd:List zJ}{l r:Int}(hk:k=1\/k=2)(hl:0<=l/\l<nd.length)(hr:0<=r/\r<nd.length):Xh low nd [⟨k,l,r,[],[],[],0⟩] 1 :=
 ⟨λz hz=>by rw[pr.1 hz];exact .inl (hk.elim .inl λq=>.inr (.inl q)),λhg=>MJ hg hk hl.1 hl.2 hr.1 hr.2,tg _⟩
theorem Xh.not{nd:List zJ}(hi:0<=i/\i<nd.length):Xh low nd [⟨3,i,0,[],[],[],0⟩] 1 :=
 ⟨λz hz=>by rw[pr.1 hz];exact .inl (.inr (.inr rfl)),λhg=>DC hg hi.1 hi.2,tg _⟩
theorem Xh.test{nd:List zJ}{t:yH}(h:vO low t):Xh low nd [lT t] 1 :=
 ⟨λz hz=>by rw[pr.1 hz];exact .inr ⟨t,h,rfl⟩,λhg=>Ng hg h,tg _⟩
theorem Xh.mono{nd E:List zJ}(h:Xh low nd E m)(hn:m<=n):Xh low nd E n:=⟨h.1,h.2.1,tu h.2.2 hn⟩
theorem G6:1<=(Fc t lo).length:=by
 have:=(QN t).1;unfold Fc;split <;> simp <;> omega
def Au(low:List Nat)(D:Int)(nd:List zJ)(tt:Int)(b m:Nat)(c k:Int)(x:GX)(y:Int × GS):Prop:=∃i E p',y=(i,⟨(b,false),nd++E,tt+c,p'⟩)/\p'<=D/\s8 low (nd++E) i k x/\Xh low nd E m
theorem Gt{s s':St}{nd aP:List zJ}{t t' p:Int}(h0:s=s')(h1:nd=aP)(h2:t=t'):((i,⟨s,nd,t,p⟩):Int × GS)=(i,⟨s',aP,t',p⟩):=by subst h0 h1 h2;rfl
theorem X6(aA:∀d∈low,d<4){t:yH}(h:vO low t)(lo:Bool)(nd:List zJ)(tt p d D:Int)(hv:jg v)(hA:ZW P a (xM t lo++[v]))(hn:(xM t lo).length<=n)(hP:0<P.length)(hp:p<=D)(hd:d+2<=D) :
 ∃k,3<=k/\Au low D nd tt (a+(xM t lo).length) (xM t lo).length 1 k (pU t) (yQ P n ⟨(a,false),nd,tt,p⟩ d):=by
 have e:=PB t lo;have hk:=XG t;cases hn':t.not
 ·rw[hn']at e
  have e':xM t lo=Fc t lo:=e;rw[e']at hA hn ⊢;obtain⟨p',h1,h2⟩:=G5 aA h lo nd tt p d D hv hA hn hP hp;refine⟨(lT t).kind,by omega,_,[lT t],p',h2,h1,λA hO=>?_,(Xh.test h).mono (G6 t lo)⟩
  ·have ex:pU t A=A.core t:=by unfold pU;rw[hn'];rfl
   rw[ex];exact hO.core nd t h
 ·rw[hn']at e
  have e':xM t lo=xE::Fc t lo:=e;rw[e']at hA hn ⊢;obtain⟨h0,aN⟩:=hA;obtain⟨n,rfl⟩:∃k,n=k+1:=⟨n-1,by simp at hn;omega⟩;obtain⟨p',h1,h2⟩:=G5 aA h lo nd tt p (d+1) D hv aN (by simp at hn;omega) hP hp;refine⟨3,by decide,(((nd++[lT t]).length:Nat):Int),[lT t,⟨3,(nd.length:Nat),0,[],[],[],0⟩],p',?_,h1,λA hO=>?_,(Xh.test h).app (m':=1) (Xh.not ⟨by omega,by rw[tm,pu];omega⟩) (by have:=G6 t lo;simp only[pb];omega)⟩
  ·rw[Ys nd tt p d h0 h2]
   simp only[GS.add,po,List.singleton_append,pb];rw[show a+1+(Fc t lo).length=a+((Fc t lo).length+1) by omega]
  ·have ex:pU t A=A.sr (decide ((lT t).kind=1\/(lT t).kind=2)) (A.core t):=by
    unfold pU;rw[hn',ty (by omega)];rfl
   rw[ex,show nd++[lT t,(⟨3,(nd.length:Nat),0,[],[],[],0⟩:zJ)]=(nd++[lT t])++[⟨3,(nd.length:Nat),0,[],[],[],0⟩] by simp];exact hO.not _ _ _ _ (hO.core nd t h)
def cP(t:yH):List Bs:=if t.or=true then [tC] else [xW]
def yP(l:List yH)(lo:Bool):List Bs:=l.flatMap λq=>cP q++xM q lo
def B9(x:GX)(g:List yH):GX:=g.foldl (λx t=>Ax x (pU t)) x
theorem XF{l:List yH}{lo:Bool}(hv:v=qM\/v=vF):∃v' r,yP l lo++[v]=v'::r/\jg v'/\(v'=xW->∃t l',l=t::l'/\t.or=false):=by
 cases l with
 | nil =>
   refine⟨v,[],rfl,?_,λe=>?_⟩
   ·rcases hv with rfl|rfl
    ·exact .inl rfl
    ·exact .inr (.inl rfl)
   ·rcases hv with rfl|rfl <;> exact M' e
 | cons t l' =>
   cases ho:t.or
   ·exact⟨xW,xM t lo++(yP l' lo++[v]),by simp[yP,cP,ho],.inr (.inr (.inl rfl)),λ_=>⟨t,l',rfl,ho⟩⟩
   ·exact⟨tC,xM t lo++(yP l' lo++[v]),by simp[yP,cP,ho],.inr (.inr (.inr rfl)),λe=>M' e⟩
theorem Pg(aA:∀d∈low,d<4)(lo:Bool)(d D:Int)(hv:v=qM\/v=vF)(hP:0<P.length)(hd:d+2<=D):∀(l:List yH) (k b:Nat) (left:Int) (nd:List zJ) (tt p kx:Int) (x:GX),(∀t∈l,vO low t/\(xM t lo).length<=n)->ZW P b (yP l lo++[v])->l.length<k->p<=D->s8 low nd left kx x->kx≠1 ->
 ∃g r aB,l=g++r/\(∀t∈g,t.or=false)/\(∀t r',r=t::r'->t.or=true)/\aB≠1/\(g≠[]->aB=2)/\(g=[]->aB=kx)/\ZW P (b+(yP g lo).length) (yP r lo++[v])/\Au low D nd tt (b+(yP g lo).length) (yP g lo).length g.length aB (B9 x g) (jK P (λq=>yQ P n q d) xW 2 k left ⟨(b,false),nd,tt,p⟩):=by
 intro l
 induction l with
 | nil =>
   intro k b left nd tt p kx x hl hA hk hp hx aQ;obtain⟨k,rfl⟩:∃j,k=j+1:=⟨k-1,by simp at hk;omega⟩;refine⟨[],[],kx,rfl,λt ht=>(by cases ht),λt r' e=>(by cases e),aQ,λe=>x' rfl e,λ_=>rfl,hA,left,[],p,?_,hp,by rw[mt];exact hx,Xh.nil _ _ _⟩;rw[nL hA.1 (λ_=>by rcases hv with rfl|rfl <;> decide)];simp[yP]
 | cons t l ih =>
   intro k b left nd tt p kx x hl hA hk hp hx aQ;obtain⟨k,rfl⟩:∃j,k=j+1:=⟨k-1,by simp at hk;omega⟩;have ht:=hl t (by simp);cases ho:t.or
   ·have e:yP (t::l) lo++[v]=xW::(xM t lo++(yP l lo++[v])):=by simp[yP,cP,ho]
    have aG:=hA;rw[e]at aG;obtain⟨h0,h1⟩:=aG;obtain⟨v',r',e',hv',-⟩:=XF (l:=l) (lo:=lo) hv
    have h2:ZW P (b+1) (xM t lo++[v']):=by
     rw[e',show xM t lo++v'::r'=(xM t lo++[v'])++r' by simp]at h1;exact h1.app.1
    obtain⟨kt,aW,i,E,p',hy,hp',hG,hE⟩:=X6 aA ht.1 lo (n:=n) nd tt p d D hv' h2 ht.2 hP hp hd;have h3:=h1.app.2;have hJ:s8 low (nd++E++[⟨2,left,i,[],[],[],0⟩]) (((nd++E).length:Nat):Int) 2 (Ax x (pU t)):=λA hO=>hO.and _ _ kx _ _ kt _ (hO.ext _ _ _ _ _ (hx A hO)) (hG A hO) aQ (by omega);obtain⟨g,r,aB,e1,e2,e3,e4,e5,e6,e7,i',E',p2,aH,aJ,aK,aM⟩:=ih k (b+1+(xM t lo).length) (((nd++E).length:Nat):Int) (nd++E++[⟨2,left,i,[],[],[],0⟩]) (tt+1) p' 2 (Ax x (pU t)) (λt' h'=>hl t' (py _ h')) h3 (by simp at hk;omega) hp' hJ (by decide)
    have el:b+1+(xM t lo).length+(yP g lo).length=b+(yP (t::g) lo).length:=by
     simp[yP,cP,ho];omega
    rw[el]at e7 aH;refine⟨t::g,r,aB,by rw[e1];rfl,λt' h' => ?_,e3,e4,λ_=>?_,λe=>(by cases e),e7,i',E++[⟨2,left,i,[],[],[],0⟩]++E',p2,?_,aJ,?_,?_⟩
    ·rcases pi.1 h' with rfl|h'
     ·exact ho
     ·exact e2 t' h'
    ·by_cases hg:g=[]
     ·exact e6 hg
     ·exact e5 hg
    ·rw[FX h0 (by decide) hy]
     simp only[GS.add];rw[aH];exact Gt rfl (by simp) (by simp only[pb];omega)
    ·rw[<-po,<-po];exact aK
    ·have b1:=ZL hx
     have b2:=ZL hG;refine(hE.app (Xh.two (.inr rfl) ⟨b1.1,by rw[tm];omega⟩ b2) (tg _)).app (by rw[<-po];exact aM) ?_;have:(yP (t::g) lo).length=1+(xM t lo).length+(yP g lo).length:=by simp[yP,cP,ho];omega
     omega
   ·have e:yP (t::l) lo++[v]=tC::(xM t lo++(yP l lo++[v])):=by simp[yP,cP,ho]
    have aG:=hA;rw[e]at aG;refine⟨[],t::l,kx,rfl,λt ht=>(by cases ht),λt' r' e=>(by cases e;exact ho),aQ,λe=>x' rfl e,λ_=>rfl,hA,left,[],p,?_,hp,by rw[mt];exact hx,Xh.nil _ _ _⟩;rw[nL aG.1 (λ_=>by decide)];simp[yP]
def JX:Option GX->GX->GX
 | none,c=>c
 | some a,c=>ES a c
def Kh:Option GX->GX->List yH->GX
 | acc,c,[]=>JX acc c
 | acc,c,t::r=>if t.or=true then Kh (some (JX acc c)) (pU t) r else Kh acc (Ax c (pU t)) r
def Am(x:GX):List yH->GX
 | []=>x
 | t::r=>Kh (some x) (pU t) r
theorem Kg(g:List yH):∀(acc:Option GX) (c:GX) (r:List yH),(∀t∈g,t.or=false)->(∀t r',r=t::r'->t.or=true)->Kh acc c (g++r)=Am (JX acc (B9 c g)) r:=by
 induction g with
 | nil =>
   intro acc c r _ hr
   cases r with
   | nil=>rfl
   | cons t r=>rw[lu,Kh,tr (hr t r rfl)];rfl
 | cons t g ih =>
   intro acc c r hg hr;rw[li,Kh,tj (by rw[hg t (by simp)];decide),ih _ _ _ (λt' h'=>hg t' (py _ h')) hr];rfl
theorem XD(aA:∀d∈low,d<4)(lo:Bool)(d D:Int)(hv:v=qM\/v=vF)(hP:0<P.length)(hd:d+2<=D)(t:yH)(l:List yH)(b:Nat)(nd:List zJ)(tt p:Int)(hl:∀q∈t::l,vO low q/\(xM q lo).length<=n)(hA:ZW P b (xM t lo++(yP l lo++[v])))(hk:l.length<P.length)(hp:p<=D) :
 ∃g r aB,l=g++r/\(∀t∈g,t.or=false)/\(∀t r',r=t::r'->t.or=true)/\(g≠[]->aB=2)/\(g=[]->3<=aB)/\ZW P (b+(xM t lo).length+(yP g lo).length) (yP r lo++[v])/\Au low D nd tt (b+(xM t lo).length+(yP g lo).length) ((xM t lo).length+(yP g lo).length) (g.length+1) aB (B9 (pU t) g) (kR P (yQ P n) ⟨(b,false),nd,tt,p⟩ d):=by
 obtain⟨v',r',e',hv',-⟩:=XF (l:=l) (lo:=lo) hv
 have h2:ZW P b (xM t lo++[v']):=by
  have aG:=hA;rw[e',show xM t lo++v'::r'=(xM t lo++[v'])++r' by simp]at aG;exact aG.app.1
 have ht:=hl t (by simp);obtain⟨kt,aW,i,E,p',hy,hp',hG,hE⟩:=X6 aA ht.1 lo (n:=n) nd tt p d D hv' h2 ht.2 hP hp hd;obtain⟨g,r,aB,e1,e2,e3,e4,e5,e6,e7,i',E',p2,aH,aJ,aK,aM⟩:=Pg aA lo (n:=n) d D hv hP hd l P.length (b+(xM t lo).length) i (nd++E) (tt+1) p' kt (pU t) (λt' h'=>hl t' (py _ h')) hA.app.2 hk hp' hG (by omega);refine⟨g,r,aB,e1,e2,e3,e5,λhg=>by rw[e6 hg];exact aW,e7,i',E++E',p2,?_,aJ,by rw[<-po];exact aK,hE.app aM (tg _)⟩
 ·unfold kR
  rw[hy];simp only;rw[aH];exact Gt rfl (by simp) (by omega)
theorem OT(aA:∀d∈low,d<4)(lo:Bool)(d D:Int)(hv:v=qM\/v=vF)(hP:0<P.length)(hd:d+2<=D):∀(m:Nat) (l:List yH) (k b:Nat) (left:Int) (nd:List zJ) (tt p kx:Int) (x:GX),l.length<=m->(∀t r',l=t::r'->t.or=true)->(∀t∈l,vO low t/\(xM t lo).length<=n)->ZW P b (yP l lo++[v])->l.length<k->l.length<P.length->p<=D->s8 low nd left kx x ->
 ∃aB,(l≠[]->aB=1)/\(l=[]->aB=kx)/\Au low D nd tt (b+(yP l lo).length) (yP l lo).length l.length aB (Am x l) (jK P (λq=>kR P (yQ P n) q d) tC 1 k left ⟨(b,false),nd,tt,p⟩):=by
 intro m
 induction m with
 | zero =>
   intro l k b left nd tt p kx x hm ho hl hA hk aT hp hx;obtain rfl:l=[]:=List.length_eq_zero_iff.1 (by omega);obtain⟨k,rfl⟩:∃j,k=j+1:=⟨k-1,by simp at hk;omega⟩;refine⟨kx,λe=>x' rfl e,λ_=>rfl,left,[],p,?_,hp,by rw[mt];exact hx,Xh.nil _ _ _⟩;rw[nL hA.1 (λ_=>by rcases hv with rfl|rfl <;> decide)];simp[yP]
 | succ m ih =>
   intro l k b left nd tt p kx x hm ho hl hA hk aT hp hx;obtain⟨k,rfl⟩:∃j,k=j+1:=⟨k-1,by omega⟩
   cases l with
   | nil =>
     refine⟨kx,λe=>x' rfl e,λ_=>rfl,left,[],p,?_,hp,by rw[mt];exact hx,Xh.nil _ _ _⟩;rw[nL hA.1 (λ_=>by rcases hv with rfl|rfl <;> decide)];simp[yP]
   | cons t l =>
     have aR:=ho t l rfl;have e:yP (t::l) lo++[v]=tC::(xM t lo++(yP l lo++[v])):=(by simp[yP,cP,aR]);have aG:=hA;rw[e]at aG;obtain⟨h0,h1⟩:=aG;obtain⟨g,r,kg,e1,e2,e3,e5,e6,e7,i,E,p',hy,hp',hG,hE⟩:=XD aA lo (n:=n) d D hv hP hd t l (b+1) nd tt p hl h1 (by simp at aT;omega) hp;have hJ:s8 low (nd++E++[⟨1,left,i,[],[],[],0⟩]) (((nd++E).length:Nat):Int) 1 (ES x (B9 (pU t) g)):=λA hO=>hO.or _ _ kx _ _ kg _ (hO.ext _ _ _ _ _ (hx A hO)) (hG A hO);have hr:r.length<=l.length:=(by rw[e1,tm];omega);obtain⟨aB,f1,f2,i',E',p2,aH,aJ,aK,aM⟩:=ih r k _ (((nd++E).length:Nat):Int) (nd++E++[⟨1,left,i,[],[],[],0⟩]) (tt+(g.length+1)) p' 1 (ES x (B9 (pU t) g)) (by simp at hm;omega) e3 (λt' h'=>hl t' (by rw[e1];simp[h'])) e7 (by simp at hk;omega) (by simp at aT;omega) hp' hJ
     have el:b+1+(xM t lo).length+(yP g lo).length+(yP r lo).length=b+(yP (t::l) lo).length:=by
      rw[e1];simp[yP,cP,aR];omega
     rw[el]at aH;refine⟨aB,λ_=>?_,λe=>(by cases e),i',E++[⟨1,left,i,[],[],[],0⟩]++E',p2,?_,aJ,?_,?_⟩
     ·by_cases aI:r=[]
      ·exact f2 aI
      ·exact f1 aI
     ·rw[FX h0 (by decide) hy]
      simp only[GS.add];rw[aH];exact Gt rfl (by simp) (by rw[e1];simp only[pb,tm];omega)
     ·have eo:Am x (t::l)=Am (ES x (B9 (pU t) g)) r:=by
       show Kh (some x) (pU t) l=_;rw[e1,Kg g _ _ _ e2 e3];rfl
      rw[eo,<-po,<-po];exact aK
     ·have b1:=ZL hx
      have b2:=ZL hG;refine(hE.app (Xh.two (.inl rfl) ⟨b1.1,by rw[tm];omega⟩ b2) (tg _)).app (by rw[<-po];exact aM) ?_;have:(yP (t::l) lo).length=1+(xM t lo).length+((yP g lo).length+(yP r lo).length):=by rw[e1];simp[yP,cP,aR];omega
      omega
theorem BB(aA:∀d∈low,d<4)(lo:Bool)(d D:Int)(hv:v=qM\/v=vF)(hP:0<P.length)(hd:d+2<=D)(t:yH)(l:List yH)(b:Nat)(nd:List zJ)(tt p:Int)(hl:∀q∈t::l,vO low q/\(xM q lo).length<=n)(hA:ZW P b (xM t lo++yP l lo++[v]))(hk:l.length<P.length)(hp:p<=D) :
 ∃k,(k=1\/k=2 ↔ l≠[])/\Au low D nd tt (b+(xM t lo++yP l lo).length) (xM t lo++yP l lo).length (l.length+1) k (Kh none (pU t) l) (dC P (yQ P n) ⟨(b,false),nd,tt,p⟩ d):=by
 rw[po]at hA;obtain⟨g,r,kg,e1,e2,e3,e5,e6,e7,i,E,p',hy,hp',hG,hE⟩:=XD aA lo (n:=n) d D hv hP hd t l b nd tt p hl hA hk hp;have hr:r.length<=l.length:=by rw[e1,tm];omega
 obtain⟨aB,f1,f2,i',E',p2,aH,aJ,aK,aM⟩:=OT aA lo (n:=n) d D hv hP hd r.length r P.length _ i (nd++E) (tt+(g.length+1)) p' kg (B9 (pU t) g) (tg _) e3 (λt' h'=>hl t' (by rw[e1];simp[h'])) e7 (by omega) (by omega) hp' hG
 have el:b+(xM t lo).length+(yP g lo).length+(yP r lo).length=b+(xM t lo++yP l lo).length:=by
  rw[e1];simp[yP];omega
 rw[el]at aH;refine⟨aB,?_,i',E++E',p2,?_,aJ,?_,hE.app aM (by rw[e1];simp[yP];omega)⟩
 ·by_cases aI:r=[]
  ·have k1:=f2 aI
   by_cases hg0:g=[]
   ·have:=e6 hg0
    rw[e1,aI,hg0];constructor
    ·intro h;omega
    ·intro h;exact x' rfl h
   ·have:=e5 hg0
    rw[e1,aI];constructor
    ·intro _ h;exact hg0 (by simpa using h)
    ·intro _;omega
  ·have:=f1 aI
   rw[e1];constructor
   ·intro _ h;exact aI (List.append_eq_nil_iff.1 h).2
   ·intro _;omega
 ·unfold dC
  rw[hy];simp only;rw[aH];exact Gt rfl (by simp) (by rw[e1];simp only[tm];omega)
 ·have eo:Kh none (pU t) l=Am (B9 (pU t) g) r:=by rw[e1,Kg g _ _ _ e2 e3];rfl
  rw[eo,<-po];exact aK
variable {P:List PT}
theorem Sx(ts:List yH)(lo:Bool):∀(l:List yH) (k:Nat),0<k->ts.drop k=l->((List.range l.length).flatMap λj=>jL (k+j) (ts.getD (k+j) dA)++xM (ts.getD (k+j) dA) lo)=yP l lo:=by
 intro l
 induction l with
 | nil=>intro k _ _;rfl
 | cons q r ih =>
   intro k hk hd
   have aU:k<ts.length:=by
    rcases mc k ts.length with h|h
    ·exact h
    ·rw[pf h]at hd;cases hd
   rw[ph aU]at hd;injection hd with h1 h2
   have hg:ts.getD k dA=q:=(by simp[List.getD,aU,h1]);rw[pb,List.range_succ_eq_map,cg,List.flatMap_map];have hi:=ih (k+1) (by omega) h2
   have e:((List.range r.length).flatMap λj=>jL (k+(j+1)) (ts.getD (k+(j+1)) dA)++xM (ts.getD (k+(j+1)) dA) lo)=yP r lo:=by
    rw[<-hi];congr 1;funext j;rw[show k+(j+1)=k+1+j by omega]
   show (jL (k+0) (ts.getD (k+0) dA)++xM (ts.getD (k+0) dA) lo)++((List.range r.length).flatMap λj=>jL (k+(j+1)) (ts.getD (k+(j+1)) dA)++xM (ts.getD (k+(j+1)) dA) lo)=_;rw[e,lh,hg];have hs:jL k q=cP q:=by unfold jL cP;rw[i6];rfl
   simp[yP,hs]
theorem PG:tM (t::l) lo (t::l).length=xM t lo++yP l lo:=by
 unfold tM;rw[pb,List.range_succ_eq_map,cg,List.flatMap_map];have h:=Sx (t::l) lo l 1 (by decide) rfl
 have e:((List.range l.length).flatMap λj=>jL (j+1) ((t::l).getD (j+1) dA)++xM ((t::l).getD (j+1) dA) lo)=yP l lo:=by
  rw[<-h];congr 1;funext j;rw[Nat.add_comm]
 show (jL 0 t++xM t lo)++((List.range l.length).flatMap λj=>jL (j+1) ((t::l).getD (j+1) dA)++xM ((t::l).getD (j+1) dA) lo)=_;rw[e];simp[jL]
theorem O6(q:yH)(l:List yH):q∈l->(xM q lo).length<=(yP l lo).length:=by
 induction l with
 | nil=>intro h;cases h
 | cons a r ih =>
   intro hq;have e:yP (a::r) lo=cP a++xM a lo++yP r lo:=by simp[yP]
   rw[e,tm,tm];rcases pi.1 hq with rfl|hq
   ·omega
   ·have:=ih hq;omega
theorem M6:∀q∈t::l,(xM q lo).length<=(xM t lo++yP l lo).length:=by
 intro q hq;rw[tm];rcases pi.1 hq with rfl|hq
 ·omega
 ·have:=O6 lo q l hq;omega
theorem Sy:l.length<=(yP l lo).length:=by
 induction l with
 | nil=>simp
 | cons a r ih =>
   have e:yP (a::r) lo=cP a++xM a lo++yP r lo:=(by simp[yP]);have:0<(cP a).length:=by unfold cP;split <;> simp
   rw[e,tm,tm,pb];omega
def A4(wh:Bool)(t:yH)(l:List yH):GX:=if wh=true then Hb (decide (l≠[])) (Kh none (pU t) l) else Kh none (pU t) l
theorem RU(aA:∀d∈low,d<4)(wh lo:Bool){t:yH}{l:List yH}(h:pG low (t::l))(hA:ZW P a (cL wh (t::l) lo++[qM]))(aD:a+(cL wh (t::l) lo).length<P.length) :
 ∃root nd p k,vU P (a,false)=(root,⟨(a+(cL wh (t::l) lo).length,false),nd,(l.length:Int)+1,p⟩)/\p<=4/\s8 low nd root k (A4 wh t l)/\(∀z∈nd,EH low z)/\qZ nd/\nd.length<=(cL wh (t::l) lo).length:=by
 have hP:0<P.length:=by omega
 have aV:=M6 t l lo;have ah:=Sy l lo;have aY:=PG t l lo;unfold cL at hA aD ⊢;rw[aY]at hA aD ⊢;cases wh
 ·have hi:Xd false lo (t::l).length=false:=rfl
  rw[hi]at hA aD ⊢;have e:((if false=true then [[110,111,116]] else [])++(if false=true then [[40]] else [])++(xM t lo++yP l lo)++(if false=true then [[41]] else []):List Bs)=xM t lo++yP l lo:=by simp
  rw[e]at hA aD ⊢;have aF:=aD;rw[tm]at aF;obtain⟨k,-,i,E,p',hy,hp',hG,hE⟩:=BB aA lo (n:=P.length) 0 4 (.inl rfl) hP (by decide) t l a [] 0 0 (λq hq=>⟨h.2.2 q hq,by have:=aV q hq;omega⟩) hA (by omega) (by decide);refine⟨i,E,p',k,?_,hp',hG,hE.1,hE.2.1 Yq,hE.2.2⟩;show dC P (yQ P P.length) ⟨(a,false),[],0,0⟩ 0=_;rw[hy];simp
 ·cases hi:Xd true lo (t::l).length
  ·rw[hi]at hA aD
   have aa:l=[]:=by
    unfold Xd at hi;rw[bm,dy]at hi;have:=of_decide_eq_false hi.2
    cases l with
    | nil=>rfl
    | cons x r=>exact x' this (by simp)
   subst aa;have e:((if true=true then [[110,111,116]] else [])++(if false=true then [[40]] else [])++(xM t lo++yP [] lo)++(if false=true then [[41]] else []):List Bs)=xE::xM t lo:=by simp[yP,xE]
   rw[e]at hA aD ⊢;obtain⟨h0,aN⟩:=hA;have aS:(xE::xM t lo).length=(xM t lo).length+1:=rfl;rw[aS]at aD ⊢;obtain⟨n,hn⟩:∃k,P.length=k+1:=⟨P.length-1,by omega⟩;obtain⟨k,hk,i,E,p',hy,hp',hG,hE⟩:=X6 aA (h.2.2 t (by simp)) lo (n:=n) [] 0 0 1 4 (.inl rfl) aN (by omega) hP (by decide) (by decide);have aC:=aN.app.2.1
   have hf:yQ P P.length ⟨(a,false),[],0,0⟩ 0=((((([]:List zJ)++E).length:Nat):Int),⟨(a+1+(xM t lo).length,false),([]++E)++[⟨3,i,0,[],[],[],0⟩],0+1,p'⟩):=by
    rw[hn,Ys [] 0 0 0 h0 hy];rfl
   refine⟨((([]:List zJ)++E).length:Nat),([]++E)++[⟨3,i,0,[],[],[],0⟩],p',3,?_,hp',λA hO=>?_,λz hz=>?_,DC (hE.2.1 Yq) (ZL hG).1 (ZL hG).2,by have:=hE.2.2;simp only[lu,tm,pb,ge]at *;omega⟩
   ·show dC P (yQ P P.length) ⟨(a,false),[],0,0⟩ 0=_
    rw[V7 hP (Ya hP hf aC (λ_=>by decide)) aC (λ_=>by decide)];rw[show a+1+(xM t lo).length=a+((xM t lo).length+1) by omega];rfl
   ·have:=hO.not _ _ _ _ (hG A hO)
    rw[ty (by omega)]at this;exact this
   ·rcases pj.1 hz with hz|hz
    ·exact hE.1 z hz
    ·rw[pr.1 hz];exact .inl (.inr (.inr rfl))
  ·rw[hi]at hA aD
   have e:((if true=true then [[110,111,116]] else [])++(if true=true then [[40]] else [])++(xM t lo++yP l lo)++(if true=true then [[41]] else []):List Bs)=xE::yS::(xM t lo++yP l lo++[vF]):=(by simp[xE,yS,vF]);rw[e]at hA aD ⊢;obtain⟨h0,h1,aN⟩:=hA;have aS:(xE::yS::(xM t lo++yP l lo++[vF])).length=(xM t lo++yP l lo).length+3:=(by simp only[pb,tm,ge]);rw[aS]at aD ⊢;obtain⟨aX,af⟩:=ZW.app (us:=[qM]) (ws:=xM t lo++yP l lo++[vF]) aN;have aZ:=aX.app.2.1;have aC:=af.1;rw[show a+1+1+(xM t lo++yP l lo++[vF]).length=a+((xM t lo++yP l lo).length+3) by simp only[pb,tm,ge];omega]at aC;obtain⟨n,hn⟩:∃k,P.length=k+1+1:=⟨P.length-2,by omega⟩;have aF:=aD;rw[tm]at aF;obtain⟨k,hk,i,E,p',hy,hp',hG,hE⟩:=BB aA lo (n:=n) 2 4 (.inr rfl) hP (by decide) t l (a+1+1) [] 0 0 (λq hq=>⟨h.2.2 q hq,by have:=aV q hq;omega⟩) aX (by omega) (by decide);have ho:=QG (n:=n) [] 0 0 1 h1 hy aZ
   have hf:yQ P P.length ⟨(a,false),[],0,0⟩ 0=((((([]:List zJ)++E).length:Nat):Int),⟨(a+1+1+(xM t lo++yP l lo).length+1,false),([]++E)++[⟨3,i,0,[],[],[],0⟩],0+((l.length:Int)+1),p'⟩):=by
    rw[hn,Ys [] 0 0 0 h0 ho];rfl
   rw[show a+1+1+(xM t lo++yP l lo).length+1=a+((xM t lo++yP l lo).length+3) by omega]at hf;refine⟨((([]:List zJ)++E).length:Nat),([]++E)++[⟨3,i,0,[],[],[],0⟩],p',3,?_,hp',λA hO=>?_,λz hz=>?_,DC (hE.2.1 Yq) (ZL hG).1 (ZL hG).2,by have:=hE.2.2;simp only[lu,tm,pb,ge]at *;omega⟩
   ·show dC P (yQ P P.length) ⟨(a,false),[],0,0⟩ 0=_
    rw[V7 hP (Ya hP hf aC (λ_=>by decide)) aC (λ_=>by decide)];rw[Int.zero_add]
   ·have:=hO.not _ _ _ _ (hG A hO)
    rw[decide_eq_decide.2 hk]at this;exact this
   ·rcases pj.1 hz with hz|hz
    ·exact hE.1 z hz
    ·rw[pr.1 hz];exact .inl (.inr (.inr rfl))
theorem OG(N:List zJ)(x:zJ)(E:List zJ):vY (N++[x]++E) N.length=x:=by
 unfold vY;simp[List.getD]
theorem Vr(i:Nat):(xC i).isEmpty=false:=by unfold xC xU;split <;> rfl
theorem Nj(acc:Option GX)(c:GX):Kh acc c []=JX acc c:=rfl
theorem RS(acc:Option GX)(c:GX)(t:yH)(r:List yH):Kh acc c (t::r)=if t.or=true then Kh (some (JX acc c)) (pU t) r else Kh acc (Ax c (pU t)) r:=rfl
end Go.Proofs.YtnbpdffdnphbeabGreatDoor
