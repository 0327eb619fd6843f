import Derived.Test.YtnbpdffdnphbeabGreatDoorPItoa
namespace Go.Proofs.YtnbpdffdnphbeabGreatDoor
variable{w v:Bs}{k i:Int}{N:List zT}{a m n:Nat}(t:zR)(l:List zR)(lo:Bool)
def mI(t:zR):zT :=
 if t.kind=0 then ⟨4,0,0,[],[],[],0⟩ else if t.kind=1 then ⟨6,0,0,yD t.x.toNat,[],[],0⟩ else if t.kind=2 then ⟨5,0,0,xG 99 t.x.toNat,[],[],0⟩ else
 if t.kind=3 then ⟨7,0,0,yD t.x.toNat,sE t.mark.toNat,[],t.n⟩ else ⟨7,0,0,yD t.x.toNat,sE t.mark.toNat,yD t.y.toNat,0⟩
theorem YF:4<=(mI t).kind:=by
 unfold mI;split
 ·simp
 ·split
  ·simp
  ·split
   ·simp
   ·split <;> simp
def zq(v:Bs):Prop:=v=cW\/v=kJ\/v=dR\/v=Qi
theorem zq.cmp(h:zq v):eD.contains v=false:=by rcases h with rfl|rfl|rfl|rfl <;> decide
theorem BA{k:Nat}(hk:k<6):eD.contains (sE k)=true/\yJ (sE k)=4/\(sE k).isEmpty=false:=by
 have h:k=0\/k=1\/k=2\/k=3\/k=4\/k=5:=by omega
 rcases h with rfl|rfl|rfl|rfl|rfl|rfl <;> decide
variable {P:List PT}
theorem zB2{k:Nat}(hk:k<6)(h:At P a (sE k)):vQ P (a,false)=(sE k,(a+1,false)):=by
 obtain⟨h1,h2,-⟩:=BA hk;unfold vQ;simp only[h.2.1,h1,bC h h2]
theorem zJ7(h:At P a v)(hv:eD.contains v=false):vQ P (a,false)=([],(a,false)):=by
 unfold vQ;simp only[h.2.1,hv]
theorem Fg(h:At P a w)(hk:yJ w=2)(h2:At P (a+1) v)(hv:eD.contains v=false):vU P (a,false)=(⟨6,0,0,w,[],[],0⟩,(a+1,false)):=by
 unfold vU;simp only[kB h [97,108,119,97,121,115] (fun k=>absurd (hk.symm.trans k) (by decide)),kB h [104,97,115] (fun k=>absurd (hk.symm.trans k) (by decide)),mY h hk,zJ7 h2 hv,List.isEmpty_nil]
theorem xj{n:Bs}(h:At P a w)(hk:yJ w=2)(hm:m<6)(h2:At P (a+1) (sE m))(h3:At P (a+1+1) n)(hn:yJ n=3):vU P (a,false)=(⟨7,0,0,w,sE m,[],kL n⟩,(a+1+1+1,false)):=by
 unfold vU;simp only[kB h [97,108,119,97,121,115] (fun k=>absurd (hk.symm.trans k) (by decide)),kB h [104,97,115] (fun k=>absurd (hk.symm.trans k) (by decide)),mY h hk,zB2 hm h2,(BA hm).2.2,JM h3 hn,oM h3 hn]
theorem x9{n:Bs}(h:At P a w)(hk:yJ w=2)(hm:m<6)(h2:At P (a+1) (sE m))(h3:At P (a+1+1) n)(hn:yJ n=2):vU P (a,false)=(⟨7,0,0,w,sE m,n,0⟩,(a+1+1+1,false)):=by
 unfold vU;simp only[kB h [97,108,119,97,121,115] (fun k=>absurd (hk.symm.trans k) (by decide)),kB h [104,97,115] (fun k=>absurd (hk.symm.trans k) (by decide)),mY h hk,zB2 hm h2,(BA hm).2.2,D0 h3 (by rw[hn];decide),mY h3 hn]
theorem Ji{low:List Nat}(hl4:∀d∈low,d<4){t:zR}(h:xL low t)(hv:zq v)(hA:wT P a (uN t++[v])):(∃w r,uN t=w::r/\(yJ w=4->w≠vG/\w≠vK))/\vU P (a,false)=(mI t,(a+(uN t).length,false)):=by
 have nk:∀w:Bs,yJ w=2->yJ w=4->w≠vG/\w≠vK:=fun w h1 h2=>absurd (h1.symm.trans h2) (by decide);rcases h with h|⟨h,x1,x2⟩|⟨h,d,hd,hx⟩|⟨h,⟨x1,x2⟩,⟨y1,y2⟩,⟨m1,m2⟩,n1,n2⟩
 ·have e1:uN t=[iS]:=by unfold uN;rw[tl h]
  have e2:mI t=⟨4,0,0,[],[],[],0⟩:=by unfold mI;rw[tl h]
  rw[e1]at hA ⊢;rw[e2];exact⟨⟨_,_,rfl,fun _=>by decide⟩,xt hA.1⟩
 ·have e1:uN t=[yD t.x.toNat]:=by unfold uN;rw[tb (by omega),tl h]
  have e2:mI t=⟨6,0,0,yD t.x.toNat,[],[],0⟩:=by unfold mI;rw[tb (by omega),tl h]
  have hk:yJ (yD t.x.toNat)=2:=lE (by omega);rw[e1]at hA ⊢;rw[e2];exact⟨⟨_,_,rfl,nk _ hk⟩,Fg hA.1 hk hA.2.1 hv.cmp⟩
 ·have e1:uN t=[aB,xG 99 t.x.toNat]:=by unfold uN;rw[tb (by omega),tb (by omega),tl h]
  have e2:mI t=⟨5,0,0,xG 99 t.x.toNat,[],[],0⟩:=by unfold mI;rw[tb (by omega),tb (by omega),tl h]
  have:=hl4 d hd;have hk:yJ (xG 99 t.x.toNat)=2:=pW (.inr (.inr (.inl rfl))) (by omega);rw[e1]at hA ⊢;rw[e2];exact⟨⟨_,_,rfl,fun _=>by decide⟩,xq hA.1 hA.2.1 hk⟩
 ·have hk:yJ (yD t.x.toNat)=2:=lE (by omega)
  have hk2:yJ (yD t.y.toNat)=2:=lE (by omega);rcases h with h|h
  ·have e1:uN t=[yD t.x.toNat,sE t.mark.toNat,Lib.itoa t.n]:=by unfold uN;rw[tb (by omega),tb (by omega),tb (by omega),tl h]
   have e2:mI t=⟨7,0,0,yD t.x.toNat,sE t.mark.toNat,[],t.n⟩:=by unfold mI;rw[tb (by omega),tb (by omega),tb (by omega),tl h]
   obtain⟨k1,k2⟩:=nF n1 n2;rw[e1]at hA ⊢;rw[e2];refine⟨⟨_,_,rfl,nk _ hk⟩,?_⟩;rw[xj hA.1 hk (by omega) hA.2.1 hA.2.2.1 k1,k2];rfl
  ·have e1:uN t=[yD t.x.toNat,sE t.mark.toNat,yD t.y.toNat]:=by unfold uN;rw[tb (by omega),tb (by omega),tb (by omega),tb (by omega)]
   have e2:mI t=⟨7,0,0,yD t.x.toNat,sE t.mark.toNat,yD t.y.toNat,0⟩:=by unfold mI;rw[tb (by omega),tb (by omega),tb (by omega),tb (by omega)]
   rw[e1]at hA ⊢;rw[e2];refine⟨⟨_,_,rfl,nk _ hk⟩,?_⟩;rw[x9 hA.1 hk (by omega) hA.2.1 hA.2.2.1 hk2];rfl
theorem XD{b:Nat}{nd':List zT}{t' p':Int}(nd:List zT)(t p d:Int)(h:At P a vK)(hf:Z8 P (xA P n) ⟨(a+1,false),nd,t,p⟩ (d+1)=(i,⟨(b,false),nd',t',p'⟩))(hs:At P b kJ):xA P (n+1) ⟨(a,false),nd,t,p⟩ d=(i,⟨(b+1,false),nd',t',p'⟩):=by
 rw[xA];simp only[kB h vG (fun _=>by decide),bC h (by decide),GS.to,hf,fD hs (by decide)]
def Cy(t:zR)(lo:Bool):List Bs:=(if (lo&&t.pair)=true then [vK] else [])++uN t++(if (lo&&t.pair)=true then [kJ] else [])
theorem zCP:xB t lo=(if t.not=true then [vG] else [])++Cy t lo:=by
 unfold xB Cy;rw[<-pt,<-pt];rfl
theorem DK{low:List Nat}(hl4:∀d∈low,d<4){t:zR}(h:xL low t)(lo:Bool)(nd:List zT)(tt p d D:Int)(hv:zq v)(hA:wT P a (Cy t lo++[v]))(hn:(Cy t lo).length<=n)(hP:0<P.length)(hp:p<=D)(hd:d+1<=D) :
 ∃p',p'<=D/\xA P n ⟨(a,false),nd,tt,p⟩ d=(((nd.length:Nat):Int),⟨(a+(Cy t lo).length,false),nd++[mI t],tt+1,p'⟩):=by
 have hc:=(XJ t).1;cases hb:(lo&&t.pair)
 ·have e:Cy t lo=uN t:=by simp[Cy,hb]
  rw[e]at hA hn ⊢;obtain⟨⟨w,r,ew,hw⟩,ht⟩:=Ji hl4 h hv hA;obtain⟨n,rfl⟩:∃k,n=k+1:=⟨n-1,by omega⟩;have h0:At P a w:=by rw[ew]at hA;exact hA.1
  exact⟨dp p d,by unfold dp;split <;> omega,XC nd tt p d h0 hw ht⟩
 ·have e:Cy t lo=vK::(uN t++[kJ]):=by simp[Cy,hb]
  rw[e]at hA hn ⊢;obtain⟨h0,h1⟩:=hA;obtain⟨h2,-⟩:=wT.app (us:=[v]) (ws:=uN t++[kJ]) h1;obtain⟨⟨w,r,ew,hw⟩,ht⟩:=Ji hl4 h (v:=kJ) (.inr (.inl rfl)) h2;have hs:=h2.app.2.1;have hl:(vK::(uN t++[kJ])).length=(uN t).length+2:=by simp
  rw[hl]at hn ⊢;obtain⟨n,rfl⟩:∃k,n=k+1+1:=⟨n-2,by omega⟩;have h0':At P (a+1) w:=by rw[ew]at h2;exact h2.1
  have hf:=XC (n:=n) nd tt p (d+1) h0' hw ht;refine⟨dp p (d+1),by unfold dp;split <;> omega,?_⟩;rw[XD nd tt p d h0 (Kg hP (wZ hP hf hs (fun _=>by decide)) hs (fun _=>by decide)) hs];rw[show a+1+(uN t).length+1=a+((uN t).length+2) by omega]
structure GA where
 α:Type
 core:zR->α
 andA:α->α->α
 orA:α->α->α
 notA:Bool->α->α
 J:List zT->Int->Int->α->Prop
structure GA.Ok(A:GA)(low:List Nat):Prop where
 ext:∀N E i k x,A.J N i k x->A.J (N++E) i k x
 core:∀N t,xL low t->A.J (N++[mI t]) ((N.length:Nat):Int) (mI t).kind (A.core t)
 and:∀N l kl x r kr y,A.J N l kl x->A.J N r kr y->kl≠1->kr≠1->A.J (N++[⟨2,l,r,[],[],[],0⟩]) ((N.length:Nat):Int) 2 (A.andA x y)
 or:∀N l kl x r kr y,A.J N l kl x->A.J N r kr y->A.J (N++[⟨1,l,r,[],[],[],0⟩]) ((N.length:Nat):Int) 1 (A.orA x y)
 not:∀N l kl x,A.J N l kl x->A.J (N++[⟨3,l,0,[],[],[],0⟩]) ((N.length:Nat):Int) 3 (A.notA (decide (kl=1\/kl=2)) x)
abbrev GX:=∀A:GA,A.α
def tM(t:zR):GX:=fun A=>if t.not=true then A.notA false (A.core t) else A.core t
def zBH(x y:GX):GX:=fun A=>A.andA (x A) (y A)
def orX(x y:GX):GX:=fun A=>A.orA (x A) (y A)
def notX(b:Bool)(x:GX):GX:=fun A=>A.notA b (x A)
def zH0(low:List Nat)(N:List zT)(i k:Int)(x:GX):Prop:=∀A:GA,A.Ok low->A.J N i k (x A)
def zFW(low:List Nat)(x:zT):Prop:=(x.kind=1\/x.kind=2\/x.kind=3)\/∃t,xL low t/\x=mI t
def Yj(low:List Nat)(nd E:List zT)(m:Nat):Prop:=(∀z∈E,zFW low z)/\(dK nd->dK (nd++E))/\E.length<=m
theorem BW{z:zT}(h:dK N)(h1:z.kind=1\/z.kind=2->0<=z.left/\z.left<N.length/\0<=z.right/\z.right<N.length)(h3:z.kind=3->0<=z.left/\z.left<N.length)(h4:¬z.kind=1->¬z.kind=2->¬z.kind=3->(4<=z.kind/\z.kind<=7)/\0<=z.num/\z.num<=9999):dK (N++[z]):=by
 intro a ha;rcases md a N.length with h5|h5
 ·have e:pM (N++[z]) a=pM N a:=by unfold pM;rw[pd,pd,ms h5]
  rw[e];exact h a h5
 ·have e:a=N.length:=by rw[tm,mh]at ha;omega
  subst e;have e2:pM (N++[z]) N.length=z:=by unfold pM;simp[List.getD]
  rw[e2];exact⟨fun q=>h1 (.inl q),fun q=>h1 (.inr q),h3,h4⟩
theorem Zr:dK []:=by intro a ha;exact absurd ha (by simp)
theorem zCV{low:List Nat}{t:zR}(h:xL low t):(mI t).kind<=7/\0<=(mI t).num/\(mI t).num<=9999:=by
 unfold mI;rcases h with h0|⟨h0,-⟩|⟨h0,-⟩|⟨h0|h0,-,-,-,n1,n2⟩
 ·rw[tl h0];exact⟨show (4:Int)<=7 by decide,lh _,show (0:Int)<=9999 by decide⟩
 ·rw[tb (by omega),tl h0];exact⟨show (6:Int)<=7 by decide,lh _,show (0:Int)<=9999 by decide⟩
 ·rw[tb (by omega),tb (by omega),tl h0];exact⟨show (5:Int)<=7 by decide,lh _,show (0:Int)<=9999 by decide⟩
 ·rw[tb (by omega),tb (by omega),tb (by omega),tl h0];exact⟨show (7:Int)<=7 by decide,n1,n2⟩
 ·rw[tb (by omega),tb (by omega),tb (by omega),tb (by omega)];exact⟨show (7:Int)<=7 by decide,lh _,show (0:Int)<=9999 by decide⟩
theorem zF0{low:List Nat}(h:dK N){t:zR}(ht:xL low t):dK (N++[mI t]):=by
 have h1:=YF t;have h2:=zCV ht;exact BW h (fun q=>by omega) (fun q=>by omega) (fun _ _ _=>⟨⟨h1,h2.1⟩,h2.2⟩)
theorem BV(h:dK N)(h0:0<=i)(h1:i<N.length):dK (N++[⟨3,i,0,[],[],[],0⟩]) :=
 BW h (fun q=>absurd q (show ¬((3:Int)=1\/(3:Int)=2) by decide)) (fun _=>⟨h0,h1⟩) (fun _ _ q=>absurd rfl q)
theorem zIQ(h:dK N){l r:Int}(hk:k=1\/k=2)(l0:0<=l)(l1:l<N.length)(r0:0<=r)(r1:r<N.length):dK (N++[⟨k,l,r,[],[],[],0⟩]) :=
 BW h (fun _=>⟨l0,l1,r0,r1⟩) (fun q=>absurd (show k=3 from q) (by omega)) (fun q1 q2 _=>absurd hk (fun h=>h.elim (fun h=>q1 h) (fun h=>q2 h)))
def bdA:GA:=⟨Unit,fun _=>(),fun _ _=>(),fun _ _=>(),fun _ _=>(),fun N i _ _=>0<=i/\i<N.length⟩
theorem zJB(low:List Nat):bdA.Ok low where
 ext:=fun N E i k x ⟨h0,h1⟩=>⟨h0,by rw[tm];omega⟩
 core:=fun N t _=>⟨by omega,by rw[tm,mh];omega⟩
 and:=fun N l kl x r kr y _ _ _ _=>⟨by omega,by rw[tm,mh];omega⟩
 or:=fun N l kl x r kr y _ _=>⟨by omega,by rw[tm,mh];omega⟩
 not:=fun N l kl x _=>⟨by omega,by rw[tm,mh];omega⟩
theorem wG{low:List Nat}{x:GX}(h:zH0 low N i k x):0<=i/\i<N.length:=h bdA (zJB low)
theorem Yj.nil(low:List Nat)(nd:List zT)(m:Nat):Yj low nd [] m:=⟨fun z hz=>(by cases hz),fun h=>by rw[mt];exact h,p7 _⟩
theorem Yj.app{low:List Nat}{nd E E':List zT}{m':Nat}(h:Yj low nd E m)(h':Yj low (nd++E) E' m')(hn:m+m'<=n):Yj low nd (E++E') n:=by
 refine⟨fun z hz=>?_,fun hg=>by rw[<-pt];exact h'.2.1 (h.2.1 hg),by rw[tm];have:=h.2.2;have:=h'.2.2;omega⟩;rcases pu.1 hz with hz|hz
 ·exact h.1 z hz
 ·exact h'.1 z hz
theorem Yj.two{low:List Nat}{nd:List zT}{l r:Int}(hk:k=1\/k=2)(hl:0<=l/\l<nd.length)(hr:0<=r/\r<nd.length):Yj low nd [⟨k,l,r,[],[],[],0⟩] 1 :=
 ⟨fun z hz=>by rw[pr.1 hz];exact .inl (hk.elim .inl fun q=>.inr (.inl q)),fun hg=>zIQ hg hk hl.1 hl.2 hr.1 hr.2,j1 _⟩
theorem Yj.not{low:List Nat}{nd:List zT}(hi:0<=i/\i<nd.length):Yj low nd [⟨3,i,0,[],[],[],0⟩] 1 :=
 ⟨fun z hz=>by rw[pr.1 hz];exact .inl (.inr (.inr rfl)),fun hg=>BV hg hi.1 hi.2,j1 _⟩
theorem Yj.test{low:List Nat}{nd:List zT}{t:zR}(h:xL low t):Yj low nd [mI t] 1 :=
 ⟨fun z hz=>by rw[pr.1 hz];exact .inr ⟨t,h,rfl⟩,fun hg=>zF0 hg h,j1 _⟩
theorem Yj.mono{low:List Nat}{nd E:List zT}(h:Yj low nd E m)(hn:m<=n):Yj low nd E n:=⟨h.1,h.2.1,p8 h.2.2 hn⟩
theorem DL:1<=(Cy t lo).length:=by
 have:=(XJ t).1;unfold Cy;split <;> simp <;> omega
def zBV(low:List Nat)(D:Int)(nd:List zT)(tt:Int)(b m:Nat)(c k:Int)(x:GX)(y:Int × GS):Prop:=∃i E p',y=(i,⟨(b,false),nd++E,tt+c,p'⟩)/\p'<=D/\zH0 low (nd++E) i k x/\Yj low nd E m
theorem D7{s s':St}{nd nd':List zT}{t t' p:Int}(h0:s=s')(h1:nd=nd')(h2:t=t'):((i,⟨s,nd,t,p⟩):Int × GS)=(i,⟨s',nd',t',p⟩):=by subst h0 h1 h2;rfl
theorem Y8{low:List Nat}(hl4:∀d∈low,d<4){t:zR}(h:xL low t)(lo:Bool)(nd:List zT)(tt p d D:Int)(hv:zq v)(hA:wT P a (xB t lo++[v]))(hn:(xB t lo).length<=n)(hP:0<P.length)(hp:p<=D)(hd:d+2<=D) :
 ∃k,3<=k/\zBV low D nd tt (a+(xB t lo).length) (xB t lo).length 1 k (tM t) (xA P n ⟨(a,false),nd,tt,p⟩ d):=by
 have e:=zCP t lo;have hk:=YF t;cases hn':t.not
 ·rw[hn']at e
  have e':xB t lo=Cy t lo:=e;rw[e']at hA hn ⊢;obtain⟨p',h1,h2⟩:=DK hl4 h lo nd tt p d D hv hA hn hP hp (by omega);refine⟨(mI t).kind,by omega,_,[mI t],p',h2,h1,fun A hO=>?_,(Yj.test h).mono (DL t lo)⟩
  ·have ex:tM t A=A.core t:=by unfold tM;rw[hn'];rfl
   rw[ex];exact hO.core nd t h
 ·rw[hn']at e
  have e':xB t lo=vG::Cy t lo:=e;rw[e']at hA hn ⊢;obtain⟨h0,hA1⟩:=hA;obtain⟨n,rfl⟩:∃k,n=k+1:=⟨n-1,by simp at hn;omega⟩;obtain⟨p',h1,h2⟩:=DK hl4 h lo nd tt p (d+1) D hv hA1 (by simp at hn;omega) hP hp (by omega);refine⟨3,by decide,(((nd++[mI t]).length:Nat):Int),[mI t,⟨3,(nd.length:Nat),0,[],[],[],0⟩],p',?_,h1,fun A hO=>?_,(Yj.test h).app (m':=1) (Yj.not ⟨by omega,by rw[tm,mh];omega⟩) (by have:=DL t lo;simp only[pf];omega)⟩
  ·rw[Zu nd tt p d h0 h2]
   simp only[GS.add,pt,List.singleton_append,pf];rw[show a+1+(Cy t lo).length=a+((Cy t lo).length+1) by omega]
  ·have ex:tM t A=A.notA (decide ((mI t).kind=1\/(mI t).kind=2)) (A.core t):=by
    unfold tM;rw[hn',ty (by omega)];rfl
   rw[ex,show nd++[mI t,(⟨3,(nd.length:Nat),0,[],[],[],0⟩:zT)]=(nd++[mI t])++[⟨3,(nd.length:Nat),0,[],[],[],0⟩] by simp];exact hO.not _ _ _ _ (hO.core nd t h)
def bN(t:zR):List Bs:=if t.or=true then [Qi] else [dR]
def yL(l:List zR)(lo:Bool):List Bs:=l.flatMap fun q=>bN q++xB q lo
def Up(x:GX)(g:List zR):GX:=g.foldl (fun x t=>zBH x (tM t)) x
theorem YE{l:List zR}{lo:Bool}(hv:v=cW\/v=kJ):∃v' r,yL l lo++[v]=v'::r/\zq v'/\(v'=dR->∃t l',l=t::l'/\t.or=false):=by
 cases l with
 | nil =>
   refine⟨v,[],rfl,?_,fun e=>?_⟩
   ·rcases hv with rfl|rfl
    ·exact .inl rfl
    ·exact .inr (.inl rfl)
   ·rcases hv with rfl|rfl <;> exact absurd e (by decide)
 | cons t l' =>
   cases ho:t.or
   ·exact⟨dR,xB t lo++(yL l' lo++[v]),by simp[yL,bN,ho],.inr (.inr (.inl rfl)),fun _=>⟨t,l',rfl,ho⟩⟩
   ·exact⟨Qi,xB t lo++(yL l' lo++[v]),by simp[yL,bN,ho],.inr (.inr (.inr rfl)),fun e=>absurd e (by decide)⟩
theorem zBG{low:List Nat}(hl4:∀d∈low,d<4)(lo:Bool)(d D:Int)(hv:v=cW\/v=kJ)(hP:0<P.length)(hd:d+2<=D):∀(l:List zR) (k b:Nat) (left:Int) (nd:List zT) (tt p kx:Int) (x:GX),(∀t∈l,xL low t/\(xB t lo).length<=n)->wT P b (yL l lo++[v])->l.length<k->p<=D->zH0 low nd left kx x->kx≠1 ->
 ∃g r kx',l=g++r/\(∀t∈g,t.or=false)/\(∀t r',r=t::r'->t.or=true)/\kx'≠1/\(g≠[]->kx'=2)/\(g=[]->kx'=kx)/\wT P (b+(yL g lo).length) (yL r lo++[v])/\zBV low D nd tt (b+(yL g lo).length) (yL g lo).length g.length kx' (Up x g) (mS P (fun q=>xA P n q d) dR 2 k left ⟨(b,false),nd,tt,p⟩):=by
 intro l
 induction l with
 | nil =>
   intro k b left nd tt p kx x hl hA hk hp hx hkx;obtain⟨k,rfl⟩:∃j,k=j+1:=⟨k-1,by simp at hk;omega⟩;refine⟨[],[],kx,rfl,fun t ht=>(by cases ht),fun t r' e=>(by cases e),hkx,fun e=>absurd rfl e,fun _=>rfl,hA,left,[],p,?_,hp,by rw[mt];exact hx,Yj.nil _ _ _⟩;rw[fV hA.1 (fun _=>by rcases hv with rfl|rfl <;> decide)];simp[yL]
 | cons t l ih =>
   intro k b left nd tt p kx x hl hA hk hp hx hkx;obtain⟨k,rfl⟩:∃j,k=j+1:=⟨k-1,by simp at hk;omega⟩;have ht:=hl t (by simp);cases ho:t.or
   ·have e:yL (t::l) lo++[v]=dR::(xB t lo++(yL l lo++[v])):=by simp[yL,bN,ho]
    have hA':=hA;rw[e]at hA';obtain⟨h0,h1⟩:=hA';obtain⟨v',r',e',hv',-⟩:=YE (l:=l) (lo:=lo) hv
    have h2:wT P (b+1) (xB t lo++[v']):=by
     rw[e',show xB t lo++v'::r'=(xB t lo++[v'])++r' by simp]at h1;exact h1.app.1
    obtain⟨kt,hkt,i,E,p',hy,hp',hG,hE⟩:=Y8 hl4 ht.1 lo (n:=n) nd tt p d D hv' h2 ht.2 hP hp hd;have h3:=h1.app.2;have hJ:zH0 low (nd++E++[⟨2,left,i,[],[],[],0⟩]) (((nd++E).length:Nat):Int) 2 (zBH x (tM t)):=fun A hO=>hO.and _ _ kx _ _ kt _ (hO.ext _ _ _ _ _ (hx A hO)) (hG A hO) hkx (by omega);obtain⟨g,r,kx',e1,e2,e3,e4,e5,e6,e7,i',E',p2,hy2,hp2,hG2,hE2⟩:=ih k (b+1+(xB t lo).length) (((nd++E).length:Nat):Int) (nd++E++[⟨2,left,i,[],[],[],0⟩]) (tt+1) p' 2 (zBH x (tM t)) (fun t' h'=>hl t' (mu _ h')) h3 (by simp at hk;omega) hp' hJ (by decide)
    have el:b+1+(xB t lo).length+(yL g lo).length=b+(yL (t::g) lo).length:=by
     simp[yL,bN,ho];omega
    rw[el]at e7 hy2;refine⟨t::g,r,kx',by rw[e1];rfl,fun t' h' => ?_,e3,e4,fun _=>?_,fun e=>(by cases e),e7,i',E++[⟨2,left,i,[],[],[],0⟩]++E',p2,?_,hp2,?_,?_⟩
    ·rcases l6.1 h' with rfl|h'
     ·exact ho
     ·exact e2 t' h'
    ·by_cases hg:g=[]
     ·exact e6 hg
     ·exact e5 hg
    ·rw[Dt h0 (by decide) hy]
     simp only[GS.add];rw[hy2];exact D7 rfl (by simp) (by simp only[pf];omega)
    ·rw[<-pt,<-pt];exact hG2
    ·have b1:=wG hx
     have b2:=wG hG;refine(hE.app (Yj.two (.inr rfl) ⟨b1.1,by rw[tm];omega⟩ b2) (j1 _)).app (by rw[<-pt];exact hE2) ?_;have:(yL (t::g) lo).length=1+(xB t lo).length+(yL g lo).length:=by simp[yL,bN,ho];omega
     omega
   ·have e:yL (t::l) lo++[v]=Qi::(xB t lo++(yL l lo++[v])):=by simp[yL,bN,ho]
    have hA':=hA;rw[e]at hA';refine⟨[],t::l,kx,rfl,fun t ht=>(by cases ht),fun t' r' e=>(by cases e;exact ho),hkx,fun e=>absurd rfl e,fun _=>rfl,hA,left,[],p,?_,hp,by rw[mt];exact hx,Yj.nil _ _ _⟩;rw[fV hA'.1 (fun _=>by decide)];simp[yL]
def QP:Option GX->GX->GX
 | none,c=>c
 | some a,c=>orX a c
def QZ:Option GX->GX->List zR->GX
 | acc,c,[]=>QP acc c
 | acc,c,t::r=>if t.or=true then QZ (some (QP acc c)) (tM t) r else QZ acc (zBH c (tM t)) r
def zK2(x:GX):List zR->GX
 | []=>x
 | t::r=>QZ (some x) (tM t) r
theorem QY(g:List zR):∀(acc:Option GX) (c:GX) (r:List zR),(∀t∈g,t.or=false)->(∀t r',r=t::r'->t.or=true)->QZ acc c (g++r)=zK2 (QP acc (Up c g)) r:=by
 induction g with
 | nil =>
   intro acc c r _ hr
   cases r with
   | nil=>rfl
   | cons t r=>rw[db,QZ,tl (hr t r rfl)];rfl
 | cons t g ih =>
   intro acc c r hg hr;rw[cf,QZ,tb (by rw[hg t (by simp)];decide),ih _ _ _ (fun t' h'=>hg t' (mu _ h')) hr];rfl
theorem YD{low:List Nat}(hl4:∀d∈low,d<4)(lo:Bool)(d D:Int)(hv:v=cW\/v=kJ)(hP:0<P.length)(hd:d+2<=D)(t:zR)(l:List zR)(b:Nat)(nd:List zT)(tt p:Int)(hl:∀q∈t::l,xL low q/\(xB q lo).length<=n)(hA:wT P b (xB t lo++(yL l lo++[v])))(hk:l.length<P.length)(hp:p<=D) :
 ∃g r kx',l=g++r/\(∀t∈g,t.or=false)/\(∀t r',r=t::r'->t.or=true)/\(g≠[]->kx'=2)/\(g=[]->3<=kx')/\wT P (b+(xB t lo).length+(yL g lo).length) (yL r lo++[v])/\zBV low D nd tt (b+(xB t lo).length+(yL g lo).length) ((xB t lo).length+(yL g lo).length) (g.length+1) kx' (Up (tM t) g) (cJ P (xA P n) ⟨(b,false),nd,tt,p⟩ d):=by
 obtain⟨v',r',e',hv',-⟩:=YE (l:=l) (lo:=lo) hv
 have h2:wT P b (xB t lo++[v']):=by
  have hA':=hA;rw[e',show xB t lo++v'::r'=(xB t lo++[v'])++r' by simp]at hA';exact hA'.app.1
 have ht:=hl t (by simp);obtain⟨kt,hkt,i,E,p',hy,hp',hG,hE⟩:=Y8 hl4 ht.1 lo (n:=n) nd tt p d D hv' h2 ht.2 hP hp hd;obtain⟨g,r,kx',e1,e2,e3,e4,e5,e6,e7,i',E',p2,hy2,hp2,hG2,hE2⟩:=zBG hl4 lo (n:=n) d D hv hP hd l P.length (b+(xB t lo).length) i (nd++E) (tt+1) p' kt (tM t) (fun t' h'=>hl t' (mu _ h')) hA.app.2 hk hp' hG (by omega);refine⟨g,r,kx',e1,e2,e3,e5,fun hg=>by rw[e6 hg];exact hkt,e7,i',E++E',p2,?_,hp2,by rw[<-pt];exact hG2,hE.app hE2 (j1 _)⟩
 ·unfold cJ
  rw[hy];simp only;rw[hy2];exact D7 rfl (by simp) (by omega)
theorem zDQ{low:List Nat}(hl4:∀d∈low,d<4)(lo:Bool)(d D:Int)(hv:v=cW\/v=kJ)(hP:0<P.length)(hd:d+2<=D):∀(m:Nat) (l:List zR) (k b:Nat) (left:Int) (nd:List zT) (tt p kx:Int) (x:GX),l.length<=m->(∀t r',l=t::r'->t.or=true)->(∀t∈l,xL low t/\(xB t lo).length<=n)->wT P b (yL l lo++[v])->l.length<k->l.length<P.length->p<=D->zH0 low nd left kx x ->
 ∃kx',(l≠[]->kx'=1)/\(l=[]->kx'=kx)/\zBV low D nd tt (b+(yL l lo).length) (yL l lo).length l.length kx' (zK2 x l) (mS P (fun q=>cJ P (xA P n) q d) Qi 1 k left ⟨(b,false),nd,tt,p⟩):=by
 intro m
 induction m with
 | zero =>
   intro l k b left nd tt p kx x hm ho hl hA hk hkP hp hx;obtain rfl:l=[]:=List.length_eq_zero_iff.1 (by omega);obtain⟨k,rfl⟩:∃j,k=j+1:=⟨k-1,by simp at hk;omega⟩;refine⟨kx,fun e=>absurd rfl e,fun _=>rfl,left,[],p,?_,hp,by rw[mt];exact hx,Yj.nil _ _ _⟩;rw[fV hA.1 (fun _=>by rcases hv with rfl|rfl <;> decide)];simp[yL]
 | succ m ih =>
   intro l k b left nd tt p kx x hm ho hl hA hk hkP hp hx;obtain⟨k,rfl⟩:∃j,k=j+1:=⟨k-1,by omega⟩
   cases l with
   | nil =>
     refine⟨kx,fun e=>absurd rfl e,fun _=>rfl,left,[],p,?_,hp,by rw[mt];exact hx,Yj.nil _ _ _⟩;rw[fV hA.1 (fun _=>by rcases hv with rfl|rfl <;> decide)];simp[yL]
   | cons t l =>
     have hto:=ho t l rfl;have e:yL (t::l) lo++[v]=Qi::(xB t lo++(yL l lo++[v])):=by simp[yL,bN,hto]
     have hA':=hA;rw[e]at hA';obtain⟨h0,h1⟩:=hA';obtain⟨g,r,kg,e1,e2,e3,e5,e6,e7,i,E,p',hy,hp',hG,hE⟩:=YD hl4 lo (n:=n) d D hv hP hd t l (b+1) nd tt p hl h1 (by simp at hkP;omega) hp;have hJ:zH0 low (nd++E++[⟨1,left,i,[],[],[],0⟩]) (((nd++E).length:Nat):Int) 1 (orX x (Up (tM t) g)):=fun A hO=>hO.or _ _ kx _ _ kg _ (hO.ext _ _ _ _ _ (hx A hO)) (hG A hO);have hr:r.length<=l.length:=by rw[e1,tm];omega
     obtain⟨kx',f1,f2,i',E',p2,hy2,hp2,hG2,hE2⟩:=ih r k _ (((nd++E).length:Nat):Int) (nd++E++[⟨1,left,i,[],[],[],0⟩]) (tt+(g.length+1)) p' 1 (orX x (Up (tM t) g)) (by simp at hm;omega) e3 (fun t' h'=>hl t' (by rw[e1];simp[h'])) e7 (by simp at hk;omega) (by simp at hkP;omega) hp' hJ
     have el:b+1+(xB t lo).length+(yL g lo).length+(yL r lo).length=b+(yL (t::l) lo).length:=by
      rw[e1];simp[yL,bN,hto];omega
     rw[el]at hy2;refine⟨kx',fun _=>?_,fun e=>(by cases e),i',E++[⟨1,left,i,[],[],[],0⟩]++E',p2,?_,hp2,?_,?_⟩
     ·by_cases hr0:r=[]
      ·exact f2 hr0
      ·exact f1 hr0
     ·rw[Dt h0 (by decide) hy]
      simp only[GS.add];rw[hy2];exact D7 rfl (by simp) (by rw[e1];simp only[pf,tm];omega)
     ·have eo:zK2 x (t::l)=zK2 (orX x (Up (tM t) g)) r:=by
       show QZ (some x) (tM t) l=_;rw[e1,QY g _ _ _ e2 e3];rfl
      rw[eo,<-pt,<-pt];exact hG2
     ·have b1:=wG hx
      have b2:=wG hG;refine(hE.app (Yj.two (.inl rfl) ⟨b1.1,by rw[tm];omega⟩ b2) (j1 _)).app (by rw[<-pt];exact hE2) ?_;have:(yL (t::l) lo).length=1+(xB t lo).length+((yL g lo).length+(yL r lo).length):=by rw[e1];simp[yL,bN,hto];omega
      omega
theorem Uq{low:List Nat}(hl4:∀d∈low,d<4)(lo:Bool)(d D:Int)(hv:v=cW\/v=kJ)(hP:0<P.length)(hd:d+2<=D)(t:zR)(l:List zR)(b:Nat)(nd:List zT)(tt p:Int)(hl:∀q∈t::l,xL low q/\(xB q lo).length<=n)(hA:wT P b (xB t lo++yL l lo++[v]))(hk:l.length<P.length)(hp:p<=D) :
 ∃k,(k=1\/k=2 ↔ l≠[])/\zBV low D nd tt (b+(xB t lo++yL l lo).length) (xB t lo++yL l lo).length (l.length+1) k (QZ none (tM t) l) (Z8 P (xA P n) ⟨(b,false),nd,tt,p⟩ d):=by
 rw[pt]at hA;obtain⟨g,r,kg,e1,e2,e3,e5,e6,e7,i,E,p',hy,hp',hG,hE⟩:=YD hl4 lo (n:=n) d D hv hP hd t l b nd tt p hl hA hk hp;have hr:r.length<=l.length:=by rw[e1,tm];omega
 obtain⟨kx',f1,f2,i',E',p2,hy2,hp2,hG2,hE2⟩:=zDQ hl4 lo (n:=n) d D hv hP hd r.length r P.length _ i (nd++E) (tt+(g.length+1)) p' kg (Up (tM t) g) (j1 _) e3 (fun t' h'=>hl t' (by rw[e1];simp[h'])) e7 (by omega) (by omega) hp' hG
 have el:b+(xB t lo).length+(yL g lo).length+(yL r lo).length=b+(xB t lo++yL l lo).length:=by
  rw[e1];simp[yL];omega
 rw[el]at hy2;refine⟨kx',?_,i',E++E',p2,?_,hp2,?_,hE.app hE2 (by rw[e1];simp[yL];omega)⟩
 ·by_cases hr0:r=[]
  ·have k1:=f2 hr0
   by_cases hg0:g=[]
   ·have:=e6 hg0
    rw[e1,hr0,hg0];constructor
    ·intro h;omega
    ·intro h;exact absurd rfl h
   ·have:=e5 hg0
    rw[e1,hr0];constructor
    ·intro _ h;exact hg0 (by simpa using h)
    ·intro _;omega
  ·have:=f1 hr0
   rw[e1];constructor
   ·intro _ h;exact hr0 (List.append_eq_nil_iff.1 h).2
   ·intro _;omega
 ·unfold Z8
  rw[hy];simp only;rw[hy2];exact D7 rfl (by simp) (by rw[e1];simp only[tm];omega)
 ·have eo:QZ none (tM t) l=zK2 (Up (tM t) g) r:=by rw[e1,QY g _ _ _ e2 e3];rfl
  rw[eo,<-pt];exact hG2
variable {P:List PT}
theorem xx(ts:List zR)(lo:Bool):∀(l:List zR) (k:Nat),0<k->ts.drop k=l->((List.range l.length).flatMap fun j=>kQ (k+j) (ts.getD (k+j) bV)++xB (ts.getD (k+j) bV) lo)=yL l lo:=by
 intro l
 induction l with
 | nil=>intro k _ _;rfl
 | cons q r ih =>
   intro k hk hd
   have zKZ:k<ts.length:=by
    rcases md k ts.length with h|h
    ·exact h
    ·rw[pm h]at hd;cases hd
   rw[po zKZ]at hd;injection hd with h1 h2
   have hg:ts.getD k bV=q:=by simp[List.getD,zKZ,h1]
   rw[pf,List.range_succ_eq_map,bh,List.flatMap_map];have hi:=ih (k+1) (by omega) h2
   have e:((List.range r.length).flatMap fun j=>kQ (k+(j+1)) (ts.getD (k+(j+1)) bV)++xB (ts.getD (k+(j+1)) bV) lo)=yL r lo:=by
    rw[<-hi];congr 1;funext j;rw[show k+(j+1)=k+1+j by omega]
   show (kQ (k+0) (ts.getD (k+0) bV)++xB (ts.getD (k+0) bV) lo)++((List.range r.length).flatMap fun j=>kQ (k+(j+1)) (ts.getD (k+(j+1)) bV)++xB (ts.getD (k+(j+1)) bV) lo)=_;rw[e,l9,hg];have hs:kQ k q=bN q:=by unfold kQ bN;rw[tb (by omega)];rfl
   simp[yL,hs]
theorem zCL:jE (t::l) lo (t::l).length=xB t lo++yL l lo:=by
 unfold jE;rw[pf,List.range_succ_eq_map,bh,List.flatMap_map];have h:=xx (t::l) lo l 1 (by decide) rfl
 have e:((List.range l.length).flatMap fun j=>kQ (j+1) ((t::l).getD (j+1) bV)++xB ((t::l).getD (j+1) bV) lo)=yL l lo:=by
  rw[<-h];congr 1;funext j;rw[Nat.add_comm]
 show (kQ 0 t++xB t lo)++((List.range l.length).flatMap fun j=>kQ (j+1) ((t::l).getD (j+1) bV)++xB ((t::l).getD (j+1) bV) lo)=_;rw[e];simp[kQ]
theorem zCT(q:zR)(l:List zR):q∈l->(xB q lo).length<=(yL l lo).length:=by
 induction l with
 | nil=>intro h;cases h
 | cons a r ih =>
   intro hq;have e:yL (a::r) lo=bN a++xB a lo++yL r lo:=by simp[yL]
   rw[e,tm,tm];rcases l6.1 hq with rfl|hq
   ·omega
   ·have:=ih hq;omega
theorem zHA:∀q∈t::l,(xB q lo).length<=(xB t lo++yL l lo).length:=by
 intro q hq;rw[tm];rcases l6.1 hq with rfl|hq
 ·omega
 ·have:=zCT lo q l hq;omega
theorem xw:l.length<=(yL l lo).length:=by
 induction l with
 | nil=>simp
 | cons a r ih =>
   have e:yL (a::r) lo=bN a++xB a lo++yL r lo:=by simp[yL]
   have:0<(bN a).length:=by unfold bN;split <;> simp
   rw[e,tm,tm,pf];omega
def zA3(wh:Bool)(t:zR)(l:List zR):GX:=if wh=true then notX (decide (l≠[])) (QZ none (tM t) l) else QZ none (tM t) l
theorem zA2{low:List Nat}(hl4:∀d∈low,d<4)(wh lo:Bool){t:zR}{l:List zR}(h:qX low (t::l))(hA:wT P a (bG wh (t::l) lo++[cW]))(zL6:a+(bG wh (t::l) lo).length<P.length) :
 ∃root nd p k,qD P (a,false)=(root,⟨(a+(bG wh (t::l) lo).length,false),nd,(l.length:Int)+1,p⟩)/\p<=4/\zH0 low nd root k (zA3 wh t l)/\(∀z∈nd,zFW low z)/\dK nd/\nd.length<=(bG wh (t::l) lo).length:=by
 have hP:0<P.length:=by omega
 have htl:=zHA t l lo;have hfw:=xw l lo;have hts:=zCL t l lo;unfold bG at hA zL6 ⊢;rw[hts]at hA zL6 ⊢;cases wh
 ·have hi:Yf false lo (t::l).length=false:=rfl
  rw[hi]at hA zL6 ⊢;have e:((if false=true then [[110,111,116]] else [])++(if false=true then [[40]] else [])++(xB t lo++yL l lo)++(if false=true then [[41]] else []):List Bs)=xB t lo++yL l lo:=by simp
  rw[e]at hA zL6 ⊢;have hlen2:=zL6;rw[tm]at hlen2;obtain⟨k,-,i,E,p',hy,hp',hG,hE⟩:=Uq hl4 lo (n:=P.length) 0 4 (.inl rfl) hP (by decide) t l a [] 0 0 (fun q hq=>⟨h.2.2 q hq,by have:=htl q hq;omega⟩) hA (by omega) (by decide);refine⟨i,E,p',k,?_,hp',hG,hE.1,hE.2.1 Zr,hE.2.2⟩;show Z8 P (xA P P.length) ⟨(a,false),[],0,0⟩ 0=_;rw[hy];simp
 ·cases hi:Yf true lo (t::l).length
  ·rw[hi]at hA zL6
   have hl0:l=[]:=by
    unfold Yf at hi;rw[mz,bp]at hi;have:=of_decide_eq_false hi.2
    cases l with
    | nil=>rfl
    | cons x r=>exact absurd this (by simp)
   subst hl0;have e:((if true=true then [[110,111,116]] else [])++(if false=true then [[40]] else [])++(xB t lo++yL [] lo)++(if false=true then [[41]] else []):List Bs)=vG::xB t lo:=by simp[yL,vG]
   rw[e]at hA zL6 ⊢;obtain⟨h0,hA1⟩:=hA;have hl1:(vG::xB t lo).length=(xB t lo).length+1:=rfl;rw[hl1]at zL6 ⊢;obtain⟨n,hn⟩:∃k,P.length=k+1:=⟨P.length-1,by omega⟩;obtain⟨k,hk,i,E,p',hy,hp',hG,hE⟩:=Y8 hl4 (h.2.2 t (by simp)) lo (n:=n) [] 0 0 1 4 (.inl rfl) hA1 (by omega) hP (by decide) (by decide);have hend:=hA1.app.2.1
   have hf:xA P P.length ⟨(a,false),[],0,0⟩ 0=((((([]:List zT)++E).length:Nat):Int),⟨(a+1+(xB t lo).length,false),([]++E)++[⟨3,i,0,[],[],[],0⟩],0+1,p'⟩):=by
    rw[hn,Zu [] 0 0 0 h0 hy];rfl
   refine⟨((([]:List zT)++E).length:Nat),([]++E)++[⟨3,i,0,[],[],[],0⟩],p',3,?_,hp',fun A hO=>?_,fun z hz=>?_,BV (hE.2.1 Zr) (wG hG).1 (wG hG).2,by have:=hE.2.2;simp only[db,tm,pf,List.length_nil]at *;omega⟩
   ·show Z8 P (xA P P.length) ⟨(a,false),[],0,0⟩ 0=_
    rw[Kg hP (wZ hP hf hend (fun _=>by decide)) hend (fun _=>by decide)];rw[show a+1+(xB t lo).length=a+((xB t lo).length+1) by omega];rfl
   ·have:=hO.not _ _ _ _ (hG A hO)
    rw[ty (by omega)]at this;exact this
   ·rcases pu.1 hz with hz|hz
    ·exact hE.1 z hz
    ·rw[pr.1 hz];exact .inl (.inr (.inr rfl))
  ·rw[hi]at hA zL6
   have e:((if true=true then [[110,111,116]] else [])++(if true=true then [[40]] else [])++(xB t lo++yL l lo)++(if true=true then [[41]] else []):List Bs)=vG::vK::(xB t lo++yL l lo++[kJ]):=by simp[vG,vK,kJ]
   rw[e]at hA zL6 ⊢;obtain⟨h0,h1,hA1⟩:=hA;have hl1:(vG::vK::(xB t lo++yL l lo++[kJ])).length=(xB t lo++yL l lo).length+3:=by simp only[pf,tm,List.length_nil]
   rw[hl1]at zL6 ⊢;obtain⟨hA2,hA3⟩:=wT.app (us:=[cW]) (ws:=xB t lo++yL l lo++[kJ]) hA1;have hsh:=hA2.app.2.1;have hend:=hA3.1;rw[show a+1+1+(xB t lo++yL l lo++[kJ]).length=a+((xB t lo++yL l lo).length+3) by simp only[pf,tm,List.length_nil];omega]at hend;obtain⟨n,hn⟩:∃k,P.length=k+1+1:=⟨P.length-2,by omega⟩;have hlen2:=zL6;rw[tm]at hlen2;obtain⟨k,hk,i,E,p',hy,hp',hG,hE⟩:=Uq hl4 lo (n:=n) 2 4 (.inr rfl) hP (by decide) t l (a+1+1) [] 0 0 (fun q hq=>⟨h.2.2 q hq,by have:=htl q hq;omega⟩) hA2 (by omega) (by decide);have ho:=XD (n:=n) [] 0 0 1 h1 hy hsh
   have hf:xA P P.length ⟨(a,false),[],0,0⟩ 0=((((([]:List zT)++E).length:Nat):Int),⟨(a+1+1+(xB t lo++yL l lo).length+1,false),([]++E)++[⟨3,i,0,[],[],[],0⟩],0+((l.length:Int)+1),p'⟩):=by
    rw[hn,Zu [] 0 0 0 h0 ho];rfl
   rw[show a+1+1+(xB t lo++yL l lo).length+1=a+((xB t lo++yL l lo).length+3) by omega]at hf;refine⟨((([]:List zT)++E).length:Nat),([]++E)++[⟨3,i,0,[],[],[],0⟩],p',3,?_,hp',fun A hO=>?_,fun z hz=>?_,BV (hE.2.1 Zr) (wG hG).1 (wG hG).2,by have:=hE.2.2;simp only[db,tm,pf,List.length_nil]at *;omega⟩
   ·show Z8 P (xA P P.length) ⟨(a,false),[],0,0⟩ 0=_
    rw[Kg hP (wZ hP hf hend (fun _=>by decide)) hend (fun _=>by decide)];rw[Int.zero_add]
   ·have:=hO.not _ _ _ _ (hG A hO)
    rw[decide_eq_decide.2 hk]at this;exact this
   ·rcases pu.1 hz with hz|hz
    ·exact hE.1 z hz
    ·rw[pr.1 hz];exact .inl (.inr (.inr rfl))
theorem zDZ(N:List zT)(x:zT)(E:List zT):pM (N++[x]++E) N.length=x:=by
 unfold pM;simp[List.getD]
theorem Yu(i:Nat):(yD i).isEmpty=false:=by unfold yD xG;split <;> rfl
theorem zEX(acc:Option GX)(c:GX):QZ acc c []=QP acc c:=rfl
theorem zA5(acc:Option GX)(c:GX)(t:zR)(r:List zR):QZ acc c (t::r)=if t.or=true then QZ (some (QP acc c)) (tM t) r else QZ acc (zBH c (tM t)) r:=rfl
end Go.Proofs.YtnbpdffdnphbeabGreatDoor
