import Derived.Test.YtnbpdffdnphbeabGreatDoorPItoa
namespace Go.Proofs.YtnbpdffdnphbeabGreatDoor
variable{w v:Bs}{i k:Int}{N:List zT}{m a n:Nat}(t:yB)(l:List yB)(lo:Bool)
def mJ(t:yB):zT :=
 if t.kind=0 then ⟨4,0,0,[],[],[],0⟩ else if t.kind=1 then ⟨6,0,0,yK t.x.toNat,[],[],0⟩ else if t.kind=2 then ⟨5,0,0,yZ 99 t.x.toNat,[],[],0⟩ else
 if t.kind=3 then ⟨7,0,0,yK t.x.toNat,sA t.mark.toNat,[],t.n⟩ else ⟨7,0,0,yK t.x.toNat,sA t.mark.toNat,yK t.y.toNat,0⟩
theorem Y6:4<=(mJ t).kind:=by
 unfold mJ;split
 ·simp
 ·split
  ·simp
  ·split
   ·simp
   ·split <;> simp
def GJ(v:Bs):Prop:=v=cP\/v=kI\/v=dE\/v=XY
theorem GJ.cmp(h:GJ v):aZ.contains v=false:=by rcases h with rfl|rfl|rfl|rfl <;> decide
theorem Br{k:Nat}(hk:k<6):aZ.contains (sA k)=true/\yJ (sA k)=4/\(sA k).isEmpty=false:=by
 have h:k=0\/k=1\/k=2\/k=3\/k=4\/k=5:=by omega
 rcases h with rfl|rfl|rfl|rfl|rfl|rfl <;> decide
variable {P:List PT}
theorem zA8{k:Nat}(hk:k<6)(h:At P a (sA k)):vN P (a,false)=(sA k,(a+1,false)):=by
 obtain⟨h1,h2,-⟩:=Br hk;unfold vN;simp only[h.2.1,h1,bA h h2]
theorem zIC(h:At P a v)(hv:aZ.contains v=false):vN P (a,false)=([],(a,false)):=by
 unfold vN;simp only[h.2.1,hv]
theorem DN(h:At P a w)(hk:yJ w=2)(h2:At P (a+1) v)(hv:aZ.contains v=false):vR P (a,false)=(⟨6,0,0,w,[],[],0⟩,(a+1,false)):=by
 unfold vR;simp only[qX h [97,108,119,97,121,115] (fun k=>absurd (hk.symm.trans k) (by decide)),qX h [104,97,115] (fun k=>absurd (hk.symm.trans k) (by decide)),mU h hk,zIC h2 hv,List.isEmpty_nil]
theorem zy{n:Bs}(h:At P a w)(hk:yJ w=2)(hm:m<6)(h2:At P (a+1) (sA m))(h3:At P (a+1+1) n)(hn:yJ n=3):vR P (a,false)=(⟨7,0,0,w,sA m,[],kK n⟩,(a+1+1+1,false)):=by
 unfold vR;simp only[qX h [97,108,119,97,121,115] (fun k=>absurd (hk.symm.trans k) (by decide)),qX h [104,97,115] (fun k=>absurd (hk.symm.trans k) (by decide)),mU h hk,zA8 hm h2,(Br hm).2.2,JG h3 hn,oK h3 hn]
theorem zu{n:Bs}(h:At P a w)(hk:yJ w=2)(hm:m<6)(h2:At P (a+1) (sA m))(h3:At P (a+1+1) n)(hn:yJ n=2):vR P (a,false)=(⟨7,0,0,w,sA m,n,0⟩,(a+1+1+1,false)):=by
 unfold vR;simp only[qX h [97,108,119,97,121,115] (fun k=>absurd (hk.symm.trans k) (by decide)),qX h [104,97,115] (fun k=>absurd (hk.symm.trans k) (by decide)),mU h hk,zA8 hm h2,(Br hm).2.2,Di h3 (by rw[hn];decide),mU h3 hn]
theorem QY{low:List Nat}(hl4:∀d∈low,d<4){t:yB}(h:vB low t)(hv:GJ v)(hA:wH P a (uN t++[v])):(∃w r,uN t=w::r/\(yJ w=4->w≠vG/\w≠vI))/\vR P (a,false)=(mJ t,(a+(uN t).length,false)):=by
 have nk:∀w:Bs,yJ w=2->yJ w=4->w≠vG/\w≠vI:=fun w h1 h2=>absurd (h1.symm.trans h2) (by decide);rcases h with h|⟨h,x1,x2⟩|⟨h,d,hd,hx⟩|⟨h,⟨x1,x2⟩,⟨y1,y2⟩,⟨m1,m2⟩,n1,n2⟩
 ·have e1:uN t=[iG]:=by unfold uN;rw[tm h]
  have e2:mJ t=⟨4,0,0,[],[],[],0⟩:=by unfold mJ;rw[tm h]
  rw[e1]at hA ⊢;rw[e2];exact⟨⟨_,_,rfl,fun _=>by decide⟩,yb hA.1⟩
 ·have e1:uN t=[yK t.x.toNat]:=by unfold uN;rw[tb (by omega),tm h]
  have e2:mJ t=⟨6,0,0,yK t.x.toNat,[],[],0⟩:=by unfold mJ;rw[tb (by omega),tm h]
  have hk:yJ (yK t.x.toNat)=2:=mZ (by omega);rw[e1]at hA ⊢;rw[e2];exact⟨⟨_,_,rfl,nk _ hk⟩,DN hA.1 hk hA.2.1 hv.cmp⟩
 ·have e1:uN t=[sT,yZ 99 t.x.toNat]:=by unfold uN;rw[tb (by omega),tb (by omega),tm h]
  have e2:mJ t=⟨5,0,0,yZ 99 t.x.toNat,[],[],0⟩:=by unfold mJ;rw[tb (by omega),tb (by omega),tm h]
  have:=hl4 d hd;have hk:yJ (yZ 99 t.x.toNat)=2:=pX (.inr (.inr (.inl rfl))) (by omega);rw[e1]at hA ⊢;rw[e2];exact⟨⟨_,_,rfl,fun _=>by decide⟩,ya hA.1 hA.2.1 hk⟩
 ·have hk:yJ (yK t.x.toNat)=2:=mZ (by omega)
  have hk2:yJ (yK t.y.toNat)=2:=mZ (by omega);rcases h with h|h
  ·have e1:uN t=[yK t.x.toNat,sA t.mark.toNat,Lib.itoa t.n]:=by unfold uN;rw[tb (by omega),tb (by omega),tb (by omega),tm h]
   have e2:mJ t=⟨7,0,0,yK t.x.toNat,sA t.mark.toNat,[],t.n⟩:=by unfold mJ;rw[tb (by omega),tb (by omega),tb (by omega),tm h]
   obtain⟨k1,k2⟩:=gT n1 n2;rw[e1]at hA ⊢;rw[e2];refine⟨⟨_,_,rfl,nk _ hk⟩,?_⟩;rw[zy hA.1 hk (by omega) hA.2.1 hA.2.2.1 k1,k2];rfl
  ·have e1:uN t=[yK t.x.toNat,sA t.mark.toNat,yK t.y.toNat]:=by unfold uN;rw[tb (by omega),tb (by omega),tb (by omega),tb (by omega)]
   have e2:mJ t=⟨7,0,0,yK t.x.toNat,sA t.mark.toNat,yK t.y.toNat,0⟩:=by unfold mJ;rw[tb (by omega),tb (by omega),tb (by omega),tb (by omega)]
   rw[e1]at hA ⊢;rw[e2];refine⟨⟨_,_,rfl,nk _ hk⟩,?_⟩;rw[zu hA.1 hk (by omega) hA.2.1 hA.2.2.1 hk2];rfl
theorem X3{b:Nat}{nd':List zT}{t' p':Int}(nd:List zT)(t p d:Int)(h:At P a vI)(hf:Zs P (xB P n) ⟨(a+1,false),nd,t,p⟩ (d+1)=(i,⟨(b,false),nd',t',p'⟩))(hs:At P b kI):xB P (n+1) ⟨(a,false),nd,t,p⟩ d=(i,⟨(b+1,false),nd',t',p'⟩):=by
 rw[xB];simp only[qX h vG (fun _=>by decide),bA h (by decide),GS.to,hf,dP hs (by decide)]
def Ci(t:yB)(lo:Bool):List Bs:=(if (lo&&t.pair)=true then [vI] else [])++uN t++(if (lo&&t.pair)=true then [kI] else [])
theorem zBU:xC t lo=(if t.not=true then [vG] else [])++Ci t lo:=by
 unfold xC Ci;rw[<-pr,<-pr];rfl
theorem D0{low:List Nat}(hl4:∀d∈low,d<4){t:yB}(h:vB low t)(lo:Bool)(nd:List zT)(tt p d D:Int)(hv:GJ v)(hA:wH P a (Ci t lo++[v]))(hn:(Ci t lo).length<=n)(hP:0<P.length)(hp:p<=D)(hd:d+1<=D) :
 ∃p',p'<=D/\xB P n ⟨(a,false),nd,tt,p⟩ d=(((nd.length:Nat):Int),⟨(a+(Ci t lo).length,false),nd++[mJ t],tt+1,p'⟩):=by
 have hc:=(XB t).1;cases hb:(lo&&t.pair)
 ·have e:Ci t lo=uN t:=by simp[Ci,hb]
  rw[e]at hA hn ⊢;obtain⟨⟨w,r,ew,hw⟩,ht⟩:=QY hl4 h hv hA;obtain⟨n,rfl⟩:∃k,n=k+1:=⟨n-1,by omega⟩;have h0:At P a w:=by rw[ew]at hA;exact hA.1
  exact⟨dp p d,by unfold dp;split <;> omega,X2 nd tt p d h0 hw ht⟩
 ·have e:Ci t lo=vI::(uN t++[kI]):=by simp[Ci,hb]
  rw[e]at hA hn ⊢;obtain⟨h0,h1⟩:=hA;obtain⟨h2,-⟩:=wH.app (us:=[v]) (ws:=uN t++[kI]) h1;obtain⟨⟨w,r,ew,hw⟩,ht⟩:=QY hl4 h (v:=kI) (.inr (.inl rfl)) h2;have hs:=h2.app.2.1;have hl:(vI::(uN t++[kI])).length=(uN t).length+2:=by simp
  rw[hl]at hn ⊢;obtain⟨n,rfl⟩:∃k,n=k+1+1:=⟨n-2,by omega⟩;have h0':At P (a+1) w:=by rw[ew]at h2;exact h2.1
  have hf:=X2 (n:=n) nd tt p (d+1) h0' hw ht;refine⟨dp p (d+1),by unfold dp;split <;> omega,?_⟩;rw[X3 nd tt p d h0 (Ka hP (wP hP hf hs (fun _=>by decide)) hs (fun _=>by decide)) hs];rw[show a+1+(uN t).length+1=a+((uN t).length+2) by omega]
structure GA where
 α:Type
 core:yB->α
 andA:α->α->α
 orA:α->α->α
 notA:Bool->α->α
 J:List zT->Int->Int->α->Prop
structure GA.Ok(A:GA)(low:List Nat):Prop where
 ext:∀N E i k x,A.J N i k x->A.J (N++E) i k x
 core:∀N t,vB low t->A.J (N++[mJ t]) ((N.length:Nat):Int) (mJ t).kind (A.core t)
 and:∀N l kl x r kr y,A.J N l kl x->A.J N r kr y->kl≠1->kr≠1->A.J (N++[⟨2,l,r,[],[],[],0⟩]) ((N.length:Nat):Int) 2 (A.andA x y)
 or:∀N l kl x r kr y,A.J N l kl x->A.J N r kr y->A.J (N++[⟨1,l,r,[],[],[],0⟩]) ((N.length:Nat):Int) 1 (A.orA x y)
 not:∀N l kl x,A.J N l kl x->A.J (N++[⟨3,l,0,[],[],[],0⟩]) ((N.length:Nat):Int) 3 (A.notA (decide (kl=1\/kl=2)) x)
abbrev GX:=∀A:GA,A.α
def tR(t:yB):GX:=fun A=>if t.not=true then A.notA false (A.core t) else A.core t
def zAK(x y:GX):GX:=fun A=>A.andA (x A) (y A)
def orX(x y:GX):GX:=fun A=>A.orA (x A) (y A)
def notX(b:Bool)(x:GX):GX:=fun A=>A.notA b (x A)
def zG4(low:List Nat)(N:List zT)(i k:Int)(x:GX):Prop:=∀A:GA,A.Ok low->A.J N i k (x A)
def zF0(low:List Nat)(x:zT):Prop:=(x.kind=1\/x.kind=2\/x.kind=3)\/∃t,vB low t/\x=mJ t
def ZY(low:List Nat)(nd E:List zT)(m:Nat):Prop:=(∀z∈E,zF0 low z)/\(dA nd->dA (nd++E))/\E.length<=m
theorem BG{z:zT}(h:dA N)(h1:z.kind=1\/z.kind=2->0<=z.left/\z.left<N.length/\0<=z.right/\z.right<N.length)(h3:z.kind=3->0<=z.left/\z.left<N.length)(h4:¬z.kind=1->¬z.kind=2->¬z.kind=3->(4<=z.kind/\z.kind<=7)/\0<=z.num/\z.num<=9999):dA (N++[z]):=by
 intro a ha;rcases mc a N.length with h5|h5
 ·have e:pO (N++[z]) a=pO N a:=by unfold pO;rw[pe,pe,mt h5]
  rw[e];exact h a h5
 ·have e:a=N.length:=by rw[tl,me]at ha;omega
  subst e;have e2:pO (N++[z]) N.length=z:=by unfold pO;simp[List.getD]
  rw[e2];exact⟨fun q=>h1 (.inl q),fun q=>h1 (.inr q),h3,h4⟩
theorem Zh:dA []:=by intro a ha;exact absurd ha (by simp)
theorem zBZ{low:List Nat}{t:yB}(h:vB low t):(mJ t).kind<=7/\0<=(mJ t).num/\(mJ t).num<=9999:=by
 unfold mJ;rcases h with h0|⟨h0,-⟩|⟨h0,-⟩|⟨h0|h0,-,-,-,n1,n2⟩
 ·rw[tm h0];exact⟨show (4:Int)<=7 by decide,l9 _,show (0:Int)<=9999 by decide⟩
 ·rw[tb (by omega),tm h0];exact⟨show (6:Int)<=7 by decide,l9 _,show (0:Int)<=9999 by decide⟩
 ·rw[tb (by omega),tb (by omega),tm h0];exact⟨show (5:Int)<=7 by decide,l9 _,show (0:Int)<=9999 by decide⟩
 ·rw[tb (by omega),tb (by omega),tb (by omega),tm h0];exact⟨show (7:Int)<=7 by decide,n1,n2⟩
 ·rw[tb (by omega),tb (by omega),tb (by omega),tb (by omega)];exact⟨show (7:Int)<=7 by decide,l9 _,show (0:Int)<=9999 by decide⟩
theorem zE2{low:List Nat}(h:dA N){t:yB}(ht:vB low t):dA (N++[mJ t]):=by
 have h1:=Y6 t;have h2:=zBZ ht;exact BG h (fun q=>by omega) (fun q=>by omega) (fun _ _ _=>⟨⟨h1,h2.1⟩,h2.2⟩)
theorem BF(h:dA N)(h0:0<=i)(h1:i<N.length):dA (N++[⟨3,i,0,[],[],[],0⟩]) :=
 BG h (fun q=>absurd q (show ¬((3:Int)=1\/(3:Int)=2) by decide)) (fun _=>⟨h0,h1⟩) (fun _ _ q=>absurd rfl q)
theorem zHV(h:dA N){l r:Int}(hk:k=1\/k=2)(l0:0<=l)(l1:l<N.length)(r0:0<=r)(r1:r<N.length):dA (N++[⟨k,l,r,[],[],[],0⟩]) :=
 BG h (fun _=>⟨l0,l1,r0,r1⟩) (fun q=>absurd (show k=3 from q) (by omega)) (fun q1 q2 _=>absurd hk (fun h=>h.elim (fun h=>q1 h) (fun h=>q2 h)))
def bdA:GA:=⟨Unit,fun _=>(),fun _ _=>(),fun _ _=>(),fun _ _=>(),fun N i _ _=>0<=i/\i<N.length⟩
theorem zIG(low:List Nat):bdA.Ok low where
 ext:=fun N E i k x ⟨h0,h1⟩=>⟨h0,by rw[tl];omega⟩
 core:=fun N t _=>⟨by omega,by rw[tl,me];omega⟩
 and:=fun N l kl x r kr y _ _ _ _=>⟨by omega,by rw[tl,me];omega⟩
 or:=fun N l kl x r kr y _ _=>⟨by omega,by rw[tl,me];omega⟩
 not:=fun N l kl x _=>⟨by omega,by rw[tl,me];omega⟩
theorem iV{low:List Nat}{x:GX}(h:zG4 low N i k x):0<=i/\i<N.length:=h bdA (zIG low)
theorem ZY.nil(low:List Nat)(nd:List zT)(m:Nat):ZY low nd [] m:=⟨fun z hz=>(by cases hz),fun h=>by rw[mq];exact h,ty _⟩
theorem ZY.app{low:List Nat}{nd E E':List zT}{m':Nat}(h:ZY low nd E m)(h':ZY low (nd++E) E' m')(hn:m+m'<=n):ZY low nd (E++E') n:=by
 refine⟨fun z hz=>?_,fun hg=>by rw[<-pr];exact h'.2.1 (h.2.1 hg),by rw[tl];have:=h.2.2;have:=h'.2.2;omega⟩;rcases pu.1 hz with hz|hz
 ·exact h.1 z hz
 ·exact h'.1 z hz
theorem ZY.two{low:List Nat}{nd:List zT}{l r:Int}(hk:k=1\/k=2)(hl:0<=l/\l<nd.length)(hr:0<=r/\r<nd.length):ZY low nd [⟨k,l,r,[],[],[],0⟩] 1 :=
 ⟨fun z hz=>by rw[pw.1 hz];exact .inl (hk.elim .inl fun q=>.inr (.inl q)),fun hg=>zHV hg hk hl.1 hl.2 hr.1 hr.2,j1 _⟩
theorem ZY.not{low:List Nat}{nd:List zT}(hi:0<=i/\i<nd.length):ZY low nd [⟨3,i,0,[],[],[],0⟩] 1 :=
 ⟨fun z hz=>by rw[pw.1 hz];exact .inl (.inr (.inr rfl)),fun hg=>BF hg hi.1 hi.2,j1 _⟩
theorem ZY.test{low:List Nat}{nd:List zT}{t:yB}(h:vB low t):ZY low nd [mJ t] 1 :=
 ⟨fun z hz=>by rw[pw.1 hz];exact .inr ⟨t,h,rfl⟩,fun hg=>zE2 hg h,j1 _⟩
theorem ZY.mono{low:List Nat}{nd E:List zT}(h:ZY low nd E m)(hn:m<=n):ZY low nd E n:=⟨h.1,h.2.1,p7 h.2.2 hn⟩
theorem D1:1<=(Ci t lo).length:=by
 have:=(XB t).1;unfold Ci;split <;> simp <;> omega
def zAY(low:List Nat)(D:Int)(nd:List zT)(tt:Int)(b m:Nat)(c k:Int)(x:GX)(y:Int × GS):Prop:=∃i E p',y=(i,⟨(b,false),nd++E,tt+c,p'⟩)/\p'<=D/\zG4 low (nd++E) i k x/\ZY low nd E m
theorem Dp{s s':St}{nd nd':List zT}{t t' p:Int}(h0:s=s')(h1:nd=nd')(h2:t=t'):((i,⟨s,nd,t,p⟩):Int × GS)=(i,⟨s',nd',t',p⟩):=by subst h0 h1 h2;rfl
theorem Yz{low:List Nat}(hl4:∀d∈low,d<4){t:yB}(h:vB low t)(lo:Bool)(nd:List zT)(tt p d D:Int)(hv:GJ v)(hA:wH P a (xC t lo++[v]))(hn:(xC t lo).length<=n)(hP:0<P.length)(hp:p<=D)(hd:d+2<=D) :
 ∃k,3<=k/\zAY low D nd tt (a+(xC t lo).length) (xC t lo).length 1 k (tR t) (xB P n ⟨(a,false),nd,tt,p⟩ d):=by
 have e:=zBU t lo;have hk:=Y6 t;cases hn':t.not
 ·rw[hn']at e
  have e':xC t lo=Ci t lo:=e;rw[e']at hA hn ⊢;obtain⟨p',h1,h2⟩:=D0 hl4 h lo nd tt p d D hv hA hn hP hp (by omega);refine⟨(mJ t).kind,by omega,_,[mJ t],p',h2,h1,fun A hO=>?_,(ZY.test h).mono (D1 t lo)⟩
  ·have ex:tR t A=A.core t:=by unfold tR;rw[hn'];rfl
   rw[ex];exact hO.core nd t h
 ·rw[hn']at e
  have e':xC t lo=vG::Ci t lo:=e;rw[e']at hA hn ⊢;obtain⟨h0,hA1⟩:=hA;obtain⟨n,rfl⟩:∃k,n=k+1:=⟨n-1,by simp at hn;omega⟩;obtain⟨p',h1,h2⟩:=D0 hl4 h lo nd tt p (d+1) D hv hA1 (by simp at hn;omega) hP hp (by omega);refine⟨3,by decide,(((nd++[mJ t]).length:Nat):Int),[mJ t,⟨3,(nd.length:Nat),0,[],[],[],0⟩],p',?_,h1,fun A hO=>?_,(ZY.test h).app (m':=1) (ZY.not ⟨by omega,by rw[tl,me];omega⟩) (by have:=D1 t lo;simp only[pd];omega)⟩
  ·rw[Zk nd tt p d h0 h2]
   simp only[GS.add,pr,List.singleton_append,pd];rw[show a+1+(Ci t lo).length=a+((Ci t lo).length+1) by omega]
  ·have ex:tR t A=A.notA (decide ((mJ t).kind=1\/(mJ t).kind=2)) (A.core t):=by
    unfold tR;rw[hn',tq (by omega)];rfl
   rw[ex,show nd++[mJ t,(⟨3,(nd.length:Nat),0,[],[],[],0⟩:zT)]=(nd++[mJ t])++[⟨3,(nd.length:Nat),0,[],[],[],0⟩] by simp];exact hO.not _ _ _ _ (hO.core nd t h)
def bH(t:yB):List Bs:=if t.or=true then [XY] else [dE]
def yL(l:List yB)(lo:Bool):List Bs:=l.flatMap fun q=>bH q++xC q lo
def Ue(x:GX)(g:List yB):GX:=g.foldl (fun x t=>zAK x (tR t)) x
theorem Y5{l:List yB}{lo:Bool}(hv:v=cP\/v=kI):∃v' r,yL l lo++[v]=v'::r/\GJ v'/\(v'=dE->∃t l',l=t::l'/\t.or=false):=by
 cases l with
 | nil =>
   refine⟨v,[],rfl,?_,fun e=>?_⟩
   ·rcases hv with rfl|rfl
    ·exact .inl rfl
    ·exact .inr (.inl rfl)
   ·rcases hv with rfl|rfl <;> exact absurd e (by decide)
 | cons t l' =>
   cases ho:t.or
   ·exact⟨dE,xC t lo++(yL l' lo++[v]),by simp[yL,bH,ho],.inr (.inr (.inl rfl)),fun _=>⟨t,l',rfl,ho⟩⟩
   ·exact⟨XY,xC t lo++(yL l' lo++[v]),by simp[yL,bH,ho],.inr (.inr (.inr rfl)),fun e=>absurd e (by decide)⟩
theorem zAJ{low:List Nat}(hl4:∀d∈low,d<4)(lo:Bool)(d D:Int)(hv:v=cP\/v=kI)(hP:0<P.length)(hd:d+2<=D):∀(l:List yB) (k b:Nat) (left:Int) (nd:List zT) (tt p kx:Int) (x:GX),(∀t∈l,vB low t/\(xC t lo).length<=n)->wH P b (yL l lo++[v])->l.length<k->p<=D->zG4 low nd left kx x->kx≠1 ->
 ∃g r kx',l=g++r/\(∀t∈g,t.or=false)/\(∀t r',r=t::r'->t.or=true)/\kx'≠1/\(g≠[]->kx'=2)/\(g=[]->kx'=kx)/\wH P (b+(yL g lo).length) (yL r lo++[v])/\zAY low D nd tt (b+(yL g lo).length) (yL g lo).length g.length kx' (Ue x g) (mO P (fun q=>xB P n q d) dE 2 k left ⟨(b,false),nd,tt,p⟩):=by
 intro l
 induction l with
 | nil =>
   intro k b left nd tt p kx x hl hA hk hp hx hkx;obtain⟨k,rfl⟩:∃j,k=j+1:=⟨k-1,by simp at hk;omega⟩;refine⟨[],[],kx,rfl,fun t ht=>(by cases ht),fun t r' e=>(by cases e),hkx,fun e=>absurd rfl e,fun _=>rfl,hA,left,[],p,?_,hp,by rw[mq];exact hx,ZY.nil _ _ _⟩;rw[fN hA.1 (fun _=>by rcases hv with rfl|rfl <;> decide)];simp[yL]
 | cons t l ih =>
   intro k b left nd tt p kx x hl hA hk hp hx hkx;obtain⟨k,rfl⟩:∃j,k=j+1:=⟨k-1,by simp at hk;omega⟩;have ht:=hl t (by simp);cases ho:t.or
   ·have e:yL (t::l) lo++[v]=dE::(xC t lo++(yL l lo++[v])):=by simp[yL,bH,ho]
    have hA':=hA;rw[e]at hA';obtain⟨h0,h1⟩:=hA';obtain⟨v',r',e',hv',-⟩:=Y5 (l:=l) (lo:=lo) hv
    have h2:wH P (b+1) (xC t lo++[v']):=by
     rw[e',show xC t lo++v'::r'=(xC t lo++[v'])++r' by simp]at h1;exact h1.app.1
    obtain⟨kt,hkt,i,E,p',hy,hp',hG,hE⟩:=Yz hl4 ht.1 lo (n:=n) nd tt p d D hv' h2 ht.2 hP hp hd;have h3:=h1.app.2;have hJ:zG4 low (nd++E++[⟨2,left,i,[],[],[],0⟩]) (((nd++E).length:Nat):Int) 2 (zAK x (tR t)):=fun A hO=>hO.and _ _ kx _ _ kt _ (hO.ext _ _ _ _ _ (hx A hO)) (hG A hO) hkx (by omega);obtain⟨g,r,kx',e1,e2,e3,e4,e5,e6,e7,i',E',p2,hy2,hp2,hG2,hE2⟩:=ih k (b+1+(xC t lo).length) (((nd++E).length:Nat):Int) (nd++E++[⟨2,left,i,[],[],[],0⟩]) (tt+1) p' 2 (zAK x (tR t)) (fun t' h'=>hl t' (ms _ h')) h3 (by simp at hk;omega) hp' hJ (by decide)
    have el:b+1+(xC t lo).length+(yL g lo).length=b+(yL (t::g) lo).length:=by
     simp[yL,bH,ho];omega
    rw[el]at e7 hy2;refine⟨t::g,r,kx',by rw[e1];rfl,fun t' h' => ?_,e3,e4,fun _=>?_,fun e=>(by cases e),e7,i',E++[⟨2,left,i,[],[],[],0⟩]++E',p2,?_,hp2,?_,?_⟩
    ·rcases mz.1 h' with rfl|h'
     ·exact ho
     ·exact e2 t' h'
    ·by_cases hg:g=[]
     ·exact e6 hg
     ·exact e5 hg
    ·rw[Db h0 (by decide) hy]
     simp only[GS.add];rw[hy2];exact Dp rfl (by simp) (by simp only[pd];omega)
    ·rw[<-pr,<-pr];exact hG2
    ·have b1:=iV hx
     have b2:=iV hG;refine(hE.app (ZY.two (.inr rfl) ⟨b1.1,by rw[tl];omega⟩ b2) (j1 _)).app (by rw[<-pr];exact hE2) ?_;have:(yL (t::g) lo).length=1+(xC t lo).length+(yL g lo).length:=by simp[yL,bH,ho];omega
     omega
   ·have e:yL (t::l) lo++[v]=XY::(xC t lo++(yL l lo++[v])):=by simp[yL,bH,ho]
    have hA':=hA;rw[e]at hA';refine⟨[],t::l,kx,rfl,fun t ht=>(by cases ht),fun t' r' e=>(by cases e;exact ho),hkx,fun e=>absurd rfl e,fun _=>rfl,hA,left,[],p,?_,hp,by rw[mq];exact hx,ZY.nil _ _ _⟩;rw[fN hA'.1 (fun _=>by decide)];simp[yL]
def QF:Option GX->GX->GX
 | none,c=>c
 | some a,c=>orX a c
def QP:Option GX->GX->List yB->GX
 | acc,c,[]=>QF acc c
 | acc,c,t::r=>if t.or=true then QP (some (QF acc c)) (tR t) r else QP acc (zAK c (tR t)) r
def zJ8(x:GX):List yB->GX
 | []=>x
 | t::r=>QP (some x) (tR t) r
theorem QO(g:List yB):∀(acc:Option GX) (c:GX) (r:List yB),(∀t∈g,t.or=false)->(∀t r',r=t::r'->t.or=true)->QP acc c (g++r)=zJ8 (QF acc (Ue c g)) r:=by
 induction g with
 | nil =>
   intro acc c r _ hr
   cases r with
   | nil=>rfl
   | cons t r=>rw[di,QP,tm (hr t r rfl)];rfl
 | cons t g ih =>
   intro acc c r hg hr;rw[cd,QP,tb (by rw[hg t (by simp)];decide),ih _ _ _ (fun t' h'=>hg t' (ms _ h')) hr];rfl
theorem Y4{low:List Nat}(hl4:∀d∈low,d<4)(lo:Bool)(d D:Int)(hv:v=cP\/v=kI)(hP:0<P.length)(hd:d+2<=D)(t:yB)(l:List yB)(b:Nat)(nd:List zT)(tt p:Int)(hl:∀q∈t::l,vB low q/\(xC q lo).length<=n)(hA:wH P b (xC t lo++(yL l lo++[v])))(hk:l.length<P.length)(hp:p<=D) :
 ∃g r kx',l=g++r/\(∀t∈g,t.or=false)/\(∀t r',r=t::r'->t.or=true)/\(g≠[]->kx'=2)/\(g=[]->3<=kx')/\wH P (b+(xC t lo).length+(yL g lo).length) (yL r lo++[v])/\zAY low D nd tt (b+(xC t lo).length+(yL g lo).length) ((xC t lo).length+(yL g lo).length) (g.length+1) kx' (Ue (tR t) g) (cC P (xB P n) ⟨(b,false),nd,tt,p⟩ d):=by
 obtain⟨v',r',e',hv',-⟩:=Y5 (l:=l) (lo:=lo) hv
 have h2:wH P b (xC t lo++[v']):=by
  have hA':=hA;rw[e',show xC t lo++v'::r'=(xC t lo++[v'])++r' by simp]at hA';exact hA'.app.1
 have ht:=hl t (by simp);obtain⟨kt,hkt,i,E,p',hy,hp',hG,hE⟩:=Yz hl4 ht.1 lo (n:=n) nd tt p d D hv' h2 ht.2 hP hp hd;obtain⟨g,r,kx',e1,e2,e3,e4,e5,e6,e7,i',E',p2,hy2,hp2,hG2,hE2⟩:=zAJ hl4 lo (n:=n) d D hv hP hd l P.length (b+(xC t lo).length) i (nd++E) (tt+1) p' kt (tR t) (fun t' h'=>hl t' (ms _ h')) hA.app.2 hk hp' hG (by omega);refine⟨g,r,kx',e1,e2,e3,e5,fun hg=>by rw[e6 hg];exact hkt,e7,i',E++E',p2,?_,hp2,by rw[<-pr];exact hG2,hE.app hE2 (j1 _)⟩
 ·unfold cC
  rw[hy];simp only;rw[hy2];exact Dp rfl (by simp) (by omega)
theorem zCS{low:List Nat}(hl4:∀d∈low,d<4)(lo:Bool)(d D:Int)(hv:v=cP\/v=kI)(hP:0<P.length)(hd:d+2<=D):∀(m:Nat) (l:List yB) (k b:Nat) (left:Int) (nd:List zT) (tt p kx:Int) (x:GX),l.length<=m->(∀t r',l=t::r'->t.or=true)->(∀t∈l,vB low t/\(xC t lo).length<=n)->wH P b (yL l lo++[v])->l.length<k->l.length<P.length->p<=D->zG4 low nd left kx x ->
 ∃kx',(l≠[]->kx'=1)/\(l=[]->kx'=kx)/\zAY low D nd tt (b+(yL l lo).length) (yL l lo).length l.length kx' (zJ8 x l) (mO P (fun q=>cC P (xB P n) q d) XY 1 k left ⟨(b,false),nd,tt,p⟩):=by
 intro m
 induction m with
 | zero =>
   intro l k b left nd tt p kx x hm ho hl hA hk hkP hp hx;obtain rfl:l=[]:=List.length_eq_zero_iff.1 (by omega);obtain⟨k,rfl⟩:∃j,k=j+1:=⟨k-1,by simp at hk;omega⟩;refine⟨kx,fun e=>absurd rfl e,fun _=>rfl,left,[],p,?_,hp,by rw[mq];exact hx,ZY.nil _ _ _⟩;rw[fN hA.1 (fun _=>by rcases hv with rfl|rfl <;> decide)];simp[yL]
 | succ m ih =>
   intro l k b left nd tt p kx x hm ho hl hA hk hkP hp hx;obtain⟨k,rfl⟩:∃j,k=j+1:=⟨k-1,by omega⟩
   cases l with
   | nil =>
     refine⟨kx,fun e=>absurd rfl e,fun _=>rfl,left,[],p,?_,hp,by rw[mq];exact hx,ZY.nil _ _ _⟩;rw[fN hA.1 (fun _=>by rcases hv with rfl|rfl <;> decide)];simp[yL]
   | cons t l =>
     have hto:=ho t l rfl;have e:yL (t::l) lo++[v]=XY::(xC t lo++(yL l lo++[v])):=by simp[yL,bH,hto]
     have hA':=hA;rw[e]at hA';obtain⟨h0,h1⟩:=hA';obtain⟨g,r,kg,e1,e2,e3,e5,e6,e7,i,E,p',hy,hp',hG,hE⟩:=Y4 hl4 lo (n:=n) d D hv hP hd t l (b+1) nd tt p hl h1 (by simp at hkP;omega) hp;have hJ:zG4 low (nd++E++[⟨1,left,i,[],[],[],0⟩]) (((nd++E).length:Nat):Int) 1 (orX x (Ue (tR t) g)):=fun A hO=>hO.or _ _ kx _ _ kg _ (hO.ext _ _ _ _ _ (hx A hO)) (hG A hO);have hr:r.length<=l.length:=by rw[e1,tl];omega
     obtain⟨kx',f1,f2,i',E',p2,hy2,hp2,hG2,hE2⟩:=ih r k _ (((nd++E).length:Nat):Int) (nd++E++[⟨1,left,i,[],[],[],0⟩]) (tt+(g.length+1)) p' 1 (orX x (Ue (tR t) g)) (by simp at hm;omega) e3 (fun t' h'=>hl t' (by rw[e1];simp[h'])) e7 (by simp at hk;omega) (by simp at hkP;omega) hp' hJ
     have el:b+1+(xC t lo).length+(yL g lo).length+(yL r lo).length=b+(yL (t::l) lo).length:=by
      rw[e1];simp[yL,bH,hto];omega
     rw[el]at hy2;refine⟨kx',fun _=>?_,fun e=>(by cases e),i',E++[⟨1,left,i,[],[],[],0⟩]++E',p2,?_,hp2,?_,?_⟩
     ·by_cases hr0:r=[]
      ·exact f2 hr0
      ·exact f1 hr0
     ·rw[Db h0 (by decide) hy]
      simp only[GS.add];rw[hy2];exact Dp rfl (by simp) (by rw[e1];simp only[pd,tl];omega)
     ·have eo:zJ8 x (t::l)=zJ8 (orX x (Ue (tR t) g)) r:=by
       show QP (some x) (tR t) l=_;rw[e1,QO g _ _ _ e2 e3];rfl
      rw[eo,<-pr,<-pr];exact hG2
     ·have b1:=iV hx
      have b2:=iV hG;refine(hE.app (ZY.two (.inl rfl) ⟨b1.1,by rw[tl];omega⟩ b2) (j1 _)).app (by rw[<-pr];exact hE2) ?_;have:(yL (t::l) lo).length=1+(xC t lo).length+((yL g lo).length+(yL r lo).length):=by rw[e1];simp[yL,bH,hto];omega
      omega
theorem Uf{low:List Nat}(hl4:∀d∈low,d<4)(lo:Bool)(d D:Int)(hv:v=cP\/v=kI)(hP:0<P.length)(hd:d+2<=D)(t:yB)(l:List yB)(b:Nat)(nd:List zT)(tt p:Int)(hl:∀q∈t::l,vB low q/\(xC q lo).length<=n)(hA:wH P b (xC t lo++yL l lo++[v]))(hk:l.length<P.length)(hp:p<=D) :
 ∃k,(k=1\/k=2 ↔ l≠[])/\zAY low D nd tt (b+(xC t lo++yL l lo).length) (xC t lo++yL l lo).length (l.length+1) k (QP none (tR t) l) (Zs P (xB P n) ⟨(b,false),nd,tt,p⟩ d):=by
 rw[pr]at hA;obtain⟨g,r,kg,e1,e2,e3,e5,e6,e7,i,E,p',hy,hp',hG,hE⟩:=Y4 hl4 lo (n:=n) d D hv hP hd t l b nd tt p hl hA hk hp;have hr:r.length<=l.length:=by rw[e1,tl];omega
 obtain⟨kx',f1,f2,i',E',p2,hy2,hp2,hG2,hE2⟩:=zCS hl4 lo (n:=n) d D hv hP hd r.length r P.length _ i (nd++E) (tt+(g.length+1)) p' kg (Ue (tR t) g) (j1 _) e3 (fun t' h'=>hl t' (by rw[e1];simp[h'])) e7 (by omega) (by omega) hp' hG
 have el:b+(xC t lo).length+(yL g lo).length+(yL r lo).length=b+(xC t lo++yL l lo).length:=by
  rw[e1];simp[yL];omega
 rw[el]at hy2;refine⟨kx',?_,i',E++E',p2,?_,hp2,?_,hE.app hE2 (by rw[e1];simp[yL];omega)⟩
 ·by_cases hr0:r=[]
  ·have k1:=f2 hr0
   by_cases hg0:g=[]
   ·have:=e6 hg0
    rw[e1,hr0,hg0];constructor
    ·intro h;omega
    ·intro h;exact absurd rfl h
   ·have:=e5 hg0
    rw[e1,hr0];constructor
    ·intro _ h;exact hg0 (by simpa using h)
    ·intro _;omega
  ·have:=f1 hr0
   rw[e1];constructor
   ·intro _ h;exact hr0 (List.append_eq_nil_iff.1 h).2
   ·intro _;omega
 ·unfold Zs
  rw[hy];simp only;rw[hy2];exact Dp rfl (by simp) (by rw[e1];simp only[tl];omega)
 ·have eo:QP none (tR t) l=zJ8 (Ue (tR t) g) r:=by rw[e1,QO g _ _ _ e2 e3];rfl
  rw[eo,<-pr];exact hG2
variable {P:List PT}
theorem ye(ts:List yB)(lo:Bool):∀(l:List yB) (k:Nat),0<k->ts.drop k=l->((List.range l.length).flatMap fun j=>kO (k+j) (ts.getD (k+j) bQ)++xC (ts.getD (k+j) bQ) lo)=yL l lo:=by
 intro l
 induction l with
 | nil=>intro k _ _;rfl
 | cons q r ih =>
   intro k hk hd
   have zK4:k<ts.length:=by
    rcases mc k ts.length with h|h
    ·exact h
    ·rw[pf h]at hd;cases hd
   rw[pm zK4]at hd;injection hd with h1 h2
   have hg:ts.getD k bQ=q:=by simp[List.getD,zK4,h1]
   rw[pd,List.range_succ_eq_map,bf,List.flatMap_map];have hi:=ih (k+1) (by omega) h2
   have e:((List.range r.length).flatMap fun j=>kO (k+(j+1)) (ts.getD (k+(j+1)) bQ)++xC (ts.getD (k+(j+1)) bQ) lo)=yL r lo:=by
    rw[<-hi];congr 1;funext j;rw[show k+(j+1)=k+1+j by omega]
   show (kO (k+0) (ts.getD (k+0) bQ)++xC (ts.getD (k+0) bQ) lo)++((List.range r.length).flatMap fun j=>kO (k+(j+1)) (ts.getD (k+(j+1)) bQ)++xC (ts.getD (k+(j+1)) bQ) lo)=_;rw[e,l6,hg];have hs:kO k q=bH q:=by unfold kO bH;rw[tb (by omega)];rfl
   simp[yL,hs]
theorem zBQ:jF (t::l) lo (t::l).length=xC t lo++yL l lo:=by
 unfold jF;rw[pd,List.range_succ_eq_map,bf,List.flatMap_map];have h:=ye (t::l) lo l 1 (by decide) rfl
 have e:((List.range l.length).flatMap fun j=>kO (j+1) ((t::l).getD (j+1) bQ)++xC ((t::l).getD (j+1) bQ) lo)=yL l lo:=by
  rw[<-h];congr 1;funext j;rw[Nat.add_comm]
 show (kO 0 t++xC t lo)++((List.range l.length).flatMap fun j=>kO (j+1) ((t::l).getD (j+1) bQ)++xC ((t::l).getD (j+1) bQ) lo)=_;rw[e];simp[kO]
theorem zBX(q:yB)(l:List yB):q∈l->(xC q lo).length<=(yL l lo).length:=by
 induction l with
 | nil=>intro h;cases h
 | cons a r ih =>
   intro hq;have e:yL (a::r) lo=bH a++xC a lo++yL r lo:=by simp[yL]
   rw[e,tl,tl];rcases mz.1 hq with rfl|hq
   ·omega
   ·have:=ih hq;omega
theorem zGF:∀q∈t::l,(xC q lo).length<=(xC t lo++yL l lo).length:=by
 intro q hq;rw[tl];rcases mz.1 hq with rfl|hq
 ·omega
 ·have:=zBX lo q l hq;omega
theorem yd:l.length<=(yL l lo).length:=by
 induction l with
 | nil=>simp
 | cons a r ih =>
   have e:yL (a::r) lo=bH a++xC a lo++yL r lo:=by simp[yL]
   have:0<(bH a).length:=by unfold bH;split <;> simp
   rw[e,tl,tl,pd];omega
def kz(wh:Bool)(t:yB)(l:List yB):GX:=if wh=true then notX (decide (l≠[])) (QP none (tR t) l) else QP none (tR t) l
theorem ky{low:List Nat}(hl4:∀d∈low,d<4)(wh lo:Bool){t:yB}{l:List yB}(h:tF low (t::l))(hA:wH P a (bE wh (t::l) lo++[cP]))(zKA:a+(bE wh (t::l) lo).length<P.length) :
 ∃root nd p k,qC P (a,false)=(root,⟨(a+(bE wh (t::l) lo).length,false),nd,(l.length:Int)+1,p⟩)/\p<=4/\zG4 low nd root k (kz wh t l)/\(∀z∈nd,zF0 low z)/\dA nd/\nd.length<=(bE wh (t::l) lo).length:=by
 have hP:0<P.length:=by omega
 have htl:=zGF t l lo;have hfw:=yd l lo;have hts:=zBQ t l lo;unfold bE at hA zKA ⊢;rw[hts]at hA zKA ⊢;cases wh
 ·have hi:ZU false lo (t::l).length=false:=rfl
  rw[hi]at hA zKA ⊢;have e:((if false=true then [[110,111,116]] else [])++(if false=true then [[40]] else [])++(xC t lo++yL l lo)++(if false=true then [[41]] else []):List Bs)=xC t lo++yL l lo:=by simp
  rw[e]at hA zKA ⊢;have hlen2:=zKA;rw[tl]at hlen2;obtain⟨k,-,i,E,p',hy,hp',hG,hE⟩:=Uf hl4 lo (n:=P.length) 0 4 (.inl rfl) hP (by decide) t l a [] 0 0 (fun q hq=>⟨h.2.2 q hq,by have:=htl q hq;omega⟩) hA (by omega) (by decide);refine⟨i,E,p',k,?_,hp',hG,hE.1,hE.2.1 Zh,hE.2.2⟩;show Zs P (xB P P.length) ⟨(a,false),[],0,0⟩ 0=_;rw[hy];simp
 ·cases hi:ZU true lo (t::l).length
  ·rw[hi]at hA zKA
   have hl0:l=[]:=by
    unfold ZU at hi;rw[mu,bp]at hi;have:=of_decide_eq_false hi.2
    cases l with
    | nil=>rfl
    | cons x r=>exact absurd this (by simp)
   subst hl0;have e:((if true=true then [[110,111,116]] else [])++(if false=true then [[40]] else [])++(xC t lo++yL [] lo)++(if false=true then [[41]] else []):List Bs)=vG::xC t lo:=by simp[yL,vG]
   rw[e]at hA zKA ⊢;obtain⟨h0,hA1⟩:=hA;have hl1:(vG::xC t lo).length=(xC t lo).length+1:=rfl;rw[hl1]at zKA ⊢;obtain⟨n,hn⟩:∃k,P.length=k+1:=⟨P.length-1,by omega⟩;obtain⟨k,hk,i,E,p',hy,hp',hG,hE⟩:=Yz hl4 (h.2.2 t (by simp)) lo (n:=n) [] 0 0 1 4 (.inl rfl) hA1 (by omega) hP (by decide) (by decide);have hend:=hA1.app.2.1
   have hf:xB P P.length ⟨(a,false),[],0,0⟩ 0=((((([]:List zT)++E).length:Nat):Int),⟨(a+1+(xC t lo).length,false),([]++E)++[⟨3,i,0,[],[],[],0⟩],0+1,p'⟩):=by
    rw[hn,Zk [] 0 0 0 h0 hy];rfl
   refine⟨((([]:List zT)++E).length:Nat),([]++E)++[⟨3,i,0,[],[],[],0⟩],p',3,?_,hp',fun A hO=>?_,fun z hz=>?_,BF (hE.2.1 Zh) (iV hG).1 (iV hG).2,by have:=hE.2.2;simp only[di,tl,pd,List.length_nil]at *;omega⟩
   ·show Zs P (xB P P.length) ⟨(a,false),[],0,0⟩ 0=_
    rw[Ka hP (wP hP hf hend (fun _=>by decide)) hend (fun _=>by decide)];rw[show a+1+(xC t lo).length=a+((xC t lo).length+1) by omega];rfl
   ·have:=hO.not _ _ _ _ (hG A hO)
    rw[tq (by omega)]at this;exact this
   ·rcases pu.1 hz with hz|hz
    ·exact hE.1 z hz
    ·rw[pw.1 hz];exact .inl (.inr (.inr rfl))
  ·rw[hi]at hA zKA
   have e:((if true=true then [[110,111,116]] else [])++(if true=true then [[40]] else [])++(xC t lo++yL l lo)++(if true=true then [[41]] else []):List Bs)=vG::vI::(xC t lo++yL l lo++[kI]):=by simp[vG,vI,kI]
   rw[e]at hA zKA ⊢;obtain⟨h0,h1,hA1⟩:=hA;have hl1:(vG::vI::(xC t lo++yL l lo++[kI])).length=(xC t lo++yL l lo).length+3:=by simp only[pd,tl,List.length_nil]
   rw[hl1]at zKA ⊢;obtain⟨hA2,hA3⟩:=wH.app (us:=[cP]) (ws:=xC t lo++yL l lo++[kI]) hA1;have hsh:=hA2.app.2.1;have hend:=hA3.1;rw[show a+1+1+(xC t lo++yL l lo++[kI]).length=a+((xC t lo++yL l lo).length+3) by simp only[pd,tl,List.length_nil];omega]at hend;obtain⟨n,hn⟩:∃k,P.length=k+1+1:=⟨P.length-2,by omega⟩;have hlen2:=zKA;rw[tl]at hlen2;obtain⟨k,hk,i,E,p',hy,hp',hG,hE⟩:=Uf hl4 lo (n:=n) 2 4 (.inr rfl) hP (by decide) t l (a+1+1) [] 0 0 (fun q hq=>⟨h.2.2 q hq,by have:=htl q hq;omega⟩) hA2 (by omega) (by decide);have ho:=X3 (n:=n) [] 0 0 1 h1 hy hsh
   have hf:xB P P.length ⟨(a,false),[],0,0⟩ 0=((((([]:List zT)++E).length:Nat):Int),⟨(a+1+1+(xC t lo++yL l lo).length+1,false),([]++E)++[⟨3,i,0,[],[],[],0⟩],0+((l.length:Int)+1),p'⟩):=by
    rw[hn,Zk [] 0 0 0 h0 ho];rfl
   rw[show a+1+1+(xC t lo++yL l lo).length+1=a+((xC t lo++yL l lo).length+3) by omega]at hf;refine⟨((([]:List zT)++E).length:Nat),([]++E)++[⟨3,i,0,[],[],[],0⟩],p',3,?_,hp',fun A hO=>?_,fun z hz=>?_,BF (hE.2.1 Zh) (iV hG).1 (iV hG).2,by have:=hE.2.2;simp only[di,tl,pd,List.length_nil]at *;omega⟩
   ·show Zs P (xB P P.length) ⟨(a,false),[],0,0⟩ 0=_
    rw[Ka hP (wP hP hf hend (fun _=>by decide)) hend (fun _=>by decide)];rw[Int.zero_add]
   ·have:=hO.not _ _ _ _ (hG A hO)
    rw[decide_eq_decide.2 hk]at this;exact this
   ·rcases pu.1 hz with hz|hz
    ·exact hE.1 z hz
    ·rw[pw.1 hz];exact .inl (.inr (.inr rfl))
theorem zD1(N:List zT)(x:zT)(E:List zT):pO (N++[x]++E) N.length=x:=by
 unfold pO;simp[List.getD]
theorem JJ(i:Nat):(yK i).isEmpty=false:=by unfold yK yZ;split <;> rfl
theorem zDY(acc:Option GX)(c:GX):QP acc c []=QF acc c:=rfl
theorem j4(acc:Option GX)(c:GX)(t:yB)(r:List yB):QP acc c (t::r)=if t.or=true then QP (some (QF acc c)) (tR t) r else QP acc (zAK c (tR t)) r:=rfl
end Go.Proofs.YtnbpdffdnphbeabGreatDoor
