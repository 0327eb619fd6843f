import Derived.Test.YtnbpdffdnphbeabGreatDoorPItoa
namespace Go.Proofs.YtnbpdffdnphbeabGreatDoor
variable{w v:Bs}{low:List Nat}{n a:Nat}(t:yF)(l:List yF)(lo:Bool)
def lT(t:yF):zN :=
 if t.kind=0 then ⟨4,0,0,[],[],[],0⟩ else if t.kind=1 then ⟨6,0,0,yV t.x.toNat,[],[],0⟩ else if t.kind=2 then ⟨5,0,0,xL 99 t.x.toNat,[],[],0⟩ else
 if t.kind=3 then ⟨7,0,0,yV t.x.toNat,rC t.mark.toNat,[],t.n⟩ else ⟨7,0,0,yV t.x.toNat,rC t.mark.toNat,yV t.y.toNat,0⟩
theorem Kw:4<=(lT t).kind:=by
 unfold lT;split
 ·simp
 ·split
  ·simp
  ·split
   ·simp
   ·split <;> simp
def GH(v:Bs):Prop:=v=uX\/v=vJ\/v=xT\/v=jU
theorem GH.cmp(h:GH v):jH.contains v=false:=by rcases h with rfl|rfl|rfl|rfl <;> decide
theorem Bp{k:Nat}(hk:k<6):jH.contains (rC k)=true/\yA (rC k)=4/\(rC k).isEmpty=false:=by
 have h:k=0\/k=1\/k=2\/k=3\/k=4\/k=5:=by omega
 rcases h with rfl|rfl|rfl|rfl|rfl|rfl <;> decide
variable {P:List PT}
theorem zAC{k:Nat}(hk:k<6)(h:At P a (rC k)):xY P (a,false)=(rC k,(a+1,false)):=by
 obtain⟨h1,h2,-⟩:=Bp hk;unfold xY;simp only[h.2.1,h1,lV h h2]
theorem zI0(h:At P a v)(hv:jH.contains v=false):xY P (a,false)=([],(a,false)):=by
 unfold xY;simp only[h.2.1,hv]
theorem DD(h:At P a w)(hk:yA w=2)(h2:At P (a+1) v)(hv:jH.contains v=false):yZ P (a,false)=(⟨6,0,0,w,[],[],0⟩,(a+1,false)):=by
 unfold yZ;simp only[kB h [97,108,119,97,121,115] (fun k=>absurd (hk.symm.trans k) (by decide)),kB h [104,97,115] (fun k=>absurd (hk.symm.trans k) (by decide)),mX h hk,zI0 h2 hv,List.isEmpty_nil]
theorem zw{m:Nat}{n:Bs}(h:At P a w)(hk:yA w=2)(hm:m<6)(h2:At P (a+1) (rC m))(h3:At P (a+1+1) n)(hn:yA n=3):yZ P (a,false)=(⟨7,0,0,w,rC m,[],qS n⟩,(a+1+1+1,false)):=by
 unfold yZ;simp only[kB h [97,108,119,97,121,115] (fun k=>absurd (hk.symm.trans k) (by decide)),kB h [104,97,115] (fun k=>absurd (hk.symm.trans k) (by decide)),mX h hk,zAC hm h2,(Bp hm).2.2,JE h3 hn,nT h3 hn]
theorem zr{m:Nat}{n:Bs}(h:At P a w)(hk:yA w=2)(hm:m<6)(h2:At P (a+1) (rC m))(h3:At P (a+1+1) n)(hn:yA n=2):yZ P (a,false)=(⟨7,0,0,w,rC m,n,0⟩,(a+1+1+1,false)):=by
 unfold yZ;simp only[kB h [97,108,119,97,121,115] (fun k=>absurd (hk.symm.trans k) (by decide)),kB h [104,97,115] (fun k=>absurd (hk.symm.trans k) (by decide)),mX h hk,zAC hm h2,(Bp hm).2.2,CZ h3 (by rw[hn];decide),mX h3 hn]
theorem QL(hl4:∀d∈low,d<4){t:yF}(h:vU low t)(hv:GH v)(hA:iX P a (uS t++[v])):(∃w r,uS t=w::r/\(yA w=4->w≠yX/\w≠yO))/\yZ P (a,false)=(lT t,(a+(uS t).length,false)):=by
 have nk:∀w:Bs,yA w=2->yA w=4->w≠yX/\w≠yO:=fun w h1 h2=>absurd (h1.symm.trans h2) (by decide);rcases h with h|⟨h,x1,x2⟩|⟨h,d,hd,hx⟩|⟨h,⟨x1,x2⟩,⟨y1,y2⟩,⟨m1,m2⟩,n1,n2⟩
 ·have e1:uS t=[iE]:=by unfold uS;rw[tr h]
  have e2:lT t=⟨4,0,0,[],[],[],0⟩:=by unfold lT;rw[tr h]
  rw[e1]at hA ⊢;rw[e2];exact⟨⟨_,_,rfl,fun _=>by decide⟩,zy hA.1⟩
 ·have e1:uS t=[yV t.x.toNat]:=by unfold uS;rw[tj (by omega),tr h]
  have e2:lT t=⟨6,0,0,yV t.x.toNat,[],[],0⟩:=by unfold lT;rw[tj (by omega),tr h]
  have hk:yA (yV t.x.toNat)=2:=bP (by omega);rw[e1]at hA ⊢;rw[e2];exact⟨⟨_,_,rfl,nk _ hk⟩,DD hA.1 hk hA.2.1 hv.cmp⟩
 ·have e1:uS t=[sG,xL 99 t.x.toNat]:=by unfold uS;rw[tj (by omega),tj (by omega),tr h]
  have e2:lT t=⟨5,0,0,xL 99 t.x.toNat,[],[],0⟩:=by unfold lT;rw[tj (by omega),tj (by omega),tr h]
  have:=hl4 d hd;have hk:yA (xL 99 t.x.toNat)=2:=mF (.inr (.inr (.inl rfl))) (by omega);rw[e1]at hA ⊢;rw[e2];exact⟨⟨_,_,rfl,fun _=>by decide⟩,zx hA.1 hA.2.1 hk⟩
 ·have hk:yA (yV t.x.toNat)=2:=bP (by omega)
  have hk2:yA (yV t.y.toNat)=2:=bP (by omega);rcases h with h|h
  ·have e1:uS t=[yV t.x.toNat,rC t.mark.toNat,Lib.itoa t.n]:=by unfold uS;rw[tj (by omega),tj (by omega),tj (by omega),tr h]
   have e2:lT t=⟨7,0,0,yV t.x.toNat,rC t.mark.toNat,[],t.n⟩:=by unfold lT;rw[tj (by omega),tj (by omega),tj (by omega),tr h]
   obtain⟨k1,k2⟩:=rE n1 n2;rw[e1]at hA ⊢;rw[e2];refine⟨⟨_,_,rfl,nk _ hk⟩,?_⟩;rw[zw hA.1 hk (by omega) hA.2.1 hA.2.2.1 k1,k2];rfl
  ·have e1:uS t=[yV t.x.toNat,rC t.mark.toNat,yV t.y.toNat]:=by unfold uS;rw[tj (by omega),tj (by omega),tj (by omega),tj (by omega)]
   have e2:lT t=⟨7,0,0,yV t.x.toNat,rC t.mark.toNat,yV t.y.toNat,0⟩:=by unfold lT;rw[tj (by omega),tj (by omega),tj (by omega),tj (by omega)]
   rw[e1]at hA ⊢;rw[e2];refine⟨⟨_,_,rfl,nk _ hk⟩,?_⟩;rw[zr hA.1 hk (by omega) hA.2.1 hA.2.2.1 hk2];rfl
theorem Xt{b:Nat}{i:Int}{nd':List zN}{t' p':Int}(nd:List zN)(t p d:Int)(h:At P a yO)(hf:bJ P (yJ P n) ⟨(a+1,false),nd,t,p⟩ (d+1)=(i,⟨(b,false),nd',t',p'⟩))(hs:At P b vJ):yJ P (n+1) ⟨(a,false),nd,t,p⟩ d=(i,⟨(b+1,false),nd',t',p'⟩):=by
 rw[yJ];simp only[kB h yX (fun _=>by decide),lV h (by decide),GS.to,hf,dH hs (by decide)]
def Gy(t:yF)(lo:Bool):List Bs:=(if (lo&&t.pair)=true then [yO] else [])++uS t++(if (lo&&t.pair)=true then [vJ] else [])
theorem zCA:xH t lo=(if t.not=true then [yX] else [])++Gy t lo:=by
 unfold xH Gy;rw[<-pj,<-pj];rfl
theorem Ds(hl4:∀d∈low,d<4){t:yF}(h:vU low t)(lo:Bool)(nd:List zN)(tt p d D:Int)(hv:GH v)(hA:iX P a (Gy t lo++[v]))(hn:(Gy t lo).length<=n)(hP:0<P.length)(hp:p<=D)(hd:d+1<=D) :
 ∃p',p'<=D/\yJ P n ⟨(a,false),nd,tt,p⟩ d=(((nd.length:Nat):Int),⟨(a+(Gy t lo).length,false),nd++[lT t],tt+1,p'⟩):=by
 have hc:=(VD t).1;cases hb:(lo&&t.pair)
 ·have e:Gy t lo=uS t:=by simp[Gy,hb]
  rw[e]at hA hn ⊢;obtain⟨⟨w,r,ew,hw⟩,ht⟩:=QL hl4 h hv hA;obtain⟨n,rfl⟩:∃k,n=k+1:=⟨n-1,by omega⟩;have h0:At P a w:=by rw[ew]at hA;exact hA.1
  exact⟨dp p d,by unfold dp;split <;> omega,Xs nd tt p d h0 hw ht⟩
 ·have e:Gy t lo=yO::(uS t++[vJ]):=by simp[Gy,hb]
  rw[e]at hA hn ⊢;obtain⟨h0,h1⟩:=hA;obtain⟨h2,-⟩:=iX.app (us:=[v]) (ws:=uS t++[vJ]) h1;obtain⟨⟨w,r,ew,hw⟩,ht⟩:=QL hl4 h (v:=vJ) (.inr (.inl rfl)) h2;have hs:=h2.app.2.1;have hl:(yO::(uS t++[vJ])).length=(uS t).length+2:=by simp
  rw[hl]at hn ⊢;obtain⟨n,rfl⟩:∃k,n=k+1+1:=⟨n-2,by omega⟩;have h0':At P (a+1) w:=by rw[ew]at h2;exact h2.1
  have hf:=Xs (n:=n) nd tt p (d+1) h0' hw ht;refine⟨dp p (d+1),by unfold dp;split <;> omega,?_⟩;rw[Xt nd tt p d h0 (JW hP (iZ hP hf hs (fun _=>by decide)) hs (fun _=>by decide)) hs];rw[show a+1+(uS t).length+1=a+((uS t).length+2) by omega]
structure GA where
 α:Type
 core:yF->α
 andA:α->α->α
 orA:α->α->α
 notA:Bool->α->α
 J:List zN->Int->Int->α->Prop
structure GA.Ok(A:GA)(low:List Nat):Prop where
 ext:∀N E i k x,A.J N i k x->A.J (N++E) i k x
 core:∀N t,vU low t->A.J (N++[lT t]) ((N.length:Nat):Int) (lT t).kind (A.core t)
 and:∀N l kl x r kr y,A.J N l kl x->A.J N r kr y->kl≠1->kr≠1->A.J (N++[⟨2,l,r,[],[],[],0⟩]) ((N.length:Nat):Int) 2 (A.andA x y)
 or:∀N l kl x r kr y,A.J N l kl x->A.J N r kr y->A.J (N++[⟨1,l,r,[],[],[],0⟩]) ((N.length:Nat):Int) 1 (A.orA x y)
 not:∀N l kl x,A.J N l kl x->A.J (N++[⟨3,l,0,[],[],[],0⟩]) ((N.length:Nat):Int) 3 (A.notA (decide (kl=1\/kl=2)) x)
abbrev GX:=∀A:GA,A.α
def tX(t:yF):GX:=fun A=>if t.not=true then A.notA false (A.core t) else A.core t
def zAV(x y:GX):GX:=fun A=>A.andA (x A) (y A)
def orX(x y:GX):GX:=fun A=>A.orA (x A) (y A)
def notX(b:Bool)(x:GX):GX:=fun A=>A.notA b (x A)
def zIG(low:List Nat)(N:List zN)(i k:Int)(x:GX):Prop:=∀A:GA,A.Ok low->A.J N i k (x A)
def zFA(low:List Nat)(x:zN):Prop:=(x.kind=1\/x.kind=2\/x.kind=3)\/∃t,vU low t/\x=lT t
def zBG(low:List Nat)(D:Int)(nd:List zN)(tt:Int)(b:Nat)(c k:Int)(x:GX)(y:Int × GS):Prop:=∃i E p',y=(i,⟨(b,false),nd++E,tt+c,p'⟩)/\p'<=D/\zIG low (nd++E) i k x/\∀z∈E,zFA low z
theorem De{i:Int}{s s':St}{nd nd':List zN}{t t' p:Int}(h0:s=s')(h1:nd=nd')(h2:t=t'):((i,⟨s,nd,t,p⟩):Int × GS)=(i,⟨s',nd',t',p⟩):=by subst h0 h1 h2;rfl
theorem Yv(hl4:∀d∈low,d<4){t:yF}(h:vU low t)(lo:Bool)(nd:List zN)(tt p d D:Int)(hv:GH v)(hA:iX P a (xH t lo++[v]))(hn:(xH t lo).length<=n)(hP:0<P.length)(hp:p<=D)(hd:d+2<=D) :
 ∃k,3<=k/\zBG low D nd tt (a+(xH t lo).length) 1 k (tX t) (yJ P n ⟨(a,false),nd,tt,p⟩ d):=by
 have e:=zCA t lo;have hk:=Kw t;cases hn':t.not
 ·rw[hn']at e
  have e':xH t lo=Gy t lo:=e;rw[e']at hA hn ⊢;obtain⟨p',h1,h2⟩:=Ds hl4 h lo nd tt p d D hv hA hn hP hp (by omega);refine⟨(lT t).kind,by omega,_,[lT t],p',h2,h1,fun A hO=>?_,fun z hz=>?_⟩
  ·have ex:tX t A=A.core t:=by unfold tX;rw[hn'];rfl
   rw[ex];exact hO.core nd t h
  ·rw[pr.1 hz];exact .inr ⟨t,h,rfl⟩
 ·rw[hn']at e
  have e':xH t lo=yX::Gy t lo:=e;rw[e']at hA hn ⊢;obtain⟨h0,hA1⟩:=hA;obtain⟨n,rfl⟩:∃k,n=k+1:=⟨n-1,by simp at hn;omega⟩;obtain⟨p',h1,h2⟩:=Ds hl4 h lo nd tt p (d+1) D hv hA1 (by simp at hn;omega) hP hp (by omega);refine⟨3,by decide,(((nd++[lT t]).length:Nat):Int),[lT t,⟨3,(nd.length:Nat),0,[],[],[],0⟩],p',?_,h1,fun A hO=>?_,fun z hz=>?_⟩
  ·rw[wX nd tt p d h0 h2]
   simp only[GS.add,pj,List.singleton_append,tz];rw[show a+1+(Gy t lo).length=a+((Gy t lo).length+1) by omega]
  ·have ex:tX t A=A.notA (decide ((lT t).kind=1\/(lT t).kind=2)) (A.core t):=by
    unfold tX;rw[hn',tu (by omega)];rfl
   rw[ex,show nd++[lT t,(⟨3,(nd.length:Nat),0,[],[],[],0⟩:zN)]=(nd++[lT t])++[⟨3,(nd.length:Nat),0,[],[],[],0⟩] by simp];exact hO.not _ _ _ _ (hO.core nd t h)
  ·rcases pf.1 hz with rfl|hz
   ·exact .inr ⟨t,h,rfl⟩
   ·rw[pr.1 hz];exact .inl (.inr (.inr rfl))
def cZ(t:yF):List Bs:=if t.or=true then [jU] else [xT]
def yU(l:List yF)(lo:Bool):List Bs:=l.flatMap fun q=>cZ q++xH q lo
def VQ(x:GX)(g:List yF):GX:=g.foldl (fun x t=>zAV x (tX t)) x
theorem Y2{l:List yF}{lo:Bool}(hv:v=uX\/v=vJ):∃v' r,yU l lo++[v]=v'::r/\GH v'/\(v'=xT->∃t l',l=t::l'/\t.or=false):=by
 cases l with
 | nil =>
   refine⟨v,[],rfl,?_,fun e=>?_⟩
   ·rcases hv with rfl|rfl
    ·exact .inl rfl
    ·exact .inr (.inl rfl)
   ·rcases hv with rfl|rfl <;> exact absurd e (by decide)
 | cons t l' =>
   cases ho:t.or
   ·exact⟨xT,xH t lo++(yU l' lo++[v]),by simp[yU,cZ,ho],.inr (.inr (.inl rfl)),fun _=>⟨t,l',rfl,ho⟩⟩
   ·exact⟨jU,xH t lo++(yU l' lo++[v]),by simp[yU,cZ,ho],.inr (.inr (.inr rfl)),fun e=>absurd e (by decide)⟩
theorem zAU(hl4:∀d∈low,d<4)(lo:Bool)(d D:Int)(hv:v=uX\/v=vJ)(hP:0<P.length)(hd:d+2<=D):∀(l:List yF) (k b:Nat) (left:Int) (nd:List zN) (tt p kx:Int) (x:GX),(∀t∈l,vU low t/\(xH t lo).length<=n)->iX P b (yU l lo++[v])->l.length<k->p<=D->zIG low nd left kx x->kx≠1 ->
 ∃g r kx',l=g++r/\(∀t∈g,t.or=false)/\(∀t r',r=t::r'->t.or=true)/\kx'≠1/\(g≠[]->kx'=2)/\(g=[]->kx'=kx)/\iX P (b+(yU g lo).length) (yU r lo++[v])/\zBG low D nd tt (b+(yU g lo).length) g.length kx' (VQ x g) (kQ P (fun q=>yJ P n q d) xT 2 k left ⟨(b,false),nd,tt,p⟩):=by
 intro l
 induction l with
 | nil =>
   intro k b left nd tt p kx x hl hA hk hp hx hkx;obtain⟨k,rfl⟩:∃j,k=j+1:=⟨k-1,by simp at hk;omega⟩;refine⟨[],[],kx,rfl,fun t ht=>(by cases ht),fun t r' e=>(by cases e),hkx,fun e=>absurd rfl e,fun _=>rfl,hA,left,[],p,?_,hp,by rw[ms];exact hx,fun z hz=>(by cases hz)⟩;rw[dY hA.1 (fun _=>by rcases hv with rfl|rfl <;> decide)];simp[yU]
 | cons t l ih =>
   intro k b left nd tt p kx x hl hA hk hp hx hkx;obtain⟨k,rfl⟩:∃j,k=j+1:=⟨k-1,by simp at hk;omega⟩;have ht:=hl t (by simp);cases ho:t.or
   ·have e:yU (t::l) lo++[v]=xT::(xH t lo++(yU l lo++[v])):=by simp[yU,cZ,ho]
    have hA':=hA;rw[e]at hA';obtain⟨h0,h1⟩:=hA';obtain⟨v',r',e',hv',-⟩:=Y2 (l:=l) (lo:=lo) hv
    have h2:iX P (b+1) (xH t lo++[v']):=by
     rw[e',show xH t lo++v'::r'=(xH t lo++[v'])++r' by simp]at h1;exact h1.app.1
    obtain⟨kt,hkt,i,E,p',hy,hp',hG,hE⟩:=Yv hl4 ht.1 lo (n:=n) nd tt p d D hv' h2 ht.2 hP hp hd;have h3:=h1.app.2;have hJ:zIG low (nd++E++[⟨2,left,i,[],[],[],0⟩]) (((nd++E).length:Nat):Int) 2 (zAV x (tX t)):=fun A hO=>hO.and _ _ kx _ _ kt _ (hO.ext _ _ _ _ _ (hx A hO)) (hG A hO) hkx (by omega);obtain⟨g,r,kx',e1,e2,e3,e4,e5,e6,e7,i',E',p2,hy2,hp2,hG2,hE2⟩:=ih k (b+1+(xH t lo).length) (((nd++E).length:Nat):Int) (nd++E++[⟨2,left,i,[],[],[],0⟩]) (tt+1) p' 2 (zAV x (tX t)) (fun t' h'=>hl t' (pt _ h')) h3 (by simp at hk;omega) hp' hJ (by decide)
    have el:b+1+(xH t lo).length+(yU g lo).length=b+(yU (t::g) lo).length:=by
     simp[yU,cZ,ho];omega
    rw[el]at e7 hy2;refine⟨t::g,r,kx',by rw[e1];rfl,fun t' h' => ?_,e3,e4,fun _=>?_,fun e=>(by cases e),e7,i',E++[⟨2,left,i,[],[],[],0⟩]++E',p2,?_,hp2,?_,fun z hz=>?_⟩
    ·rcases pf.1 h' with rfl|h'
     ·exact ho
     ·exact e2 t' h'
    ·by_cases hg:g=[]
     ·exact e6 hg
     ·exact e5 hg
    ·rw[CO h0 (by decide) hy]
     simp only[GS.add];rw[hy2];exact De rfl (by simp) (by simp only[tz];omega)
    ·rw[<-pj,<-pj];exact hG2
    ·rcases ph.1 hz with hz|hz
     ·rcases ph.1 hz with hz|hz
      ·exact hE z hz
      ·rw[pr.1 hz];exact .inl (.inr (.inl rfl))
     ·exact hE2 z hz
   ·have e:yU (t::l) lo++[v]=jU::(xH t lo++(yU l lo++[v])):=by simp[yU,cZ,ho]
    have hA':=hA;rw[e]at hA';refine⟨[],t::l,kx,rfl,fun t ht=>(by cases ht),fun t' r' e=>(by cases e;exact ho),hkx,fun e=>absurd rfl e,fun _=>rfl,hA,left,[],p,?_,hp,by rw[ms];exact hx,fun z hz=>(by cases hz)⟩;rw[dY hA'.1 (fun _=>by decide)];simp[yU]
def Q6:Option GX->GX->GX
 | none,c=>c
 | some a,c=>orX a c
def QD:Option GX->GX->List yF->GX
 | acc,c,[]=>Q6 acc c
 | acc,c,t::r=>if t.or=true then QD (some (Q6 acc c)) (tX t) r else QD acc (zAV c (tX t)) r
def zJ3(x:GX):List yF->GX
 | []=>x
 | t::r=>QD (some x) (tX t) r
theorem QC(g:List yF):∀(acc:Option GX) (c:GX) (r:List yF),(∀t∈g,t.or=false)->(∀t r',r=t::r'->t.or=true)->QD acc c (g++r)=zJ3 (Q6 acc (VQ c g)) r:=by
 induction g with
 | nil =>
   intro acc c r _ hr
   cases r with
   | nil=>rfl
   | cons t r=>rw[bj,QD,tr (hr t r rfl)];rfl
 | cons t g ih =>
   intro acc c r hg hr;rw[my,QD,tj (by rw[hg t (by simp)];decide),ih _ _ _ (fun t' h'=>hg t' (pt _ h')) hr];rfl
theorem Y0(hl4:∀d∈low,d<4)(lo:Bool)(d D:Int)(hv:v=uX\/v=vJ)(hP:0<P.length)(hd:d+2<=D)(t:yF)(l:List yF)(b:Nat)(nd:List zN)(tt p:Int)(hl:∀q∈t::l,vU low q/\(xH q lo).length<=n)(hA:iX P b (xH t lo++(yU l lo++[v])))(hk:l.length<P.length)(hp:p<=D) :
 ∃g r kx',l=g++r/\(∀t∈g,t.or=false)/\(∀t r',r=t::r'->t.or=true)/\(g≠[]->kx'=2)/\(g=[]->3<=kx')/\iX P (b+(xH t lo).length+(yU g lo).length) (yU r lo++[v])/\zBG low D nd tt (b+(xH t lo).length+(yU g lo).length) (g.length+1) kx' (VQ (tX t) g) (qZ P (yJ P n) ⟨(b,false),nd,tt,p⟩ d):=by
 obtain⟨v',r',e',hv',-⟩:=Y2 (l:=l) (lo:=lo) hv
 have h2:iX P b (xH t lo++[v']):=by
  have hA':=hA;rw[e',show xH t lo++v'::r'=(xH t lo++[v'])++r' by simp]at hA';exact hA'.app.1
 have ht:=hl t (by simp);obtain⟨kt,hkt,i,E,p',hy,hp',hG,hE⟩:=Yv hl4 ht.1 lo (n:=n) nd tt p d D hv' h2 ht.2 hP hp hd;obtain⟨g,r,kx',e1,e2,e3,e4,e5,e6,e7,i',E',p2,hy2,hp2,hG2,hE2⟩:=zAU hl4 lo (n:=n) d D hv hP hd l P.length (b+(xH t lo).length) i (nd++E) (tt+1) p' kt (tX t) (fun t' h'=>hl t' (pt _ h')) hA.app.2 hk hp' hG (by omega);refine⟨g,r,kx',e1,e2,e3,e5,fun hg=>by rw[e6 hg];exact hkt,e7,i',E++E',p2,?_,hp2,by rw[<-pj];exact hG2,fun z hz=>?_⟩
 ·unfold qZ
  rw[hy];simp only;rw[hy2];exact De rfl (by simp) (by omega)
 ·rcases ph.1 hz with hz|hz
  ·exact hE z hz
  ·exact hE2 z hz
theorem zDB(hl4:∀d∈low,d<4)(lo:Bool)(d D:Int)(hv:v=uX\/v=vJ)(hP:0<P.length)(hd:d+2<=D):∀(m:Nat) (l:List yF) (k b:Nat) (left:Int) (nd:List zN) (tt p kx:Int) (x:GX),l.length<=m->(∀t r',l=t::r'->t.or=true)->(∀t∈l,vU low t/\(xH t lo).length<=n)->iX P b (yU l lo++[v])->l.length<k->l.length<P.length->p<=D->zIG low nd left kx x ->
 ∃kx',(l≠[]->kx'=1)/\(l=[]->kx'=kx)/\zBG low D nd tt (b+(yU l lo).length) l.length kx' (zJ3 x l) (kQ P (fun q=>qZ P (yJ P n) q d) jU 1 k left ⟨(b,false),nd,tt,p⟩):=by
 intro m
 induction m with
 | zero =>
   intro l k b left nd tt p kx x hm ho hl hA hk hkP hp hx;obtain rfl:l=[]:=List.length_eq_zero_iff.1 (by omega);obtain⟨k,rfl⟩:∃j,k=j+1:=⟨k-1,by simp at hk;omega⟩;refine⟨kx,fun e=>absurd rfl e,fun _=>rfl,left,[],p,?_,hp,by rw[ms];exact hx,fun z hz=>(by cases hz)⟩;rw[dY hA.1 (fun _=>by rcases hv with rfl|rfl <;> decide)];simp[yU]
 | succ m ih =>
   intro l k b left nd tt p kx x hm ho hl hA hk hkP hp hx;obtain⟨k,rfl⟩:∃j,k=j+1:=⟨k-1,by omega⟩
   cases l with
   | nil =>
     refine⟨kx,fun e=>absurd rfl e,fun _=>rfl,left,[],p,?_,hp,by rw[ms];exact hx,fun z hz=>(by cases hz)⟩;rw[dY hA.1 (fun _=>by rcases hv with rfl|rfl <;> decide)];simp[yU]
   | cons t l =>
     have hto:=ho t l rfl;have e:yU (t::l) lo++[v]=jU::(xH t lo++(yU l lo++[v])):=by simp[yU,cZ,hto]
     have hA':=hA;rw[e]at hA';obtain⟨h0,h1⟩:=hA';obtain⟨g,r,kg,e1,e2,e3,e5,e6,e7,i,E,p',hy,hp',hG,hE⟩:=Y0 hl4 lo (n:=n) d D hv hP hd t l (b+1) nd tt p hl h1 (by simp at hkP;omega) hp;have hJ:zIG low (nd++E++[⟨1,left,i,[],[],[],0⟩]) (((nd++E).length:Nat):Int) 1 (orX x (VQ (tX t) g)):=fun A hO=>hO.or _ _ kx _ _ kg _ (hO.ext _ _ _ _ _ (hx A hO)) (hG A hO);have hr:r.length<=l.length:=by rw[e1,tq];omega
     obtain⟨kx',f1,f2,i',E',p2,hy2,hp2,hG2,hE2⟩:=ih r k _ (((nd++E).length:Nat):Int) (nd++E++[⟨1,left,i,[],[],[],0⟩]) (tt+(g.length+1)) p' 1 (orX x (VQ (tX t) g)) (by simp at hm;omega) e3 (fun t' h'=>hl t' (by rw[e1];simp[h'])) e7 (by simp at hk;omega) (by simp at hkP;omega) hp' hJ
     have el:b+1+(xH t lo).length+(yU g lo).length+(yU r lo).length=b+(yU (t::l) lo).length:=by
      rw[e1];simp[yU,cZ,hto];omega
     rw[el]at hy2;refine⟨kx',fun _=>?_,fun e=>(by cases e),i',E++[⟨1,left,i,[],[],[],0⟩]++E',p2,?_,hp2,?_,fun z hz=>?_⟩
     ·by_cases hr0:r=[]
      ·exact f2 hr0
      ·exact f1 hr0
     ·rw[CO h0 (by decide) hy]
      simp only[GS.add];rw[hy2];exact De rfl (by simp) (by rw[e1];simp only[tz,tq];omega)
     ·have eo:zJ3 x (t::l)=zJ3 (orX x (VQ (tX t) g)) r:=by
       show QD (some x) (tX t) l=_;rw[e1,QC g _ _ _ e2 e3];rfl
      rw[eo,<-pj,<-pj];exact hG2
     ·rcases ph.1 hz with hz|hz
      ·rcases ph.1 hz with hz|hz
       ·exact hE z hz
       ·rw[pr.1 hz];exact .inl (.inl rfl)
      ·exact hE2 z hz
theorem VS(hl4:∀d∈low,d<4)(lo:Bool)(d D:Int)(hv:v=uX\/v=vJ)(hP:0<P.length)(hd:d+2<=D)(t:yF)(l:List yF)(b:Nat)(nd:List zN)(tt p:Int)(hl:∀q∈t::l,vU low q/\(xH q lo).length<=n)(hA:iX P b (xH t lo++yU l lo++[v]))(hk:l.length<P.length)(hp:p<=D) :
 ∃k,(k=1\/k=2 ↔ l≠[])/\zBG low D nd tt (b+(xH t lo++yU l lo).length) (l.length+1) k (QD none (tX t) l) (bJ P (yJ P n) ⟨(b,false),nd,tt,p⟩ d):=by
 rw[pj]at hA;obtain⟨g,r,kg,e1,e2,e3,e5,e6,e7,i,E,p',hy,hp',hG,hE⟩:=Y0 hl4 lo (n:=n) d D hv hP hd t l b nd tt p hl hA hk hp;have hr:r.length<=l.length:=by rw[e1,tq];omega
 obtain⟨kx',f1,f2,i',E',p2,hy2,hp2,hG2,hE2⟩:=zDB hl4 lo (n:=n) d D hv hP hd r.length r P.length _ i (nd++E) (tt+(g.length+1)) p' kg (VQ (tX t) g) (tg _) e3 (fun t' h'=>hl t' (by rw[e1];simp[h'])) e7 (by omega) (by omega) hp' hG
 have el:b+(xH t lo).length+(yU g lo).length+(yU r lo).length=b+(xH t lo++yU l lo).length:=by
  rw[e1];simp[yU];omega
 rw[el]at hy2;refine⟨kx',?_,i',E++E',p2,?_,hp2,?_,fun z hz=>?_⟩
 ·by_cases hr0:r=[]
  ·have k1:=f2 hr0
   by_cases hg0:g=[]
   ·have:=e6 hg0
    rw[e1,hr0,hg0];constructor
    ·intro h;omega
    ·intro h;exact absurd rfl h
   ·have:=e5 hg0
    rw[e1,hr0];constructor
    ·intro _ h;exact hg0 (by simpa using h)
    ·intro _;omega
  ·have:=f1 hr0
   rw[e1];constructor
   ·intro _ h;exact hr0 (List.append_eq_nil_iff.1 h).2
   ·intro _;omega
 ·unfold bJ
  rw[hy];simp only;rw[hy2];exact De rfl (by simp) (by rw[e1];simp only[tq];omega)
 ·have eo:QD none (tX t) l=zJ3 (VQ (tX t) g) r:=by rw[e1,QC g _ _ _ e2 e3];rfl
  rw[eo,<-pj];exact hG2
 ·rcases ph.1 hz with hz|hz
  ·exact hE z hz
  ·exact hE2 z hz
variable {P:List PT}
theorem yb(ts:List yF)(lo:Bool):∀(l:List yF) (k:Nat),0<k->ts.drop k=l->((List.range l.length).flatMap fun j=>kU (k+j) (ts.getD (k+j) bR)++xH (ts.getD (k+j) bR) lo)=yU l lo:=by
 intro l
 induction l with
 | nil=>intro k _ _;rfl
 | cons q r ih =>
   intro k hk hd
   have zJS:k<ts.length:=by
    rcases py k ts.length with h|h
    ·exact h
    ·rw[pe h]at hd;cases hd
   rw[pi zJS]at hd;injection hd with h1 h2
   have hg:ts.getD k bR=q:=by simp[List.getD,zJS,h1]
   rw[tz,List.range_succ_eq_map,co,List.flatMap_map];have hi:=ih (k+1) (by omega) h2
   have e:((List.range r.length).flatMap fun j=>kU (k+(j+1)) (ts.getD (k+(j+1)) bR)++xH (ts.getD (k+(j+1)) bR) lo)=yU r lo:=by
    rw[<-hi];congr 1;funext j;rw[show k+(j+1)=k+1+j by omega]
   show (kU (k+0) (ts.getD (k+0) bR)++xH (ts.getD (k+0) bR) lo)++((List.range r.length).flatMap fun j=>kU (k+(j+1)) (ts.getD (k+(j+1)) bR)++xH (ts.getD (k+(j+1)) bR) lo)=_;rw[e,mz,hg];have hs:kU k q=cZ q:=by unfold kU cZ;rw[tj (by omega)];rfl
   simp[yU,hs]
theorem zC7:jW (t::l) lo (t::l).length=xH t lo++yU l lo:=by
 unfold jW;rw[tz,List.range_succ_eq_map,co,List.flatMap_map];have h:=yb (t::l) lo l 1 (by decide) rfl
 have e:((List.range l.length).flatMap fun j=>kU (j+1) ((t::l).getD (j+1) bR)++xH ((t::l).getD (j+1) bR) lo)=yU l lo:=by
  rw[<-h];congr 1;funext j;rw[Nat.add_comm]
 show (kU 0 t++xH t lo)++((List.range l.length).flatMap fun j=>kU (j+1) ((t::l).getD (j+1) bR)++xH ((t::l).getD (j+1) bR) lo)=_;rw[e];simp[kU]
theorem zCG(q:yF)(l:List yF):q∈l->(xH q lo).length<=(yU l lo).length:=by
 induction l with
 | nil=>intro h;cases h
 | cons a r ih =>
   intro hq;have e:yU (a::r) lo=cZ a++xH a lo++yU r lo:=by simp[yU]
   rw[e,tq,tq];rcases pf.1 hq with rfl|hq
   ·omega
   ·have:=ih hq;omega
theorem zGC:∀q∈t::l,(xH q lo).length<=(xH t lo++yU l lo).length:=by
 intro q hq;rw[tq];rcases pf.1 hq with rfl|hq
 ·omega
 ·have:=zCG lo q l hq;omega
theorem ya:l.length<=(yU l lo).length:=by
 induction l with
 | nil=>simp
 | cons a r ih =>
   have e:yU (a::r) lo=cZ a++xH a lo++yU r lo:=by simp[yU]
   have:0<(cZ a).length:=by unfold cZ;split <;> simp
   rw[e,tq,tq,tz];omega
def j7(wh:Bool)(t:yF)(l:List yF):GX:=if wh=true then notX (decide (l≠[])) (QD none (tX t) l) else QD none (tX t) l
theorem j6(hl4:∀d∈low,d<4)(wh lo:Bool){t:yF}{l:List yF}(h:pE low (t::l))(hA:iX P a (cP wh (t::l) lo++[uX]))(zJV:a+(cP wh (t::l) lo).length<P.length) :
 ∃root nd p k,vL P (a,false)=(root,⟨(a+(cP wh (t::l) lo).length,false),nd,(l.length:Int)+1,p⟩)/\p<=4/\zIG low nd root k (j7 wh t l)/\∀z∈nd,zFA low z:=by
 have hP:0<P.length:=by omega
 have htl:=zGC t l lo;have hfw:=ya l lo;have zK5:=zC7 t l lo;unfold cP at hA zJV ⊢;rw[zK5]at hA zJV ⊢;cases wh
 ·have hi:ZM false lo (t::l).length=false:=rfl
  rw[hi]at hA zJV ⊢;have e:((if false=true then [[110,111,116]] else [])++(if false=true then [[40]] else [])++(xH t lo++yU l lo)++(if false=true then [[41]] else []):List Bs)=xH t lo++yU l lo:=by simp
  rw[e]at hA zJV ⊢;have hlen2:=zJV;rw[tq]at hlen2;obtain⟨k,-,i,E,p',hy,hp',hG,hE⟩:=VS hl4 lo (n:=P.length) 0 4 (.inl rfl) hP (by decide) t l a [] 0 0 (fun q hq=>⟨h.2.2 q hq,by have:=htl q hq;omega⟩) hA (by omega) (by decide);refine⟨i,E,p',k,?_,hp',hG,hE⟩;show bJ P (yJ P P.length) ⟨(a,false),[],0,0⟩ 0=_;rw[hy];simp
 ·cases hi:ZM true lo (t::l).length
  ·rw[hi]at hA zJV
   have hl0:l=[]:=by
    unfold ZM at hi;rw[ld,cf]at hi;have:=of_decide_eq_false hi.2
    cases l with
    | nil=>rfl
    | cons x r=>exact absurd this (by simp)
   subst hl0;have e:((if true=true then [[110,111,116]] else [])++(if false=true then [[40]] else [])++(xH t lo++yU [] lo)++(if false=true then [[41]] else []):List Bs)=yX::xH t lo:=by simp[yU,yX]
   rw[e]at hA zJV ⊢;obtain⟨h0,hA1⟩:=hA;have hl1:(yX::xH t lo).length=(xH t lo).length+1:=rfl;rw[hl1]at zJV ⊢;obtain⟨n,hn⟩:∃k,P.length=k+1:=⟨P.length-1,by omega⟩;obtain⟨k,hk,i,E,p',hy,hp',hG,hE⟩:=Yv hl4 (h.2.2 t (by simp)) lo (n:=n) [] 0 0 1 4 (.inl rfl) hA1 (by omega) hP (by decide) (by decide);have hend:=hA1.app.2.1
   have hf:yJ P P.length ⟨(a,false),[],0,0⟩ 0=((((([]:List zN)++E).length:Nat):Int),⟨(a+1+(xH t lo).length,false),([]++E)++[⟨3,i,0,[],[],[],0⟩],0+1,p'⟩):=by
    rw[hn,wX [] 0 0 0 h0 hy];rfl
   refine⟨((([]:List zN)++E).length:Nat),([]++E)++[⟨3,i,0,[],[],[],0⟩],p',3,?_,hp',fun A hO=>?_,fun z hz=>?_⟩
   ·show bJ P (yJ P P.length) ⟨(a,false),[],0,0⟩ 0=_
    rw[JW hP (iZ hP hf hend (fun _=>by decide)) hend (fun _=>by decide)];rw[show a+1+(xH t lo).length=a+((xH t lo).length+1) by omega];rfl
   ·have:=hO.not _ _ _ _ (hG A hO)
    rw[tu (by omega)]at this;exact this
   ·rcases ph.1 hz with hz|hz
    ·exact hE z hz
    ·rw[pr.1 hz];exact .inl (.inr (.inr rfl))
  ·rw[hi]at hA zJV
   have e:((if true=true then [[110,111,116]] else [])++(if true=true then [[40]] else [])++(xH t lo++yU l lo)++(if true=true then [[41]] else []):List Bs)=yX::yO::(xH t lo++yU l lo++[vJ]):=by simp[yX,yO,vJ]
   rw[e]at hA zJV ⊢;obtain⟨h0,h1,hA1⟩:=hA;have hl1:(yX::yO::(xH t lo++yU l lo++[vJ])).length=(xH t lo++yU l lo).length+3:=by simp only[tz,tq,List.length_nil]
   rw[hl1]at zJV ⊢;obtain⟨hA2,hA3⟩:=iX.app (us:=[uX]) (ws:=xH t lo++yU l lo++[vJ]) hA1;have hsh:=hA2.app.2.1;have hend:=hA3.1;rw[show a+1+1+(xH t lo++yU l lo++[vJ]).length=a+((xH t lo++yU l lo).length+3) by simp only[tz,tq,List.length_nil];omega]at hend;obtain⟨n,hn⟩:∃k,P.length=k+1+1:=⟨P.length-2,by omega⟩;have hlen2:=zJV;rw[tq]at hlen2;obtain⟨k,hk,i,E,p',hy,hp',hG,hE⟩:=VS hl4 lo (n:=n) 2 4 (.inr rfl) hP (by decide) t l (a+1+1) [] 0 0 (fun q hq=>⟨h.2.2 q hq,by have:=htl q hq;omega⟩) hA2 (by omega) (by decide);have ho:=Xt (n:=n) [] 0 0 1 h1 hy hsh
   have hf:yJ P P.length ⟨(a,false),[],0,0⟩ 0=((((([]:List zN)++E).length:Nat):Int),⟨(a+1+1+(xH t lo++yU l lo).length+1,false),([]++E)++[⟨3,i,0,[],[],[],0⟩],0+((l.length:Int)+1),p'⟩):=by
    rw[hn,wX [] 0 0 0 h0 ho];rfl
   rw[show a+1+1+(xH t lo++yU l lo).length+1=a+((xH t lo++yU l lo).length+3) by omega]at hf;refine⟨((([]:List zN)++E).length:Nat),([]++E)++[⟨3,i,0,[],[],[],0⟩],p',3,?_,hp',fun A hO=>?_,fun z hz=>?_⟩
   ·show bJ P (yJ P P.length) ⟨(a,false),[],0,0⟩ 0=_
    rw[JW hP (iZ hP hf hend (fun _=>by decide)) hend (fun _=>by decide)];rw[Int.zero_add]
   ·have:=hO.not _ _ _ _ (hG A hO)
    rw[decide_eq_decide.2 hk]at this;exact this
   ·rcases ph.1 hz with hz|hz
    ·exact hE z hz
    ·rw[pr.1 hz];exact .inl (.inr (.inr rfl))
theorem zDL(N:List zN)(x:zN)(E:List zN):qP (N++[x]++E) N.length=x:=by
 unfold qP;simp[List.getD]
theorem JH(i:Nat):(yV i).isEmpty=false:=by unfold yV xL;split <;> rfl
theorem zEI(acc:Option GX)(c:GX):QD acc c []=Q6 acc c:=rfl
theorem jb(acc:Option GX)(c:GX)(t:yF)(r:List yF):QD acc c (t::r)=if t.or=true then QD (some (Q6 acc c)) (tX t) r else QD acc (zAV c (tX t)) r:=rfl
end Go.Proofs.YtnbpdffdnphbeabGreatDoor
