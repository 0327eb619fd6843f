import Derived.Test.YtnbpdffdnphbeabGreatDoorPGrd
set_option maxRecDepth 100000
namespace Go.Proofs.YtnbpdffdnphbeabGreatDoor
variable {P:List PT}
variable{nm:Bs}{k:Int}{a b:List Bs}{low:List Nat}{ps:List xJ}{ls:List zE}{j i B:Nat}{p:xJ}{t:yH}{M:yO}{x:zE}(n:Nat)
structure GR where
 nd:List zJ
 root:Int
 t:Int
 p:Int
structure eI(low:List Nat)(r:vR)(g:GR):Prop where
 dep:g.p<=4
 aj:g.t=(r.tests.length:Nat)
 EC:∀z∈g.nd,EH low z
 gm:qZ g.nd
 cnt:g.nd.length<=100
 den:∃t l k,r.tests=t::l/\s8 low g.nd g.root k (A4 r.whole t l)
def rQ(M:yO)(i:Nat):zE:=if i<3 then ⟨1,xC i,M.lo i,M.hi i,[],[],[],0,0,0,[]⟩ else ⟨2,xC i,0,0,[],[],[],0,0,0,[]⟩
def rD(r:vR)(i:Nat)(g:GR):zE:=⟨3,xU 114 i,0,0,xU 99 r.head,wF r.parts,g.nd,g.root,g.t,g.p,[]⟩
def dY(p:Nat × Nat):zE:=⟨4,xU 114 p.1,0,0,[],[],[],0,0,0,xU 114 p.2⟩
def Jv(M:yO):List (Nat × Nat):=(List.range M.rules.length).flatMap λi=>(List.range M.rules.length).flatMap λk=>if M.over i k=true then [(i,k)] else []
def uW(M:yO)(i:Nat):vR:=M.rules.getD i oA
def yM(M:yO)(G:Nat->GR):List zE:=(List.range 5).map (rQ M)++(List.range M.rules.length).map (λi=>rD (uW M i) i (G i))++(Jv M).map dY
theorem fV(hi:i<M.rules.length):uW M i∈M.rules:=pS oA hi
def AM(P:List PT)(l:List Bs)(Q:zE->Prop):Prop:=(∀w r,l=w::r->yG w≠0)/\0<l.length/\∀a,ZW P a l->a+l.length<P.length->∃x,Q x/\vP P (a,false)=(x,(a+l.length,false))
theorem CG{ws:List Bs}(h:GB x ws):AM P ws (· = x):=⟨h.1,h.2.1,λa hA hl=>⟨x,rfl,h.2.2 P a hA hl⟩⟩
theorem Mo(hM:yR M)(hi:i<M.rules.length)(lo:Bool):AM P (dU (uW M i) i lo) (λx=>∃g,eI (xP M.aa (uW M i).head) (uW M i) g/\x=rD (uW M i) i g):=by
 have h8:=hM.aj;have hr:=hM.rules _ (fV hi);generalize uW M i=r at *;have hh:=hr.head;have aN:∀d∈xP M.aa r.head,d<4:=λd hd=>by have:=Z5 hd;omega
 have hn:yG (xU 114 i)=2:=lD (.inr (.inr (.inr rfl))) (by omega);have hc:yG (xU 99 r.head)=2:=lD (.inr (.inr (.inl rfl))) (by omega);have hS:=Su aN hr.parts
 obtain⟨t,l,aF⟩:∃t l,r.tests=t::l:=by
  have:=hr.tests.1
  cases h:r.tests with
  | nil=>rw[h]at this;simp at this
  | cons t l=>exact⟨t,l,rfl⟩
 have hT:=hr.tests;rw[aF]at hT
 have e:dU r i lo=uH::xU 114 i::[58]::xU 99 r.head::[61]::(cT r.parts++xF::(cL r.whole (t::l) lo++[qM])):=by
  unfold dU;rw[aF];simp[uH,xF,qM]
 have aC:=(I1 hr i lo).2;rw[e]at aC;rw[e];refine⟨λw r h=>by cases h;decide,by simp,λa h aR=>?_⟩;obtain⟨h0,h1,h2,h3,h4,h5⟩:=h;generalize ah:cT r.parts=S at *;generalize aI:cL r.whole (t::l) lo=GG at *;have hl:a+(S.length+GG.length+7)<P.length:=by simp at aR;omega
 rw[show S++xF::(GG++[qM])=(S++[xF])++(GG++[qM]) by simp]at h5;obtain⟨hs,hg⟩:=h5.app;obtain⟨_,hw⟩:=hs.app;obtain⟨hg1,aP⟩:=hg.app;have es:=hS P _ hs (by omega);rw[tm,pu,<-dg]at hg hg1 aP;rw[<-aI]at hg;obtain⟨root,nd,p,k,eg,hp,hD,hN,aX,aY⟩:=RU aN r.whole lo hT hg (by rw[aI];omega);rw[aI]at eg;have ew:=gP hw.1 (by decide);have ee:=gP aP.1 (by decide);refine⟨rD r i ⟨nd,root,(l.length:Int)+1,p⟩,⟨⟨nd,root,(l.length:Int)+1,p⟩,⟨hp,by rw[aF];simp,hN,aX,by rw[aI]at aY;simp at aC;show nd.length<=100;omega,t,l,k,aF,hD⟩,rfl⟩,?_⟩
 have el:jG P (a+1,false)=(rD r i ⟨nd,root,(l.length:Int)+1,p⟩,(a+(uH::xU 114 i::[58]::xU 99 r.head::[61]::(S++xF::(GG++[qM]))).length,false)):=by
  unfold jG;simp only[bL h1 hn,gP h2 (by decide),bL h3 hc,gP h4 (by decide),es,ew,eg,show ([59]:Bs)=qM from rfl,ee];refine Prod.ext rfl (Prod.ext ?_ rfl);simp;omega
 unfold vP;simp only[kT h0 [110,117,109] (λ_=>by decide),kT h0 [102,108,97,103] (λ_=>by decide),show ([114,117,108,101]:Bs)=uH from rfl,cC h0 (by decide)];exact el
theorem Hh(hM:yR M)(hi:i<5):AM P (nS M i) (· = rQ M i):=by
 unfold nS rQ;have hk:=dN hi;by_cases h3:i<3
 ·rw[tr h3,tr h3]
  have hn:=hM.au i h3;obtain⟨a1,a2⟩:=aO (n:=M.lo i) (by omega) (by omega);obtain⟨b1,b2⟩:=aO (n:=M.hi i) (by omega) (by omega);have:=yj hk a1 b1;rw[a2,b2]at this;exact CG this
 ·rw[tj h3,tj h3]
  exact CG (CE hk)
theorem KU(h:yR M){p:Nat × Nat}(hp:p∈Jv M):p.1<p.2/\p.2<M.rules.length/\M.over p.1 p.2=true:=by
 unfold Jv at hp;obtain⟨i,hi,hp⟩:=bg.1 hp;obtain⟨k,hk,hp⟩:=bg.1 hp;split at hp
 ·rename_i ho
  rw[pr.1 hp];have:=h.over i k ho;exact⟨this.1,this.2.1,ho⟩
 ·cases hp
theorem F'(hM:yR M){p:Nat × Nat}(hp:p∈Jv M):AM P (Xa p.1 p.2) (· = dY p):=by
 have h1:=KU hM hp;have h8:=hM.aj;exact CG (CD (lD (.inr (.inr (.inr rfl))) (by omega)) (lD (.inr (.inr (.inr rfl))) (by omega)))
def lS:List (zE->Prop)->List zE->Prop
 | [],[]=>True
 | Q::r,x::xs=>Q x/\lS r xs
 | _,_=>False
theorem UF(P:List PT):∀(K:List (List Bs × (zE->Prop))) (n a:Nat) (acc:List zE),(∀y∈K,AM P y.1 y.2)->ZW P a (K.map Prod.fst).flatten->(yB P (a+(K.map Prod.fst).flatten.length)).k=0->a+(K.map Prod.fst).flatten.length<P.length->K.length<n->∃xs,lS (K.map Prod.snd) xs/\jT P n (a,false) acc=(acc++xs,(a+(K.map Prod.fst).flatten.length,false)):=by
 intro K
 induction K with
 | nil =>
   intro n a acc hR hA hk hl hn;obtain⟨n,rfl⟩:∃k,n=k+1:=⟨n-1,by simp at hn;omega⟩;refine⟨[],trivial,?_⟩;rw[jT];simp only[List.map_nil,List.flatten_nil,ge,lh]at hk ⊢;rw[tr hk,mt]
 | cons y K ih =>
   intro n a acc hR hA hk hl hn;obtain⟨n,rfl⟩:∃k,n=k+1:=⟨n-1,by simp at hn;omega⟩;obtain⟨aM,hx1,hx⟩:=hR y (by simp);obtain⟨l,Q⟩:=y;simp only at aM hx1 hx;have e0:(List.map Prod.fst ((l,Q)::K)).flatten=l++(List.map Prod.fst K).flatten:=rfl;rw[e0]at hA hk hl ⊢;rw[tm]at hk hl ⊢;obtain⟨h1,h2⟩:=hA.app;obtain⟨x,hQ,e⟩:=hx a h1 (by omega)
   have aV:(yB P a).k≠0:=by
    cases l with
    | nil=>simp at hx1
    | cons w r=>rw[h1.1.1];exact aM w r rfl
   obtain⟨xs,aD,ex⟩:=ih n (a+l.length) (acc++[x]) (λy hy=>hR y (py _ hy)) h2 (by rw[dg];exact hk) (by omega) (by simp at hn;omega);refine⟨x::xs,⟨hQ,aD⟩,?_⟩;rw[jT];simp only[e];rw[tj aV,ex,po,List.singleton_append,dg]
theorem lS.app{A B:List (zE->Prop)}:∀ {xs:List zE},lS (A++B) xs->∃xa xb,xs=xa++xb/\lS A xa/\lS B xb:=by
 induction A with
 | nil=>intro xs h;exact⟨[],xs,rfl,trivial,h⟩
 | cons Q r ih =>
   intro xs h
   cases xs with
   | nil=>exact x' h id
   | cons x xs =>
     obtain⟨xa,xb,e,h1,h2⟩:=ih h.2;exact⟨x::xa,xb,by rw[e];rfl,⟨h.1,h1⟩,h2⟩
theorem lS.eq{β:Type}{f:β->zE}{zs:List β}:∀ {xs:List zE},lS (zs.map λz x=>x=f z) xs->xs=zs.map f:=by
 induction zs with
 | nil=>intro xs h;cases xs with
   | nil=>rfl
   | cons x xs=>exact x' h id
 | cons z r ih=>intro xs h;cases xs with
   | nil=>exact x' h id
   | cons x xs=>rw[cf,ih h.2,h.1]
theorem lS.one{Q:zE->Prop}{xs:List zE}(h:lS [Q] xs):∃x,xs=[x]/\Q x:=by
 cases xs with
 | nil=>exact x' h id
 | cons x xs =>
   cases xs with
   | nil=>exact⟨x,rfl,h.1⟩
   | cons y ys=>exact x' h.2 id
theorem lS.ex{S:Nat->GR->Prop}{F:Nat->GR->zE}:∀ {xs:List zE},lS ((List.range n).map λi x=>∃g,S i g/\x=F i g) xs->∃G:Nat->GR,(∀i,i<n->S i (G i))/\xs=(List.range n).map λi=>F i (G i):=by
 induction n with
 | zero =>
   intro xs h
   cases xs with
   | nil=>exact⟨λ_=>⟨[],0,0,0⟩,λi hi=>x' hi (by simp),rfl⟩
   | cons x xs=>exact x' h id
 | succ n ih =>
   intro xs h;rw[bf,bj]at h;obtain⟨xa,xb,e,h1,h2⟩:=lS.app h;obtain⟨G,hG,ea⟩:=ih h1;obtain⟨x,ex,g,hg,eg⟩:=lS.one h2;refine⟨λi=>if i=n then g else G i,λi hi=>?_,?_⟩
   ·show S i (if i=n then g else G i)
    by_cases aJ:i=n
    ·rw[tr aJ,aJ];exact hg
    ·rw[tj aJ];exact hG i (by omega)
   ·rw[e,ea,ex,eg,bf,bj]
    congr 1
    ·refine List.map_congr_left λi hi=>?_
     have:=me.1 hi;show F i (G i)=F i (if i=n then g else G i);rw[tj (show ¬i=n by omega)]
    ·simp
def Be(M:yO)(lo:Bool):List (List Bs × (zE->Prop)) :=
 (List.range 5).map (λi=>(nS M i,λx=>x=rQ M i))++(List.range M.rules.length).map (λi=>(dU (uW M i) i lo,λx=>∃g,eI (xP M.aa (uW M i).head) (uW M i) g/\x=rD (uW M i) i g))++(Jv M).map (λp=>(Xa p.1 p.2,λx=>x=dY p))
theorem Uu(M:yO):((List.range M.rules.length).flatMap λi=>pF M i M.rules.length)=(Jv M).map λp=>Xa p.1 p.2:=by
 unfold Jv pF;rw[List.map_flatMap];congr 1
 funext i
 rw[List.map_flatMap];congr 1
 funext k
 split <;> rfl
theorem iZ(M:yO)(lo:Bool):(Be M lo).map Prod.fst=xY M lo:=by
 unfold Be xY;rw[Uu,bj,bj,List.map_map,List.map_map,List.map_map];rfl
theorem Gv(h:yR M)(lo:Bool):∀y∈Be M lo,AM P y.1 y.2:=λy hy=>by
 unfold Be at hy;rcases pj.1 hy with hy|hy
 ·rcases pj.1 hy with hy|hy
  ·obtain⟨i,hi,rfl⟩:=pd.1 hy
   exact Hh h (me.1 hi)
  ·obtain⟨i,hi,rfl⟩:=pd.1 hy
   exact Mo h (me.1 hi) lo
 ·obtain⟨p,hp,rfl⟩:=pd.1 hy
  exact F' h hp
theorem RO(h:yR M)(lo:Bool):(Be M lo).length<=(xY M lo).flatten.length:=by
 have:∀K:List (List Bs × (zE->Prop)),(∀y∈K,AM [] y.1 y.2)->K.length<=(K.map Prod.fst).flatten.length:=by
  intro K
  induction K with
  | nil=>intro _;simp
  | cons y r ih =>
    intro hK;have h1:=ih (λz hz=>hK z (py _ hz));have h2:=(hK y (by simp)).2.1;rw[cf,List.flatten_cons,tm,pb];omega
 have h2:=this _ (Gv (P:=[]) h lo)
 rwa [iZ]at h2
theorem DI(h:yR M)(lo:Bool){l:Bs}(ht:tw l=(xY M lo).flatten):∃G:Nat->GR,(∀i,i<M.rules.length->eI (xP M.aa (uW M i).head) (uW M i) (G i))/\(yZ l).1=yM M G/\(yZ l).2.2=false:=by
 have hn:=Ll l;have hk:=M5 l;have hA:=PA l;have hf:=RO h lo;rw[ht,<-iZ]at hn hk hA;rw[<-iZ]at hf;obtain⟨xs,aD,e⟩:=UF (rB l) (Be M lo) (2*(rB l).length+1) 0 [] (Gv h lo) hA (by rw[cw];exact hk) (by omega) (by omega)
 have es:(Be M lo).map Prod.snd=(List.range 5).map (λi x=>x=rQ M i)++(List.range M.rules.length).map (λi x=>∃g,eI (xP M.aa (uW M i).head) (uW M i) g/\x=rD (uW M i) i g)++(Jv M).map (λp x=>x=dY p):=by
  unfold Be;rw[bj,bj,List.map_map,List.map_map,List.map_map];rfl
 rw[es]at aD;obtain⟨xa,x3,e1,h1,h3⟩:=lS.app aD;obtain⟨x1,x2,e2,h1,h2⟩:=lS.app h1;have q1:=lS.eq h1;have q3:=lS.eq h3;obtain⟨G,hG,q2⟩:=lS.ex (S:=λi g=>eI (xP M.aa (uW M i).head) (uW M i) g) (F:=λi g=>rD (uW M i) i g) M.rules.length h2;refine⟨G,hG,?_,?_⟩
 ·unfold yZ
  rw[e];show []++xs=_;rw[e1,e2,q1,q2,q3];rfl
 ·unfold yZ
  rw[e]
theorem Pd{p:UInt8->Prop}(h:∀n,n<256->p (UInt8.ofNat n))(c:UInt8):p c:=by
 have:=h c.toNat (UInt8.toNat_lt c)
 rwa [UInt8.ofNat_toNat]at this
theorem LS:∀n,n<256->so (UInt8.ofNat n)=2->wj [UInt8.ofNat n]=true:=by decide +kernel
theorem Rj(c:UInt8)(r:Bs):wj (c::r)=wj [c]:=rfl
theorem IK{f:UInt8}(i:Nat)(hf:f=110\/f=102\/f=99\/f=114):wj (xU f i)=true:=by
 unfold xU;rcases hf with rfl|rfl|rfl|rfl <;> rfl
theorem H6{n:Int}(h0:0<=n)(h1:n<=9999):wj (Lib.itoa n)=true:=by
 obtain⟨a1,a2,-⟩:=YL h0 h1
 cases h:Lib.itoa n with
 | nil=>exact x' h a1
 | cons c r =>
   rw[Rj];have:=a2 c (by rw[h];simp);exact Pd (p:=λc=>so c=2->wj [c]=true) LS c this
def Jh:List Bs->Prop
 | []=>True
 | w::r=>((w=[60]\/w=[62])->∃x r',r=x::r'/\wj x=true)/\Jh r
theorem Jh.app(ha:Jh a)(hb:Jh b):Jh (a++b):=by
 induction a with
 | nil=>exact hb
 | cons w r ih =>
   refine⟨λh=>?_,ih ha.2⟩;obtain⟨x,r',e,hx⟩:=ha.1 h;exact⟨x,r'++b,by rw[e];rfl,hx⟩
theorem xB{w:Bs}{r:List Bs}(h1:w≠[60]/\w≠[62])(hr:Jh r):Jh (w::r):=⟨λh=>h.elim (λh=>x' h h1.1) (λh=>x' h h1.2),hr⟩
theorem uR:Jh []:=trivial
theorem cW{p:Prop}[Decidable p](ha:p->Jh a)(hb:¬p->Jh b):Jh (if p then a else b):=by split <;> rename_i h;exact ha h;exact hb h
theorem U3{f:Nat->List Bs}(h:∀i,i<n->Jh (f i)):Jh ((List.range n).flatMap f):=by
 induction n with
 | zero=>trivial
 | succ n ih =>
   rw[bf,lk];refine(ih λi hi=>h i (by omega)).app ?_;simpa using h n (by omega)
theorem U2{L:List (List Bs)}(h:∀l∈L,Jh l):Jh L.flatten:=by
 induction L with
 | nil=>trivial
 | cons l r ih=>rw[List.flatten_cons];exact(h l (by simp)).app (ih λx hx=>h x (py _ hx))
theorem Qe(f:UInt8)(i:Nat):xU f i≠[60]/\xU f i≠[62]:=by
 unfold xU;simp
theorem iW(i:Nat):xC i≠[60]/\xC i≠[62]:=by unfold xC;split <;> exact Qe _ _
theorem JY{n:Int}(h0:0<=n:=by omega)(h1:n<=9999:=by omega):Lib.itoa n≠[60]/\Lib.itoa n≠[62]:=by
 have h:=H6 h0 h1;exact⟨λe=>by rw[e]at h;exact M' h,λe=>by rw[e]at h;exact M' h⟩
theorem LZ:wj (xC i)=true:=by
 unfold xC;split
 ·exact IK _ (.inl rfl)
 ·exact IK _ (.inr (.inl rfl))
theorem Pz(h:vO low t):Jh (uZ t):=by
 unfold uZ;rcases h with h|⟨h,x1,x2⟩|⟨h,d,hd,hx⟩|⟨h,⟨x1,x2⟩,⟨y1,y2⟩,⟨m1,m2⟩,n1,n2⟩
 ·rw[tr h];exact xB (by decide) trivial
 ·rw[i6,tr h];exact xB (iW _) trivial
 ·rw[i6,i6,tr h]
  exact xB (by decide) (xB (Qe _ _) uR)
 ·rw[i6,i6,i6]
  exact cW (λ_=>xB (iW _) ⟨λ_=>⟨_,_,rfl,H6 n1 n2⟩,xB (JY n1 n2) uR⟩) (λ_=>xB (iW _) ⟨λ_=>⟨_,_,rfl,LZ⟩,xB (iW _) uR⟩)
theorem oL{x:Bs}(hx:x≠[60]/\x≠[62]){p:Prop}[Decidable p]:Jh (if p then [x] else []):=cW (λ_=>xB hx uR) (λ_=>uR)
theorem PE(h:vO low t)(lo:Bool):Jh (xM t lo):=by
 unfold xM;exact(((oL (by decide)).app (oL (by decide))).app (Pz h)).app (oL (by decide))
theorem Nn{ts:List yH}(h:pG low ts)(wh lo:Bool):Jh (cL wh ts lo):=by
 unfold cL tM;refine(((oL (by decide)).app (oL (by decide))).app (U3 _ λi hi=>?_)).app (oL (by decide));refine Jh.app ?_ (PE (h.2.2 _ (pS dA hi)) lo);unfold jL;exact cW (λ_=>uR) (λ_=>cW (λ_=>xB (by decide) uR) (λ_=>xB (by decide) uR))
theorem Ox(h:tP low ps):Jh (cT ps):=by
 unfold cT mL;refine U3 _ λi hi=>?_;have hp:=h.2.2 _ (pS eX hi);generalize ps.getD i eX=p at *;unfold bD fT qR pW kC;refine(((cW (λ_=>uR) (λ_=>cW (λ_=>xB (by decide) uR) (λ_=>xB (by decide) uR))).app (cW (λhc=>xB ?_ uR) (λ_=>uR))).app (oL (by decide))).app (cW (λhn=>xB (iW _) uR) (λ_=>cW (λhh=>xB (Qe _ _) uR) (λ_=>uR)));rcases hp with ⟨-,h1,-,-⟩|⟨h0,h1,-⟩|⟨-,h1,-⟩|⟨h1,-,-⟩
 ·exact JY h1.1 h1.2
 ·rcases hc with hc|hc
  ·exact x' (hc.symm.trans h0) (by simp)
  ·omega
 ·exact JY h1.1
 ·exact JY h1.1
theorem TJ(h:yR M)(lo:Bool):Jh (xY M lo).flatten:=U2 λl hl=>by
 unfold xY at hl;rcases pj.1 hl with hl|hl
 ·rcases pj.1 hl with hl|hl
  ·obtain⟨i,hi,rfl⟩:=pd.1 hl
   unfold nS;split
   ·rename_i h3
    have:=h.au i h3;exact xB (by decide) (xB (iW _) (xB (JY) (xB (by decide) (xB (JY) (xB (by decide) uR)))))
   ·exact xB (by decide) (xB (iW _) (xB (by decide) uR))
  ·obtain⟨i,hi,rfl⟩:=pd.1 hl
   have hr:=h.rules _ (pS oA (me.1 hi));generalize M.rules.getD i oA=r at *;have q1:Jh [[114,117,108,101],xU 114 i,[58],xU 99 r.head,[61]]:=xB (by decide) (xB (Qe _ _) (xB (by decide) (xB (Qe _ _) (xB (by decide) uR))));unfold dU;exact(((q1.app (Ox hr.parts)).app (xB (by decide) uR)).app (Nn hr.tests _ _)).app (xB (by decide) uR)
 ·obtain⟨i,hi,hl⟩:=bg.1 hl
  unfold pF at hl;obtain⟨j,hj,hl⟩:=bg.1 hl;split at hl
  ·rw[pr.1 hl]
   exact xB (by decide) (xB (Qe _ _) (xB (Qe _ _) (xB (by decide) uR)))
  ·cases hl
def lK:List Bs->Nat
 | []=>0
 | w::r=>w.length+3+lK r
theorem kO(a b:List Bs):lK (a++b)=lK a+lK b:=by
 induction a with
 | nil=>simp[lK]
 | cons w r ih=>simp only[li,lK];rw[ih];omega
theorem QM{β:Type}{f:β->List Bs}(zs:List β)(h:∀z∈zs,lK (f z)<=B):lK (zs.flatMap f)<=zs.length*B:=by
 induction zs with
 | nil=>simp[lK]
 | cons z r ih =>
   rw[cg,kO,pb,Nat.succ_mul];have:=h z (by simp);have:=ih λx hx=>h x (py _ hx);omega
theorem ZJ{p:Prop}[Decidable p](ha:p->lK a<=B)(hb:¬p->lK b<=B):lK (if p then a else b)<=B:=by split <;> rename_i h;exact ha h;exact hb h
theorem PS(r:List Bs):(jh r).length<=lK r+1:=by
 induction r with
 | nil=>simp[jh,lK]
 | cons w r ih =>
   have h:(if w=[59] then w else 32::w).length<=w.length+1:=by
    split
    ·omega
    ·rw[pb];exact tg _
   rw[jh,tm,lK];omega
theorem Ca{l:List Bs}(h:0<l.length):(gO l).length<=lK l:=by
 cases l with
 | nil=>simp at h
 | cons w r=>have:=PS r;rw[gO,tm,lK];omega
theorem PR(L:List (List Bs))(h:∀l∈L,0<l.length):(X1 L).length<=lK L.flatten:=by
 induction L with
 | nil=>simp[X1,lK]
 | cons l r ih =>
   have h1:=ih λx hx=>h x (py _ hx);have h2:=Ca (h l (by simp));unfold X1 at h1 ⊢;rw[cg,tm,List.flatten_cons,kO];omega
theorem Xo(f:UInt8)(i:Nat):(xU f i).length=2:=rfl
theorem fB(i:Nat):(xC i).length=2:=by unfold xC;split <;> rfl
theorem Il{n:Int}(h0:0<=n)(h1:n<=9):(Lib.itoa n).length=1:=by
 rw[D3 h0,Lib.decDigits_one (by omega)];rfl
theorem OA{k:Nat}(hk:k<6):(aL k).length<=2:=(show ∀k,k<6->(aL k).length<=2 by decide) k hk
theorem B2(h:mJ low p):lK (qA p)<=13:=by
 obtain⟨mi,ti,n,nu,hd⟩:=p;rcases h with ⟨h0,h1,h2,h3⟩|⟨h0,h1,h2⟩|⟨h0,h1,h2,h3⟩|⟨h1,h2,d,aQ,h3⟩
 ·simp only at h0 h1 h2 h3
  subst h0 h2 h3;have e:qA ⟨mi,false,n,-1,-1⟩=[Lib.itoa n]:=by simp[qA,qR,pW,kC]
  have:=(YL h1.1 h1.2).2.2.1;rw[e];simp only[lK];omega
 ·simp only at h0 h1 h2
  subst h0 h2;have e:qA ⟨mi,false,n,nu,-1⟩=[xC nu.toNat]:=by simp[qA,qR,pW,kC,h1.1]
  rw[e];simp only[lK,fB];omega
 ·simp only at h0 h1 h2 h3
  subst h0 h3;have e:qA ⟨mi,true,n,nu,-1⟩=[Lib.itoa n,[42],xC nu.toNat]:=by simp[qA,qR,pW,kC,h2.1]
  rw[e];simp only[lK,fB,Il h1.1 h1.2,pb,ge];omega
 ·simp only at h1 h2 h3
  subst h2 h3;cases ti
  ·have e:qA ⟨mi,false,n,-1,d⟩=[xU 99 d]:=by simp[qA,qR,pW,kC]
   rw[e];simp only[lK,Xo];omega
  ·have e:qA ⟨mi,true,n,-1,d⟩=[Lib.itoa n,[42],xU 99 d]:=by simp[qA,qR,pW,kC]
   rw[e];simp only[lK,Xo,Il h1.1 h1.2,pb,ge];omega
theorem Ov(h:tP low ps):lK (cT ps)<=64:=by
 cases ps with
 | nil=>exact x' h.1 (by simp)
 | cons p r =>
   rw[F4,kO];have h1:=B2 (h.2.2 p (by simp))
   have h2:lK (mK r)<=r.length*17:=QM r λq hq=>by
    have:=B2 (h.2.2 q (py _ hq));have h3:lK (rU q)=4:=(by unfold rU;split <;> rfl);rw[kO];omega
   have h3:=h.2.1;rw[pb]at h3;omega
theorem Py(h:vO low t):lK (uZ t)<=17:=by
 unfold uZ;rcases h with h|⟨h,x1,x2⟩|⟨h,d,hd,hx⟩|⟨h,⟨x1,x2⟩,⟨y1,y2⟩,⟨m1,m2⟩,n1,n2⟩
 ·rw[tr h];decide
 ·rw[i6,tr h];simp only[lK,fB];omega
 ·rw[i6,i6,tr h]
  have:eU.length=3:=rfl;simp only[lK,Xo,this];omega
 ·rw[i6,i6,i6]
  have hm:=OA (k:=t.mark.toNat) (by omega);have hi:=(YL n1 n2).2.2.1;exact ZJ (λ_=>by simp only[lK,fB];omega) (λ_=>by simp only[lK,fB];omega)
theorem aG{x:Bs}(hx:x.length+3<=B){p:Prop}[Decidable p]:lK (if p then [x] else [])<=B:=ZJ (λ_=>by simp only[lK];omega) (λ_=>by simp only[lK];omega)
theorem PD(h:vO low t)(lo:Bool):lK (xM t lo)<=31:=by
 unfold xM;rw[kO,kO,kO];have h1:=Py h;have h2:lK (if t.not=true then [[110,111,116]] else [])<=6:=aG (by decide);have h3:lK (if (lo&&t.pair)=true then [[40]] else [])<=4:=aG (by decide);have h4:lK (if (lo&&t.pair)=true then [[41]] else [])<=4:=aG (by decide);omega
theorem Nl{ts:List yH}(h:pG low ts)(wh lo:Bool):lK (cL wh ts lo)<=236:=by
 unfold cL tM;rw[kO,kO,kO]
 have h1:lK ((List.range ts.length).flatMap λj=>jL j (ts.getD j dA)++xM (ts.getD j dA) lo)<=(List.range ts.length).length*37:=QM _ λj hj=>by
  have:=PD (h.2.2 _ (pS dA (me.1 hj))) lo;have h3:lK (jL j (ts.getD j dA))<=6:=by unfold jL;exact ZJ (λ_=>by decide) (λ_=>ZJ (λ_=>by decide) (λ_=>by decide))
  rw[kO];omega
 have hl:=h.2.1;rw[nl]at h1;have h2:lK (if wh=true then [[110,111,116]] else [])<=6:=aG (by decide);have h3:lK (if Xd wh lo ts.length=true then [[40]] else [])<=4:=aG (by decide);have h4:lK (if Xd wh lo ts.length=true then [[41]] else [])<=4:=aG (by decide);omega
theorem Oi{aa:List Nat}{r:vR}(h:oX aa r)(i:Nat)(lo:Bool):lK (dU r i lo)<=336:=by
 unfold dU;rw[kO,kO,kO,kO];have h1:=Ov h.parts;have h2:=Nl h.tests r.whole lo;have h3:lK [[114,117,108,101],xU 114 i,[58],xU 99 r.head,[61]]=25:=rfl;have h4:lK [[119,104,101,110]]=7:=rfl;have h5:lK [[59]]=4:=rfl;omega
theorem Kl{β γ δ:Type}(zs:List β){f:β->List γ}{g:β->List δ}(h:∀z∈zs,(f z).length<=(g z).length):(zs.flatMap f).length<=(zs.flatMap g).length:=by
 induction zs with
 | nil=>simp
 | cons z r ih =>
   rw[cg,cg,tm,tm];have:=h z (by simp);have:=ih λx hx=>h x (py _ hx);omega
theorem SZ:∀n,n<9->((List.range n).flatMap λi=>(List.range n).flatMap λk=>if i<k then [(i,k)] else []).length<=28:=by decide
theorem Iw(h:yR M):((List.range M.rules.length).flatMap λi=>pF M i M.rules.length).length<=28:=by
 have h8:=h.aj;refine tu (Kl (g:=λi=>(List.range M.rules.length).flatMap λk=>if i<k then [(i,k)] else []) _ λi hi=>?_) (SZ M.rules.length (by omega));unfold pF;refine Kl _ λk hk=>?_;split
 ·rename_i ho
  rw[tr (h.over i k ho).1];exact tg _
 ·exact p8
theorem sT{L:List (List Bs)}(h:∀l∈L,lK l<=B):lK L.flatten<=L.length*B:=by
 have:=QM (f:=id) L h
 rwa [List.flatMap_id]at this
theorem vt(h:yR M)(lo:Bool):lK (xY M lo).flatten<=4000:=by
 have h8:=h.aj;unfold xY;rw[List.flatten_append,List.flatten_append,kO,kO]
 have h1:lK ((List.range 5).map (nS M)).flatten<=170:=by
  refine tu (sT (B:=34) λl hl=>?_) (by simp);obtain⟨i,hi,rfl⟩:=pd.1 hl;unfold nS;refine ZJ (λh3=>?_) (λ_=>by simp only[lK,fB,pb,ge];omega);have:=h.au i h3;have h4:=(YL (n:=M.lo i) (by omega) (by omega)).2.2.1;have h5:=(YL (n:=M.hi i) (by omega) (by omega)).2.2.1;simp only[lK,fB,pb,ge];omega
 have h2:lK ((List.range M.rules.length).map λi=>dU (M.rules.getD i oA) i lo).flatten<=M.rules.length*336:=by
  refine tu (sT (B:=336) λl hl=>?_) (by simp);obtain⟨i,hi,rfl⟩:=pd.1 hl;exact Oi (h.rules _ (pS oA (me.1 hi))) i lo
 have h3:lK ((List.range M.rules.length).flatMap λi=>pF M i M.rules.length).flatten<=28*21:=by
  refine tu (sT (B:=21) λl hl=>?_) (Nat.mul_le_mul_right _ (Iw h));obtain⟨i,hi,hl⟩:=bg.1 hl;unfold pF at hl;obtain⟨j,hj,hl⟩:=bg.1 hl;split at hl
  ·rw[pr.1 hl];simp only[Xa,lK,Xo,pb,ge];omega
  ·cases hl
 omega
theorem Rn(lo:Bool):∀l∈xY M lo,0<l.length:=λl hl=>by
 unfold xY at hl;rcases pj.1 hl with hl|hl
 ·rcases pj.1 hl with hl|hl
  ·obtain⟨i,hi,rfl⟩:=pd.1 hl
   unfold nS;split <;> simp
  ·obtain⟨i,hi,rfl⟩:=pd.1 hl
   unfold dU;simp
 ·obtain⟨i,hi,hl⟩:=bg.1 hl
  unfold pF at hl;obtain⟨j,hj,hl⟩:=bg.1 hl;split at hl
  ·rw[pr.1 hl];unfold Xa;simp
  ·cases hl
theorem XB(h:yR M)(lo:Bool):(X1 (xY M lo)).length<=4000:=tu (PR _ (Rn lo)) (vt h lo)
theorem Dt:∀a,(∀i,a<=i->i<a+n->mA ls i=false)->nK ls n a=none:=by
 induction n with
 | zero=>intro a _;rfl
 | succ n ih=>intro a h;rw[nK,h a (by omega) (by omega),i6];exact ih (a+1) λi h1 h2=>h i (by omega) (by omega)
theorem qm:∀a,(∀i,a<=i->i<a+n->bY ls i=0)->eC ls n a=none:=by
 induction n with
 | zero=>intro a _;rfl
 | succ n ih=>intro a h;rw[eC,h a (by omega) (by omega),tr rfl];exact ih (a+1) λi h1 h2=>h i (by omega) (by omega)
theorem O7(h:x∈ls.take i):∃j,j<i/\j<ls.length/\x=lA ls j:=by
 obtain⟨j,hj,e⟩:=List.mem_iff_getElem.1 h;rw[cq]at hj;refine⟨j,by omega,by omega,?_⟩;rw[<-e,List.getElem_take];unfold lA;simp[List.getD,show j<ls.length by omega]
theorem Ii(h:∀j,j<i->j<ls.length->(lA ls j).kind=k->(lA ls j).name≠nm):kX (ls.take i) k nm=false:=by
 cases hh:kX (ls.take i) k nm
 ·rfl
 ·obtain⟨x,hx,hp⟩:=mw.1 hh
  obtain⟨j,h1,h2,rfl⟩:=O7 hx;unfold Xs at hp;simp only[ma,ml]at hp;exact x' hp.2 (h j h1 h2 hp.1)
theorem Gs(hx:x∈ls)(h1:x.kind=k)(h2:x.name=nm):kX ls k nm=true :=
 mw.2 ⟨x,hx,by unfold Xs;simp[h1,h2]⟩
theorem QO(k:Int)(a b:List zE):vS k (a++b)=vS k a+vS k b:=by
 induction a with
 | nil=>simp[vS]
 | cons x r ih=>rw[li,vS,vS,ih];omega
theorem G3(k:Int)(a:List zE):vS k a<=a.length:=by
 induction a with
 | nil=>simp[vS]
 | cons x r ih=>rw[vS,pb];split <;> omega
theorem V3{a:List zE}(h:∀x∈a,x.kind≠k):vS k a=0:=by
 induction a with
 | nil=>rfl
 | cons x r ih=>rw[vS,tj (h x (by simp)),ih λy hy=>h y (py _ hy)]
theorem L4(h:i<ls.length):vS (lA ls i).kind (ls.take i)<vS (lA ls i).kind ls:=by
 have e:ls=ls.take i++lA ls i::ls.drop (i+1):=by
  conv=>lhs;rw[<-List.take_append_drop i ls,ph h]
  unfold lA;simp[List.getD,h]
 have h1:vS (lA ls i).kind ls=vS (lA ls i).kind (ls.take i)+vS (lA ls i).kind (lA ls i::ls.drop (i+1)):=by
  generalize (lA ls i).kind=k;have h2:=gk (vS k) e;rw[QO]at h2;exact h2
 rw[h1,vS,tr rfl];omega
theorem nP(M:yO)(i:Nat):(rQ M i).name=xC i:=by unfold rQ;split <;> rfl
theorem nQ(M:yO)(i:Nat):(rQ M i).kind=if i<3 then 1 else 2:=by unfold rQ;split <;> rfl
theorem Nz:∀i,i<5->∀j,j<5->xC i=xC j->i=j:=by decide
theorem C9:∀i,i<8->∀j,j<8->xU 114 i=xU 114 j->i=j:=by decide
theorem Ny:∀i,i<5->∀j,j<4->xU 99 j≠xC i:=by decide
variable {M:yO} {G:Nat->GR}
theorem Xx(M:yO)(G:Nat->GR):(yM M G).length=5+M.rules.length+(Jv M).length:=by unfold yM;simp only[tm,pt,nl]
theorem DG(h:i<5):lA (yM M G) i=rQ M i:=by
 unfold lA yM;rw[mq,po,mj (by simpa using h)];simp[h]
theorem Vx(h:j<M.rules.length):lA (yM M G) (5+j)=rD (uW M j) j (G j):=by
 unfold lA yM;rw[mq,po,l8 (by simp),mj (by simpa using h)];simp[h]
theorem MI(h:5+M.rules.length<=i)(h2:i<(yM M G).length):∃p∈Jv M,lA (yM M G) i=dY p:=by
 have hl:=Xx M G
 have:lA (yM M G) i∈(Jv M).map dY:=by
  unfold lA yM;rw[mq,l8 (by simp;omega)];have h3:i-(((List.range 5).map (rQ M))++(List.range M.rules.length).map (λi=>rD (uW M i) i (G i))).length<((Jv M).map dY).length:=by simp;omega
  rw[pm h3];exact dq h3
 obtain⟨p,hp,e⟩:=pd.1 this;exact⟨p,hp,e.symm⟩
theorem QA(h:i<(yM M G).length):(i<5/\lA (yM M G) i=rQ M i)\/(∃j,j<M.rules.length/\i=5+j/\lA (yM M G) i=rD (uW M j) j (G j))\/(∃p∈Jv M,lA (yM M G) i=dY p):=by
 by_cases h5:i<5
 ·exact .inl ⟨h5,DG h5⟩
 ·by_cases hn:i<5+M.rules.length
  ·refine .inr (.inl ⟨i-5,by omega,by omega,?_⟩)
   have:=Vx (M:=M) (G:=G) (j:=i-5) (by omega)
   rwa [show 5+(i-5)=i by omega]at this
  ·exact .inr (.inr (MI (by omega) h))
theorem Xw(h:x∈yM M G):(∃i,i<5/\x=rQ M i)\/(∃j,j<M.rules.length/\x=rD (uW M j) j (G j))\/(∃p∈Jv M,x=dY p):=by
 unfold yM at h;rcases pj.1 h with h|h
 ·rcases pj.1 h with h|h
  ·obtain⟨i,hi,rfl⟩:=pd.1 h
   exact .inl ⟨i,me.1 hi,rfl⟩
  ·obtain⟨i,hi,rfl⟩:=pd.1 h
   exact .inr (.inl ⟨i,me.1 hi,rfl⟩)
 ·obtain⟨p,hp,rfl⟩:=pd.1 h
  exact .inr (.inr ⟨p,hp,rfl⟩)
theorem Io(h:i<5):rQ M i∈yM M G:=by
 unfold yM;exact List.mem_append_left _ (List.mem_append_left _ (pd.2 ⟨i,me.2 h,rfl⟩))
theorem Mb(h:j<M.rules.length):rD (uW M j) j (G j)∈yM M G:=by
 unfold yM;exact List.mem_append_left _ (List.mem_append_right _ (pd.2 ⟨j,me.2 h,rfl⟩))
theorem tY(M:yO)(i:Nat):(rQ M i).kind≠3/\(rQ M i).kind≠4:=by rw[nQ];split <;> decide
theorem Xl(h:yR M)(hj:j<M.rules.length):(uW M j).head<4:=(h.rules _ (fV hj)).head
theorem KY(h:i<3):kX (yM M G) 1 (xC i)=true:=Gs (Io (G:=G) (show i<5 by omega)) (by rw[nQ,tr h]) (nP M i)
theorem RL(h:3<=i)(h5:i<5):kX (yM M G) 2 (xC i)=true:=Gs (Io (G:=G) h5) (by rw[nQ,i6]) (nP M i)
theorem G2(h:yR M){d:Nat}(hd:d∈M.aa):mQ (yM M G) (xU 99 d)=true:=by
 rw[h.aa]at hd
 have aW:d∈M.rules.map vR.head:=by
  have:=(dP (M.rules.map vR.head) [] (x:=d)).1 hd;rcases this with h1|h1
  ·cases h1
  ·exact h1
 obtain⟨r,hr,e⟩:=pd.1 aW;obtain⟨j,hj,ej⟩:=List.mem_iff_getElem.1 hr;have er:uW M j=r:=by unfold uW;simp[List.getD,hj,ej]
 refine mw.2 ⟨_,Mb (G:=G) hj,?_⟩;unfold Gm rD;simp[er,e]
theorem Ql{d h:Nat}(hd:d∈xP M.aa h):d∈M.aa/\d<h:=by
 unfold xP at hd;rw[mu,me]at hd;exact⟨cr hd.2,hd.1⟩
theorem IH(h:yR M)(hi:i<5):nO (yM M G) i=0:=by
 unfold nO;rw[DG hi,nP]
 have h1:∀k,kX ((yM M G).take i) k (xC i)=false:=λk=>Ii λj hj af _ e=>by
  rw[DG (by omega),nP]at e;have:=Nz j (by omega) i hi e;omega
 have h2:mQ (yM M G) (xC i)=false:=by
  cases hc:mQ (yM M G) (xC i)
  ·rfl
  ·obtain⟨x,hx,hp⟩:=mw.1 hc
   unfold Gm at hp;simp only[ma,ml]at hp;rcases Xw hx with ⟨k,hk,rfl⟩|⟨j,hj,rfl⟩|⟨p,hp',rfl⟩
   ·exact x' hp.1 (tY M k).1
   ·exact x' hp.2 (Ny i hi _ (Xl h hj))
   ·exact x' hp.1 (show ¬(4:Int)=3 by decide)
 rw[h1,h1,h2];rfl
theorem QI{x:yT}(h:x∈wF ps):∃p∈ps,∃m,x=rR m p:=by
 cases ps with
 | nil=>cases h
 | cons p r =>
   rcases pi.1 h with rfl|h
   ·exact⟨p,by simp,false,rfl⟩
   ·obtain⟨q,hq,rfl⟩:=pd.1 h
    exact⟨q,py _ hq,q.minus,rfl⟩
theorem Bn(ps:List xJ):(wF ps).length=ps.length:=by cases ps <;> simp[wF]
theorem Bo(h:mJ low p)(m:Bool):(rR m p).name=[]\/(∃i,i<3/\(rR m p).name=xC i)\/∃d∈low,(rR m p).name=xU 99 d:=by
 obtain⟨mi,ti,n,nu,hd⟩:=p;rcases h with ⟨h0,h1,h2,h3⟩|⟨h0,h1,h2⟩|⟨h0,h1,h2,h3⟩|⟨h1,h2,d,aQ,h3⟩
 ·simp only at h0 h1 h2 h3
  subst h0 h2 h3;exact .inl rfl
 ·simp only at h0 h1 h2
  subst h0 h2;exact .inr (.inl ⟨nu.toNat,by omega,by simp[rR,h1.1]⟩)
 ·simp only at h0 h1 h2 h3
  subst h0 h3;exact .inr (.inl ⟨nu.toNat,by omega,by simp[rR,h2.1]⟩)
 ·simp only at h1 h2 h3
  subst h2 h3;exact .inr (.inr ⟨d,aQ,by cases ti <;> simp[rR]⟩)
theorem NZ(h:mJ low p)(m:Bool):jD (rR m p)=false:=by
 unfold jD;obtain⟨mi,ti,n,nu,hd⟩:=p;cases ti
 ·have:(rR m ⟨mi,false,n,nu,hd⟩).ak=false:=by
   unfold rR;rw[tj (by simp)];split
   ·rfl
   ·split <;> rfl
  rw[this];rfl
 ·have h9:n<=9:=by
   rcases h with ⟨h0,-⟩|⟨h0,-⟩|⟨-,h1,-⟩|⟨h1,-⟩
   ·cases h0
   ·cases h0
   ·exact h1.2
   ·exact h1.2
  have:(rR m ⟨mi,true,n,nu,hd⟩).num=n:=by unfold rR;rw[tr rfl]
  rw[this,ty (by omega),Bool.and_false]
theorem OW(h:yR M)(hj:j<M.rules.length):∀x∈wF (uW M j).parts,tG (yM M G) x=true:=λx hx=>by
 obtain⟨p,hp,m,rfl⟩:=QI hx;have hr:=h.rules _ (fV hj);unfold tG VZ;rcases Bo (hr.parts.2.2 p hp) m with e|⟨i,hi,e⟩|⟨d,hd,e⟩
 ·simp[e]
 ·rw[e,KY hi];simp
 ·rw[e,G2 h (Ql hd).1];simp
theorem JF(h:vO low t):lT t=⟨4,0,0,[],[],[],0⟩\/(∃i,3<=i/\i<5/\lT t=⟨6,0,0,xC i,[],[],0⟩)\/(∃d∈low,lT t=⟨5,0,0,xU 99 d,[],[],0⟩)\/(∃i o,i<3/\(lT t).kind=7/\(lT t).name=xC i/\(lT t).other=o/\(o=[]\/∃i',i'<3/\o=xC i')):=by
 rcases h with h|⟨h,x1,x2⟩|⟨h,d,hd,hx⟩|⟨h,⟨x1,x2⟩,⟨y1,y2⟩,⟨m1,m2⟩,n1,n2⟩
 ·left;unfold lT;rw[tr h]
 ·right;left;exact⟨t.x.toNat,by omega,by omega,by unfold lT;rw[i6,tr h]⟩
 ·right;right;left;exact⟨d,hd,by unfold lT;rw[i6,i6,tr h,hx];rfl⟩
 ·right;right;right
  rcases h with h|h
  ·have e:lT t=⟨7,0,0,xC t.x.toNat,aL t.mark.toNat,[],t.n⟩:=by unfold lT;rw[i6,i6,i6,tr h]
   rw[e];exact⟨t.x.toNat,[],by omega,rfl,rfl,rfl,.inl rfl⟩
  ·have e:lT t=⟨7,0,0,xC t.x.toNat,aL t.mark.toNat,xC t.y.toNat,0⟩:=by unfold lT;rw[i6,i6,i6,i6]
   rw[e];exact⟨t.x.toNat,_,by omega,rfl,rfl,rfl,.inr ⟨t.y.toNat,by omega,rfl⟩⟩
theorem OP(h:yR M){hd:Nat}{x:zJ}(hx:EH (xP M.aa hd) x):uD (yM M G) x=true:=by
 unfold uD;rcases hx with hk|⟨t,ht,rfl⟩
 ·rw[i6,i6,i6]
 ·rcases JF ht with e|⟨i,h1,h2,e⟩|⟨d,hd,e⟩|⟨i,o,hi,e1,e2,e3,ho⟩
  ·rw[e];rfl
  ·rw[e];exact RL h1 h2
  ·rw[e];exact G2 h (Ql hd).1
  ·rw[e1,i6,i6,tr rfl,e2,e3,KY hi]
   rcases ho with rfl|⟨i',hi',rfl⟩
   ·rfl
   ·rw[KY hi'];simp
theorem Nc{p:zE->Bool}:∀ {i:Nat} (a:Nat),i<ls.length->p (lA ls i)=true->(∀j,j<i->p (lA ls j)=false)->mC p ls a=a+i:=by
 induction ls with
 | nil=>intro i a h;simp at h
 | cons x r ih =>
   intro i a h h1 h2;rw[mC]
   cases i with
   | zero =>
     have:p x=true:=h1;rw[tr this];rfl
   | succ i =>
     have h0:p x=false:=h2 0 (by omega);rw[tj (by rw[h0];decide),ih (a+1) (by simpa using h) h1 (λj hj=>h2 (j+1) (by omega))];omega
theorem Gw(h:yR M)(hj:j<M.rules.length):uU (yM M G) (xU 114 j)=5+j:=by
 have h8:=h.aj;unfold uU;rw[Nc (i:=5+j) 0 (by rw[Xx];omega) (by rw[Vx hj];unfold Xs rD;simp) (λk hk=>?_)]
 ·omega
 ·unfold Xs
  rcases QA (M:=M) (G:=G) (i:=k) (by rw[Xx];omega) with ⟨h1,e⟩|⟨j',h1,h2,e⟩|⟨p,hp,e⟩
  ·rw[e,ty (tY M k).1];rfl
  ·rw[e]
   have:xU 114 j'≠xU 114 j:=λe'=>by have:=C9 j' (by omega) j (by omega) e';omega
   unfold rD;simp[this]
  ·rw[e];rfl
theorem UX(hi:i<M.rules.length):(M.rules.map vR.head).getD i 0=(uW M i).head:=by
 unfold uW;simp[List.getD,hi]
theorem MB(h:yR M)(hG:∀i,i<M.rules.length->eI (xP M.aa (uW M i).head) (uW M i) (G i))(hi:i<(yM M G).length):bY (yM M G) i=0:=by
 have h8:=h.aj;unfold bY;rcases QA hi with ⟨h5,e⟩|⟨j,hj,rfl,e⟩|⟨p,hp,e⟩
 ·have hk:=nQ M i
  by_cases h3:i<3
  ·rw[tr h3]at hk
   rw[e,hk,tr rfl];unfold Zu;rw[IH h h5,tr rfl,e];have hn:=h.au i h3;have e1:(rQ M i).high=M.hi i:=by unfold rQ;rw[tr h3]
   have e2:(rQ M i).low=M.lo i:=(by unfold rQ;rw[tr h3]);rw[e1,e2,i6]
  ·rw[tj h3]at hk
   rw[e,hk,i6,tr rfl];exact IH h h5
 ·rw[e]
  show dT (yM M G) (5+j)=0;unfold dT;rw[e]
  have h1:kX ((yM M G).take (5+j)) 3 (rD (uW M j) j (G j)).name=false:=Ii λk hk aU aH e'=>by
   rcases QA aU with ⟨_,q⟩|⟨j',q1,q2,q⟩|⟨p,hp,q⟩
   ·rw[q]at aH;exact x' aH (tY M k).1
   ·rw[q]at e'
    have:j'=j:=C9 j' (by omega) j (by omega) e';omega
   ·rw[q]at aH;exact x' aH (show ¬(4:Int)=3 by decide)
  have h2:((rD (uW M j) j (G j)).sum.any λx => !tG (yM M G) x)=false:=by
   rw[List.any_eq_false];intro x hx;rw[OW h hj x hx];decide
  have h3:((rD (uW M j) j (G j)).nd.any λx => !uD (yM M G) x)=false:=by
   rw[List.any_eq_false];intro x hx;rw[OP h ((hG j hj).EC x hx)];decide
  rw[h1,h2,h3];rfl
 ·obtain⟨p1,p2,p3⟩:=KU h hp
  rw[e];show dX (yM M G) (dY p)=0;unfold dX;have q1:uU (yM M G) (dY p).name=5+p.1:=Gw h (by omega);have q2:uU (yM M G) (dY p).lower=5+p.2:=Gw h p2;have hl:=Xx M G;rw[q1,q2,i6,Vx (by omega),Vx p2];have aS:(dY p).name≠(dY p).lower:=λe'=>by have:=C9 p.1 (by omega) p.2 (by omega) e';omega
  have hc:(rD (uW M p.1) p.1 (G p.1)).ae=(rD (uW M p.2) p.2 (G p.2)).ae:=by
   have:=(h.over p.1 p.2 p3).2.2;rw[UX (by omega),UX p2]at this;show xU 99 _=xU 99 _;rw[this]
  rw[tj (λhh=>by rcases hh with hh|hh;exact aS hh;exact hh hc)]
theorem FJ(h:yR M):(Jv M).length<=28:=by
 have:=Iw h;rw[Uu,pt]at this;exact this
theorem NU(h:yR M)(k:Int)(hk:k=1\/k=2\/k=3\/k=4):(vS k (yM M G):Int)<=Xb k:=by
 have h8:=h.aj;have aZ:=FJ h;unfold yM;rw[QO,QO];have a1:=G3 k ((List.range M.rules.length).map λi=>rD (uW M i) i (G i));have a2:=G3 k ((Jv M).map dY);rw[pt,nl]at a1;rw[pt]at a2
 have b1:k≠3->vS k ((List.range M.rules.length).map λi=>rD (uW M i) i (G i))=0:=λhk=>V3 λx hx e=>by
  obtain⟨i,_,rfl⟩:=pd.1 hx;exact hk e.symm
 have b2:k≠4->vS k ((Jv M).map dY)=0:=λhk=>V3 λx hx e=>by
  obtain⟨i,_,rfl⟩:=pd.1 hx;exact hk e.symm
 have c1:vS 1 ((List.range 5).map (rQ M))=3:=by rfl
 have c2:vS 2 ((List.range 5).map (rQ M))=2:=by rfl
 have c3:∀k:Int,k=3\/k=4->vS k ((List.range 5).map (rQ M))=0:=λk hk=>V3 λx hx e=>by
  obtain⟨i,_,rfl⟩:=pd.1 hx;rcases hk with rfl|rfl
  ·exact(tY M i).1 e
  ·exact(tY M i).2 e
 rcases hk with rfl|rfl|rfl|rfl
 ·rw[b1 (by decide),b2 (by decide),c1];decide
 ·rw[b1 (by decide),b2 (by decide),c2];decide
 ·rw[b2 (by decide),c3 3 (.inl rfl)]
  show _<=(8:Int);omega
 ·rw[b1 (by decide),c3 4 (.inr rfl)]
  show _<=(28:Int);omega
theorem N7(h:yR M)(hG:∀i,i<M.rules.length->eI (xP M.aa (uW M i).head) (uW M i) (G i))(hi:i<(yM M G).length):mA (yM M G) i=false:=by
 unfold mA;have h1:=L4 hi
 have hk:(lA (yM M G) i).kind=1\/(lA (yM M G) i).kind=2\/(lA (yM M G) i).kind=3\/(lA (yM M G) i).kind=4:=by
  rcases QA hi with ⟨h5,e⟩|⟨j,hj,rfl,e⟩|⟨p,hp,e⟩
  ·rw[e,nQ];split
   ·exact .inl rfl
   ·exact .inr (.inl rfl)
  ·rw[e];exact .inr (.inr (.inl rfl))
  ·rw[e];exact .inr (.inr (.inr rfl))
 have h2:=NU (G:=G) h _ hk;rw[ty (by omega),bt];rcases QA hi with ⟨h5,e⟩|⟨j,hj,rfl,e⟩|⟨p,hp,e⟩
 ·rw[e,ty (tY M i).1];rfl
 ·rw[e]
  have hg:=hG j hj;have hr:=h.rules _ (fV hj);have t6:=hr.tests.2.1;have p4:=hr.parts.2.1;have ht:=hg.aj;have hd:=hg.dep;unfold Ea mF;have e1:(rD (uW M j) j (G j)).tests=(G j).t:=rfl;have e2:(rD (uW M j) j (G j)).dep=(G j).p:=rfl;have e3:(rD (uW M j) j (G j)).sum=wF (uW M j).parts:=rfl
  have e4:(wF (uW M j).parts).any jD=false:=by
   rw[List.any_eq_false];intro x hx;obtain⟨p,hp,m,rfl⟩:=QI hx;rw[NZ (hr.parts.2.2 p hp) m];decide
  rw[e1,e2,e3,e4,Bn,ty (show ¬ 6<(G j).t by omega),ty (show ¬ 4<(G j).p by omega),ty (show ¬ 4<(uW M j).parts.length by omega)];simp
 ·rw[e];rfl
def Y9(nm:Bs):Nat:=if nm.getD 0 0=99 then (nm.getD 1 0).toNat else 0
theorem uy(nm:Bs)(l:List Bs):∀(i a:Nat),kJ nm l i=(a:Int)->i<=a/\l.getD (a-i) []=nm:=by
 induction l with
 | nil=>intro i a h;rw[kJ]at h;omega
 | cons x r ih =>
   intro i a h;rw[kJ]at h;by_cases hx:x=nm
   ·rw[tr hx]at h
    have:i=a:=by omega
    subst this;exact⟨tg _,by rw[Nat.sub_self];exact hx⟩
   ·rw[tj hx]at h
    obtain⟨h1,h2⟩:=ih (i+1) a h;refine⟨by omega,?_⟩;rw[show a-i=(a-(i+1))+1 by omega];exact h2
theorem dQ{aA:List Bs}{a:Nat}(h:zQ aA nm=(a:Int)):aA.getD a []=nm:=by
 have:=(uy nm aA 0 a h).2
 rwa [Nat.sub_zero]at this
theorem K9:∀d,d<4->Y9 (xU 99 d)=97+d:=by decide
theorem PJ:∀i,i<5->Y9 (xC i)=0:=by decide
theorem Ge:∀d,d<8->((xU 114 d).getD 1 0).toNat=97+d:=by decide
theorem FL{Gr:List Bool}(hl:Gr.length=64)(R:Nat->Nat)(h:∀a b,a<8->b<8->gA Gr a b=true->R b<R a):jA Gr=false:=by
 cases hr:jA Gr
 ·rfl
 ·obtain⟨a,ha,ht⟩:=(JO hl).1 hr
  have:=ht (λx y=>R y<R x) (λx y aK=>h x y aK.1 aK.2.1 aK.2.2) (λx y z h1 h2=>Nat.lt_trans h2 h1);exact x' this (Nat.lt_irrefl _)
theorem Eu(a b:Nat):gA gZ a b=false:=by
 unfold gA gZ;rw[mq,cy];split <;> rfl
theorem SS(ag:List Bs)(ls:List zE):∀Gr,(qN ag ls Gr).length=Gr.length:=by
 induction ls with
 | nil=>intro Gr;rfl
 | cons x r ih=>intro Gr;rw[qN,ih];split
                ·rw[lL]
                ·rfl
theorem SA(h:yR M)(hG:∀i,i<M.rules.length->eI (xP M.aa (uW M i).head) (uW M i) (G i))(aA:List Bs){F:List zE}(hm:∀x∈F,x∈yM M G):jA (kW aA F gZ)=false:=by
 refine FL (by rw[nJ,yX]) (λa=>Y9 (aA.getD a [])) λa b ha hb aB=>?_;rw[U4 aA F ha hb gZ yX,Eu,bt]at aB;obtain⟨x,hx,hp⟩:=mw.1 aB;unfold wg at hp;simp only[ma,ce,ml,mw]at hp;rcases Xw (hm x hx) with ⟨k,hk,rfl⟩|⟨j,hj,rfl⟩|⟨p,hp',rfl⟩
 ·exact x' hp.1 (tY M k).1
 ·have hr:=h.rules _ (fV hj)
  have hh:=hr.head;obtain⟨-,ea,hp⟩:=hp;have ea:=dQ ea;have va:Y9 (aA.getD a [])=97+(uW M j).head:=by rw[ea];exact K9 _ hh
  show Y9 (aA.getD b [])<Y9 (aA.getD a []);rw[va];rcases hp with ⟨y,hy,eb⟩|⟨y,hy,e5,eb⟩
  ·have eb:=dQ eb
   obtain⟨p,aT,m,rfl⟩:=QI hy;rw[eb];rcases Bo (hr.parts.2.2 p aT) m with e|⟨i,hi,e⟩|⟨d,hd,e⟩
   ·rw[e,show Y9 []=0 from rfl];omega
   ·rw[e,PJ i (by omega)];omega
   ·have:=(Ql hd).2
    rw[e,K9 d (by omega)];omega
  ·have eb:=dQ eb
   rw[eb];rcases(hG j hj).EC y hy with hk|⟨t,ht,rfl⟩
   ·omega
   ·rcases JF ht with e|⟨i,h1,h2,e⟩|⟨d,hd,e⟩|⟨i,o,hi,e1,e2,e3,ho⟩
    ·rw[e]at e5;cases e5
    ·rw[e]at e5;cases e5
    ·have:=(Ql hd).2
     rw[e];show Y9 (xU 99 d)<_;rw[K9 d (by omega)];omega
    ·rw[e1]at e5;cases e5
 ·exact x' hp.1 (show ¬(4:Int)=3 by decide)
theorem SU(h:yR M)(ag:List Bs){F:List zE}(hm:∀x∈F,x∈yM M G):jA (qN ag F gZ)=false:=by
 have h8:=h.aj;refine FL (by rw[SS,yX]) (λa=>300-((ag.getD a []).getD 1 0).toNat) λa b ha hb aB=>?_;rw[XZ ag F ha hb gZ yX,Eu,bt]at aB;obtain⟨x,hx,hp⟩:=mw.1 aB;unfold se at hp;simp only[ma,ml]at hp;rcases Xw (hm x hx) with ⟨k,hk,rfl⟩|⟨j,hj,rfl⟩|⟨p,hp',rfl⟩
 ·exact x' hp.1 (tY M k).2
 ·exact x' hp.1 (show ¬(3:Int)=4 by decide)
 ·obtain⟨p1,p2,-⟩:=KU h hp'
  obtain⟨-,ea,eb⟩:=hp;have ea:=dQ ea;have eb:=dQ eb;show 300-((ag.getD b []).getD 1 0).toNat<300-((ag.getD a []).getD 1 0).toNat;rw[ea,eb];have e1:=Ge p.1 (by omega);have e2:=Ge p.2 (by omega);show 300-((xU 114 p.2).getD 1 0).toNat<300-((xU 114 p.1).getD 1 0).toNat;rw[e1,e2];omega
theorem YM(h:yR M)(hG:∀i,i<M.rules.length->eI (xP M.aa (uW M i).head) (uW M i) (G i)):uE (yM M G)=(0,0):=by
 unfold uE;rw[Dt _ 0 λi _ hi=>N7 h hG (by omega)];show QJ _=_;unfold QJ;rw[qm _ 0 λi _ hi=>MB h hG (by omega)];show XP _=_;unfold XP;rw[SA h hG _ λ_ h=>h,SU (G:=G) h _ λ_ h=>h,i6,i6]
end Go.Proofs.YtnbpdffdnphbeabGreatDoor
