import Derived.Test.YtnbpdffdnphbeabGreatDoorPGrd
set_option maxRecDepth 100000
namespace Go.Proofs.YtnbpdffdnphbeabGreatDoor
variable {P:List PT}
variable{k:Int}{b a:List Bs}{ps:List xJ}{ls:List zE}{B j i:Nat}{p:xJ}{t:yB}{M:yC}{x:zE}(n:Nat)
structure GR where
 nd:List zT
 root:Int
 t:Int
 p:Int
structure sN(low:List Nat)(r:vP)(g:GR):Prop where
 dep:g.p<=4
 few:g.t=(r.tests.length:Nat)
 nds:∀z∈g.nd,zF0 low z
 good:dA g.nd
 cnt:g.nd.length<=100
 den:∃t l k,r.tests=t::l/\zG4 low g.nd g.root k (kz r.whole t l)
def nX(M:yC)(i:Nat):zE:=if i<3 then ⟨1,yK i,M.lo i,M.hi i,[],[],[],0,0,0,[]⟩ else ⟨2,yK i,0,0,[],[],[],0,0,0,[]⟩
def gK(r:vP)(i:Nat)(g:GR):zE:=⟨3,yZ 114 i,0,0,yZ 99 r.head,aV r.parts,g.nd,g.root,g.t,g.p,[]⟩
def cM(p:Nat × Nat):zE:=⟨4,yZ 114 p.1,0,0,[],[],[],0,0,0,yZ 114 p.2⟩
def Qc(M:yC):List (Nat × Nat):=(List.range M.rules.length).flatMap fun i=>(List.range M.rules.length).flatMap fun k=>if M.over i k=true then [(i,k)] else []
def vU(M:yC)(i:Nat):vP:=M.rules.getD i gE
def zX(M:yC)(G:Nat->GR):List zE:=(List.range 5).map (nX M)++(List.range M.rules.length).map (fun i=>gK (vU M i) i (G i))++(Qc M).map cM
theorem bL(hi:i<M.rules.length):vU M i∈M.rules:=tN gE hi
def zIN(P:List PT)(l:List Bs)(Q:zE->Prop):Prop:=(∀w r,l=w::r->yJ w≠0)/\0<l.length/\∀a,wH P a l->a+l.length<P.length->∃x,Q x/\vZ P (a,false)=(x,(a+l.length,false))
theorem UT{ws:List Bs}(h:D6 x ws):zIN P ws (· = x):=⟨h.1,h.2.1,fun a hA hl=>⟨x,rfl,h.2.2 P a hA hl⟩⟩
theorem zGX(hM:yD M)(hi:i<M.rules.length)(lo:Bool):zIN P (cF (vU M i) i lo) (fun x=>∃g,sN (xH M.heads (vU M i).head) (vU M i) g/\x=gK (vU M i) i g):=by
 have h8:=hM.few;have hr:=hM.rules _ (bL hi);generalize vU M i=r at *;have hh:=hr.head;have hl4:∀d∈xH M.heads r.head,d<4:=fun d hd=>by have:=iB hd;omega
 have hn:yJ (yZ 114 i)=2:=pX (.inr (.inr (.inr rfl))) (by omega);have hc:yJ (yZ 99 r.head)=2:=pX (.inr (.inr (.inl rfl))) (by omega);have hS:=yg hl4 hr.parts
 obtain⟨t,l,htl⟩:∃t l,r.tests=t::l:=by
  have:=hr.tests.1
  cases h:r.tests with
  | nil=>rw[h]at this;simp at this
  | cons t l=>exact⟨t,l,rfl⟩
 have hT:=hr.tests;rw[htl]at hT
 have e:cF r i lo=Df::yZ 114 i::[58]::yZ 99 r.head::[61]::(bK r.parts++qR::(bE r.whole (t::l) lo++[cP])):=by
  unfold cF;rw[htl];simp[Df,qR,cP]
 have h100:=(xj hr i lo).2;rw[e]at h100;rw[e];refine⟨fun w r h=>by cases h;decide,by simp,fun a h zKA=>?_⟩;obtain⟨h0,h1,h2,h3,h4,h5⟩:=h;generalize hSS:bK r.parts=S at *;generalize hGG:bE r.whole (t::l) lo=GG at *;have hl:a+(S.length+GG.length+7)<P.length:=by simp at zKA;omega
 rw[show S++qR::(GG++[cP])=(S++[qR])++(GG++[cP]) by simp]at h5;obtain⟨hs,hg⟩:=h5.app;obtain⟨_,hw⟩:=hs.app;obtain⟨hg1,hge⟩:=hg.app;have es:=hS P _ hs (by omega);rw[tl,me,<-cy]at hg hg1 hge;rw[<-hGG]at hg;obtain⟨root,nd,p,k,eg,hp,hD,hN,hGd,hCn⟩:=ky hl4 r.whole lo hT hg (by rw[hGG];omega);rw[hGG]at eg;have ew:=dP hw.1 (by decide);have ee:=dP hge.1 (by decide);refine⟨gK r i ⟨nd,root,(l.length:Int)+1,p⟩,⟨⟨nd,root,(l.length:Int)+1,p⟩,⟨hp,by rw[htl];simp,hN,hGd,by rw[hGG]at hCn;simp at h100;show nd.length<=100;omega,t,l,k,htl,hD⟩,rfl⟩,?_⟩
 have el:tB P (a+1,false)=(gK r i ⟨nd,root,(l.length:Int)+1,p⟩,(a+(Df::yZ 114 i::[58]::yZ 99 r.head::[61]::(S++qR::(GG++[cP]))).length,false)):=by
  unfold tB;simp only[mU h1 hn,dP h2 (by decide),mU h3 hc,dP h4 (by decide),es,ew,eg,show ([59]:Bs)=cP from rfl,ee];refine Prod.ext rfl (Prod.ext ?_ rfl);simp;omega
 unfold vZ;simp only[qX h0 [110,117,109] (fun _=>by decide),qX h0 [102,108,97,103] (fun _=>by decide),show ([114,117,108,101]:Bs)=Df from rfl,bA h0 (by decide)];exact el
theorem in_k(hM:yD M)(hi:i<5):zIN P (fR M i) (· = nX M i):=by
 unfold fR nX;have hk:=mZ hi;by_cases h3:i<3
 ·rw[tm h3,tm h3]
  have hn:=hM.nums i h3;obtain⟨a1,a2⟩:=gT (n:=M.lo i) (by omega) (by omega);obtain⟨b1,b2⟩:=gT (n:=M.hi i) (by omega) (by omega);have:=Fm hk a1 b1;rw[a2,b2]at this;exact UT this
 ·rw[tb h3,tb h3]
  exact UT (UQ hk)
theorem J3(h:yD M){p:Nat × Nat}(hp:p∈Qc M):p.1<p.2/\p.2<M.rules.length/\M.over p.1 p.2=true:=by
 unfold Qc at hp;obtain⟨i,hi,hp⟩:=bh.1 hp;obtain⟨k,hk,hp⟩:=bh.1 hp;split at hp
 ·rename_i ho
  rw[pw.1 hp];have:=h.over i k ho;exact⟨this.1,this.2.1,ho⟩
 ·cases hp
theorem ov_k(hM:yD M){p:Nat × Nat}(hp:p∈Qc M):zIN P (ZR p.1 p.2) (· = cM p):=by
 have h1:=J3 hM hp;have h8:=hM.few;exact UT (UP (pX (.inr (.inr (.inr rfl))) (by omega)) (pX (.inr (.inr (.inr rfl))) (by omega)))
def mI:List (zE->Prop)->List zE->Prop
 | [],[]=>True
 | Q::r,x::xs=>Q x/\mI r xs
 | _,_=>False
theorem Vo(P:List PT):∀(K:List (List Bs × (zE->Prop))) (n a:Nat) (acc:List zE),(∀y∈K,zIN P y.1 y.2)->wH P a (K.map Prod.fst).flatten->(yM P (a+(K.map Prod.fst).flatten.length)).k=0->a+(K.map Prod.fst).flatten.length<P.length->K.length<n->∃xs,mI (K.map Prod.snd) xs/\dT P n (a,false) acc=(acc++xs,(a+(K.map Prod.fst).flatten.length,false)):=by
 intro K
 induction K with
 | nil =>
   intro n a acc hR hA hk hl hn;obtain⟨n,rfl⟩:∃k,n=k+1:=⟨n-1,by simp at hn;omega⟩;refine⟨[],trivial,?_⟩;rw[dT];simp only[List.map_nil,List.flatten_nil,List.length_nil,l6]at hk ⊢;rw[tm hk,mq]
 | cons y K ih =>
   intro n a acc hR hA hk hl hn;obtain⟨n,rfl⟩:∃k,n=k+1:=⟨n-1,by simp at hn;omega⟩;obtain⟨hx0,hx1,hx⟩:=hR y (by simp);obtain⟨l,Q⟩:=y;simp only at hx0 hx1 hx;have e0:(List.map Prod.fst ((l,Q)::K)).flatten=l++(List.map Prod.fst K).flatten:=rfl;rw[e0]at hA hk hl ⊢;rw[tl]at hk hl ⊢;obtain⟨h1,h2⟩:=hA.app;obtain⟨x,hQ,e⟩:=hx a h1 (by omega)
   have hk0:(yM P a).k≠0:=by
    cases l with
    | nil=>simp at hx1
    | cons w r=>rw[h1.1.1];exact hx0 w r rfl
   obtain⟨xs,hxs,ex⟩:=ih n (a+l.length) (acc++[x]) (fun y hy=>hR y (ms _ hy)) h2 (by rw[cy];exact hk) (by omega) (by simp at hn;omega);refine⟨x::xs,⟨hQ,hxs⟩,?_⟩;rw[dT];simp only[e];rw[tb hk0,ex,pr,List.singleton_append,cy]
theorem mI.app{A B:List (zE->Prop)}:∀ {xs:List zE},mI (A++B) xs->∃xa xb,xs=xa++xb/\mI A xa/\mI B xb:=by
 induction A with
 | nil=>intro xs h;exact⟨[],xs,rfl,trivial,h⟩
 | cons Q r ih =>
   intro xs h
   cases xs with
   | nil=>exact absurd h id
   | cons x xs =>
     obtain⟨xa,xb,e,h1,h2⟩:=ih h.2;exact⟨x::xa,xb,by rw[e];rfl,⟨h.1,h1⟩,h2⟩
theorem mI.eq{β:Type}{f:β->zE}{zs:List β}:∀ {xs:List zE},mI (zs.map fun z x=>x=f z) xs->xs=zs.map f:=by
 induction zs with
 | nil=>intro xs h;cases xs with
   | nil=>rfl
   | cons x xs=>exact absurd h id
 | cons z r ih=>intro xs h;cases xs with
   | nil=>exact absurd h id
   | cons x xs=>rw[dq,ih h.2,h.1]
theorem mI.one{Q:zE->Prop}{xs:List zE}(h:mI [Q] xs):∃x,xs=[x]/\Q x:=by
 cases xs with
 | nil=>exact absurd h id
 | cons x xs =>
   cases xs with
   | nil=>exact⟨x,rfl,h.1⟩
   | cons y ys=>exact absurd h.2 id
theorem mI.ex{S:Nat->GR->Prop}{F:Nat->GR->zE}:∀ {xs:List zE},mI ((List.range n).map fun i x=>∃g,S i g/\x=F i g) xs->∃G:Nat->GR,(∀i,i<n->S i (G i))/\xs=(List.range n).map fun i=>F i (G i):=by
 induction n with
 | zero =>
   intro xs h
   cases xs with
   | nil=>exact⟨fun _=>⟨[],0,0,0⟩,fun i hi=>absurd hi (by simp),rfl⟩
   | cons x xs=>exact absurd h id
 | succ n ih =>
   intro xs h;rw[lh,bg]at h;obtain⟨xa,xb,e,h1,h2⟩:=mI.app h;obtain⟨G,hG,ea⟩:=ih h1;obtain⟨x,ex,g,hg,eg⟩:=mI.one h2;refine⟨fun i=>if i=n then g else G i,fun i hi=>?_,?_⟩
   ·show S i (if i=n then g else G i)
    by_cases zKF:i=n
    ·rw[tm zKF,zKF];exact hg
    ·rw[tb zKF];exact hG i (by omega)
   ·rw[e,ea,ex,eg,lh,bg]
    congr 1
    ·refine List.map_congr_left fun i hi=>?_
     have:=pq.1 hi;show F i (G i)=F i (if i=n then g else G i);rw[tb (show ¬i=n by omega)]
    ·simp
def VD(M:yC)(lo:Bool):List (List Bs × (zE->Prop)) :=
 (List.range 5).map (fun i=>(fR M i,fun x=>x=nX M i))++(List.range M.rules.length).map (fun i=>(cF (vU M i) i lo,fun x=>∃g,sN (xH M.heads (vU M i).head) (vU M i) g/\x=gK (vU M i) i g))++(Qc M).map (fun p=>(ZR p.1 p.2,fun x=>x=cM p))
theorem KW(M:yC):((List.range M.rules.length).flatMap fun i=>tE M i M.rules.length)=(Qc M).map fun p=>ZR p.1 p.2:=by
 unfold Qc tE;rw[List.map_flatMap];congr 1
 funext i
 rw[List.map_flatMap];congr 1
 funext k
 split <;> rfl
theorem aS(M:yC)(lo:Bool):(VD M lo).map Prod.fst=vF M lo:=by
 unfold VD vF;rw[KW,bg,bg,List.map_map,List.map_map,List.map_map];rfl
theorem Dq(h:yD M)(lo:Bool):∀y∈VD M lo,zIN P y.1 y.2:=fun y hy=>by
 unfold VD at hy;rcases pu.1 hy with hy|hy
 ·rcases pu.1 hy with hy|hy
  ·obtain⟨i,hi,rfl⟩:=p8.1 hy
   exact in_k h (pq.1 hi)
  ·obtain⟨i,hi,rfl⟩:=p8.1 hy
   exact zGX h (pq.1 hi) lo
 ·obtain⟨p,hp,rfl⟩:=p8.1 hy
  exact ov_k h hp
theorem j9(h:yD M)(lo:Bool):(VD M lo).length<=(vF M lo).flatten.length:=by
 have:∀K:List (List Bs × (zE->Prop)),(∀y∈K,zIN [] y.1 y.2)->K.length<=(K.map Prod.fst).flatten.length:=by
  intro K
  induction K with
  | nil=>intro _;simp
  | cons y r ih =>
    intro hK;have h1:=ih (fun z hz=>hK z (ms _ hz));have h2:=(hK y (by simp)).2.1;rw[dq,List.flatten_cons,tl,pd];omega
 have h2:=this _ (Dq (P:=[]) h lo)
 rwa [aS]at h2
theorem BK(h:yD M)(lo:Bool){l:Bs}(ht:tw l=(vF M lo).flatten):∃G:Nat->GR,(∀i,i<M.rules.length->sN (xH M.heads (vU M i).head) (vU M i) (G i))/\(kL l).1=zX M G/\(kL l).2.2=false:=by
 have hn:=zF8 l;have hk:=zp l;have hA:=CA l;have hf:=j9 h lo;rw[ht,<-aS]at hn hk hA;rw[<-aS]at hf;obtain⟨xs,hxs,e⟩:=Vo (lY l) (VD M lo) (2*(lY l).length+1) 0 [] (Dq h lo) hA (by rw[cq];exact hk) (by omega) (by omega)
 have es:(VD M lo).map Prod.snd=(List.range 5).map (fun i x=>x=nX M i)++(List.range M.rules.length).map (fun i x=>∃g,sN (xH M.heads (vU M i).head) (vU M i) g/\x=gK (vU M i) i g)++(Qc M).map (fun p x=>x=cM p):=by
  unfold VD;rw[bg,bg,List.map_map,List.map_map,List.map_map];rfl
 rw[es]at hxs;obtain⟨xa,x3,e1,h1,h3⟩:=mI.app hxs;obtain⟨x1,x2,e2,h1,h2⟩:=mI.app h1;have q1:=mI.eq h1;have q3:=mI.eq h3;obtain⟨G,hG,q2⟩:=mI.ex (S:=fun i g=>sN (xH M.heads (vU M i).head) (vU M i) g) (F:=fun i g=>gK (vU M i) i g) M.rules.length h2;refine⟨G,hG,?_,?_⟩
 ·unfold kL
  rw[e];show []++xs=_;rw[e1,e2,q1,q2,q3];rfl
 ·unfold kL
  rw[e]
theorem zAQ{p:UInt8->Prop}(h:∀n,n<256->p (UInt8.ofNat n))(c:UInt8):p c:=by
 have:=h c.toNat (UInt8.toNat_lt c)
 rwa [UInt8.ofNat_toNat]at this
theorem zJP:∀n,n<256->so (UInt8.ofNat n)=2->zFO [UInt8.ofNat n]=true:=by decide +kernel
theorem ql(c:UInt8)(r:Bs):zFO (c::r)=zFO [c]:=rfl
theorem zFE{f:UInt8}(i:Nat)(hf:f=110\/f=102\/f=99\/f=114):zFO (yZ f i)=true:=by
 unfold yZ;rcases hf with rfl|rfl|rfl|rfl <;> rfl
theorem zJG{n:Int}(h0:0<=n)(h1:n<=9999):zFO (Lib.itoa n)=true:=by
 obtain⟨a1,a2,-⟩:=nO h0 h1
 cases h:Lib.itoa n with
 | nil=>exact absurd h a1
 | cons c r =>
   rw[ql];have:=a2 c (by rw[h];simp);exact zAQ (p:=fun c=>so c=2->zFO [c]=true) zJP c this
def XQ:List Bs->Prop
 | []=>True
 | w::r=>((w=[60]\/w=[62])->∃x r',r=x::r'/\zFO x=true)/\XQ r
theorem XQ.app(ha:XQ a)(hb:XQ b):XQ (a++b):=by
 induction a with
 | nil=>exact hb
 | cons w r ih =>
   refine⟨fun h=>?_,ih ha.2⟩;obtain⟨x,r',e,hx⟩:=ha.1 h;exact⟨x,r'++b,by rw[e];rfl,hx⟩
theorem yS{w:Bs}{r:List Bs}(h1:w≠[60]/\w≠[62])(hr:XQ r):XQ (w::r):=⟨fun h=>h.elim (fun h=>absurd h h1.1) (fun h=>absurd h h1.2),hr⟩
theorem uH:XQ []:=trivial
theorem bN{p:Prop}[Decidable p](ha:p->XQ a)(hb:¬p->XQ b):XQ (if p then a else b):=by split <;> rename_i h;exact ha h;exact hb h
theorem Vd{f:Nat->List Bs}(h:∀i,i<n->XQ (f i)):XQ ((List.range n).flatMap f):=by
 induction n with
 | zero=>trivial
 | succ n ih =>
   rw[lh,li];refine(ih fun i hi=>h i (by omega)).app ?_;simpa using h n (by omega)
theorem Vc{L:List (List Bs)}(h:∀l∈L,XQ l):XQ L.flatten:=by
 induction L with
 | nil=>trivial
 | cons l r ih=>rw[List.flatten_cons];exact(h l (by simp)).app (ih fun x hx=>h x (ms _ hx))
theorem YS(f:UInt8)(i:Nat):yZ f i≠[60]/\yZ f i≠[62]:=by
 unfold yZ;simp
theorem aP(i:Nat):yK i≠[60]/\yK i≠[62]:=by unfold yK;split <;> exact YS _ _
theorem QG{n:Int}(h0:0<=n)(h1:n<=9999):Lib.itoa n≠[60]/\Lib.itoa n≠[62]:=by
 have h:=zJG h0 h1;exact⟨fun e=>by rw[e]at h;exact absurd h (by decide),fun e=>by rw[e]at h;exact absurd h (by decide)⟩
theorem zJH:zFO (yK i)=true:=by
 unfold yK;split
 ·exact zFE _ (.inl rfl)
 ·exact zFE _ (.inr (.inl rfl))
theorem zA4{low:List Nat}(h:vB low t):XQ (uN t):=by
 unfold uN;rcases h with h|⟨h,x1,x2⟩|⟨h,d,hd,hx⟩|⟨h,⟨x1,x2⟩,⟨y1,y2⟩,⟨m1,m2⟩,n1,n2⟩
 ·rw[tm h];exact yS (by decide) trivial
 ·rw[tb (by omega),tm h];exact yS (aP _) trivial
 ·rw[tb (by omega),tb (by omega),tm h]
  exact yS (by decide) (yS (YS _ _) uH)
 ·rw[tb (by omega),tb (by omega),tb (by omega)]
  exact bN (fun _=>yS (aP _) ⟨fun _=>⟨_,_,rfl,zJG n1 n2⟩,yS (QG n1 n2) uH⟩) (fun _=>yS (aP _) ⟨fun _=>⟨_,_,rfl,zJH⟩,yS (aP _) uH⟩)
theorem gO{x:Bs}(hx:x≠[60]/\x≠[62]){p:Prop}[Decidable p]:XQ (if p then [x] else []):=bN (fun _=>yS hx uH) (fun _=>uH)
theorem zBR{low:List Nat}(h:vB low t)(lo:Bool):XQ (xC t lo):=by
 unfold xC;exact(((gO (by decide)).app (gO (by decide))).app (zA4 h)).app (gO (by decide))
theorem zDV{low:List Nat}{ts:List yB}(h:tF low ts)(wh lo:Bool):XQ (bE wh ts lo):=by
 unfold bE jF;refine(((gO (by decide)).app (gO (by decide))).app (Vd _ fun i hi=>?_)).app (gO (by decide));refine XQ.app ?_ (zBR (h.2.2 _ (tN bQ hi)) lo);unfold kO;exact bN (fun _=>uH) (fun _=>bN (fun _=>yS (by decide) uH) (fun _=>yS (by decide) uH))
theorem zC1{low:List Nat}(h:jG low ps):XQ (bK ps):=by
 unfold bK pE;refine Vd _ fun i hi=>?_;have hp:=h.2.2 _ (tN sU hi);generalize ps.getD i sU=p at *;unfold mN dK uW tS qD;refine(((bN (fun _=>uH) (fun _=>bN (fun _=>yS (by decide) uH) (fun _=>yS (by decide) uH))).app (bN (fun hc=>yS ?_ uH) (fun _=>uH))).app (gO (by decide))).app (bN (fun hn=>yS (aP _) uH) (fun _=>bN (fun hh=>yS (YS _ _) uH) (fun _=>uH)));rcases hp with ⟨-,h1,-,-⟩|⟨h0,h1,-⟩|⟨-,h1,-⟩|⟨h1,-,-⟩
 ·exact QG h1.1 h1.2
 ·rcases hc with hc|hc
  ·exact absurd (hc.symm.trans h0) (by simp)
  ·omega
 ·exact QG h1.1 (by omega)
 ·exact QG h1.1 (by omega)
theorem zIZ(h:yD M)(lo:Bool):XQ (vF M lo).flatten:=Vc fun l hl=>by
 unfold vF at hl;rcases pu.1 hl with hl|hl
 ·rcases pu.1 hl with hl|hl
  ·obtain⟨i,hi,rfl⟩:=p8.1 hl
   unfold fR;split
   ·rename_i h3
    have:=h.nums i h3;exact yS (by decide) (yS (aP _) (yS (QG (by omega) (by omega)) (yS (by decide) (yS (QG (by omega) (by omega)) (yS (by decide) uH)))))
   ·exact yS (by decide) (yS (aP _) (yS (by decide) uH))
  ·obtain⟨i,hi,rfl⟩:=p8.1 hl
   have hr:=h.rules _ (tN gE (pq.1 hi));generalize M.rules.getD i gE=r at *;have q1:XQ [[114,117,108,101],yZ 114 i,[58],yZ 99 r.head,[61]]:=yS (by decide) (yS (YS _ _) (yS (by decide) (yS (YS _ _) (yS (by decide) uH))));unfold cF;exact(((q1.app (zC1 hr.parts)).app (yS (by decide) uH)).app (zDV hr.tests _ _)).app (yS (by decide) uH)
 ·obtain⟨i,hi,hl⟩:=bh.1 hl
  unfold tE at hl;obtain⟨j,hj,hl⟩:=bh.1 hl;split at hl
  ·rw[pw.1 hl]
   exact yS (by decide) (yS (YS _ _) (yS (YS _ _) (yS (by decide) uH)))
  ·cases hl
def mE:List Bs->Nat
 | []=>0
 | w::r=>w.length+3+mE r
theorem qT(a b:List Bs):mE (a++b)=mE a+mE b:=by
 induction a with
 | nil=>simp[mE]
 | cons w r ih=>simp only[cd,mE];rw[ih];omega
theorem XA{β:Type}{f:β->List Bs}(zs:List β)(h:∀z∈zs,mE (f z)<=B):mE (zs.flatMap f)<=zs.length*B:=by
 induction zs with
 | nil=>simp[mE]
 | cons z r ih =>
   rw[bf,qT,pd,Nat.succ_mul];have:=h z (by simp);have:=ih fun x hx=>h x (ms _ hx);omega
theorem iT{p:Prop}[Decidable p](ha:p->mE a<=B)(hb:¬p->mE b<=B):mE (if p then a else b)<=B:=by split <;> rename_i h;exact ha h;exact hb h
theorem zBC(r:List Bs):(DG r).length<=mE r+1:=by
 induction r with
 | nil=>simp[DG,mE]
 | cons w r ih =>
   have h:(if w=[59] then w else 32::w).length<=w.length+1:=by
    split
    ·omega
    ·rw[pd];exact j1 _
   rw[DG,tl,mE];omega
theorem Uv{l:List Bs}(h:0<l.length):(mP l).length<=mE l:=by
 cases l with
 | nil=>simp at h
 | cons w r=>have:=zBC r;rw[mP,tl,mE];omega
theorem zBD(L:List (List Bs))(h:∀l∈L,0<l.length):(eK L).length<=mE L.flatten:=by
 induction L with
 | nil=>simp[eK,mE]
 | cons l r ih =>
   have h1:=ih fun x hx=>h x (ms _ hx);have h2:=Uv (h l (by simp));unfold eK at h1 ⊢;rw[bf,tl,List.flatten_cons,qT];omega
theorem Ye(f:UInt8)(i:Nat):(yZ f i).length=2:=rfl
theorem cS(i:Nat):(yK i).length=2:=by unfold yK;split <;> rfl
theorem qk{n:Int}(h0:0<=n)(h1:n<=9):(Lib.itoa n).length=1:=by
 rw[B5 h0,Lib.decDigits_one (by omega)];rfl
theorem zD6{k:Nat}(hk:k<6):(sA k).length<=2:=(show ∀k,k<6->(sA k).length<=2 by decide) k hk
theorem VZ{low:List Nat}(h:pA low p):mE (uO p)<=13:=by
 obtain⟨mi,ti,n,nu,hd⟩:=p;rcases h with ⟨h0,h1,h2,h3⟩|⟨h0,h1,h2⟩|⟨h0,h1,h2,h3⟩|⟨h1,h2,d,hd4,h3⟩
 ·simp only at h0 h1 h2 h3
  subst h0 h2 h3;have e:uO ⟨mi,false,n,-1,-1⟩=[Lib.itoa n]:=by simp[uO,uW,tS,qD]
  have:=(nO h1.1 h1.2).2.2.1;rw[e];simp only[mE];omega
 ·simp only at h0 h1 h2
  subst h0 h2;have e:uO ⟨mi,false,n,nu,-1⟩=[yK nu.toNat]:=by simp[uO,uW,tS,qD,h1.1]
  rw[e];simp only[mE,cS];omega
 ·simp only at h0 h1 h2 h3
  subst h0 h3;have e:uO ⟨mi,true,n,nu,-1⟩=[Lib.itoa n,[42],yK nu.toNat]:=by simp[uO,uW,tS,qD,h2.1]
  rw[e];simp only[mE,cS,qk h1.1 h1.2,pd,List.length_nil];omega
 ·simp only at h1 h2 h3
  subst h2 h3;cases ti
  ·have e:uO ⟨mi,false,n,-1,d⟩=[yZ 99 d]:=by simp[uO,uW,tS,qD]
   rw[e];simp only[mE,Ye];omega
  ·have e:uO ⟨mi,true,n,-1,d⟩=[Lib.itoa n,[42],yZ 99 d]:=by simp[uO,uW,tS,qD]
   rw[e];simp only[mE,Ye,qk h1.1 h1.2,pd,List.length_nil];omega
theorem zC3{low:List Nat}(h:jG low ps):mE (bK ps)<=64:=by
 cases ps with
 | nil=>exact absurd h.1 (by simp)
 | cons p r =>
   rw[CE,qT];have h1:=VZ (h.2.2 p (by simp))
   have h2:mE (pD r)<=r.length*17:=XA r fun q hq=>by
    have:=VZ (h.2.2 q (ms _ hq));have h3:mE (oB q)=4:=by unfold oB;split <;> rfl
    rw[qT];omega
   have h3:=h.2.1;rw[pd]at h3;omega
theorem zA5{low:List Nat}(h:vB low t):mE (uN t)<=17:=by
 unfold uN;rcases h with h|⟨h,x1,x2⟩|⟨h,d,hd,hx⟩|⟨h,⟨x1,x2⟩,⟨y1,y2⟩,⟨m1,m2⟩,n1,n2⟩
 ·rw[tm h];decide
 ·rw[tb (by omega),tm h];simp only[mE,cS];omega
 ·rw[tb (by omega),tb (by omega),tm h]
  have:sT.length=3:=rfl;simp only[mE,Ye,this];omega
 ·rw[tb (by omega),tb (by omega),tb (by omega)]
  have hm:=zD6 (k:=t.mark.toNat) (by omega);have hi:=(nO n1 n2).2.2.1;exact iT (fun _=>by simp only[mE,cS];omega) (fun _=>by simp only[mE,cS];omega)
theorem rW{x:Bs}(hx:x.length+3<=B){p:Prop}[Decidable p]:mE (if p then [x] else [])<=B:=iT (fun _=>by simp only[mE];omega) (fun _=>by simp only[mE];omega)
theorem zBS{low:List Nat}(h:vB low t)(lo:Bool):mE (xC t lo)<=31:=by
 unfold xC;rw[qT,qT,qT];have h1:=zA5 h;have h2:mE (if t.not=true then [[110,111,116]] else [])<=6:=rW (by decide);have h3:mE (if (lo&&t.pair)=true then [[40]] else [])<=4:=rW (by decide);have h4:mE (if (lo&&t.pair)=true then [[41]] else [])<=4:=rW (by decide);omega
theorem zDW{low:List Nat}{ts:List yB}(h:tF low ts)(wh lo:Bool):mE (bE wh ts lo)<=236:=by
 unfold bE jF;rw[qT,qT,qT]
 have h1:mE ((List.range ts.length).flatMap fun j=>kO j (ts.getD j bQ)++xC (ts.getD j bQ) lo)<=(List.range ts.length).length*37:=XA _ fun j hj=>by
  have:=zBS (h.2.2 _ (tN bQ (pq.1 hj))) lo;have h3:mE (kO j (ts.getD j bQ))<=6:=by unfold kO;exact iT (fun _=>by decide) (fun _=>iT (fun _=>by decide) (fun _=>by decide))
  rw[qT];omega
 have hl:=h.2.1;rw[List.length_range]at h1;have h2:mE (if wh=true then [[110,111,116]] else [])<=6:=rW (by decide);have h3:mE (if ZU wh lo ts.length=true then [[40]] else [])<=4:=rW (by decide);have h4:mE (if ZU wh lo ts.length=true then [[41]] else [])<=4:=rW (by decide);omega
theorem zCD{heads:List Nat}{r:vP}(h:nJ heads r)(i:Nat)(lo:Bool):mE (cF r i lo)<=336:=by
 unfold cF;rw[qT,qT,qT,qT];have h1:=zC3 h.parts;have h2:=zDW h.tests r.whole lo;have h3:mE [[114,117,108,101],yZ 114 i,[58],yZ 99 r.head,[61]]=25:=rfl;have h4:mE [[119,104,101,110]]=7:=rfl;have h5:mE [[59]]=4:=rfl;omega
theorem QU{β γ δ:Type}(zs:List β){f:β->List γ}{g:β->List δ}(h:∀z∈zs,(f z).length<=(g z).length):(zs.flatMap f).length<=(zs.flatMap g).length:=by
 induction zs with
 | nil=>simp
 | cons z r ih =>
   rw[bf,bf,tl,tl];have:=h z (by simp);have:=ih fun x hx=>h x (ms _ hx);omega
theorem vm:∀n,n<9->((List.range n).flatMap fun i=>(List.range n).flatMap fun k=>if i<k then [(i,k)] else []).length<=28:=by decide
theorem vq(h:yD M):((List.range M.rules.length).flatMap fun i=>tE M i M.rules.length).length<=28:=by
 have h8:=h.few;refine p7 (QU (g:=fun i=>(List.range M.rules.length).flatMap fun k=>if i<k then [(i,k)] else []) _ fun i hi=>?_) (vm M.rules.length (by omega));unfold tE;refine QU _ fun k hk=>?_;split
 ·rename_i ho
  rw[tm (h.over i k ho).1];exact j1 _
 ·exact ty _
theorem rE{L:List (List Bs)}(h:∀l∈L,mE l<=B):mE L.flatten<=L.length*B:=by
 have:=XA (f:=id) L h
 rwa [List.flatMap_id]at this
theorem FC(h:yD M)(lo:Bool):mE (vF M lo).flatten<=4000:=by
 have h8:=h.few;unfold vF;rw[List.flatten_append,List.flatten_append,qT,qT]
 have h1:mE ((List.range 5).map (fR M)).flatten<=170:=by
  refine p7 (rE (B:=34) fun l hl=>?_) (by simp);obtain⟨i,hi,rfl⟩:=p8.1 hl;unfold fR;refine iT (fun h3=>?_) (fun _=>by simp only[mE,cS,pd,List.length_nil];omega);have:=h.nums i h3;have h4:=(nO (n:=M.lo i) (by omega) (by omega)).2.2.1;have h5:=(nO (n:=M.hi i) (by omega) (by omega)).2.2.1;simp only[mE,cS,pd,List.length_nil];omega
 have h2:mE ((List.range M.rules.length).map fun i=>cF (M.rules.getD i gE) i lo).flatten<=M.rules.length*336:=by
  refine p7 (rE (B:=336) fun l hl=>?_) (by simp);obtain⟨i,hi,rfl⟩:=p8.1 hl;exact zCD (h.rules _ (tN gE (pq.1 hi))) i lo
 have h3:mE ((List.range M.rules.length).flatMap fun i=>tE M i M.rules.length).flatten<=28*21:=by
  refine p7 (rE (B:=21) fun l hl=>?_) (Nat.mul_le_mul_right _ (vq h));obtain⟨i,hi,hl⟩:=bh.1 hl;unfold tE at hl;obtain⟨j,hj,hl⟩:=bh.1 hl;split at hl
  ·rw[pw.1 hl];simp only[ZR,mE,Ye,pd,List.length_nil];omega
  ·cases hl
 omega
theorem uz(lo:Bool):∀l∈vF M lo,0<l.length:=fun l hl=>by
 unfold vF at hl;rcases pu.1 hl with hl|hl
 ·rcases pu.1 hl with hl|hl
  ·obtain⟨i,hi,rfl⟩:=p8.1 hl
   unfold fR;split <;> simp
  ·obtain⟨i,hi,rfl⟩:=p8.1 hl
   unfold cF;simp
 ·obtain⟨i,hi,hl⟩:=bh.1 hl
  unfold tE at hl;obtain⟨j,hj,hl⟩:=bh.1 hl;split at hl
  ·rw[pw.1 hl];unfold ZR;simp
  ·cases hl
theorem zt(h:yD M)(lo:Bool):(eK (vF M lo)).length<=4000:=p7 (zBD _ (uz lo)) (FC h lo)
theorem Bu:∀a,(∀i,a<=i->i<a+n->tJ ls i=false)->fM ls n a=none:=by
 induction n with
 | zero=>intro a _;rfl
 | succ n ih=>intro a h;rw[fM,h a (by omega) (by omega),tb (by decide)];exact ih (a+1) fun i h1 h2=>h i (by omega) (by omega)
theorem Gu:∀a,(∀i,a<=i->i<a+n->lB ls i=0)->sL ls n a=none:=by
 induction n with
 | zero=>intro a _;rfl
 | succ n ih=>intro a h;rw[sL,h a (by omega) (by omega),tm rfl];exact ih (a+1) fun i h1 h2=>h i (by omega) (by omega)
theorem zBW(h:x∈ls.take i):∃j,j<i/\j<ls.length/\x=lA ls j:=by
 obtain⟨j,hj,e⟩:=List.mem_iff_getElem.1 h;rw[cg]at hj;refine⟨j,by omega,by omega,?_⟩;rw[<-e,List.getElem_take];unfold lA;simp[List.getD,show j<ls.length by omega]
theorem ks{nm:Bs}(h:∀j,j<i->j<ls.length->(lA ls j).kind=k->(lA ls j).name≠nm):uR (ls.take i) k nm=false:=by
 cases hh:uR (ls.take i) k nm
 ·rfl
 ·obtain⟨x,hx,hp⟩:=md.1 hh
  obtain⟨j,h1,h2,rfl⟩:=zBW hx;unfold Zb at hp;simp only[pj,pt]at hp;exact absurd hp.2 (h j h1 h2 hp.1)
theorem Do{nm:Bs}(hx:x∈ls)(h1:x.kind=k)(h2:x.name=nm):uR ls k nm=true :=
 md.2 ⟨x,hx,by unfold Zb;simp[h1,h2]⟩
theorem XC(k:Int)(a b:List zE):xZ k (a++b)=xZ k a+xZ k b:=by
 induction a with
 | nil=>simp[xZ]
 | cons x r ih=>rw[cd,xZ,xZ,ih];omega
theorem Dx(k:Int)(a:List zE):xZ k a<=a.length:=by
 induction a with
 | nil=>simp[xZ]
 | cons x r ih=>rw[xZ,pd];split <;> omega
theorem JV{a:List zE}(h:∀x∈a,x.kind≠k):xZ k a=0:=by
 induction a with
 | nil=>rfl
 | cons x r ih=>rw[xZ,tb (h x (by simp)),ih fun y hy=>h y (ms _ hy)]
theorem zID(h:i<ls.length):xZ (lA ls i).kind (ls.take i)<xZ (lA ls i).kind ls:=by
 have e:ls=ls.take i++lA ls i::ls.drop (i+1):=by
  conv=>lhs;rw[<-List.take_append_drop i ls,pm h]
  unfold lA;simp[List.getD,h]
 have h1:xZ (lA ls i).kind ls=xZ (lA ls i).kind (ls.take i)+xZ (lA ls i).kind (lA ls i::ls.drop (i+1)):=by
  generalize (lA ls i).kind=k;have h2:=congrArg (xZ k) e;rw[XC]at h2;exact h2
 rw[h1,xZ,tm rfl];omega
theorem fP(M:yC)(i:Nat):(nX M i).name=yK i:=by unfold nX;split <;> rfl
theorem fQ(M:yC)(i:Nat):(nX M i).kind=if i<3 then 1 else 2:=by unfold nX;split <;> rfl
theorem zDL:∀i,i<5->∀j,j<5->yK i=yK j->i=j:=by decide
theorem UJ:∀i,i<8->∀j,j<8->yZ 114 i=yZ 114 j->i=j:=by decide
theorem zDM:∀i,i<5->∀j,j<4->yZ 99 j≠yK i:=by decide
variable {M:yC} {G:Nat->GR}
theorem Yn(M:yC)(G:Nat->GR):(zX M G).length=5+M.rules.length+(Qc M).length:=by unfold zX;simp only[tl,pi,List.length_range]
theorem BI(h:i<5):lA (zX M G) i=nX M i:=by
 unfold lA zX;rw[pe,pr,mt (by simpa using h)];simp[h]
theorem JQ(h:j<M.rules.length):lA (zX M G) (5+j)=gK (vU M j) j (G j):=by
 unfold lA zX;rw[pe,pr,ld (by simp),mt (by simpa using h)];simp[h]
theorem zHY(h:5+M.rules.length<=i)(h2:i<(zX M G).length):∃p∈Qc M,lA (zX M G) i=cM p:=by
 have hl:=Yn M G
 have:lA (zX M G) i∈(Qc M).map cM:=by
  unfold lA zX;rw[pe,ld (by simp;omega)];have h3:i-(((List.range 5).map (nX M))++(List.range M.rules.length).map (fun i=>gK (vU M i) i (G i))).length<((Qc M).map cM).length:=by simp;omega
  rw[p9 h3];exact cx h3
 obtain⟨p,hp,e⟩:=p8.1 this;exact⟨p,hp,e.symm⟩
theorem Xw(h:i<(zX M G).length):(i<5/\lA (zX M G) i=nX M i)\/(∃j,j<M.rules.length/\i=5+j/\lA (zX M G) i=gK (vU M j) j (G j))\/(∃p∈Qc M,lA (zX M G) i=cM p):=by
 by_cases h5:i<5
 ·exact .inl ⟨h5,BI h5⟩
 ·by_cases hn:i<5+M.rules.length
  ·refine .inr (.inl ⟨i-5,by omega,by omega,?_⟩)
   have:=JQ (M:=M) (G:=G) (j:=i-5) (by omega)
   rwa [show 5+(i-5)=i by omega]at this
  ·exact .inr (.inr (zHY (by omega) h))
theorem Ym(h:x∈zX M G):(∃i,i<5/\x=nX M i)\/(∃j,j<M.rules.length/\x=gK (vU M j) j (G j))\/(∃p∈Qc M,x=cM p):=by
 unfold zX at h;rcases pu.1 h with h|h
 ·rcases pu.1 h with h|h
  ·obtain⟨i,hi,rfl⟩:=p8.1 h
   exact .inl ⟨i,pq.1 hi,rfl⟩
  ·obtain⟨i,hi,rfl⟩:=p8.1 h
   exact .inr (.inl ⟨i,pq.1 hi,rfl⟩)
 ·obtain⟨p,hp,rfl⟩:=p8.1 h
  exact .inr (.inr ⟨p,hp,rfl⟩)
theorem uj(h:i<5):nX M i∈zX M G:=by
 unfold zX;exact List.mem_append_left _ (List.mem_append_left _ (p8.2 ⟨i,pq.2 h,rfl⟩))
theorem zHB(h:j<M.rules.length):gK (vU M j) j (G j)∈zX M G:=by
 unfold zX;exact List.mem_append_left _ (List.mem_append_right _ (p8.2 ⟨j,pq.2 h,rfl⟩))
theorem jQ(M:yC)(i:Nat):(nX M i).kind≠3/\(nX M i).kind≠4:=by rw[fQ];split <;> decide
theorem Ya(h:yD M)(hj:j<M.rules.length):(vU M j).head<4:=(h.rules _ (bL hj)).head
theorem J4(h:i<3):uR (zX M G) 1 (yK i)=true:=Do (uj (G:=G) (show i<5 by omega)) (by rw[fQ,tm h]) (fP M i)
theorem jb(h:3<=i)(h5:i<5):uR (zX M G) 2 (yK i)=true:=Do (uj (G:=G) h5) (by rw[fQ,tb (by omega)]) (fP M i)
theorem Dw(h:yD M){d:Nat}(hd:d∈M.heads):mB (zX M G) (yZ 99 d)=true:=by
 rw[h.heads]at hd
 have hd2:d∈M.rules.map vP.head:=by
  have:=(pI (M.rules.map vP.head) [] (x:=d)).1 hd;rcases this with h1|h1
  ·cases h1
  ·exact h1
 obtain⟨r,hr,e⟩:=p8.1 hd2;obtain⟨j,hj,ej⟩:=List.mem_iff_getElem.1 hr;have er:vU M j=r:=by unfold vU;simp[List.getD,hj,ej]
 refine md.2 ⟨_,zHB (G:=G) hj,?_⟩;unfold Dj gK;simp[er,e]
theorem Xc{d h:Nat}(hd:d∈xH M.heads h):d∈M.heads/\d<h:=by
 unfold xH at hd;rw[mj,pq]at hd;exact⟨cb hd.2,hd.1⟩
theorem zFP(h:yD M)(hi:i<5):oV (zX M G) i=0:=by
 unfold oV;rw[BI hi,fP]
 have h1:∀k,uR ((zX M G).take i) k (yK i)=false:=fun k=>ks fun j hj hjl _ e=>by
  rw[BI (by omega),fP]at e;have:=zDL j (by omega) i hi e;omega
 have h2:mB (zX M G) (yK i)=false:=by
  cases hc:mB (zX M G) (yK i)
  ·rfl
  ·obtain⟨x,hx,hp⟩:=md.1 hc
   unfold Dj at hp;simp only[pj,pt]at hp;rcases Ym hx with ⟨k,hk,rfl⟩|⟨j,hj,rfl⟩|⟨p,hp',rfl⟩
   ·exact absurd hp.1 (jQ M k).1
   ·exact absurd hp.2 (zDM i hi _ (Ya h hj))
   ·exact absurd hp.1 (show ¬(4:Int)=3 by decide)
 rw[h1,h1,h2];rfl
theorem X4{x:xE}(h:x∈aV ps):∃p∈ps,∃m,x=nY m p:=by
 cases ps with
 | nil=>cases h
 | cons p r =>
   rcases mz.1 h with rfl|h
   ·exact⟨p,by simp,false,rfl⟩
   ·obtain⟨q,hq,rfl⟩:=p8.1 h
    exact⟨q,ms _ hq,q.minus,rfl⟩
theorem VM(ps:List xJ):(aV ps).length=ps.length:=by cases ps <;> simp[aV]
theorem VN{low:List Nat}(h:pA low p)(m:Bool):(nY m p).name=[]\/(∃i,i<3/\(nY m p).name=yK i)\/∃d∈low,(nY m p).name=yZ 99 d:=by
 obtain⟨mi,ti,n,nu,hd⟩:=p;rcases h with ⟨h0,h1,h2,h3⟩|⟨h0,h1,h2⟩|⟨h0,h1,h2,h3⟩|⟨h1,h2,d,hd4,h3⟩
 ·simp only at h0 h1 h2 h3
  subst h0 h2 h3;exact .inl rfl
 ·simp only at h0 h1 h2
  subst h0 h2;exact .inr (.inl ⟨nu.toNat,by omega,by simp[nY,h1.1]⟩)
 ·simp only at h0 h1 h2 h3
  subst h0 h3;exact .inr (.inl ⟨nu.toNat,by omega,by simp[nY,h2.1]⟩)
 ·simp only at h1 h2 h3
  subst h2 h3;exact .inr (.inr ⟨d,hd4,by cases ti <;> simp[nY]⟩)
theorem zEE{low:List Nat}(h:pA low p)(m:Bool):tV (nY m p)=false:=by
 unfold tV;obtain⟨mi,ti,n,nu,hd⟩:=p;cases ti
 ·have:(nY m ⟨mi,false,n,nu,hd⟩).starred=false:=by
   unfold nY;rw[tb (by simp)];split
   ·rfl
   ·split <;> rfl
  rw[this];rfl
 ·have h9:n<=9:=by
   rcases h with ⟨h0,-⟩|⟨h0,-⟩|⟨-,h1,-⟩|⟨h1,-⟩
   ·cases h0
   ·cases h0
   ·exact h1.2
   ·exact h1.2
  have:(nY m ⟨mi,true,n,nu,hd⟩).num=n:=by unfold nY;rw[tm rfl]
  rw[this,tq (by omega),Bool.and_false]
theorem zCP(h:yD M)(hj:j<M.rules.length):∀x∈aV (vU M j).parts,qJ (zX M G) x=true:=fun x hx=>by
 obtain⟨p,hp,m,rfl⟩:=X4 hx;have hr:=h.rules _ (bL hj);unfold qJ Qs;rcases VN (hr.parts.2.2 p hp) m with e|⟨i,hi,e⟩|⟨d,hd,e⟩
 ·simp[e]
 ·rw[e,J4 hi];simp
 ·rw[e,Dw h (Xc hd).1];simp
theorem Qo{low:List Nat}(h:vB low t):mJ t=⟨4,0,0,[],[],[],0⟩\/(∃i,3<=i/\i<5/\mJ t=⟨6,0,0,yK i,[],[],0⟩)\/(∃d∈low,mJ t=⟨5,0,0,yZ 99 d,[],[],0⟩)\/(∃i o,i<3/\(mJ t).kind=7/\(mJ t).name=yK i/\(mJ t).other=o/\(o=[]\/∃i',i'<3/\o=yK i')):=by
 rcases h with h|⟨h,x1,x2⟩|⟨h,d,hd,hx⟩|⟨h,⟨x1,x2⟩,⟨y1,y2⟩,⟨m1,m2⟩,n1,n2⟩
 ·left;unfold mJ;rw[tm h]
 ·right;left;exact⟨t.x.toNat,by omega,by omega,by unfold mJ;rw[tb (by omega),tm h]⟩
 ·right;right;left;exact⟨d,hd,by unfold mJ;rw[tb (by omega),tb (by omega),tm h,hx];rfl⟩
 ·right;right;right
  rcases h with h|h
  ·have e:mJ t=⟨7,0,0,yK t.x.toNat,sA t.mark.toNat,[],t.n⟩:=by unfold mJ;rw[tb (by omega),tb (by omega),tb (by omega),tm h]
   rw[e];exact⟨t.x.toNat,[],by omega,rfl,rfl,rfl,.inl rfl⟩
  ·have e:mJ t=⟨7,0,0,yK t.x.toNat,sA t.mark.toNat,yK t.y.toNat,0⟩:=by unfold mJ;rw[tb (by omega),tb (by omega),tb (by omega),tb (by omega)]
   rw[e];exact⟨t.x.toNat,_,by omega,rfl,rfl,rfl,.inr ⟨t.y.toNat,by omega,rfl⟩⟩
theorem zCV(h:yD M){hd:Nat}{x:zT}(hx:zF0 (xH M.heads hd) x):vE (zX M G) x=true:=by
 unfold vE;rcases hx with hk|⟨t,ht,rfl⟩
 ·rw[tb (by omega),tb (by omega),tb (by omega)]
 ·rcases Qo ht with e|⟨i,h1,h2,e⟩|⟨d,hd,e⟩|⟨i,o,hi,e1,e2,e3,ho⟩
  ·rw[e];rfl
  ·rw[e];exact jb h1 h2
  ·rw[e];exact Dw h (Xc hd).1
  ·rw[e1,tb (by decide),tb (by decide),tm rfl,e2,e3,J4 hi]
   rcases ho with rfl|⟨i',hi',rfl⟩
   ·rfl
   ·rw[J4 hi'];simp
theorem zE6{p:zE->Bool}:∀ {i:Nat} (a:Nat),i<ls.length->p (lA ls i)=true->(∀j,j<i->p (lA ls j)=false)->tU p ls a=a+i:=by
 induction ls with
 | nil=>intro i a h;simp at h
 | cons x r ih =>
   intro i a h h1 h2;rw[tU]
   cases i with
   | zero =>
     have:p x=true:=h1;rw[tm this];rfl
   | succ i =>
     have h0:p x=false:=h2 0 (by omega);rw[tb (by rw[h0];decide),ih (a+1) (by simpa using h) h1 (fun j hj=>h2 (j+1) (by omega))];omega
theorem Dr(h:yD M)(hj:j<M.rules.length):uK (zX M G) (yZ 114 j)=5+j:=by
 have h8:=h.few;unfold uK;rw[zE6 (i:=5+j) 0 (by rw[Yn];omega) (by rw[JQ hj];unfold Zb gK;simp) (fun k hk=>?_)]
 ·omega
 ·unfold Zb
  rcases Xw (M:=M) (G:=G) (i:=k) (by rw[Yn];omega) with ⟨h1,e⟩|⟨j',h1,h2,e⟩|⟨p,hp,e⟩
  ·rw[e,tq (jQ M k).1];rfl
  ·rw[e]
   have:yZ 114 j'≠yZ 114 j:=fun e'=>by have:=UJ j' (by omega) j (by omega) e';omega
   unfold gK;simp[this]
  ·rw[e];rfl
theorem V7(hi:i<M.rules.length):(M.rules.map vP.head).getD i 0=(vU M i).head:=by
 unfold vU;simp[List.getD,hi]
theorem zI8(h:yD M)(hG:∀i,i<M.rules.length->sN (xH M.heads (vU M i).head) (vU M i) (G i))(hi:i<(zX M G).length):lB (zX M G) i=0:=by
 have h8:=h.few;unfold lB;rcases Xw hi with ⟨h5,e⟩|⟨j,hj,rfl,e⟩|⟨p,hp,e⟩
 ·have hk:=fQ M i
  by_cases h3:i<3
  ·rw[tm h3]at hk
   rw[e,hk,tm rfl];unfold wX;rw[zFP h h5,tm rfl,e];have hn:=h.nums i h3;have e1:(nX M i).high=M.hi i:=by unfold nX;rw[tm h3]
   have e2:(nX M i).low=M.lo i:=by unfold nX;rw[tm h3]
   rw[e1,e2,tb (by omega)]
  ·rw[tb h3]at hk
   rw[e,hk,tb (by decide),tm rfl];exact zFP h h5
 ·rw[e]
  show lO (zX M G) (5+j)=0;unfold lO;rw[e]
  have h1:uR ((zX M G).take (5+j)) 3 (gK (vU M j) j (G j)).name=false:=ks fun k hk hkl hk3 e'=>by
   rcases Xw hkl with ⟨_,q⟩|⟨j',q1,q2,q⟩|⟨p,hp,q⟩
   ·rw[q]at hk3;exact absurd hk3 (jQ M k).1
   ·rw[q]at e'
    have:j'=j:=UJ j' (by omega) j (by omega) e';omega
   ·rw[q]at hk3;exact absurd hk3 (show ¬(4:Int)=3 by decide)
  have h2:((gK (vU M j) j (G j)).sum.any fun x => !qJ (zX M G) x)=false:=by
   rw[dw];intro x hx;rw[zCP h hj x hx];decide
  have h3:((gK (vU M j) j (G j)).nd.any fun x => !vE (zX M G) x)=false:=by
   rw[dw];intro x hx;rw[zCV h ((hG j hj).nds x hx)];decide
  rw[h1,h2,h3];rfl
 ·obtain⟨p1,p2,p3⟩:=J3 h hp
  rw[e];show cL (zX M G) (cM p)=0;unfold cL;have q1:uK (zX M G) (cM p).name=5+p.1:=Dr h (by omega);have q2:uK (zX M G) (cM p).lower=5+p.2:=Dr h p2;have hl:=Yn M G;rw[q1,q2,tb (by omega),JQ (by omega),JQ p2];have zK8:(cM p).name≠(cM p).lower:=fun e'=>by have:=UJ p.1 (by omega) p.2 (by omega) e';omega
  have hc:(gK (vU M p.1) p.1 (G p.1)).conc=(gK (vU M p.2) p.2 (G p.2)).conc:=by
   have:=(h.over p.1 p.2 p3).2.2;rw[V7 (by omega),V7 p2]at this;show yZ 99 _=yZ 99 _;rw[this]
  rw[tb (fun hh=>by rcases hh with hh|hh;exact zK8 hh;exact hh hc)]
theorem CR(h:yD M):(Qc M).length<=28:=by
 have:=vq h;rw[KW,pi]at this;exact this
theorem zEJ(h:yD M)(k:Int)(hk:k=1\/k=2\/k=3\/k=4):(xZ k (zX M G):Int)<=ZS k:=by
 have h8:=h.few;have hov:=CR h;unfold zX;rw[XC,XC];have a1:=Dx k ((List.range M.rules.length).map fun i=>gK (vU M i) i (G i));have a2:=Dx k ((Qc M).map cM);rw[pi,List.length_range]at a1;rw[pi]at a2
 have b1:k≠3->xZ k ((List.range M.rules.length).map fun i=>gK (vU M i) i (G i))=0:=fun hk=>JV fun x hx e=>by
  obtain⟨i,_,rfl⟩:=p8.1 hx;exact hk e.symm
 have b2:k≠4->xZ k ((Qc M).map cM)=0:=fun hk=>JV fun x hx e=>by
  obtain⟨i,_,rfl⟩:=p8.1 hx;exact hk e.symm
 have c1:xZ 1 ((List.range 5).map (nX M))=3:=by rfl
 have c2:xZ 2 ((List.range 5).map (nX M))=2:=by rfl
 have c3:∀k:Int,k=3\/k=4->xZ k ((List.range 5).map (nX M))=0:=fun k hk=>JV fun x hx e=>by
  obtain⟨i,_,rfl⟩:=p8.1 hx;rcases hk with rfl|rfl
  ·exact(jQ M i).1 e
  ·exact(jQ M i).2 e
 rcases hk with rfl|rfl|rfl|rfl
 ·rw[b1 (by decide),b2 (by decide),c1];decide
 ·rw[b1 (by decide),b2 (by decide),c2];decide
 ·rw[b2 (by decide),c3 3 (.inl rfl)]
  show _<=(8:Int);omega
 ·rw[b1 (by decide),c3 4 (.inr rfl)]
  show _<=(28:Int);omega
theorem zD9(h:yD M)(hG:∀i,i<M.rules.length->sN (xH M.heads (vU M i).head) (vU M i) (G i))(hi:i<(zX M G).length):tJ (zX M G) i=false:=by
 unfold tJ;have h1:=zID hi
 have hk:(lA (zX M G) i).kind=1\/(lA (zX M G) i).kind=2\/(lA (zX M G) i).kind=3\/(lA (zX M G) i).kind=4:=by
  rcases Xw hi with ⟨h5,e⟩|⟨j,hj,rfl,e⟩|⟨p,hp,e⟩
  ·rw[e,fQ];split
   ·exact .inl rfl
   ·exact .inr (.inl rfl)
  ·rw[e];exact .inr (.inr (.inl rfl))
  ·rw[e];exact .inr (.inr (.inr rfl))
 have h2:=zEJ (G:=G) h _ hk;rw[tq (by omega),lu];rcases Xw hi with ⟨h5,e⟩|⟨j,hj,rfl,e⟩|⟨p,hp,e⟩
 ·rw[e,tq (jQ M i).1];rfl
 ·rw[e]
  have hg:=hG j hj;have hr:=h.rules _ (bL hj);have t6:=hr.tests.2.1;have p4:=hr.parts.2.1;have ht:=hg.few;have hd:=hg.dep;unfold Vj tL;have e1:(gK (vU M j) j (G j)).tests=(G j).t:=rfl;have e2:(gK (vU M j) j (G j)).dep=(G j).p:=rfl;have e3:(gK (vU M j) j (G j)).sum=aV (vU M j).parts:=rfl
  have e4:(aV (vU M j).parts).any tV=false:=by
   rw[dw];intro x hx;obtain⟨p,hp,m,rfl⟩:=X4 hx;rw[zEE (hr.parts.2.2 p hp) m];decide
  rw[e1,e2,e3,e4,VM,tq (show ¬ 6<(G j).t by omega),tq (show ¬ 4<(G j).p by omega),tq (show ¬ 4<(vU M j).parts.length by omega)];simp
 ·rw[e];rfl
def Zy(nm:Bs):Nat:=if nm.getD 0 0=99 then (nm.getD 1 0).toNat else 0
theorem Gg(nm:Bs)(l:List Bs):∀(i a:Nat),qI nm l i=(a:Int)->i<=a/\l.getD (a-i) []=nm:=by
 induction l with
 | nil=>intro i a h;rw[qI]at h;omega
 | cons x r ih =>
   intro i a h;rw[qI]at h;by_cases hx:x=nm
   ·rw[tm hx]at h
    have:i=a:=by omega
    subst this;exact⟨j1 _,by rw[ff];exact hx⟩
   ·rw[tb hx]at h
    obtain⟨h1,h2⟩:=ih (i+1) a h;refine⟨by omega,?_⟩;rw[show a-i=(a-(i+1))+1 by omega];exact h2
theorem bY{zK2:List Bs}{nm:Bs}{a:Nat}(h:zI zK2 nm=(a:Int)):zK2.getD a []=nm:=by
 have:=(Gg nm zK2 0 a h).2
 rwa [Nat.sub_zero]at this
theorem Jq:∀d,d<4->Zy (yZ 99 d)=97+d:=by decide
theorem zBN:∀i,i<5->Zy (yK i)=0:=by decide
theorem Dd:∀d,d<8->((yZ 114 d).getD 1 0).toNat=97+d:=by decide
theorem CU{Gr:List Bool}(hl:Gr.length=64)(R:Nat->Nat)(h:∀a b,a<8->b<8->gA Gr a b=true->R b<R a):qP Gr=false:=by
 cases hr:qP Gr
 ·rfl
 ·obtain⟨a,ha,ht⟩:=(wU hl).1 hr
  have:=ht (fun x y=>R y<R x) (fun x y hxy=>h x y hxy.1 hxy.2.1 hxy.2.2) (fun x y z h1 h2=>Nat.lt_trans h2 h1);exact absurd this (Nat.lt_irrefl _)
theorem j5(a b:Nat):gA gZ a b=false:=by
 unfold gA gZ;rw[pe,cf];split <;> rfl
theorem vt(labs:List Bs)(ls:List zE):∀Gr,(uT labs ls Gr).length=Gr.length:=by
 induction ls with
 | nil=>intro Gr;rfl
 | cons x r ih=>intro Gr;rw[uT,ih];split
                ·rw[mF]
                ·rfl
theorem uc(h:yD M)(hG:∀i,i<M.rules.length->sN (xH M.heads (vU M i).head) (vU M i) (G i))(zK2:List Bs):qP (qK zK2 (zX M G) gZ)=false:=by
 refine CU (by rw[fL,yY]) (fun a=>Zy (zK2.getD a [])) fun a b ha hb hab=>?_;rw[YU zK2 (zX M G) ha hb gZ yY,j5,lu]at hab;obtain⟨x,hx,hp⟩:=md.1 hab;unfold zER at hp;simp only[pj,lq,pt,md]at hp;rcases Ym hx with ⟨k,hk,rfl⟩|⟨j,hj,rfl⟩|⟨p,hp',rfl⟩
 ·exact absurd hp.1 (jQ M k).1
 ·have hr:=h.rules _ (bL hj)
  have hh:=hr.head;obtain⟨-,ea,hp⟩:=hp;have ea:=bY ea;have va:Zy (zK2.getD a [])=97+(vU M j).head:=by rw[ea];exact Jq _ hh
  show Zy (zK2.getD b [])<Zy (zK2.getD a []);rw[va];rcases hp with ⟨y,hy,eb⟩|⟨y,hy,e5,eb⟩
  ·have eb:=bY eb
   obtain⟨p,hpp,m,rfl⟩:=X4 hy;rw[eb];rcases VN (hr.parts.2.2 p hpp) m with e|⟨i,hi,e⟩|⟨d,hd,e⟩
   ·rw[e,show Zy []=0 from rfl];omega
   ·rw[e,zBN i (by omega)];omega
   ·have:=(Xc hd).2
    rw[e,Jq d (by omega)];omega
  ·have eb:=bY eb
   rw[eb];rcases(hG j hj).nds y hy with hk|⟨t,ht,rfl⟩
   ·omega
   ·rcases Qo ht with e|⟨i,h1,h2,e⟩|⟨d,hd,e⟩|⟨i,o,hi,e1,e2,e3,ho⟩
    ·rw[e]at e5;cases e5
    ·rw[e]at e5;cases e5
    ·have:=(Xc hd).2
     rw[e];show Zy (yZ 99 d)<_;rw[Jq d (by omega)];omega
    ·rw[e1]at e5;cases e5
 ·exact absurd hp.1 (show ¬(4:Int)=3 by decide)
theorem vr(h:yD M)(labs:List Bs):qP (uT labs (zX M G) gZ)=false:=by
 have h8:=h.few;refine CU (by rw[vt,yY]) (fun a=>300-((labs.getD a []).getD 1 0).toNat) fun a b ha hb hab=>?_;rw[YN labs (zX M G) ha hb gZ yY,j5,lu]at hab;obtain⟨x,hx,hp⟩:=md.1 hab;unfold zEQ at hp;simp only[pj,pt]at hp;rcases Ym hx with ⟨k,hk,rfl⟩|⟨j,hj,rfl⟩|⟨p,hp',rfl⟩
 ·exact absurd hp.1 (jQ M k).2
 ·exact absurd hp.1 (show ¬(3:Int)=4 by decide)
 ·obtain⟨p1,p2,-⟩:=J3 h hp'
  obtain⟨-,ea,eb⟩:=hp;have ea:=bY ea;have eb:=bY eb;show 300-((labs.getD b []).getD 1 0).toNat<300-((labs.getD a []).getD 1 0).toNat;rw[ea,eb];have e1:=Dd p.1 (by omega);have e2:=Dd p.2 (by omega);show 300-((yZ 114 p.2).getD 1 0).toNat<300-((yZ 114 p.1).getD 1 0).toNat;rw[e1,e2];omega
theorem ZE(h:yD M)(hG:∀i,i<M.rules.length->sN (xH M.heads (vU M i).head) (vU M i) (G i)):kG (zX M G)=(0,0):=by
 unfold kG;rw[Bu _ 0 fun i _ hi=>zD9 h hG (by omega)];show X6 _=_;unfold X6;rw[Gu _ 0 fun i _ hi=>zI8 h hG (by omega)];show YF _=_;unfold YF;rw[uc h hG,vr h,tb (by decide),tb (by decide)]
end Go.Proofs.YtnbpdffdnphbeabGreatDoor
