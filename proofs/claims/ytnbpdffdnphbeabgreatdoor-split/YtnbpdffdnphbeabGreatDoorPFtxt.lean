import Derived.Test.YtnbpdffdnphbeabGreatDoorPGrd
set_option maxRecDepth 100000
namespace Go.Proofs.YtnbpdffdnphbeabGreatDoor
variable {P:List PT}
variable{k:Int}{b a:List Bs}{ps:List yU}{ls:List zE}{j i B:Nat}{M:yC}{p:yU}{x:zE}{t:zR}(n:Nat)
structure GR where
 nd:List zT
 root:Int
 t:Int
 p:Int
structure sT(low:List Nat)(r:xP)(g:GR):Prop where
 dep:g.p<=4
 few:g.t=(r.tests.length:Nat)
 nds:∀z∈g.nd,zFW low z
 good:dK g.nd
 cnt:g.nd.length<=100
 den:∃t l k,r.tests=t::l/\zH0 low g.nd g.root k (zA3 r.whole t l)
def oB(M:yC)(i:Nat):zE:=if i<3 then ⟨1,yD i,M.lo i,M.hi i,[],[],[],0,0,0,[]⟩ else ⟨2,yD i,0,0,[],[],[],0,0,0,[]⟩
def nT(r:xP)(i:Nat)(g:GR):zE:=⟨3,xG 114 i,0,0,xG 99 r.head,rB r.parts,g.nd,g.root,g.t,g.p,[]⟩
def cT(p:Nat × Nat):zE:=⟨4,xG 114 p.1,0,0,[],[],[],0,0,0,xG 114 p.2⟩
def Qm(M:yC):List (Nat × Nat):=(List.range M.rules.length).flatMap fun i=>(List.range M.rules.length).flatMap fun k=>if M.over i k=true then [(i,k)] else []
def vO(M:yC)(i:Nat):xP:=M.rules.getD i oW
def yA(M:yC)(G:Nat->GR):List zE:=(List.range 5).map (oB M)++(List.range M.rules.length).map (fun i=>nT (vO M i) i (G i))++(Qm M).map cT
theorem lI(hi:i<M.rules.length):vO M i∈M.rules:=tY oW hi
def zJG(P:List PT)(l:List Bs)(Q:zE->Prop):Prop:=(∀w r,l=w::r->yJ w≠0)/\0<l.length/\∀a,wT P a l->a+l.length<P.length->∃x,Q x/\uA P (a,false)=(x,(a+l.length,false))
theorem Bl{ws:List Bs}(h:DP x ws):zJG P ws (· = x):=⟨h.1,h.2.1,fun a hA hl=>⟨x,rfl,h.2.2 P a hA hl⟩⟩
theorem zHR(hM:yI M)(hi:i<M.rules.length)(lo:Bool):zJG P (cM (vO M i) i lo) (fun x=>∃g,sT (xC M.heads (vO M i).head) (vO M i) g/\x=nT (vO M i) i g):=by
 have h8:=hM.few;have hr:=hM.rules _ (lI hi);generalize vO M i=r at *;have hh:=hr.head;have hl4:∀d∈xC M.heads r.head,d<4:=fun d hd=>by have:=iN hd;omega
 have hn:yJ (xG 114 i)=2:=pW (.inr (.inr (.inr rfl))) (by omega);have hc:yJ (xG 99 r.head)=2:=pW (.inr (.inr (.inl rfl))) (by omega);have hS:=ve hl4 hr.parts
 obtain⟨t,l,htl⟩:∃t l,r.tests=t::l:=by
  have:=hr.tests.1
  cases h:r.tests with
  | nil=>rw[h]at this;simp at this
  | cons t l=>exact⟨t,l,rfl⟩
 have hT:=hr.tests;rw[htl]at hT
 have e:cM r i lo=Dx::xG 114 i::[58]::xG 99 r.head::[61]::(bQ r.parts++qU::(bG r.whole (t::l) lo++[cW])):=by
  unfold cM;rw[htl];simp[Dx,qU,cW]
 have h100:=(uf hr i lo).2;rw[e]at h100;rw[e];refine⟨fun w r h=>by cases h;decide,by simp,fun a h zL6=>?_⟩;obtain⟨h0,h1,h2,h3,h4,h5⟩:=h;generalize hSS:bQ r.parts=S at *;generalize hGG:bG r.whole (t::l) lo=GG at *;have hl:a+(S.length+GG.length+7)<P.length:=by simp at zL6;omega
 rw[show S++qU::(GG++[cW])=(S++[qU])++(GG++[cW]) by simp]at h5;obtain⟨hs,hg⟩:=h5.app;obtain⟨_,hw⟩:=hs.app;obtain⟨hg1,hge⟩:=hg.app;have es:=hS P _ hs (by omega);rw[tm,mh,<-dc]at hg hg1 hge;rw[<-hGG]at hg;obtain⟨root,nd,p,k,eg,hp,hD,hN,hGd,hCn⟩:=zA2 hl4 r.whole lo hT hg (by rw[hGG];omega);rw[hGG]at eg;have ew:=fD hw.1 (by decide);have ee:=fD hge.1 (by decide);refine⟨nT r i ⟨nd,root,(l.length:Int)+1,p⟩,⟨⟨nd,root,(l.length:Int)+1,p⟩,⟨hp,by rw[htl];simp,hN,hGd,by rw[hGG]at hCn;simp at h100;show nd.length<=100;omega,t,l,k,htl,hD⟩,rfl⟩,?_⟩
 have el:jZ P (a+1,false)=(nT r i ⟨nd,root,(l.length:Int)+1,p⟩,(a+(Dx::xG 114 i::[58]::xG 99 r.head::[61]::(S++qU::(GG++[cW]))).length,false)):=by
  unfold jZ;simp only[mY h1 hn,fD h2 (by decide),mY h3 hc,fD h4 (by decide),es,ew,eg,show ([59]:Bs)=cW from rfl,ee];refine Prod.ext rfl (Prod.ext ?_ rfl);simp;omega
 unfold uA;simp only[kB h0 [110,117,109] (fun _=>by decide),kB h0 [102,108,97,103] (fun _=>by decide),show ([114,117,108,101]:Bs)=Dx from rfl,bC h0 (by decide)];exact el
theorem in_k(hM:yI M)(hi:i<5):zJG P (gE M i) (· = oB M i):=by
 unfold gE oB;have hk:=lE hi;by_cases h3:i<3
 ·rw[tl h3,tl h3]
  have hn:=hM.nums i h3;obtain⟨a1,a2⟩:=nF (n:=M.lo i) (by omega) (by omega);obtain⟨b1,b2⟩:=nF (n:=M.hi i) (by omega) (by omega);have:=FC hk a1 b1;rw[a2,b2]at this;exact Bl this
 ·rw[tb h3,tb h3]
  exact Bl (Bi hk)
theorem J9(h:yI M){p:Nat × Nat}(hp:p∈Qm M):p.1<p.2/\p.2<M.rules.length/\M.over p.1 p.2=true:=by
 unfold Qm at hp;obtain⟨i,hi,hp⟩:=bj.1 hp;obtain⟨k,hk,hp⟩:=bj.1 hp;split at hp
 ·rename_i ho
  rw[pr.1 hp];have:=h.over i k ho;exact⟨this.1,this.2.1,ho⟩
 ·cases hp
theorem ov_k(hM:yI M){p:Nat × Nat}(hp:p∈Qm M):zJG P (Yc p.1 p.2) (· = cT p):=by
 have h1:=J9 hM hp;have h8:=hM.few;exact Bl (Bh (pW (.inr (.inr (.inr rfl))) (by omega)) (pW (.inr (.inr (.inr rfl))) (by omega)))
def mH:List (zE->Prop)->List zE->Prop
 | [],[]=>True
 | Q::r,x::xs=>Q x/\mH r xs
 | _,_=>False
theorem Vv(P:List PT):∀(K:List (List Bs × (zE->Prop))) (n a:Nat) (acc:List zE),(∀y∈K,zJG P y.1 y.2)->wT P a (K.map Prod.fst).flatten->(yK P (a+(K.map Prod.fst).flatten.length)).k=0->a+(K.map Prod.fst).flatten.length<P.length->K.length<n->∃xs,mH (K.map Prod.snd) xs/\fG P n (a,false) acc=(acc++xs,(a+(K.map Prod.fst).flatten.length,false)):=by
 intro K
 induction K with
 | nil =>
   intro n a acc hR hA hk hl hn;obtain⟨n,rfl⟩:∃k,n=k+1:=⟨n-1,by simp at hn;omega⟩;refine⟨[],trivial,?_⟩;rw[fG];simp only[List.map_nil,List.flatten_nil,List.length_nil,l9]at hk ⊢;rw[tl hk,mt]
 | cons y K ih =>
   intro n a acc hR hA hk hl hn;obtain⟨n,rfl⟩:∃k,n=k+1:=⟨n-1,by simp at hn;omega⟩;obtain⟨hx0,hx1,hx⟩:=hR y (by simp);obtain⟨l,Q⟩:=y;simp only at hx0 hx1 hx;have e0:(List.map Prod.fst ((l,Q)::K)).flatten=l++(List.map Prod.fst K).flatten:=rfl;rw[e0]at hA hk hl ⊢;rw[tm]at hk hl ⊢;obtain⟨h1,h2⟩:=hA.app;obtain⟨x,hQ,e⟩:=hx a h1 (by omega)
   have hk0:(yK P a).k≠0:=by
    cases l with
    | nil=>simp at hx1
    | cons w r=>rw[h1.1.1];exact hx0 w r rfl
   obtain⟨xs,hxs,ex⟩:=ih n (a+l.length) (acc++[x]) (fun y hy=>hR y (mu _ hy)) h2 (by rw[dc];exact hk) (by omega) (by simp at hn;omega);refine⟨x::xs,⟨hQ,hxs⟩,?_⟩;rw[fG];simp only[e];rw[tb hk0,ex,pt,List.singleton_append,dc]
theorem mH.app{A B:List (zE->Prop)}:∀ {xs:List zE},mH (A++B) xs->∃xa xb,xs=xa++xb/\mH A xa/\mH B xb:=by
 induction A with
 | nil=>intro xs h;exact⟨[],xs,rfl,trivial,h⟩
 | cons Q r ih =>
   intro xs h
   cases xs with
   | nil=>exact absurd h id
   | cons x xs =>
     obtain⟨xa,xb,e,h1,h2⟩:=ih h.2;exact⟨x::xa,xb,by rw[e];rfl,⟨h.1,h1⟩,h2⟩
theorem mH.eq{β:Type}{f:β->zE}{zs:List β}:∀ {xs:List zE},mH (zs.map fun z x=>x=f z) xs->xs=zs.map f:=by
 induction zs with
 | nil=>intro xs h;cases xs with
   | nil=>rfl
   | cons x xs=>exact absurd h id
 | cons z r ih=>intro xs h;cases xs with
   | nil=>exact absurd h id
   | cons x xs=>rw[da,ih h.2,h.1]
theorem mH.one{Q:zE->Prop}{xs:List zE}(h:mH [Q] xs):∃x,xs=[x]/\Q x:=by
 cases xs with
 | nil=>exact absurd h id
 | cons x xs =>
   cases xs with
   | nil=>exact⟨x,rfl,h.1⟩
   | cons y ys=>exact absurd h.2 id
theorem mH.ex{S:Nat->GR->Prop}{F:Nat->GR->zE}:∀ {xs:List zE},mH ((List.range n).map fun i x=>∃g,S i g/\x=F i g) xs->∃G:Nat->GR,(∀i,i<n->S i (G i))/\xs=(List.range n).map fun i=>F i (G i):=by
 induction n with
 | zero =>
   intro xs h
   cases xs with
   | nil=>exact⟨fun _=>⟨[],0,0,0⟩,fun i hi=>absurd hi (by simp),rfl⟩
   | cons x xs=>exact absurd h id
 | succ n ih =>
   intro xs h;rw[lq,bi]at h;obtain⟨xa,xb,e,h1,h2⟩:=mH.app h;obtain⟨G,hG,ea⟩:=ih h1;obtain⟨x,ex,g,hg,eg⟩:=mH.one h2;refine⟨fun i=>if i=n then g else G i,fun i hi=>?_,?_⟩
   ·show S i (if i=n then g else G i)
    by_cases zL9:i=n
    ·rw[tl zL9,zL9];exact hg
    ·rw[tb zL9];exact hG i (by omega)
   ·rw[e,ea,ex,eg,lq,bi]
    congr 1
    ·refine List.map_congr_left fun i hi=>?_
     have:=py.1 hi;show F i (G i)=F i (if i=n then g else G i);rw[tb (show ¬i=n by omega)]
    ·simp
def VK(M:yC)(lo:Bool):List (List Bs × (zE->Prop)) :=
 (List.range 5).map (fun i=>(gE M i,fun x=>x=oB M i))++(List.range M.rules.length).map (fun i=>(cM (vO M i) i lo,fun x=>∃g,sT (xC M.heads (vO M i).head) (vO M i) g/\x=nT (vO M i) i g))++(Qm M).map (fun p=>(Yc p.1 p.2,fun x=>x=cT p))
theorem Vf(M:yC):((List.range M.rules.length).flatMap fun i=>tD M i M.rules.length)=(Qm M).map fun p=>Yc p.1 p.2:=by
 unfold Qm tD;rw[List.map_flatMap];congr 1
 funext i
 rw[List.map_flatMap];congr 1
 funext k
 split <;> rfl
theorem aY(M:yC)(lo:Bool):(VK M lo).map Prod.fst=vI M lo:=by
 unfold VK vI;rw[Vf,bi,bi,List.map_map,List.map_map,List.map_map];rfl
theorem DA(h:yI M)(lo:Bool):∀y∈VK M lo,zJG P y.1 y.2:=fun y hy=>by
 unfold VK at hy;rcases pu.1 hy with hy|hy
 ·rcases pu.1 hy with hy|hy
  ·obtain⟨i,hi,rfl⟩:=p9.1 hy
   exact in_k h (py.1 hi)
  ·obtain⟨i,hi,rfl⟩:=p9.1 hy
   exact zHR h (py.1 hi) lo
 ·obtain⟨p,hp,rfl⟩:=p9.1 hy
  exact ov_k h hp
theorem zAA(h:yI M)(lo:Bool):(VK M lo).length<=(vI M lo).flatten.length:=by
 have:∀K:List (List Bs × (zE->Prop)),(∀y∈K,zJG [] y.1 y.2)->K.length<=(K.map Prod.fst).flatten.length:=by
  intro K
  induction K with
  | nil=>intro _;simp
  | cons y r ih =>
    intro hK;have h1:=ih (fun z hz=>hK z (mu _ hz));have h2:=(hK y (by simp)).2.1;rw[da,List.flatten_cons,tm,pf];omega
 have h2:=this _ (DA (P:=[]) h lo)
 rwa [aY]at h2
theorem Ca(h:yI M)(lo:Bool){l:Bs}(ht:tw l=(vI M lo).flatten):∃G:Nat->GR,(∀i,i<M.rules.length->sT (xC M.heads (vO M i).head) (vO M i) (G i))/\(kM l).1=yA M G/\(kM l).2.2=false:=by
 have hn:=zG3 l;have hk:=yz l;have hA:=CO l;have hf:=zAA h lo;rw[ht,<-aY]at hn hk hA;rw[<-aY]at hf;obtain⟨xs,hxs,e⟩:=Vv (bB l) (VK M lo) (2*(bB l).length+1) 0 [] (DA h lo) hA (by rw[cx];exact hk) (by omega) (by omega)
 have es:(VK M lo).map Prod.snd=(List.range 5).map (fun i x=>x=oB M i)++(List.range M.rules.length).map (fun i x=>∃g,sT (xC M.heads (vO M i).head) (vO M i) g/\x=nT (vO M i) i g)++(Qm M).map (fun p x=>x=cT p):=by
  unfold VK;rw[bi,bi,List.map_map,List.map_map,List.map_map];rfl
 rw[es]at hxs;obtain⟨xa,x3,e1,h1,h3⟩:=mH.app hxs;obtain⟨x1,x2,e2,h1,h2⟩:=mH.app h1;have q1:=mH.eq h1;have q3:=mH.eq h3;obtain⟨G,hG,q2⟩:=mH.ex (S:=fun i g=>sT (xC M.heads (vO M i).head) (vO M i) g) (F:=fun i g=>nT (vO M i) i g) M.rules.length h2;refine⟨G,hG,?_,?_⟩
 ·unfold kM
  rw[e];show []++xs=_;rw[e1,e2,q1,q2,q3];rfl
 ·unfold kM
  rw[e]
theorem zBM{p:UInt8->Prop}(h:∀n,n<256->p (UInt8.ofNat n))(c:UInt8):p c:=by
 have:=h c.toNat (UInt8.toNat_lt c)
 rwa [UInt8.ofNat_toNat]at this
theorem zKI:∀n,n<256->so (UInt8.ofNat n)=2->zGI [UInt8.ofNat n]=true:=by decide +kernel
theorem jd(c:UInt8)(r:Bs):zGI (c::r)=zGI [c]:=rfl
theorem zG9{f:UInt8}(i:Nat)(hf:f=110\/f=102\/f=99\/f=114):zGI (xG f i)=true:=by
 unfold xG;rcases hf with rfl|rfl|rfl|rfl <;> rfl
theorem zK9{n:Int}(h0:0<=n)(h1:n<=9999):zGI (Lib.itoa n)=true:=by
 obtain⟨a1,a2,-⟩:=nW h0 h1
 cases h:Lib.itoa n with
 | nil=>exact absurd h a1
 | cons c r =>
   rw[jd];have:=a2 c (by rw[h];simp);exact zBM (p:=fun c=>so c=2->zGI [c]=true) zKI c this
def Qa:List Bs->Prop
 | []=>True
 | w::r=>((w=[60]\/w=[62])->∃x r',r=x::r'/\zGI x=true)/\Qa r
theorem Qa.app(ha:Qa a)(hb:Qa b):Qa (a++b):=by
 induction a with
 | nil=>exact hb
 | cons w r ih =>
   refine⟨fun h=>?_,ih ha.2⟩;obtain⟨x,r',e,hx⟩:=ha.1 h;exact⟨x,r'++b,by rw[e];rfl,hx⟩
theorem yR{w:Bs}{r:List Bs}(h1:w≠[60]/\w≠[62])(hr:Qa r):Qa (w::r):=⟨fun h=>h.elim (fun h=>absurd h h1.1) (fun h=>absurd h h1.2),hr⟩
theorem uF:Qa []:=trivial
theorem bT{p:Prop}[Decidable p](ha:p->Qa a)(hb:¬p->Qa b):Qa (if p then a else b):=by split <;> rename_i h;exact ha h;exact hb h
theorem Vl{f:Nat->List Bs}(h:∀i,i<n->Qa (f i)):Qa ((List.range n).flatMap f):=by
 induction n with
 | zero=>trivial
 | succ n ih =>
   rw[lq,lu];refine(ih fun i hi=>h i (by omega)).app ?_;simpa using h n (by omega)
theorem Vk{L:List (List Bs)}(h:∀l∈L,Qa l):Qa L.flatten:=by
 induction L with
 | nil=>trivial
 | cons l r ih=>rw[List.flatten_cons];exact(h l (by simp)).app (ih fun x hx=>h x (mu _ hx))
theorem Xc(f:UInt8)(i:Nat):xG f i≠[60]/\xG f i≠[62]:=by
 unfold xG;simp
theorem aW(i:Nat):yD i≠[60]/\yD i≠[62]:=by unfold yD;split <;> exact Xc _ _
theorem QQ{n:Int}(h0:0<=n)(h1:n<=9999):Lib.itoa n≠[60]/\Lib.itoa n≠[62]:=by
 have h:=zK9 h0 h1;exact⟨fun e=>by rw[e]at h;exact absurd h (by decide),fun e=>by rw[e]at h;exact absurd h (by decide)⟩
theorem zKA:zGI (yD i)=true:=by
 unfold yD;split
 ·exact zG9 _ (.inl rfl)
 ·exact zG9 _ (.inr (.inl rfl))
theorem zAY{low:List Nat}(h:xL low t):Qa (uN t):=by
 unfold uN;rcases h with h|⟨h,x1,x2⟩|⟨h,d,hd,hx⟩|⟨h,⟨x1,x2⟩,⟨y1,y2⟩,⟨m1,m2⟩,n1,n2⟩
 ·rw[tl h];exact yR (by decide) trivial
 ·rw[tb (by omega),tl h];exact yR (aW _) trivial
 ·rw[tb (by omega),tb (by omega),tl h]
  exact yR (by decide) (yR (Xc _ _) uF)
 ·rw[tb (by omega),tb (by omega),tb (by omega)]
  exact bT (fun _=>yR (aW _) ⟨fun _=>⟨_,_,rfl,zK9 n1 n2⟩,yR (QQ n1 n2) uF⟩) (fun _=>yR (aW _) ⟨fun _=>⟨_,_,rfl,zKA⟩,yR (aW _) uF⟩)
theorem nC{x:Bs}(hx:x≠[60]/\x≠[62]){p:Prop}[Decidable p]:Qa (if p then [x] else []):=bT (fun _=>yR hx uF) (fun _=>uF)
theorem zCM{low:List Nat}(h:xL low t)(lo:Bool):Qa (xB t lo):=by
 unfold xB;exact(((nC (by decide)).app (nC (by decide))).app (zAY h)).app (nC (by decide))
theorem zET{low:List Nat}{ts:List zR}(h:qX low ts)(wh lo:Bool):Qa (bG wh ts lo):=by
 unfold bG jE;refine(((nC (by decide)).app (nC (by decide))).app (Vl _ fun i hi=>?_)).app (nC (by decide));refine Qa.app ?_ (zCM (h.2.2 _ (tY bV hi)) lo);unfold kQ;exact bT (fun _=>uF) (fun _=>bT (fun _=>yR (by decide) uF) (fun _=>yR (by decide) uF))
theorem zCW{low:List Nat}(h:jG low ps):Qa (bQ ps):=by
 unfold bQ pD;refine Vl _ fun i hi=>?_;have hp:=h.2.2 _ (tY aD hi);generalize ps.getD i aD=p at *;unfold mQ dV uZ tN qE;refine(((bT (fun _=>uF) (fun _=>bT (fun _=>yR (by decide) uF) (fun _=>yR (by decide) uF))).app (bT (fun hc=>yR ?_ uF) (fun _=>uF))).app (nC (by decide))).app (bT (fun hn=>yR (aW _) uF) (fun _=>bT (fun hh=>yR (Xc _ _) uF) (fun _=>uF)));rcases hp with ⟨-,h1,-,-⟩|⟨h0,h1,-⟩|⟨-,h1,-⟩|⟨h1,-,-⟩
 ·exact QQ h1.1 h1.2
 ·rcases hc with hc|hc
  ·exact absurd (hc.symm.trans h0) (by simp)
  ·omega
 ·exact QQ h1.1 (by omega)
 ·exact QQ h1.1 (by omega)
theorem zJQ(h:yI M)(lo:Bool):Qa (vI M lo).flatten:=Vk fun l hl=>by
 unfold vI at hl;rcases pu.1 hl with hl|hl
 ·rcases pu.1 hl with hl|hl
  ·obtain⟨i,hi,rfl⟩:=p9.1 hl
   unfold gE;split
   ·rename_i h3
    have:=h.nums i h3;exact yR (by decide) (yR (aW _) (yR (QQ (by omega) (by omega)) (yR (by decide) (yR (QQ (by omega) (by omega)) (yR (by decide) uF)))))
   ·exact yR (by decide) (yR (aW _) (yR (by decide) uF))
  ·obtain⟨i,hi,rfl⟩:=p9.1 hl
   have hr:=h.rules _ (tY oW (py.1 hi));generalize M.rules.getD i oW=r at *;have q1:Qa [[114,117,108,101],xG 114 i,[58],xG 99 r.head,[61]]:=yR (by decide) (yR (Xc _ _) (yR (by decide) (yR (Xc _ _) (yR (by decide) uF))));unfold cM;exact(((q1.app (zCW hr.parts)).app (yR (by decide) uF)).app (zET hr.tests _ _)).app (yR (by decide) uF)
 ·obtain⟨i,hi,hl⟩:=bj.1 hl
  unfold tD at hl;obtain⟨j,hj,hl⟩:=bj.1 hl;split at hl
  ·rw[pr.1 hl]
   exact yR (by decide) (yR (Xc _ _) (yR (Xc _ _) (yR (by decide) uF)))
  ·cases hl
def mD:List Bs->Nat
 | []=>0
 | w::r=>w.length+3+mD r
theorem qW(a b:List Bs):mD (a++b)=mD a+mD b:=by
 induction a with
 | nil=>simp[mD]
 | cons w r ih=>simp only[cf,mD];rw[ih];omega
theorem XI{β:Type}{f:β->List Bs}(zs:List β)(h:∀z∈zs,mD (f z)<=B):mD (zs.flatMap f)<=zs.length*B:=by
 induction zs with
 | nil=>simp[mD]
 | cons z r ih =>
   rw[bh,qW,pf,Nat.succ_mul];have:=h z (by simp);have:=ih fun x hx=>h x (mu _ hx);omega
theorem wD{p:Prop}[Decidable p](ha:p->mD a<=B)(hb:¬p->mD b<=B):mD (if p then a else b)<=B:=by split <;> rename_i h;exact ha h;exact hb h
theorem zC7(r:List Bs):(DZ r).length<=mD r+1:=by
 induction r with
 | nil=>simp[DZ,mD]
 | cons w r ih =>
   have h:(if w=[59] then w else 32::w).length<=w.length+1:=by
    split
    ·omega
    ·rw[pf];exact j1 _
   rw[DZ,tm,mD];omega
theorem U9{l:List Bs}(h:0<l.length):(mU l).length<=mD l:=by
 cases l with
 | nil=>simp at h
 | cons w r=>have:=zC7 r;rw[mU,tm,mD];omega
theorem zC8(L:List (List Bs))(h:∀l∈L,0<l.length):(wU L).length<=mD L.flatten:=by
 induction L with
 | nil=>simp[wU,mD]
 | cons l r ih =>
   have h1:=ih fun x hx=>h x (mu _ hx);have h2:=U9 (h l (by simp));unfold wU at h1 ⊢;rw[bh,tm,List.flatten_cons,qW];omega
theorem Yo(f:UInt8)(i:Nat):(xG f i).length=2:=rfl
theorem cZ(i:Nat):(yD i).length=2:=by unfold yD;split <;> rfl
theorem jc{n:Int}(h0:0<=n)(h1:n<=9):(Lib.itoa n).length=1:=by
 rw[BN h0,Lib.decDigits_one (by omega)];rfl
theorem zE4{k:Nat}(hk:k<6):(sE k).length<=2:=(show ∀k,k<6->(sE k).length<=2 by decide) k hk
theorem Ui{low:List Nat}(h:jR low p):mD (uO p)<=13:=by
 obtain⟨mi,ti,n,nu,hd⟩:=p;rcases h with ⟨h0,h1,h2,h3⟩|⟨h0,h1,h2⟩|⟨h0,h1,h2,h3⟩|⟨h1,h2,d,hd4,h3⟩
 ·simp only at h0 h1 h2 h3
  subst h0 h2 h3;have e:uO ⟨mi,false,n,-1,-1⟩=[Lib.itoa n]:=by simp[uO,uZ,tN,qE]
  have:=(nW h1.1 h1.2).2.2.1;rw[e];simp only[mD];omega
 ·simp only at h0 h1 h2
  subst h0 h2;have e:uO ⟨mi,false,n,nu,-1⟩=[yD nu.toNat]:=by simp[uO,uZ,tN,qE,h1.1]
  rw[e];simp only[mD,cZ];omega
 ·simp only at h0 h1 h2 h3
  subst h0 h3;have e:uO ⟨mi,true,n,nu,-1⟩=[Lib.itoa n,[42],yD nu.toNat]:=by simp[uO,uZ,tN,qE,h2.1]
  rw[e];simp only[mD,cZ,jc h1.1 h1.2,pf,List.length_nil];omega
 ·simp only at h1 h2 h3
  subst h2 h3;cases ti
  ·have e:uO ⟨mi,false,n,-1,d⟩=[xG 99 d]:=by simp[uO,uZ,tN,qE]
   rw[e];simp only[mD,Yo];omega
  ·have e:uO ⟨mi,true,n,-1,d⟩=[Lib.itoa n,[42],xG 99 d]:=by simp[uO,uZ,tN,qE]
   rw[e];simp only[mD,Yo,jc h1.1 h1.2,pf,List.length_nil];omega
theorem zCY{low:List Nat}(h:jG low ps):mD (bQ ps)<=64:=by
 cases ps with
 | nil=>exact absurd h.1 (by simp)
 | cons p r =>
   rw[CS,qW];have h1:=Ui (h.2.2 p (by simp))
   have h2:mD (pC r)<=r.length*17:=XI r fun q hq=>by
    have:=Ui (h.2.2 q (mu _ hq));have h3:mD (oF q)=4:=by unfold oF;split <;> rfl
    rw[qW];omega
   have h3:=h.2.1;rw[pf]at h3;omega
theorem zAZ{low:List Nat}(h:xL low t):mD (uN t)<=17:=by
 unfold uN;rcases h with h|⟨h,x1,x2⟩|⟨h,d,hd,hx⟩|⟨h,⟨x1,x2⟩,⟨y1,y2⟩,⟨m1,m2⟩,n1,n2⟩
 ·rw[tl h];decide
 ·rw[tb (by omega),tl h];simp only[mD,cZ];omega
 ·rw[tb (by omega),tb (by omega),tl h]
  have:aB.length=3:=rfl;simp only[mD,Yo,this];omega
 ·rw[tb (by omega),tb (by omega),tb (by omega)]
  have hm:=zE4 (k:=t.mark.toNat) (by omega);have hi:=(nW n1 n2).2.2.1;exact wD (fun _=>by simp only[mD,cZ];omega) (fun _=>by simp only[mD,cZ];omega)
theorem sB{x:Bs}(hx:x.length+3<=B){p:Prop}[Decidable p]:mD (if p then [x] else [])<=B:=wD (fun _=>by simp only[mD];omega) (fun _=>by simp only[mD];omega)
theorem zCN{low:List Nat}(h:xL low t)(lo:Bool):mD (xB t lo)<=31:=by
 unfold xB;rw[qW,qW,qW];have h1:=zAZ h;have h2:mD (if t.not=true then [[110,111,116]] else [])<=6:=sB (by decide);have h3:mD (if (lo&&t.pair)=true then [[40]] else [])<=4:=sB (by decide);have h4:mD (if (lo&&t.pair)=true then [[41]] else [])<=4:=sB (by decide);omega
theorem zEV{low:List Nat}{ts:List zR}(h:qX low ts)(wh lo:Bool):mD (bG wh ts lo)<=236:=by
 unfold bG jE;rw[qW,qW,qW]
 have h1:mD ((List.range ts.length).flatMap fun j=>kQ j (ts.getD j bV)++xB (ts.getD j bV) lo)<=(List.range ts.length).length*37:=XI _ fun j hj=>by
  have:=zCN (h.2.2 _ (tY bV (py.1 hj))) lo;have h3:mD (kQ j (ts.getD j bV))<=6:=by unfold kQ;exact wD (fun _=>by decide) (fun _=>wD (fun _=>by decide) (fun _=>by decide))
  rw[qW];omega
 have hl:=h.2.1;rw[List.length_range]at h1;have h2:mD (if wh=true then [[110,111,116]] else [])<=6:=sB (by decide);have h3:mD (if Yf wh lo ts.length=true then [[40]] else [])<=4:=sB (by decide);have h4:mD (if Yf wh lo ts.length=true then [[41]] else [])<=4:=sB (by decide);omega
theorem zDA{heads:List Nat}{r:xP}(h:dI heads r)(i:Nat)(lo:Bool):mD (cM r i lo)<=336:=by
 unfold cM;rw[qW,qW,qW,qW];have h1:=zCY h.parts;have h2:=zEV h.tests r.whole lo;have h3:mD [[114,117,108,101],xG 114 i,[58],xG 99 r.head,[61]]=25:=rfl;have h4:mD [[119,104,101,110]]=7:=rfl;have h5:mD [[59]]=4:=rfl;omega
theorem Je{β γ δ:Type}(zs:List β){f:β->List γ}{g:β->List δ}(h:∀z∈zs,(f z).length<=(g z).length):(zs.flatMap f).length<=(zs.flatMap g).length:=by
 induction zs with
 | nil=>simp
 | cons z r ih =>
   rw[bh,bh,tm,tm];have:=h z (by simp);have:=ih fun x hx=>h x (mu _ hx);omega
theorem uv:∀n,n<9->((List.range n).flatMap fun i=>(List.range n).flatMap fun k=>if i<k then [(i,k)] else []).length<=28:=by decide
theorem ux(h:yI M):((List.range M.rules.length).flatMap fun i=>tD M i M.rules.length).length<=28:=by
 have h8:=h.few;refine p8 (Je (g:=fun i=>(List.range M.rules.length).flatMap fun k=>if i<k then [(i,k)] else []) _ fun i hi=>?_) (uv M.rules.length (by omega));unfold tD;refine Je _ fun k hk=>?_;split
 ·rename_i ho
  rw[tl (h.over i k ho).1];exact j1 _
 ·exact p7 _
theorem rE{L:List (List Bs)}(h:∀l∈L,mD l<=B):mD L.flatten<=L.length*B:=by
 have:=XI (f:=id) L h
 rwa [List.flatMap_id]at this
theorem FZ(h:yI M)(lo:Bool):mD (vI M lo).flatten<=4000:=by
 have h8:=h.few;unfold vI;rw[List.flatten_append,List.flatten_append,qW,qW]
 have h1:mD ((List.range 5).map (gE M)).flatten<=170:=by
  refine p8 (rE (B:=34) fun l hl=>?_) (by simp);obtain⟨i,hi,rfl⟩:=p9.1 hl;unfold gE;refine wD (fun h3=>?_) (fun _=>by simp only[mD,cZ,pf,List.length_nil];omega);have:=h.nums i h3;have h4:=(nW (n:=M.lo i) (by omega) (by omega)).2.2.1;have h5:=(nW (n:=M.hi i) (by omega) (by omega)).2.2.1;simp only[mD,cZ,pf,List.length_nil];omega
 have h2:mD ((List.range M.rules.length).map fun i=>cM (M.rules.getD i oW) i lo).flatten<=M.rules.length*336:=by
  refine p8 (rE (B:=336) fun l hl=>?_) (by simp);obtain⟨i,hi,rfl⟩:=p9.1 hl;exact zDA (h.rules _ (tY oW (py.1 hi))) i lo
 have h3:mD ((List.range M.rules.length).flatMap fun i=>tD M i M.rules.length).flatten<=28*21:=by
  refine p8 (rE (B:=21) fun l hl=>?_) (Nat.mul_le_mul_right _ (ux h));obtain⟨i,hi,hl⟩:=bj.1 hl;unfold tD at hl;obtain⟨j,hj,hl⟩:=bj.1 hl;split at hl
  ·rw[pr.1 hl];simp only[Yc,mD,Yo,pf,List.length_nil];omega
  ·cases hl
 omega
theorem j4(lo:Bool):∀l∈vI M lo,0<l.length:=fun l hl=>by
 unfold vI at hl;rcases pu.1 hl with hl|hl
 ·rcases pu.1 hl with hl|hl
  ·obtain⟨i,hi,rfl⟩:=p9.1 hl
   unfold gE;split <;> simp
  ·obtain⟨i,hi,rfl⟩:=p9.1 hl
   unfold cM;simp
 ·obtain⟨i,hi,hl⟩:=bj.1 hl
  unfold tD at hl;obtain⟨j,hj,hl⟩:=bj.1 hl;split at hl
  ·rw[pr.1 hl];unfold Yc;simp
  ·cases hl
theorem x8(h:yI M)(lo:Bool):(wU (vI M lo)).length<=4000:=p8 (zC8 _ (j4 lo)) (FZ h lo)
theorem BC:∀a,(∀i,a<=i->i<a+n->tH ls i=false)->fU ls n a=none:=by
 induction n with
 | zero=>intro a _;rfl
 | succ n ih=>intro a h;rw[fU,h a (by omega) (by omega),tb (by decide)];exact ih (a+1) fun i h1 h2=>h i (by omega) (by omega)
theorem GF:∀a,(∀i,a<=i->i<a+n->mM ls i=0)->sR ls n a=none:=by
 induction n with
 | zero=>intro a _;rfl
 | succ n ih=>intro a h;rw[sR,h a (by omega) (by omega),tl rfl];exact ih (a+1) fun i h1 h2=>h i (by omega) (by omega)
theorem zCS(h:x∈ls.take i):∃j,j<i/\j<ls.length/\x=lA ls j:=by
 obtain⟨j,hj,e⟩:=List.mem_iff_getElem.1 h;rw[cd]at hj;refine⟨j,by omega,by omega,?_⟩;rw[<-e,List.getElem_take];unfold lA;simp[List.getD,show j<ls.length by omega]
theorem zA0{nm:Bs}(h:∀j,j<i->j<ls.length->(lA ls j).kind=k->(lA ls j).name≠nm):uR (ls.take i) k nm=false:=by
 cases hh:uR (ls.take i) k nm
 ·rfl
 ·obtain⟨x,hx,hp⟩:=me.1 hh
  obtain⟨j,h1,h2,rfl⟩:=zCS hx;unfold Zl at hp;simp only[pq,pw]at hp;exact absurd hp.2 (h j h1 h2 hp.1)
theorem D6{nm:Bs}(hx:x∈ls)(h1:x.kind=k)(h2:x.name=nm):uR ls k nm=true :=
 me.2 ⟨x,hx,by unfold Zl;simp[h1,h2]⟩
theorem XL(k:Int)(a b:List zE):vC k (a++b)=vC k a+vC k b:=by
 induction a with
 | nil=>simp[vC]
 | cons x r ih=>rw[cf,vC,vC,ih];omega
theorem DH(k:Int)(a:List zE):vC k a<=a.length:=by
 induction a with
 | nil=>simp[vC]
 | cons x r ih=>rw[vC,pf];split <;> omega
theorem Kb{a:List zE}(h:∀x∈a,x.kind≠k):vC k a=0:=by
 induction a with
 | nil=>rfl
 | cons x r ih=>rw[vC,tb (h x (by simp)),ih fun y hy=>h y (mu _ hy)]
theorem zJ8(h:i<ls.length):vC (lA ls i).kind (ls.take i)<vC (lA ls i).kind ls:=by
 have e:ls=ls.take i++lA ls i::ls.drop (i+1):=by
  conv=>lhs;rw[<-List.take_append_drop i ls,po h]
  unfold lA;simp[List.getD,h]
 have h1:vC (lA ls i).kind ls=vC (lA ls i).kind (ls.take i)+vC (lA ls i).kind (lA ls i::ls.drop (i+1)):=by
  generalize (lA ls i).kind=k;have h2:=congrArg (vC k) e;rw[XL]at h2;exact h2
 rw[h1,vC,tl rfl];omega
theorem oU(M:yC)(i:Nat):(oB M i).name=yD i:=by unfold oB;split <;> rfl
theorem gB(M:yC)(i:Nat):(oB M i).kind=if i<3 then 1 else 2:=by unfold oB;split <;> rfl
theorem zEK:∀i,i<5->∀j,j<5->yD i=yD j->i=j:=by decide
theorem Bb:∀i,i<8->∀j,j<8->xG 114 i=xG 114 j->i=j:=by decide
theorem zEL:∀i,i<5->∀j,j<4->xG 99 j≠yD i:=by decide
variable {M:yC} {G:Nat->GR}
theorem Yy(M:yC)(G:Nat->GR):(yA M G).length=5+M.rules.length+(Qm M).length:=by unfold yA;simp only[tm,pi,List.length_range]
theorem BZ(h:i<5):lA (yA M G) i=oB M i:=by
 unfold lA yA;rw[pd,pt,ms (by simpa using h)];simp[h]
theorem JV(h:j<M.rules.length):lA (yA M G) (5+j)=nT (vO M j) j (G j):=by
 unfold lA yA;rw[pd,pt,lj (by simp),ms (by simpa using h)];simp[h]
theorem zIT(h:5+M.rules.length<=i)(h2:i<(yA M G).length):∃p∈Qm M,lA (yA M G) i=cT p:=by
 have hl:=Yy M G
 have:lA (yA M G) i∈(Qm M).map cT:=by
  unfold lA yA;rw[pd,lj (by simp;omega)];have h3:i-(((List.range 5).map (oB M))++(List.range M.rules.length).map (fun i=>nT (vO M i) i (G i))).length<((Qm M).map cT).length:=by simp;omega
  rw[pb h3];exact dm h3
 obtain⟨p,hp,e⟩:=p9.1 this;exact⟨p,hp,e.symm⟩
theorem X6(h:i<(yA M G).length):(i<5/\lA (yA M G) i=oB M i)\/(∃j,j<M.rules.length/\i=5+j/\lA (yA M G) i=nT (vO M j) j (G j))\/(∃p∈Qm M,lA (yA M G) i=cT p):=by
 by_cases h5:i<5
 ·exact .inl ⟨h5,BZ h5⟩
 ·by_cases hn:i<5+M.rules.length
  ·refine .inr (.inl ⟨i-5,by omega,by omega,?_⟩)
   have:=JV (M:=M) (G:=G) (j:=i-5) (by omega)
   rwa [show 5+(i-5)=i by omega]at this
  ·exact .inr (.inr (zIT (by omega) h))
theorem Yx(h:x∈yA M G):(∃i,i<5/\x=oB M i)\/(∃j,j<M.rules.length/\x=nT (vO M j) j (G j))\/(∃p∈Qm M,x=cT p):=by
 unfold yA at h;rcases pu.1 h with h|h
 ·rcases pu.1 h with h|h
  ·obtain⟨i,hi,rfl⟩:=p9.1 h
   exact .inl ⟨i,py.1 hi,rfl⟩
  ·obtain⟨i,hi,rfl⟩:=p9.1 h
   exact .inr (.inl ⟨i,py.1 hi,rfl⟩)
 ·obtain⟨p,hp,rfl⟩:=p9.1 h
  exact .inr (.inr ⟨p,hp,rfl⟩)
theorem ke(h:i<5):oB M i∈yA M G:=by
 unfold yA;exact List.mem_append_left _ (List.mem_append_left _ (p9.2 ⟨i,py.2 h,rfl⟩))
theorem zI6(h:j<M.rules.length):nT (vO M j) j (G j)∈yA M G:=by
 unfold yA;exact List.mem_append_left _ (List.mem_append_right _ (p9.2 ⟨j,py.2 h,rfl⟩))
theorem jN(M:yC)(i:Nat):(oB M i).kind≠3/\(oB M i).kind≠4:=by rw[gB];split <;> decide
theorem Yl(h:yI M)(hj:j<M.rules.length):(vO M j).head<4:=(h.rules _ (lI hj)).head
theorem JA(h:i<3):uR (yA M G) 1 (yD i)=true:=D6 (ke (G:=G) (show i<5 by omega)) (by rw[gB,tl h]) (oU M i)
theorem zAC(h:3<=i)(h5:i<5):uR (yA M G) 2 (yD i)=true:=D6 (ke (G:=G) h5) (by rw[gB,tb (by omega)]) (oU M i)
theorem DG(h:yI M){d:Nat}(hd:d∈M.heads):tP (yA M G) (xG 99 d)=true:=by
 rw[h.heads]at hd
 have hd2:d∈M.rules.map xP.head:=by
  have:=(cF (M.rules.map xP.head) [] (x:=d)).1 hd;rcases this with h1|h1
  ·cases h1
  ·exact h1
 obtain⟨r,hr,e⟩:=p9.1 hd2;obtain⟨j,hj,ej⟩:=List.mem_iff_getElem.1 hr;have er:vO M j=r:=by unfold vO;simp[List.getD,hj,ej]
 refine me.2 ⟨_,zI6 (G:=G) hj,?_⟩;unfold D1 nT;simp[er,e]
theorem Xm{d h:Nat}(hd:d∈xC M.heads h):d∈M.heads/\d<h:=by
 unfold xC at hd;rw[mj,py]at hd;exact⟨ce hd.2,hd.1⟩
theorem zGJ(h:yI M)(hi:i<5):fY (yA M G) i=0:=by
 unfold fY;rw[BZ hi,oU]
 have h1:∀k,uR ((yA M G).take i) k (yD i)=false:=fun k=>zA0 fun j hj hjl _ e=>by
  rw[BZ (by omega),oU]at e;have:=zEK j (by omega) i hi e;omega
 have h2:tP (yA M G) (yD i)=false:=by
  cases hc:tP (yA M G) (yD i)
  ·rfl
  ·obtain⟨x,hx,hp⟩:=me.1 hc
   unfold D1 at hp;simp only[pq,pw]at hp;rcases Yx hx with ⟨k,hk,rfl⟩|⟨j,hj,rfl⟩|⟨p,hp',rfl⟩
   ·exact absurd hp.1 (jN M k).1
   ·exact absurd hp.2 (zEL i hi _ (Yl h hj))
   ·exact absurd hp.1 (show ¬(4:Int)=3 by decide)
 rw[h1,h1,h2];rfl
theorem XE{x:xE}(h:x∈rB ps):∃p∈ps,∃m,x=bH m p:=by
 cases ps with
 | nil=>cases h
 | cons p r =>
   rcases l6.1 h with rfl|h
   ·exact⟨p,by simp,false,rfl⟩
   ·obtain⟨q,hq,rfl⟩:=p9.1 h
    exact⟨q,mu _ hq,q.minus,rfl⟩
theorem VT(ps:List yU):(rB ps).length=ps.length:=by cases ps <;> simp[rB]
theorem VU{low:List Nat}(h:jR low p)(m:Bool):(bH m p).name=[]\/(∃i,i<3/\(bH m p).name=yD i)\/∃d∈low,(bH m p).name=xG 99 d:=by
 obtain⟨mi,ti,n,nu,hd⟩:=p;rcases h with ⟨h0,h1,h2,h3⟩|⟨h0,h1,h2⟩|⟨h0,h1,h2,h3⟩|⟨h1,h2,d,hd4,h3⟩
 ·simp only at h0 h1 h2 h3
  subst h0 h2 h3;exact .inl rfl
 ·simp only at h0 h1 h2
  subst h0 h2;exact .inr (.inl ⟨nu.toNat,by omega,by simp[bH,h1.1]⟩)
 ·simp only at h0 h1 h2 h3
  subst h0 h3;exact .inr (.inl ⟨nu.toNat,by omega,by simp[bH,h2.1]⟩)
 ·simp only at h1 h2 h3
  subst h2 h3;exact .inr (.inr ⟨d,hd4,by cases ti <;> simp[bH]⟩)
theorem zFA{low:List Nat}(h:jR low p)(m:Bool):tS (bH m p)=false:=by
 unfold tS;obtain⟨mi,ti,n,nu,hd⟩:=p;cases ti
 ·have:(bH m ⟨mi,false,n,nu,hd⟩).starred=false:=by
   unfold bH;rw[tb (by simp)];split
   ·rfl
   ·split <;> rfl
  rw[this];rfl
 ·have h9:n<=9:=by
   rcases h with ⟨h0,-⟩|⟨h0,-⟩|⟨-,h1,-⟩|⟨h1,-⟩
   ·cases h0
   ·cases h0
   ·exact h1.2
   ·exact h1.2
  have:(bH m ⟨mi,true,n,nu,hd⟩).num=n:=by unfold bH;rw[tl rfl]
  rw[this,ty (by omega),Bool.and_false]
theorem zDM(h:yI M)(hj:j<M.rules.length):∀x∈rB (vO M j).parts,qL (yA M G) x=true:=fun x hx=>by
 obtain⟨p,hp,m,rfl⟩:=XE hx;have hr:=h.rules _ (lI hj);unfold qL Q6;rcases VU (hr.parts.2.2 p hp) m with e|⟨i,hi,e⟩|⟨d,hd,e⟩
 ·simp[e]
 ·rw[e,JA hi];simp
 ·rw[e,DG h (Xm hd).1];simp
theorem Qx{low:List Nat}(h:xL low t):mI t=⟨4,0,0,[],[],[],0⟩\/(∃i,3<=i/\i<5/\mI t=⟨6,0,0,yD i,[],[],0⟩)\/(∃d∈low,mI t=⟨5,0,0,xG 99 d,[],[],0⟩)\/(∃i o,i<3/\(mI t).kind=7/\(mI t).name=yD i/\(mI t).other=o/\(o=[]\/∃i',i'<3/\o=yD i')):=by
 rcases h with h|⟨h,x1,x2⟩|⟨h,d,hd,hx⟩|⟨h,⟨x1,x2⟩,⟨y1,y2⟩,⟨m1,m2⟩,n1,n2⟩
 ·left;unfold mI;rw[tl h]
 ·right;left;exact⟨t.x.toNat,by omega,by omega,by unfold mI;rw[tb (by omega),tl h]⟩
 ·right;right;left;exact⟨d,hd,by unfold mI;rw[tb (by omega),tb (by omega),tl h,hx];rfl⟩
 ·right;right;right
  rcases h with h|h
  ·have e:mI t=⟨7,0,0,yD t.x.toNat,sE t.mark.toNat,[],t.n⟩:=by unfold mI;rw[tb (by omega),tb (by omega),tb (by omega),tl h]
   rw[e];exact⟨t.x.toNat,[],by omega,rfl,rfl,rfl,.inl rfl⟩
  ·have e:mI t=⟨7,0,0,yD t.x.toNat,sE t.mark.toNat,yD t.y.toNat,0⟩:=by unfold mI;rw[tb (by omega),tb (by omega),tb (by omega),tb (by omega)]
   rw[e];exact⟨t.x.toNat,_,by omega,rfl,rfl,rfl,.inr ⟨t.y.toNat,by omega,rfl⟩⟩
theorem zDT(h:yI M){hd:Nat}{x:zT}(hx:zFW (xC M.heads hd) x):vF (yA M G) x=true:=by
 unfold vF;rcases hx with hk|⟨t,ht,rfl⟩
 ·rw[tb (by omega),tb (by omega),tb (by omega)]
 ·rcases Qx ht with e|⟨i,h1,h2,e⟩|⟨d,hd,e⟩|⟨i,o,hi,e1,e2,e3,ho⟩
  ·rw[e];rfl
  ·rw[e];exact zAC h1 h2
  ·rw[e];exact DG h (Xm hd).1
  ·rw[e1,tb (by decide),tb (by decide),tl rfl,e2,e3,JA hi]
   rcases ho with rfl|⟨i',hi',rfl⟩
   ·rfl
   ·rw[JA hi'];simp
theorem zF3{p:zE->Bool}:∀ {i:Nat} (a:Nat),i<ls.length->p (lA ls i)=true->(∀j,j<i->p (lA ls j)=false)->tR p ls a=a+i:=by
 induction ls with
 | nil=>intro i a h;simp at h
 | cons x r ih =>
   intro i a h h1 h2;rw[tR]
   cases i with
   | zero =>
     have:p x=true:=h1;rw[tl this];rfl
   | succ i =>
     have h0:p x=false:=h2 0 (by omega);rw[tb (by rw[h0];decide),ih (a+1) (by simpa using h) h1 (fun j hj=>h2 (j+1) (by omega))];omega
theorem DB(h:yI M)(hj:j<M.rules.length):uK (yA M G) (xG 114 j)=5+j:=by
 have h8:=h.few;unfold uK;rw[zF3 (i:=5+j) 0 (by rw[Yy];omega) (by rw[JV hj];unfold Zl nT;simp) (fun k hk=>?_)]
 ·omega
 ·unfold Zl
  rcases X6 (M:=M) (G:=G) (i:=k) (by rw[Yy];omega) with ⟨h1,e⟩|⟨j',h1,h2,e⟩|⟨p,hp,e⟩
  ·rw[e,ty (jN M k).1];rfl
  ·rw[e]
   have:xG 114 j'≠xG 114 j:=fun e'=>by have:=Bb j' (by omega) j (by omega) e';omega
   unfold nT;simp[this]
  ·rw[e];rfl
theorem VE(hi:i<M.rules.length):(M.rules.map xP.head).getD i 0=(vO M i).head:=by
 unfold vO;simp[List.getD,hi]
theorem zJ3(h:yI M)(hG:∀i,i<M.rules.length->sT (xC M.heads (vO M i).head) (vO M i) (G i))(hi:i<(yA M G).length):mM (yA M G) i=0:=by
 have h8:=h.few;unfold mM;rcases X6 hi with ⟨h5,e⟩|⟨j,hj,rfl,e⟩|⟨p,hp,e⟩
 ·have hk:=gB M i
  by_cases h3:i<3
  ·rw[tl h3]at hk
   rw[e,hk,tl rfl];unfold iE;rw[zGJ h h5,tl rfl,e];have hn:=h.nums i h3;have e1:(oB M i).high=M.hi i:=by unfold oB;rw[tl h3]
   have e2:(oB M i).low=M.lo i:=by unfold oB;rw[tl h3]
   rw[e1,e2,tb (by omega)]
  ·rw[tb h3]at hk
   rw[e,hk,tb (by decide),tl rfl];exact zGJ h h5
 ·rw[e]
  show lP (yA M G) (5+j)=0;unfold lP;rw[e]
  have h1:uR ((yA M G).take (5+j)) 3 (nT (vO M j) j (G j)).name=false:=zA0 fun k hk hkl hk3 e'=>by
   rcases X6 hkl with ⟨_,q⟩|⟨j',q1,q2,q⟩|⟨p,hp,q⟩
   ·rw[q]at hk3;exact absurd hk3 (jN M k).1
   ·rw[q]at e'
    have:j'=j:=Bb j' (by omega) j (by omega) e';omega
   ·rw[q]at hk3;exact absurd hk3 (show ¬(4:Int)=3 by decide)
  have h2:((nT (vO M j) j (G j)).sum.any fun x => !qL (yA M G) x)=false:=by
   rw[dy];intro x hx;rw[zDM h hj x hx];decide
  have h3:((nT (vO M j) j (G j)).nd.any fun x => !vF (yA M G) x)=false:=by
   rw[dy];intro x hx;rw[zDT h ((hG j hj).nds x hx)];decide
  rw[h1,h2,h3];rfl
 ·obtain⟨p1,p2,p3⟩:=J9 h hp
  rw[e];show cS (yA M G) (cT p)=0;unfold cS;have q1:uK (yA M G) (cT p).name=5+p.1:=DB h (by omega);have q2:uK (yA M G) (cT p).lower=5+p.2:=DB h p2;have hl:=Yy M G;rw[q1,q2,tb (by omega),JV (by omega),JV p2];have zL4:(cT p).name≠(cT p).lower:=fun e'=>by have:=Bb p.1 (by omega) p.2 (by omega) e';omega
  have hc:(nT (vO M p.1) p.1 (G p.1)).conc=(nT (vO M p.2) p.2 (G p.2)).conc:=by
   have:=(h.over p.1 p.2 p3).2.2;rw[VE (by omega),VE p2]at this;show xG 99 _=xG 99 _;rw[this]
  rw[tb (fun hh=>by rcases hh with hh|hh;exact zL4 hh;exact hh hc)]
theorem Dk(h:yI M):(Qm M).length<=28:=by
 have:=ux h;rw[Vf,pi]at this;exact this
theorem zFF(h:yI M)(k:Int)(hk:k=1\/k=2\/k=3\/k=4):(vC k (yA M G):Int)<=Yd k:=by
 have h8:=h.few;have hov:=Dk h;unfold yA;rw[XL,XL];have a1:=DH k ((List.range M.rules.length).map fun i=>nT (vO M i) i (G i));have a2:=DH k ((Qm M).map cT);rw[pi,List.length_range]at a1;rw[pi]at a2
 have b1:k≠3->vC k ((List.range M.rules.length).map fun i=>nT (vO M i) i (G i))=0:=fun hk=>Kb fun x hx e=>by
  obtain⟨i,_,rfl⟩:=p9.1 hx;exact hk e.symm
 have b2:k≠4->vC k ((Qm M).map cT)=0:=fun hk=>Kb fun x hx e=>by
  obtain⟨i,_,rfl⟩:=p9.1 hx;exact hk e.symm
 have c1:vC 1 ((List.range 5).map (oB M))=3:=by rfl
 have c2:vC 2 ((List.range 5).map (oB M))=2:=by rfl
 have c3:∀k:Int,k=3\/k=4->vC k ((List.range 5).map (oB M))=0:=fun k hk=>Kb fun x hx e=>by
  obtain⟨i,_,rfl⟩:=p9.1 hx;rcases hk with rfl|rfl
  ·exact(jN M i).1 e
  ·exact(jN M i).2 e
 rcases hk with rfl|rfl|rfl|rfl
 ·rw[b1 (by decide),b2 (by decide),c1];decide
 ·rw[b1 (by decide),b2 (by decide),c2];decide
 ·rw[b2 (by decide),c3 3 (.inl rfl)]
  show _<=(8:Int);omega
 ·rw[b1 (by decide),c3 4 (.inr rfl)]
  show _<=(28:Int);omega
theorem zE8(h:yI M)(hG:∀i,i<M.rules.length->sT (xC M.heads (vO M i).head) (vO M i) (G i))(hi:i<(yA M G).length):tH (yA M G) i=false:=by
 unfold tH;have h1:=zJ8 hi
 have hk:(lA (yA M G) i).kind=1\/(lA (yA M G) i).kind=2\/(lA (yA M G) i).kind=3\/(lA (yA M G) i).kind=4:=by
  rcases X6 hi with ⟨h5,e⟩|⟨j,hj,rfl,e⟩|⟨p,hp,e⟩
  ·rw[e,gB];split
   ·exact .inl rfl
   ·exact .inr (.inl rfl)
  ·rw[e];exact .inr (.inr (.inl rfl))
  ·rw[e];exact .inr (.inr (.inr rfl))
 have h2:=zFF (G:=G) h _ hk;rw[ty (by omega),bf];rcases X6 hi with ⟨h5,e⟩|⟨j,hj,rfl,e⟩|⟨p,hp,e⟩
 ·rw[e,ty (jN M i).1];rfl
 ·rw[e]
  have hg:=hG j hj;have hr:=h.rules _ (lI hj);have t6:=hr.tests.2.1;have p4:=hr.parts.2.1;have ht:=hg.few;have hd:=hg.dep;unfold Vq tJ;have e1:(nT (vO M j) j (G j)).tests=(G j).t:=rfl;have e2:(nT (vO M j) j (G j)).dep=(G j).p:=rfl;have e3:(nT (vO M j) j (G j)).sum=rB (vO M j).parts:=rfl
  have e4:(rB (vO M j).parts).any tS=false:=by
   rw[dy];intro x hx;obtain⟨p,hp,m,rfl⟩:=XE hx;rw[zFA (hr.parts.2.2 p hp) m];decide
  rw[e1,e2,e3,e4,VT,ty (show ¬ 6<(G j).t by omega),ty (show ¬ 4<(G j).p by omega),ty (show ¬ 4<(vO M j).parts.length by omega)];simp
 ·rw[e];rfl
def ZH(nm:Bs):Nat:=if nm.getD 0 0=99 then (nm.getD 1 0).toNat else 0
theorem G4(nm:Bs)(l:List Bs):∀(i a:Nat),qK nm l i=(a:Int)->i<=a/\l.getD (a-i) []=nm:=by
 induction l with
 | nil=>intro i a h;rw[qK]at h;omega
 | cons x r ih =>
   intro i a h;rw[qK]at h;by_cases hx:x=nm
   ·rw[tl hx]at h
    have:i=a:=by omega
    subst this;exact⟨j1 _,by rw[fm];exact hx⟩
   ·rw[tb hx]at h
    obtain⟨h1,h2⟩:=ih (i+1) a h;refine⟨by omega,?_⟩;rw[show a-i=(a-(i+1))+1 by omega];exact h2
theorem cG{zKX:List Bs}{nm:Bs}{a:Nat}(h:zH zKX nm=(a:Int)):zKX.getD a []=nm:=by
 have:=(G4 nm zKX 0 a h).2
 rwa [Nat.sub_zero]at this
theorem Jy:∀d,d<4->ZH (xG 99 d)=97+d:=by decide
theorem zCI:∀i,i<5->ZH (yD i)=0:=by decide
theorem Dv:∀d,d<8->((xG 114 d).getD 1 0).toNat=97+d:=by decide
theorem Dm{Gr:List Bool}(hl:Gr.length=64)(R:Nat->Nat)(h:∀a b,a<8->b<8->gA Gr a b=true->R b<R a):qS Gr=false:=by
 cases hr:qS Gr
 ·rfl
 ·obtain⟨a,ha,ht⟩:=(Zd hl).1 hr
  have:=ht (fun x y=>R y<R x) (fun x y hxy=>h x y hxy.1 hxy.2.1 hxy.2.2) (fun x y z h1 h2=>Nat.lt_trans h2 h1);exact absurd this (Nat.lt_irrefl _)
theorem zA6(a b:Nat):gA gZ a b=false:=by
 unfold gA gZ;rw[pd,bt];split <;> rfl
theorem qb(labs:List Bs)(ls:List zE):∀Gr,(uW labs ls Gr).length=Gr.length:=by
 induction ls with
 | nil=>intro Gr;rfl
 | cons x r ih=>intro Gr;rw[uW,ih];split
                ·rw[mE]
                ·rfl
theorem ql(h:yI M)(hG:∀i,i<M.rules.length->sT (xC M.heads (vO M i).head) (vO M i) (G i))(zKX:List Bs){F:List zE}(hm:∀x∈F,x∈yA M G):qS (qM zKX F gZ)=false:=by
 refine Dm (by rw[fT,xK]) (fun a=>ZH (zKX.getD a [])) fun a b ha hb hab=>?_;rw[Xe zKX F ha hb gZ xK,zA6,bf]at hab;obtain⟨x,hx,hp⟩:=me.1 hab;unfold zFN at hp;simp only[pq,ba,pw,me]at hp;rcases Yx (hm x hx) with ⟨k,hk,rfl⟩|⟨j,hj,rfl⟩|⟨p,hp',rfl⟩
 ·exact absurd hp.1 (jN M k).1
 ·have hr:=h.rules _ (lI hj)
  have hh:=hr.head;obtain⟨-,ea,hp⟩:=hp;have ea:=cG ea;have va:ZH (zKX.getD a [])=97+(vO M j).head:=by rw[ea];exact Jy _ hh
  show ZH (zKX.getD b [])<ZH (zKX.getD a []);rw[va];rcases hp with ⟨y,hy,eb⟩|⟨y,hy,e5,eb⟩
  ·have eb:=cG eb
   obtain⟨p,hpp,m,rfl⟩:=XE hy;rw[eb];rcases VU (hr.parts.2.2 p hpp) m with e|⟨i,hi,e⟩|⟨d,hd,e⟩
   ·rw[e,show ZH []=0 from rfl];omega
   ·rw[e,zCI i (by omega)];omega
   ·have:=(Xm hd).2
    rw[e,Jy d (by omega)];omega
  ·have eb:=cG eb
   rw[eb];rcases(hG j hj).nds y hy with hk|⟨t,ht,rfl⟩
   ·omega
   ·rcases Qx ht with e|⟨i,h1,h2,e⟩|⟨d,hd,e⟩|⟨i,o,hi,e1,e2,e3,ho⟩
    ·rw[e]at e5;cases e5
    ·rw[e]at e5;cases e5
    ·have:=(Xm hd).2
     rw[e];show ZH (xG 99 d)<_;rw[Jy d (by omega)];omega
    ·rw[e1]at e5;cases e5
 ·exact absurd hp.1 (show ¬(4:Int)=3 by decide)
theorem uz(h:yI M)(labs:List Bs){F:List zE}(hm:∀x∈F,x∈yA M G):qS (uW labs F gZ)=false:=by
 have h8:=h.few;refine Dm (by rw[qb,xK]) (fun a=>300-((labs.getD a []).getD 1 0).toNat) fun a b ha hb hab=>?_;rw[YW labs F ha hb gZ xK,zA6,bf]at hab;obtain⟨x,hx,hp⟩:=me.1 hab;unfold zFM at hp;simp only[pq,pw]at hp;rcases Yx (hm x hx) with ⟨k,hk,rfl⟩|⟨j,hj,rfl⟩|⟨p,hp',rfl⟩
 ·exact absurd hp.1 (jN M k).2
 ·exact absurd hp.1 (show ¬(3:Int)=4 by decide)
 ·obtain⟨p1,p2,-⟩:=J9 h hp'
  obtain⟨-,ea,eb⟩:=hp;have ea:=cG ea;have eb:=cG eb;show 300-((labs.getD b []).getD 1 0).toNat<300-((labs.getD a []).getD 1 0).toNat;rw[ea,eb];have e1:=Dv p.1 (by omega);have e2:=Dv p.2 (by omega);show 300-((xG 114 p.2).getD 1 0).toNat<300-((xG 114 p.1).getD 1 0).toNat;rw[e1,e2];omega
theorem ZS(h:yI M)(hG:∀i,i<M.rules.length->sT (xC M.heads (vO M i).head) (vO M i) (G i)):kI (yA M G)=(0,0):=by
 unfold kI;rw[BC _ 0 fun i _ hi=>zE8 h hG (by omega)];show XF _=_;unfold XF;rw[GF _ 0 fun i _ hi=>zJ3 h hG (by omega)];show YO _=_;unfold YO;rw[ql h hG _ fun _ h=>h,uz (G:=G) h _ fun _ h=>h,tb (by decide),tb (by decide)]
end Go.Proofs.YtnbpdffdnphbeabGreatDoor
