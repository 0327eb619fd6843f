import Derived.Test.YtnbpdffdnphbeabGreatDoorPGrd
set_option maxRecDepth 100000
namespace Go.Proofs.YtnbpdffdnphbeabGreatDoor
variable {P:List PT}
variable{k:Int}{a b:List Bs}{ps:List yX}{ls:List zE}{B i j:Nat}{M:yB}{t:yC}{p:yX}{x:zE}
structure GR where
 nd:List zR
 root:Int
 t:Int
 p:Int
structure oM(low:List Nat)(r:vI)(g:GR):Prop where
 dep:g.p<=4
 few:g.t=(r.tests.length:Nat)
 nds:∀z∈g.nd,zGJ low z
 good:dI g.nd
 cnt:g.nd.length<=100
 den:∃t l k,r.tests=t::l/\zHP low g.nd g.root k (zB0 r.whole t l)
def gW(M:yB)(i:Nat):zE:=if i<3 then ⟨1,yD i,M.lo i,M.hi i,[],[],[],0,0,0,[]⟩ else ⟨2,yD i,0,0,[],[],[],0,0,0,[]⟩
def nF(r:vI)(i:Nat)(g:GR):zE:=⟨3,xM 114 i,0,0,xM 99 r.head,rY r.parts,g.nd,g.root,g.t,g.p,[]⟩
def cQ(p:Nat × Nat):zE:=⟨4,xM 114 p.1,0,0,[],[],[],0,0,0,xM 114 p.2⟩
def QD(M:yB):List (Nat × Nat):=(List.range M.rules.length).flatMap fun i=>(List.range M.rules.length).flatMap fun k=>if M.over i k=true then [(i,k)] else []
def vE(M:yB)(i:Nat):vI:=M.rules.getD i aV
def vC(M:yB)(G:Nat->GR):List zE:=(List.range 5).map (gW M)++(List.range M.rules.length).map (fun i=>nF (vE M i) i (G i))++(QD M).map cQ
theorem pW(hi:i<M.rules.length):vE M i∈M.rules:=bG aV hi
def zHO(P:List PT)(l:List Bs)(Q:zE->Prop):Prop:=(∀w r,l=w::r->yI w≠0)/\0<l.length/\∀a,Zu P a l->a+l.length<P.length->∃x,Q x/\uC P (a,false)=(x,(a+l.length,false))
theorem B9{ws:List Bs}(h:Fs x ws):zHO P ws (· = x):=⟨h.1,h.2.1,fun a hA hl=>⟨x,rfl,h.2.2 P a hA hl⟩⟩
theorem zIH(hM:yA M)(hi:i<M.rules.length)(lo:Bool):zHO P (cK (vE M i) i lo) (fun x=>∃g,oM (xF M.heads (vE M i).head) (vE M i) g/\x=nF (vE M i) i g):=by
 have h8:=hM.few;have hr:=hM.rules _ (pW hi);generalize vE M i=r at *;have hh:=hr.head;have hl4:∀d∈xF M.heads r.head,d<4:=fun d hd=>by have:=X7 hd;omega
 have hn:yI (xM 114 i)=2:=mB (.inr (.inr (.inr rfl))) (by omega);have hc:yI (xM 99 r.head)=2:=mB (.inr (.inr (.inl rfl))) (by omega);have hS:=qg hl4 hr.parts
 obtain⟨t,l,htl⟩:∃t l,r.tests=t::l:=by
  have:=hr.tests.1
  cases h:r.tests with
  | nil=>rw[h]at this;simp at this
  | cons t l=>exact⟨t,l,rfl⟩
 have hT:=hr.tests;rw[htl]at hT
 have e:cK r i lo=DK::xM 114 i::[58]::xM 99 r.head::[61]::(bO r.parts++qX::(bF r.whole (t::l) lo++[cU])):=by
  unfold cK;rw[htl];simp[DK,qX,cU]
 have h100:=(ke hr i lo).2;rw[e]at h100;rw[e];refine⟨fun w r h=>by cases h;decide,by simp,fun a h hlen=>?_⟩;obtain⟨h0,h1,h2,h3,h4,h5⟩:=h;generalize hSS:bO r.parts=S at *;generalize hGG:bF r.whole (t::l) lo=GG at *;have hl:a+(S.length+GG.length+7)<P.length:=by simp at hlen;omega
 rw[show S++qX::(GG++[cU])=(S++[qX])++(GG++[cU]) by simp]at h5;obtain⟨hs,hg⟩:=h5.app;obtain⟨_,hw⟩:=hs.app;obtain⟨hg1,hge⟩:=hg.app;have es:=hS P _ hs (by omega);rw[tm,mj,<-dg]at hg hg1 hge;rw[<-hGG]at hg;obtain⟨root,nd,p,k,eg,hp,hD,hN,hGd,hCn⟩:=zAZ hl4 r.whole lo hT hg (by rw[hGG];omega);rw[hGG]at eg;have ew:=fD hw.1 (by decide);have ee:=fD hge.1 (by decide);refine⟨nF r i ⟨nd,root,(l.length:Int)+1,p⟩,⟨⟨nd,root,(l.length:Int)+1,p⟩,⟨hp,by rw[htl];simp,hN,hGd,by rw[hGG]at hCn;simp at h100;show nd.length<=100;omega,t,l,k,htl,hD⟩,rfl⟩,?_⟩
 have el:tI P (a+1,false)=(nF r i ⟨nd,root,(l.length:Int)+1,p⟩,(a+(DK::xM 114 i::[58]::xM 99 r.head::[61]::(S++qX::(GG++[cU]))).length,false)):=by
  unfold tI;simp only[lB h1 hn,fD h2 (by decide),lB h3 hc,fD h4 (by decide),es,ew,eg,show ([59]:Bs)=cU from rfl,ee];refine Prod.ext rfl (Prod.ext ?_ rfl);simp;omega
 unfold uC;simp only[kG h0 [110,117,109] (fun _=>by decide),kG h0 [102,108,97,103] (fun _=>by decide),show ([114,117,108,101]:Bs)=DK from rfl,bA h0 (by decide)];exact el
theorem in_k(hM:yA M)(hi:i<5):zHO P (gI M i) (· = gW M i):=by
 unfold gI gW;have hk:=lG hi;by_cases h3:i<3
 ·rw[tl h3,tl h3]
  have hn:=hM.nums i h3;obtain⟨a1,a2⟩:=nO (n:=M.lo i) (by omega) (by omega);obtain⟨b1,b2⟩:=nO (n:=M.hi i) (by omega) (by omega);have:=Gm hk a1 b1;rw[a2,b2]at this;exact B9 this
 ·rw[tb h3,tb h3]
  exact B9 (B6 hk)
theorem JZ(h:yA M){p:Nat × Nat}(hp:p∈QD M):p.1<p.2/\p.2<M.rules.length/\M.over p.1 p.2=true:=by
 unfold QD at hp;obtain⟨i,hi,hp⟩:=bj.1 hp;obtain⟨k,hk,hp⟩:=bj.1 hp;split at hp
 ·rename_i ho
  rw[pu.1 hp];have:=h.over i k ho;exact⟨this.1,this.2.1,ho⟩
 ·cases hp
theorem ov_k(hM:yA M){p:Nat × Nat}(hp:p∈QD M):zHO P (Yx p.1 p.2) (· = cQ p):=by
 have h1:=JZ hM hp;have h8:=hM.few;exact B9 (B5 (mB (.inr (.inr (.inr rfl))) (by omega)) (mB (.inr (.inr (.inr rfl))) (by omega)))
def jG:List (zE->Prop)->List zE->Prop
 | [],[]=>True
 | Q::r,x::xs=>Q x/\jG r xs
 | _,_=>False
theorem VJ(P:List PT):∀(K:List (List Bs × (zE->Prop))) (n a:Nat) (acc:List zE),(∀y∈K,zHO P y.1 y.2)->Zu P a (K.map Prod.fst).flatten->(yL P (a+(K.map Prod.fst).flatten.length)).k=0->a+(K.map Prod.fst).flatten.length<P.length->K.length<n->∃xs,jG (K.map Prod.snd) xs/\fG P n (a,false) acc=(acc++xs,(a+(K.map Prod.fst).flatten.length,false)):=by
 intro K
 induction K with
 | nil =>
   intro n a acc hR hA hk hl hn;obtain⟨n,rfl⟩:∃k,n=k+1:=⟨n-1,by simp at hn;omega⟩;refine⟨[],trivial,?_⟩;rw[fG];simp only[List.map_nil,List.flatten_nil,List.length_nil,ld]at hk ⊢;rw[tl hk,ms]
 | cons y K ih =>
   intro n a acc hR hA hk hl hn;obtain⟨n,rfl⟩:∃k,n=k+1:=⟨n-1,by simp at hn;omega⟩;obtain⟨hx0,hx1,hx⟩:=hR y (by simp);obtain⟨l,Q⟩:=y;simp only at hx0 hx1 hx;have e0:(List.map Prod.fst ((l,Q)::K)).flatten=l++(List.map Prod.fst K).flatten:=rfl;rw[e0]at hA hk hl ⊢;rw[tm]at hk hl ⊢;obtain⟨h1,h2⟩:=hA.app;obtain⟨x,hQ,e⟩:=hx a h1 (by omega)
   have hk0:(yL P a).k≠0:=by
    cases l with
    | nil=>simp at hx1
    | cons w r=>rw[h1.1.1];exact hx0 w r rfl
   obtain⟨xs,hxs,ex⟩:=ih n (a+l.length) (acc++[x]) (fun y hy=>hR y (mt _ hy)) h2 (by rw[dg];exact hk) (by omega) (by simp at hn;omega);refine⟨x::xs,⟨hQ,hxs⟩,?_⟩;rw[fG];simp only[e];rw[tb hk0,ex,pr,List.singleton_append,dg]
theorem jG.app{A B:List (zE->Prop)}:∀ {xs:List zE},jG (A++B) xs->∃xa xb,xs=xa++xb/\jG A xa/\jG B xb:=by
 induction A with
 | nil=>intro xs h;exact⟨[],xs,rfl,trivial,h⟩
 | cons Q r ih =>
   intro xs h
   cases xs with
   | nil=>exact absurd h id
   | cons x xs =>
     obtain⟨xa,xb,e,h1,h2⟩:=ih h.2;exact⟨x::xa,xb,by rw[e];rfl,⟨h.1,h1⟩,h2⟩
theorem jG.eq{β:Type}{f:β->zE}{zs:List β}:∀ {xs:List zE},jG (zs.map fun z x=>x=f z) xs->xs=zs.map f:=by
 induction zs with
 | nil=>intro xs h;cases xs with
   | nil=>rfl
   | cons x xs=>exact absurd h id
 | cons z r ih=>intro xs h;cases xs with
   | nil=>exact absurd h id
   | cons x xs=>rw[dc,ih h.2,h.1]
theorem jG.one{Q:zE->Prop}{xs:List zE}(h:jG [Q] xs):∃x,xs=[x]/\Q x:=by
 cases xs with
 | nil=>exact absurd h id
 | cons x xs =>
   cases xs with
   | nil=>exact⟨x,rfl,h.1⟩
   | cons y ys=>exact absurd h.2 id
theorem jG.ex{S:Nat->GR->Prop}{F:Nat->GR->zE}(n:Nat):∀ {xs:List zE},jG ((List.range n).map fun i x=>∃g,S i g/\x=F i g) xs->∃G:Nat->GR,(∀i,i<n->S i (G i))/\xs=(List.range n).map fun i=>F i (G i):=by
 induction n with
 | zero =>
   intro xs h
   cases xs with
   | nil=>exact⟨fun _=>⟨[],0,0,0⟩,fun i hi=>absurd hi (by simp),rfl⟩
   | cons x xs=>exact absurd h id
 | succ n ih =>
   intro xs h;rw[lj,bf]at h;obtain⟨xa,xb,e,h1,h2⟩:=jG.app h;obtain⟨G,hG,ea⟩:=ih h1;obtain⟨x,ex,g,hg,eg⟩:=jG.one h2;refine⟨fun i=>if i=n then g else G i,fun i hi=>?_,?_⟩
   ·show S i (if i=n then g else G i)
    by_cases zLT:i=n
    ·rw[tl zLT,zLT];exact hg
    ·rw[tb zLT];exact hG i (by omega)
   ·rw[e,ea,ex,eg,lj,bf]
    congr 1
    ·refine List.map_congr_left fun i hi=>?_
     have:=pm.1 hi;show F i (G i)=F i (if i=n then g else G i);rw[tb (show ¬i=n by omega)]
    ·simp
def XS(M:yB)(lo:Bool):List (List Bs × (zE->Prop)) :=
 (List.range 5).map (fun i=>(gI M i,fun x=>x=gW M i))++(List.range M.rules.length).map (fun i=>(cK (vE M i) i lo,fun x=>∃g,oM (xF M.heads (vE M i).head) (vE M i) g/\x=nF (vE M i) i g))++(QD M).map (fun p=>(Yx p.1 p.2,fun x=>x=cQ p))
theorem V1(M:yB):((List.range M.rules.length).flatMap fun i=>tL M i M.rules.length)=(QD M).map fun p=>Yx p.1 p.2:=by
 unfold QD tL;rw[List.map_flatMap];congr 1
 funext i
 rw[List.map_flatMap];congr 1
 funext k
 split <;> rfl
theorem XR(M:yB)(lo:Bool):(XS M lo).map Prod.fst=yJ M lo:=by
 unfold XS yJ;rw[V1,bf,bf,List.map_map,List.map_map,List.map_map];rfl
theorem DY(h:yA M)(lo:Bool):∀y∈XS M lo,zHO P y.1 y.2:=fun y hy=>by
 unfold XS at hy;rcases pt.1 hy with hy|hy
 ·rcases pt.1 hy with hy|hy
  ·obtain⟨i,hi,rfl⟩:=p7.1 hy
   exact in_k h (pm.1 hi)
  ·obtain⟨i,hi,rfl⟩:=p7.1 hy
   exact zIH h (pm.1 hi) lo
 ·obtain⟨p,hp,rfl⟩:=p7.1 hy
  exact ov_k h hp
theorem zB5(h:yA M)(lo:Bool):(XS M lo).length<=(yJ M lo).flatten.length:=by
 have:∀K:List (List Bs × (zE->Prop)),(∀y∈K,zHO [] y.1 y.2)->K.length<=(K.map Prod.fst).flatten.length:=by
  intro K
  induction K with
  | nil=>intro _;simp
  | cons y r ih =>
    intro hK;have h1:=ih (fun z hz=>hK z (mt _ hz));have h2:=(hK y (by simp)).2.1;rw[dc,List.flatten_cons,tm,p9];omega
 have h2:=this _ (DY (P:=[]) h lo)
 rwa [XR]at h2
theorem Dg(a b:List (List Bs)):gY (a++b)=gY a++gY b:=by unfold gY;rw[lq]
theorem zCH{p:UInt8->Prop}(h:∀n,n<256->p (UInt8.ofNat n))(c:UInt8):p c:=by
 have:=h c.toNat (UInt8.toNat_lt c)
 rwa [UInt8.ofNat_toNat]at this
theorem zL3:∀n,n<256->so (UInt8.ofNat n)=2->zH8 [UInt8.ofNat n]=true:=by decide +kernel
theorem zAC(c:UInt8)(r:Bs):zH8 (c::r)=zH8 [c]:=rfl
theorem zGZ{f:UInt8}(i:Nat)(hf:f=110\/f=102\/f=99\/f=114):zH8 (xM f i)=true:=by
 unfold xM;rcases hf with rfl|rfl|rfl|rfl <;> rfl
theorem zKV{n:Int}(h0:0<=n)(h1:n<=9999):zH8 (Lib.itoa n)=true:=by
 obtain⟨a1,a2,-⟩:=oJ h0 h1
 cases h:Lib.itoa n with
 | nil=>exact absurd h a1
 | cons c r =>
   rw[zAC];have:=a2 c (by rw[h];simp);exact zCH (p:=fun c=>so c=2->zH8 [c]=true) zL3 c this
def Qv:List Bs->Prop
 | []=>True
 | w::r=>((w=[60]\/w=[62])->∃x r',r=x::r'/\zH8 x=true)/\Qv r
theorem Qv.app(ha:Qv a)(hb:Qv b):Qv (a++b):=by
 induction a with
 | nil=>exact hb
 | cons w r ih =>
   refine⟨fun h=>?_,ih ha.2⟩;obtain⟨x,r',e,hx⟩:=ha.1 h;exact⟨x,r'++b,by rw[e];rfl,hx⟩
theorem yQ{w:Bs}{r:List Bs}(h1:w≠[60]/\w≠[62])(hr:Qv r):Qv (w::r):=⟨fun h=>h.elim (fun h=>absurd h h1.1) (fun h=>absurd h h1.2),hr⟩
theorem uI:Qv []:=trivial
theorem bQ{p:Prop}[Decidable p](ha:p->Qv a)(hb:¬p->Qv b):Qv (if p then a else b):=by split <;> rename_i h;exact ha h;exact hb h
theorem V9{f:Nat->List Bs}(n:Nat)(h:∀i,i<n->Qv (f i)):Qv ((List.range n).flatMap f):=by
 induction n with
 | zero=>trivial
 | succ n ih =>
   rw[lj,lq];refine(ih fun i hi=>h i (by omega)).app ?_;simpa using h n (by omega)
theorem V8{L:List (List Bs)}(h:∀l∈L,Qv l):Qv L.flatten:=by
 induction L with
 | nil=>trivial
 | cons l r ih=>rw[List.flatten_cons];exact(h l (by simp)).app (ih fun x hx=>h x (mt _ hx))
theorem Xv(f:UInt8)(i:Nat):xM f i≠[60]/\xM f i≠[62]:=by
 unfold xM;simp
theorem eU(i:Nat):yD i≠[60]/\yD i≠[62]:=by unfold yD;split <;> exact Xv _ _
theorem Jo{n:Int}(h0:0<=n)(h1:n<=9999):Lib.itoa n≠[60]/\Lib.itoa n≠[62]:=by
 have h:=zKV h0 h1;exact⟨fun e=>by rw[e]at h;exact absurd h (by decide),fun e=>by rw[e]at h;exact absurd h (by decide)⟩
theorem zKW:zH8 (yD i)=true:=by
 unfold yD;split
 ·exact zGZ _ (.inl rfl)
 ·exact zGZ _ (.inr (.inl rfl))
theorem zBT{low:List Nat}(h:vM low t):Qv (uR t):=by
 unfold uR;rcases h with h|⟨h,x1,x2⟩|⟨h,d,hd,hx⟩|⟨h,⟨x1,x2⟩,⟨y1,y2⟩,⟨m1,m2⟩,n1,n2⟩
 ·rw[tl h];exact yQ (by decide) trivial
 ·rw[tb (by omega),tl h];exact yQ (eU _) trivial
 ·rw[tb (by omega),tb (by omega),tl h]
  exact yQ (by decide) (yQ (Xv _ _) uI)
 ·rw[tb (by omega),tb (by omega),tb (by omega)]
  exact bQ (fun _=>yQ (eU _) ⟨fun _=>⟨_,_,rfl,zKV n1 n2⟩,yQ (Jo n1 n2) uI⟩) (fun _=>yQ (eU _) ⟨fun _=>⟨_,_,rfl,zKW⟩,yQ (eU _) uI⟩)
theorem nK{x:Bs}(hx:x≠[60]/\x≠[62]){p:Prop}[Decidable p]:Qv (if p then [x] else []):=bQ (fun _=>yQ hx uI) (fun _=>uI)
theorem zDM{low:List Nat}(h:vM low t)(lo:Bool):Qv (xC t lo):=by
 unfold xC;exact(((nK (by decide)).app (nK (by decide))).app (zBT h)).app (nK (by decide))
theorem zFI{low:List Nat}{ts:List yC}(h:tM low ts)(wh lo:Bool):Qv (bF wh ts lo):=by
 unfold bF jK;refine(((nK (by decide)).app (nK (by decide))).app (V9 _ fun i hi=>?_)).app (nK (by decide));refine Qv.app ?_ (zDM (h.2.2 _ (bG eW hi)) lo);unfold kU;exact bQ (fun _=>uI) (fun _=>bQ (fun _=>yQ (by decide) uI) (fun _=>yQ (by decide) uI))
theorem zDV{low:List Nat}(h:jN low ps):Qv (bO ps):=by
 unfold bO pI;refine V9 _ fun i hi=>?_;have hp:=h.2.2 _ (bG Q9 hi);generalize ps.getD i Q9=p at *;unfold mT dV uY tW qF;refine(((bQ (fun _=>uI) (fun _=>bQ (fun _=>yQ (by decide) uI) (fun _=>yQ (by decide) uI))).app (bQ (fun hc=>yQ ?_ uI) (fun _=>uI))).app (nK (by decide))).app (bQ (fun hn=>yQ (eU _) uI) (fun _=>bQ (fun hh=>yQ (Xv _ _) uI) (fun _=>uI)));rcases hp with ⟨-,h1,-,-⟩|⟨h0,h1,-⟩|⟨-,h1,-⟩|⟨h1,-,-⟩
 ·exact Jo h1.1 h1.2
 ·rcases hc with hc|hc
  ·exact absurd (hc.symm.trans h0) (by simp)
  ·omega
 ·exact Jo h1.1 (by omega)
 ·exact Jo h1.1 (by omega)
theorem zKE(h:yA M)(lo:Bool):Qv (yJ M lo).flatten:=V8 fun l hl=>by
 unfold yJ at hl;rcases pt.1 hl with hl|hl
 ·rcases pt.1 hl with hl|hl
  ·obtain⟨i,hi,rfl⟩:=p7.1 hl
   unfold gI;split
   ·rename_i h3
    have:=h.nums i h3;exact yQ (by decide) (yQ (eU _) (yQ (Jo (by omega) (by omega)) (yQ (by decide) (yQ (Jo (by omega) (by omega)) (yQ (by decide) uI)))))
   ·exact yQ (by decide) (yQ (eU _) (yQ (by decide) uI))
  ·obtain⟨i,hi,rfl⟩:=p7.1 hl
   have hr:=h.rules _ (bG aV (pm.1 hi));generalize M.rules.getD i aV=r at *;have q1:Qv [[114,117,108,101],xM 114 i,[58],xM 99 r.head,[61]]:=yQ (by decide) (yQ (Xv _ _) (yQ (by decide) (yQ (Xv _ _) (yQ (by decide) uI))));unfold cK;exact(((q1.app (zDV hr.parts)).app (yQ (by decide) uI)).app (zFI hr.tests _ _)).app (yQ (by decide) uI)
 ·obtain⟨i,hi,hl⟩:=bj.1 hl
  unfold tL at hl;obtain⟨j,hj,hl⟩:=bj.1 hl;split at hl
  ·rw[pu.1 hl]
   exact yQ (by decide) (yQ (Xv _ _) (yQ (Xv _ _) (yQ (by decide) uI)))
  ·cases hl
def mH:List Bs->Nat
 | []=>0
 | w::r=>w.length+3+mH r
theorem qZ(a b:List Bs):mH (a++b)=mH a+mH b:=by
 induction a with
 | nil=>simp[mH]
 | cons w r ih=>simp only[cd,mH];rw[ih];omega
theorem Qf{β:Type}{f:β->List Bs}(zs:List β)(h:∀z∈zs,mH (f z)<=B):mH (zs.flatMap f)<=zs.length*B:=by
 induction zs with
 | nil=>simp[mH]
 | cons z r ih =>
   rw[bi,qZ,p9,Nat.succ_mul];have:=h z (by simp);have:=ih fun x hx=>h x (mt _ hx);omega
theorem Zj{p:Prop}[Decidable p](ha:p->mH a<=B)(hb:¬p->mH b<=B):mH (if p then a else b)<=B:=by split <;> rename_i h;exact ha h;exact hb h
theorem zD6(r:List Bs):(F7 r).length<=mH r+1:=by
 induction r with
 | nil=>simp[F7,mH]
 | cons w r ih =>
   have h:(if w=[59] then w else 32::w).length<=w.length+1:=by
    split
    ·omega
    ·rw[p9];exact j1 _
   rw[F7,tm,mH];omega
theorem UT{l:List Bs}(h:0<l.length):(mV l).length<=mH l:=by
 cases l with
 | nil=>simp at h
 | cons w r=>have:=zD6 r;rw[mV,tm,mH];omega
theorem zD7(L:List (List Bs))(h:∀l∈L,0<l.length):(gY L).length<=mH L.flatten:=by
 induction L with
 | nil=>simp[gY,mH]
 | cons l r ih =>
   have h1:=ih fun x hx=>h x (mt _ hx);have h2:=UT (h l (by simp));unfold gY at h1 ⊢;rw[bi,tm,List.flatten_cons,qZ];omega
theorem Y8(f:UInt8)(i:Nat):(xM f i).length=2:=rfl
theorem cY(i:Nat):(yD i).length=2:=by unfold yD;split <;> rfl
theorem zAB{n:Int}(h0:0<=n)(h1:n<=9):(Lib.itoa n).length=1:=by
 rw[Cj h0,Lib.decDigits_one (by omega)];rfl
theorem zEV{k:Nat}(hk:k<6):(sX k).length<=2:=(show ∀k,k<6->(sX k).length<=2 by decide) k hk
theorem U3{low:List Nat}(h:tB low p):mH (uS p)<=13:=by
 obtain⟨mi,ti,n,nu,hd⟩:=p;rcases h with ⟨h0,h1,h2,h3⟩|⟨h0,h1,h2⟩|⟨h0,h1,h2,h3⟩|⟨h1,h2,d,hd4,h3⟩
 ·simp only at h0 h1 h2 h3
  subst h0 h2 h3;have e:uS ⟨mi,false,n,-1,-1⟩=[Lib.itoa n]:=by simp[uS,uY,tW,qF]
  have:=(oJ h1.1 h1.2).2.2.1;rw[e];simp only[mH];omega
 ·simp only at h0 h1 h2
  subst h0 h2;have e:uS ⟨mi,false,n,nu,-1⟩=[yD nu.toNat]:=by simp[uS,uY,tW,qF,h1.1]
  rw[e];simp only[mH,cY];omega
 ·simp only at h0 h1 h2 h3
  subst h0 h3;have e:uS ⟨mi,true,n,nu,-1⟩=[Lib.itoa n,[42],yD nu.toNat]:=by simp[uS,uY,tW,qF,h2.1]
  rw[e];simp only[mH,cY,zAB h1.1 h1.2,p9,List.length_nil];omega
 ·simp only at h1 h2 h3
  subst h2 h3;cases ti
  ·have e:uS ⟨mi,false,n,-1,d⟩=[xM 99 d]:=by simp[uS,uY,tW,qF]
   rw[e];simp only[mH,Y8];omega
  ·have e:uS ⟨mi,true,n,-1,d⟩=[Lib.itoa n,[42],xM 99 d]:=by simp[uS,uY,tW,qF]
   rw[e];simp only[mH,Y8,zAB h1.1 h1.2,p9,List.length_nil];omega
theorem zDX{low:List Nat}(h:jN low ps):mH (bO ps)<=64:=by
 cases ps with
 | nil=>exact absurd h.1 (by simp)
 | cons p r =>
   rw[Dq,qZ];have h1:=U3 (h.2.2 p (by simp))
   have h2:mH (pG r)<=r.length*17:=Qf r fun q hq=>by
    have:=U3 (h.2.2 q (mt _ hq));have h3:mH (oS q)=4:=by unfold oS;split <;> rfl
    rw[qZ];omega
   have h3:=h.2.1;rw[p9]at h3;omega
theorem zBU{low:List Nat}(h:vM low t):mH (uR t)<=17:=by
 unfold uR;rcases h with h|⟨h,x1,x2⟩|⟨h,d,hd,hx⟩|⟨h,⟨x1,x2⟩,⟨y1,y2⟩,⟨m1,m2⟩,n1,n2⟩
 ·rw[tl h];decide
 ·rw[tb (by omega),tl h];simp only[mH,cY];omega
 ·rw[tb (by omega),tb (by omega),tl h]
  have:aU.length=3:=rfl;simp only[mH,Y8,this];omega
 ·rw[tb (by omega),tb (by omega),tb (by omega)]
  have hm:=zEV (k:=t.mark.toNat) (by omega);have hi:=(oJ n1 n2).2.2.1;exact Zj (fun _=>by simp only[mH,cY];omega) (fun _=>by simp only[mH,cY];omega)
theorem sT{x:Bs}(hx:x.length+3<=B){p:Prop}[Decidable p]:mH (if p then [x] else [])<=B:=Zj (fun _=>by simp only[mH];omega) (fun _=>by simp only[mH];omega)
theorem zDN{low:List Nat}(h:vM low t)(lo:Bool):mH (xC t lo)<=31:=by
 unfold xC;rw[qZ,qZ,qZ];have h1:=zBU h;have h2:mH (if t.not=true then [[110,111,116]] else [])<=6:=sT (by decide);have h3:mH (if (lo&&t.pair)=true then [[40]] else [])<=4:=sT (by decide);have h4:mH (if (lo&&t.pair)=true then [[41]] else [])<=4:=sT (by decide);omega
theorem zFJ{low:List Nat}{ts:List yC}(h:tM low ts)(wh lo:Bool):mH (bF wh ts lo)<=236:=by
 unfold bF jK;rw[qZ,qZ,qZ]
 have h1:mH ((List.range ts.length).flatMap fun j=>kU j (ts.getD j eW)++xC (ts.getD j eW) lo)<=(List.range ts.length).length*37:=Qf _ fun j hj=>by
  have:=zDN (h.2.2 _ (bG eW (pm.1 hj))) lo;have h3:mH (kU j (ts.getD j eW))<=6:=by unfold kU;exact Zj (fun _=>by decide) (fun _=>Zj (fun _=>by decide) (fun _=>by decide))
  rw[qZ];omega
 have hl:=h.2.1;rw[List.length_range]at h1;have h2:mH (if wh=true then [[110,111,116]] else [])<=6:=sT (by decide);have h3:mH (if Y0 wh lo ts.length=true then [[40]] else [])<=4:=sT (by decide);have h4:mH (if Y0 wh lo ts.length=true then [[41]] else [])<=4:=sT (by decide);omega
theorem zE5{heads:List Nat}{r:vI}(h:oD heads r)(i:Nat)(lo:Bool):mH (cK r i lo)<=336:=by
 unfold cK;rw[qZ,qZ,qZ,qZ];have h1:=zDX h.parts;have h2:=zFJ h.tests r.whole lo;have h3:mH [[114,117,108,101],xM 114 i,[58],xM 99 r.head,[61]]=25:=rfl;have h4:mH [[119,104,101,110]]=7:=rfl;have h5:mH [[59]]=4:=rfl;omega
theorem J0{β γ δ:Type}(zs:List β){f:β->List γ}{g:β->List δ}(h:∀z∈zs,(f z).length<=(g z).length):(zs.flatMap f).length<=(zs.flatMap g).length:=by
 induction zs with
 | nil=>simp
 | cons z r ih =>
   rw[bi,bi,tm,tm];have:=h z (by simp);have:=ih fun x hx=>h x (mt _ hx);omega
theorem j7:∀n,n<9->((List.range n).flatMap fun i=>(List.range n).flatMap fun k=>if i<k then [(i,k)] else []).length<=28:=by decide
theorem ja(h:yA M):((List.range M.rules.length).flatMap fun i=>tL M i M.rules.length).length<=28:=by
 have h8:=h.few;refine ty (J0 (g:=fun i=>(List.range M.rules.length).flatMap fun k=>if i<k then [(i,k)] else []) _ fun i hi=>?_) (j7 M.rules.length (by omega));unfold tL;refine J0 _ fun k hk=>?_;split
 ·rename_i ho
  rw[tl (h.over i k ho).1];exact j1 _
 ·exact tx _
theorem sA{L:List (List Bs)}(h:∀l∈L,mH l<=B):mH L.flatten<=L.length*B:=by
 have:=Qf (f:=id) L h
 rwa [List.flatMap_id]at this
theorem GC(h:yA M)(lo:Bool):mH (yJ M lo).flatten<=4000:=by
 have h8:=h.few;unfold yJ;rw[List.flatten_append,List.flatten_append,qZ,qZ]
 have h1:mH ((List.range 5).map (gI M)).flatten<=170:=by
  refine ty (sA (B:=34) fun l hl=>?_) (by simp);obtain⟨i,hi,rfl⟩:=p7.1 hl;unfold gI;refine Zj (fun h3=>?_) (fun _=>by simp only[mH,cY,p9,List.length_nil];omega);have:=h.nums i h3;have h4:=(oJ (n:=M.lo i) (by omega) (by omega)).2.2.1;have h5:=(oJ (n:=M.hi i) (by omega) (by omega)).2.2.1;simp only[mH,cY,p9,List.length_nil];omega
 have h2:mH ((List.range M.rules.length).map fun i=>cK (M.rules.getD i aV) i lo).flatten<=M.rules.length*336:=by
  refine ty (sA (B:=336) fun l hl=>?_) (by simp);obtain⟨i,hi,rfl⟩:=p7.1 hl;exact zE5 (h.rules _ (bG aV (pm.1 hi))) i lo
 have h3:mH ((List.range M.rules.length).flatMap fun i=>tL M i M.rules.length).flatten<=28*21:=by
  refine ty (sA (B:=21) fun l hl=>?_) (Nat.mul_le_mul_right _ (ja h));obtain⟨i,hi,hl⟩:=bj.1 hl;unfold tL at hl;obtain⟨j,hj,hl⟩:=bj.1 hl;split at hl
  ·rw[pu.1 hl];simp only[Yx,mH,Y8,p9,List.length_nil];omega
  ·cases hl
 omega
theorem zA4(lo:Bool):∀l∈yJ M lo,0<l.length:=fun l hl=>by
 unfold yJ at hl;rcases pt.1 hl with hl|hl
 ·rcases pt.1 hl with hl|hl
  ·obtain⟨i,hi,rfl⟩:=p7.1 hl
   unfold gI;split <;> simp
  ·obtain⟨i,hi,rfl⟩:=p7.1 hl
   unfold cK;simp
 ·obtain⟨i,hi,hl⟩:=bj.1 hl
  unfold tL at hl;obtain⟨j,hj,hl⟩:=bj.1 hl;split at hl
  ·rw[pu.1 hl];unfold Yx;simp
  ·cases hl
theorem uu(h:yA M)(lo:Bool):(gY (yJ M lo)).length<=4000:=ty (zD7 _ (zA4 lo)) (GC h lo)
theorem X3(n:Nat):∀a,(∀i,a<=i->i<a+n->jL ls i=false)->fX ls n a=none:=by
 induction n with
 | zero=>intro a _;rfl
 | succ n ih=>intro a h;rw[fX,h a (by omega) (by omega),tb (by decide)];exact ih (a+1) fun i h1 h2=>h i (by omega) (by omega)
theorem J5(n:Nat):∀a,(∀i,a<=i->i<a+n->jQ ls i=0)->aL ls n a=none:=by
 induction n with
 | zero=>intro a _;rfl
 | succ n ih=>intro a h;rw[aL,h a (by omega) (by omega),tl rfl];exact ih (a+1) fun i h1 h2=>h i (by omega) (by omega)
theorem Ci(h:i<ls.length):lA ls i∈ls:=bG Yw h
theorem zDR(h:x∈ls.take i):∃j,j<i/\j<ls.length/\x=lA ls j:=by
 obtain⟨j,hj,e⟩:=List.mem_iff_getElem.1 h;rw[cp]at hj;refine⟨j,by omega,by omega,?_⟩;rw[<-e,List.getElem_take];unfold lA;simp[List.getD,show j<ls.length by omega]
theorem XN{nm:Bs}(h:∀j,j<i->j<ls.length->(lA ls j).kind=k->(lA ls j).name≠nm):vQ (ls.take i) k nm=false:=by
 cases hh:vQ (ls.take i) k nm
 ·rfl
 ·obtain⟨x,hx,hp⟩:=ma.1 hh
  obtain⟨j,h1,h2,rfl⟩:=zDR hx;unfold iP at hp;simp only[pe,po]at hp;exact absurd hp.2 (h j h1 h2 hp.1)
theorem DT{nm:Bs}(hx:x∈ls)(h1:x.kind=k)(h2:x.name=nm):vQ ls k nm=true :=
 ma.2 ⟨x,hx,by unfold iP;simp[h1,h2]⟩
theorem Qh(k:Int)(a b:List zE):xT k (a++b)=xT k a+xT k b:=by
 induction a with
 | nil=>simp[xT]
 | cons x r ih=>rw[cd,xT,xT,ih];omega
theorem Fj(k:Int)(a:List zE):xT k a<=a.length:=by
 induction a with
 | nil=>simp[xT]
 | cons x r ih=>rw[xT,p9];split <;> omega
theorem Kz{a:List zE}(h:∀x∈a,x.kind≠k):xT k a=0:=by
 induction a with
 | nil=>rfl
 | cons x r ih=>rw[xT,tb (h x (by simp)),ih fun y hy=>h y (mt _ hy)]
theorem zC0(h:i<ls.length):xT (lA ls i).kind (ls.take i)<xT (lA ls i).kind ls:=by
 have e:ls=ls.take i++lA ls i::ls.drop (i+1):=by
  conv=>lhs;rw[<-List.take_append_drop i ls,pq h]
  unfold lA;simp[List.getD,h]
 have h1:xT (lA ls i).kind ls=xT (lA ls i).kind (ls.take i)+xT (lA ls i).kind (lA ls i::ls.drop (i+1)):=by
  generalize (lA ls i).kind=k;have h2:=congrArg (xT k) e;rw[Qh]at h2;exact h2
 rw[h1,xT,tl rfl];omega
theorem rP(M:yB)(i:Nat):(gW M i).name=yD i:=by unfold gW;split <;> rfl
theorem dA(M:yB)(i:Nat):(gW M i).kind=if i<3 then 1 else 2:=by unfold gW;split <;> rfl
theorem zF9:∀i,i<5->∀j,j<5->yD i=yD j->i=j:=by decide
theorem Xi:∀i,i<8->∀j,j<8->xM 114 i=xM 114 j->i=j:=by decide
theorem zFA:∀i,i<5->∀j,j<4->xM 99 j≠yD i:=by decide
variable {M:yB} {G:Nat->GR}
theorem Zc(M:yB)(G:Nat->GR):(vC M G).length=5+M.rules.length+(QD M).length:=by unfold vC;simp only[tm,pw,List.length_range]
theorem Cy(h:i<5):lA (vC M G) i=gW M i:=by
 unfold lA vC;rw[p8,pr,mu (by simpa using h)];simp[h]
theorem Kv(h:j<M.rules.length):lA (vC M G) (5+j)=nF (vE M j) j (G j):=by
 unfold lA vC;rw[p8,pr,li (by simp),mu (by simpa using h)];simp[h]
theorem zJK(h:5+M.rules.length<=i)(h2:i<(vC M G).length):∃p∈QD M,lA (vC M G) i=cQ p:=by
 have hl:=Zc M G
 have:lA (vC M G) i∈(QD M).map cQ:=by
  unfold lA vC;rw[p8,li (by simp;omega)];have h3:i-(((List.range 5).map (gW M))++(List.range M.rules.length).map (fun i=>nF (vE M i) i (G i))).length<((QD M).map cQ).length:=by simp;omega
  rw[pb h3];exact fe h3
 obtain⟨p,hp,e⟩:=p7.1 this;exact⟨p,hp,e.symm⟩
theorem XQ(h:i<(vC M G).length):(i<5/\lA (vC M G) i=gW M i)\/(∃j,j<M.rules.length/\i=5+j/\lA (vC M G) i=nF (vE M j) j (G j))\/(∃p∈QD M,lA (vC M G) i=cQ p):=by
 by_cases h5:i<5
 ·exact .inl ⟨h5,Cy h5⟩
 ·by_cases hn:i<5+M.rules.length
  ·refine .inr (.inl ⟨i-5,by omega,by omega,?_⟩)
   have:=Kv (M:=M) (G:=G) (j:=i-5) (by omega)
   rwa [show 5+(i-5)=i by omega]at this
  ·exact .inr (.inr (zJK (by omega) h))
theorem Zb(h:x∈vC M G):(∃i,i<5/\x=gW M i)\/(∃j,j<M.rules.length/\x=nF (vE M j) j (G j))\/(∃p∈QD M,x=cQ p):=by
 unfold vC at h;rcases pt.1 h with h|h
 ·rcases pt.1 h with h|h
  ·obtain⟨i,hi,rfl⟩:=p7.1 h
   exact .inl ⟨i,pm.1 hi,rfl⟩
  ·obtain⟨i,hi,rfl⟩:=p7.1 h
   exact .inr (.inl ⟨i,pm.1 hi,rfl⟩)
 ·obtain⟨p,hp,rfl⟩:=p7.1 h
  exact .inr (.inr ⟨p,hp,rfl⟩)
theorem jq(h:i<5):gW M i∈vC M G:=by
 unfold vC;exact List.mem_append_left _ (List.mem_append_left _ (p7.2 ⟨i,pm.2 h,rfl⟩))
theorem zIX(h:j<M.rules.length):nF (vE M j) j (G j)∈vC M G:=by
 unfold vC;exact List.mem_append_left _ (List.mem_append_right _ (p7.2 ⟨j,pm.2 h,rfl⟩))
theorem jX(M:yB)(i:Nat):(gW M i).kind≠3/\(gW M i).kind≠4:=by rw[dA];split <;> decide
theorem Dw(h:yA M)(hj:j<M.rules.length):(vE M j).head<4:=(h.rules _ (pW hj)).head
theorem Kb(h:i<3):vQ (vC M G) 1 (yD i)=true:=DT (jq (G:=G) (show i<5 by omega)) (by rw[dA,tl h]) (rP M i)
theorem zB7(h:3<=i)(h5:i<5):vQ (vC M G) 2 (yD i)=true:=DT (jq (G:=G) h5) (by rw[dA,tb (by omega)]) (rP M i)
theorem Fg(h:yA M){d:Nat}(hd:d∈M.heads):jE (vC M G) (xM 99 d)=true:=by
 rw[h.heads]at hd
 have hd2:d∈M.rules.map vI.head:=by
  have:=(aE (M.rules.map vI.head) [] (x:=d)).1 hd;rcases this with h1|h1
  ·cases h1
  ·exact h1
 obtain⟨r,hr,e⟩:=p7.1 hd2;obtain⟨j,hj,ej⟩:=List.mem_iff_getElem.1 hr;have er:vE M j=r:=by unfold vE;simp[List.getD,hj,ej]
 refine ma.2 ⟨_,zIX (G:=G) hj,?_⟩;unfold DO nF;simp[er,e]
theorem cT{d h:Nat}(hd:d∈xF M.heads h):d∈M.heads/\d<h:=by
 unfold xF at hd;rw[mh,pm]at hd;exact⟨cb hd.2,hd.1⟩
theorem zH9(h:yA M)(hi:i<5):bE (vC M G) i=0:=by
 unfold bE;rw[Cy hi,rP]
 have h1:∀k,vQ ((vC M G).take i) k (yD i)=false:=fun k=>XN fun j hj hjl _ e=>by
  rw[Cy (by omega),rP]at e;have:=zF9 j (by omega) i hi e;omega
 have h2:jE (vC M G) (yD i)=false:=by
  cases hc:jE (vC M G) (yD i)
  ·rfl
  ·obtain⟨x,hx,hp⟩:=ma.1 hc
   unfold DO at hp;simp only[pe,po]at hp;rcases Zb hx with ⟨k,hk,rfl⟩|⟨j,hj,rfl⟩|⟨p,hp',rfl⟩
   ·exact absurd hp.1 (jX M k).1
   ·exact absurd hp.2 (zFA i hi _ (Dw h hj))
   ·exact absurd hp.1 (show ¬(4:Int)=3 by decide)
 rw[h1,h1,h2];rfl
theorem Qc{x:xI}(h:x∈rY ps):∃p∈ps,∃m,x=bH m p:=by
 cases ps with
 | nil=>cases h
 | cons p r =>
   rcases l6.1 h with rfl|h
   ·exact⟨p,by simp,false,rfl⟩
   ·obtain⟨q,hq,rfl⟩:=p7.1 h
    exact⟨q,mt _ hq,q.minus,rfl⟩
theorem Uo(ps:List yX):(rY ps).length=ps.length:=by cases ps <;> simp[rY]
theorem Up{low:List Nat}(h:tB low p)(m:Bool):(bH m p).name=[]\/(∃i,i<3/\(bH m p).name=yD i)\/∃d∈low,(bH m p).name=xM 99 d:=by
 obtain⟨mi,ti,n,nu,hd⟩:=p;rcases h with ⟨h0,h1,h2,h3⟩|⟨h0,h1,h2⟩|⟨h0,h1,h2,h3⟩|⟨h1,h2,d,hd4,h3⟩
 ·simp only at h0 h1 h2 h3
  subst h0 h2 h3;exact .inl rfl
 ·simp only at h0 h1 h2
  subst h0 h2;exact .inr (.inl ⟨nu.toNat,by omega,by simp[bH,h1.1]⟩)
 ·simp only at h0 h1 h2 h3
  subst h0 h3;exact .inr (.inl ⟨nu.toNat,by omega,by simp[bH,h2.1]⟩)
 ·simp only at h1 h2 h3
  subst h2 h3;exact .inr (.inr ⟨d,hd4,by cases ti <;> simp[bH]⟩)
theorem zFX{low:List Nat}(h:tB low p)(m:Bool):tZ (bH m p)=false:=by
 unfold tZ;obtain⟨mi,ti,n,nu,hd⟩:=p;cases ti
 ·have:(bH m ⟨mi,false,n,nu,hd⟩).starred=false:=by
   unfold bH;rw[tb (by simp)];split
   ·rfl
   ·split <;> rfl
  rw[this];rfl
 ·have h9:n<=9:=by
   rcases h with ⟨h0,-⟩|⟨h0,-⟩|⟨-,h1,-⟩|⟨h1,-⟩
   ·cases h0
   ·cases h0
   ·exact h1.2
   ·exact h1.2
  have:(bH m ⟨mi,true,n,nu,hd⟩).num=n:=by unfold bH;rw[tl rfl]
  rw[this,tu (by omega),Bool.and_false]
theorem zEE(h:yA M)(hj:j<M.rules.length):∀x∈rY (vE M j).parts,uP (vC M G) x=true:=fun x hx=>by
 obtain⟨p,hp,m,rfl⟩:=Qc hx;have hr:=h.rules _ (pW hj);unfold uP Xa;rcases Up (hr.parts.2.2 p hp) m with e|⟨i,hi,e⟩|⟨d,hd,e⟩
 ·simp[e]
 ·rw[e,Kb hi];simp
 ·rw[e,Fg h (cT hd).1];simp
theorem QR{low:List Nat}(h:vM low t):mN t=⟨4,0,0,[],[],[],0⟩\/(∃i,3<=i/\i<5/\mN t=⟨6,0,0,yD i,[],[],0⟩)\/(∃d∈low,mN t=⟨5,0,0,xM 99 d,[],[],0⟩)\/(∃i o,i<3/\(mN t).kind=7/\(mN t).name=yD i/\(mN t).other=o/\(o=[]\/∃i',i'<3/\o=yD i')):=by
 rcases h with h|⟨h,x1,x2⟩|⟨h,d,hd,hx⟩|⟨h,⟨x1,x2⟩,⟨y1,y2⟩,⟨m1,m2⟩,n1,n2⟩
 ·left;unfold mN;rw[tl h]
 ·right;left;exact⟨t.x.toNat,by omega,by omega,by unfold mN;rw[tb (by omega),tl h]⟩
 ·right;right;left;exact⟨d,hd,by unfold mN;rw[tb (by omega),tb (by omega),tl h,hx];rfl⟩
 ·right;right;right
  rcases h with h|h
  ·have e:mN t=⟨7,0,0,yD t.x.toNat,sX t.mark.toNat,[],t.n⟩:=by unfold mN;rw[tb (by omega),tb (by omega),tb (by omega),tl h]
   rw[e];exact⟨t.x.toNat,[],by omega,rfl,rfl,rfl,.inl rfl⟩
  ·have e:mN t=⟨7,0,0,yD t.x.toNat,sX t.mark.toNat,yD t.y.toNat,0⟩:=by unfold mN;rw[tb (by omega),tb (by omega),tb (by omega),tb (by omega)]
   rw[e];exact⟨t.x.toNat,_,by omega,rfl,rfl,rfl,.inr ⟨t.y.toNat,by omega,rfl⟩⟩
theorem zEK(h:yA M){hd:Nat}{x:zR}(hx:zGJ (xF M.heads hd) x):xS (vC M G) x=true:=by
 unfold xS;rcases hx with hk|⟨t,ht,rfl⟩
 ·rw[tb (by omega),tb (by omega),tb (by omega)]
 ·rcases QR ht with e|⟨i,h1,h2,e⟩|⟨d,hd,e⟩|⟨i,o,hi,e1,e2,e3,ho⟩
  ·rw[e];rfl
  ·rw[e];exact zB7 h1 h2
  ·rw[e];exact Fg h (cT hd).1
  ·rw[e1,tb (by decide),tb (by decide),tl rfl,e2,e3,Kb hi]
   rcases ho with rfl|⟨i',hi',rfl⟩
   ·rfl
   ·rw[Kb hi'];simp
theorem zFR{p:zE->Bool}:∀ {i:Nat} (a:Nat),i<ls.length->p (lA ls i)=true->(∀j,j<i->p (lA ls j)=false)->kO p ls a=a+i:=by
 induction ls with
 | nil=>intro i a h;simp at h
 | cons x r ih =>
   intro i a h h1 h2;rw[kO]
   cases i with
   | zero =>
     have:p x=true:=h1;rw[tl this];rfl
   | succ i =>
     have h0:p x=false:=h2 0 (by omega);rw[tb (by rw[h0];decide),ih (a+1) (by simpa using h) h1 (fun j hj=>h2 (j+1) (by omega))];omega
theorem DZ(h:yA M)(hj:j<M.rules.length):xV (vC M G) (xM 114 j)=5+j:=by
 have h8:=h.few;unfold xV;rw[zFR (i:=5+j) 0 (by rw[Zc];omega) (by rw[Kv hj];unfold iP nF;simp) (fun k hk=>?_)]
 ·omega
 ·unfold iP
  rcases XQ (M:=M) (G:=G) (i:=k) (by rw[Zc];omega) with ⟨h1,e⟩|⟨j',h1,h2,e⟩|⟨p,hp,e⟩
  ·rw[e,tu (jX M k).1];rfl
  ·rw[e]
   have:xM 114 j'≠xM 114 j:=fun e'=>by have:=Xi j' (by omega) j (by omega) e';omega
   unfold nF;simp[this]
  ·rw[e];rfl
theorem Za(hi:i<M.rules.length):(M.rules.map vI.head).getD i 0=(vE M i).head:=by
 unfold vE;simp[List.getD,hi]
theorem zJT(h:yA M)(hG:∀i,i<M.rules.length->oM (xF M.heads (vE M i).head) (vE M i) (G i))(hi:i<(vC M G).length):jQ (vC M G) i=0:=by
 have h8:=h.few;unfold jQ;rcases XQ hi with ⟨h5,e⟩|⟨j,hj,rfl,e⟩|⟨p,hp,e⟩
 ·have hk:=dA M i
  by_cases h3:i<3
  ·rw[tl h3]at hk
   rw[e,hk,tl rfl];unfold rE;rw[zH9 h h5,tl rfl,e];have hn:=h.nums i h3;have e1:(gW M i).high=M.hi i:=by unfold gW;rw[tl h3]
   have e2:(gW M i).low=M.lo i:=by unfold gW;rw[tl h3]
   rw[e1,e2,tb (by omega)]
  ·rw[tb h3]at hk
   rw[e,hk,tb (by decide),tl rfl];exact zH9 h h5
 ·rw[e]
  show pJ (vC M G) (5+j)=0;unfold pJ;rw[e]
  have h1:vQ ((vC M G).take (5+j)) 3 (nF (vE M j) j (G j)).name=false:=XN fun k hk hkl hk3 e'=>by
   rcases XQ hkl with ⟨_,q⟩|⟨j',q1,q2,q⟩|⟨p,hp,q⟩
   ·rw[q]at hk3;exact absurd hk3 (jX M k).1
   ·rw[q]at e'
    have:j'=j:=Xi j' (by omega) j (by omega) e';omega
   ·rw[q]at hk3;exact absurd hk3 (show ¬(4:Int)=3 by decide)
  have h2:((nF (vE M j) j (G j)).sum.any fun x => !uP (vC M G) x)=false:=by
   rw[List.any_eq_false];intro x hx;rw[zEE h hj x hx];decide
  have h3:((nF (vE M j) j (G j)).nd.any fun x => !xS (vC M G) x)=false:=by
   rw[List.any_eq_false];intro x hx;rw[zEK h ((hG j hj).nds x hx)];decide
  rw[h1,h2,h3];rfl
 ·obtain⟨p1,p2,p3⟩:=JZ h hp
  rw[e];show bK (vC M G) (cQ p)=0;unfold bK;have q1:xV (vC M G) (cQ p).name=5+p.1:=DZ h (by omega);have q2:xV (vC M G) (cQ p).lower=5+p.2:=DZ h p2;have hl:=Zc M G;rw[q1,q2,tb (by omega),Kv (by omega),Kv p2];have zLO:(cQ p).name≠(cQ p).lower:=fun e'=>by have:=Xi p.1 (by omega) p.2 (by omega) e';omega
  have hc:(nF (vE M p.1) p.1 (G p.1)).conc=(nF (vE M p.2) p.2 (G p.2)).conc:=by
   have:=(h.over p.1 p.2 p3).2.2;rw[Za (by omega),Za p2]at this;show xM 99 _=xM 99 _;rw[this]
  rw[tb (fun hh=>by rcases hh with hh|hh;exact zLO hh;exact hh hc)]
theorem D6(h:yA M):(QD M).length<=28:=by
 have:=ja h;rw[V1,pw]at this;exact this
theorem Fh(h:yA M)(k:Int)(hk:k=1\/k=2\/k=3\/k=4):(xT k (vC M G):Int)<=Yy k:=by
 have h8:=h.few;have hov:=D6 h;unfold vC;rw[Qh,Qh];have a1:=Fj k ((List.range M.rules.length).map fun i=>nF (vE M i) i (G i));have a2:=Fj k ((QD M).map cQ);rw[pw,List.length_range]at a1;rw[pw]at a2
 have b1:k≠3->xT k ((List.range M.rules.length).map fun i=>nF (vE M i) i (G i))=0:=fun hk=>Kz fun x hx e=>by
  obtain⟨i,_,rfl⟩:=p7.1 hx;exact hk e.symm
 have b2:k≠4->xT k ((QD M).map cQ)=0:=fun hk=>Kz fun x hx e=>by
  obtain⟨i,_,rfl⟩:=p7.1 hx;exact hk e.symm
 have c1:xT 1 ((List.range 5).map (gW M))=3:=by rfl
 have c2:xT 2 ((List.range 5).map (gW M))=2:=by rfl
 have c3:∀k:Int,k=3\/k=4->xT k ((List.range 5).map (gW M))=0:=fun k hk=>Kz fun x hx e=>by
  obtain⟨i,_,rfl⟩:=p7.1 hx;rcases hk with rfl|rfl
  ·exact(jX M i).1 e
  ·exact(jX M i).2 e
 rcases hk with rfl|rfl|rfl|rfl
 ·rw[b1 (by decide),b2 (by decide),c1];decide
 ·rw[b1 (by decide),b2 (by decide),c2];decide
 ·rw[b2 (by decide),c3 3 (.inl rfl)]
  show _<=(8:Int);omega
 ·rw[b1 (by decide),c3 4 (.inr rfl)]
  show _<=(28:Int);omega
theorem DD(h:yA M)(hG:∀i,i<M.rules.length->oM (xF M.heads (vE M i).head) (vE M i) (G i))(hi:i<(vC M G).length):jL (vC M G) i=false:=by
 unfold jL;have h1:=zC0 hi
 have hk:(lA (vC M G) i).kind=1\/(lA (vC M G) i).kind=2\/(lA (vC M G) i).kind=3\/(lA (vC M G) i).kind=4:=by
  rcases XQ hi with ⟨h5,e⟩|⟨j,hj,rfl,e⟩|⟨p,hp,e⟩
  ·rw[e,dA];split
   ·exact .inl rfl
   ·exact .inr (.inl rfl)
  ·rw[e];exact .inr (.inr (.inl rfl))
  ·rw[e];exact .inr (.inr (.inr rfl))
 have h2:=Fh (G:=G) h _ hk;rw[tu (by omega),lu];rcases XQ hi with ⟨h5,e⟩|⟨j,hj,rfl,e⟩|⟨p,hp,e⟩
 ·rw[e,tu (jX M i).1];rfl
 ·rw[e]
  have hg:=hG j hj;have hr:=h.rules _ (pW hj);have t6:=hr.tests.2.1;have p4:=hr.parts.2.1;have ht:=hg.few;have hd:=hg.dep;unfold VF tR;have e1:(nF (vE M j) j (G j)).tests=(G j).t:=rfl;have e2:(nF (vE M j) j (G j)).dep=(G j).p:=rfl;have e3:(nF (vE M j) j (G j)).sum=rY (vE M j).parts:=rfl
  have e4:(rY (vE M j).parts).any tZ=false:=by
   rw[List.any_eq_false];intro x hx;obtain⟨p,hp,m,rfl⟩:=Qc hx;rw[zFX (hr.parts.2.2 p hp) m];decide
  rw[e1,e2,e3,e4,Uo,tu (show ¬ 6<(G j).t by omega),tu (show ¬ 4<(G j).p by omega),tu (show ¬ 4<(vE M j).parts.length by omega)];simp
 ·rw[e];rfl
def Yc(nm:Bs):Nat:=if nm.getD 0 0=99 then (nm.getD 1 0).toNat else 0
theorem zq(nm:Bs)(l:List Bs):∀(i a:Nat),qL nm l i=(a:Int)->i<=a/\l.getD (a-i) []=nm:=by
 induction l with
 | nil=>intro i a h;rw[qL]at h;omega
 | cons x r ih =>
   intro i a h;rw[qL]at h;by_cases hx:x=nm
   ·rw[tl hx]at h
    have:i=a:=by omega
    subst this;exact⟨j1 _,by rw[dz];exact hx⟩
   ·rw[tb hx]at h
    obtain⟨h1,h2⟩:=ih (i+1) a h;refine⟨by omega,?_⟩;rw[show a-i=(a-(i+1))+1 by omega];exact h2
theorem cB{zLI:List Bs}{nm:Bs}{a:Nat}(h:zH zLI nm=(a:Int)):zLI.getD a []=nm:=by
 have:=(zq nm zLI 0 a h).2
 rwa [Nat.sub_zero]at this
theorem JN:∀d,d<4->Yc (xM 99 d)=97+d:=by decide
theorem zDH:∀i,i<5->Yc (yD i)=0:=by decide
theorem DI:∀d,d<8->((xM 114 d).getD 1 0).toNat=97+d:=by decide
theorem D8{Gr:List Bool}(hl:Gr.length=64)(R:Nat->Nat)(h:∀a b,a<8->b<8->gA Gr a b=true->R b<R a):qV Gr=false:=by
 cases hr:qV Gr
 ·rfl
 ·obtain⟨a,ha,ht⟩:=(Z5 hl).1 hr
  have:=ht (fun x y=>R y<R x) (fun x y hxy=>h x y hxy.1 hxy.2.1 hxy.2.2) (fun x y z h1 h2=>Nat.lt_trans h2 h1);exact absurd this (Nat.lt_irrefl _)
theorem DW(a b:Nat):gA gZ a b=false:=by
 unfold gA gZ;rw[p8,co];split <;> rfl
theorem jb(labs:List Bs)(ls:List zE):∀Gr,(uE labs ls Gr).length=Gr.length:=by
 induction ls with
 | nil=>intro Gr;rfl
 | cons x r ih=>intro Gr;rw[uE,ih];split
                ·rw[mI]
                ·rfl
theorem VB(h:yA M)(hG:∀i,i<M.rules.length->oM (xF M.heads (vE M i).head) (vE M i) (G i))(zLI:List Bs){F:List zE}(hm:∀x∈F,x∈vC M G):qV (qN zLI F gZ)=false:=by
 refine D8 (by rw[fV,xG]) (fun a=>Yc (zLI.getD a [])) fun a b ha hb hab=>?_;rw[Xx zLI F ha hb gZ xG,DW,lu]at hab;obtain⟨x,hx,hp⟩:=ma.1 hab;unfold zGA at hp;simp only[pe,bg,po,ma]at hp;rcases Zb (hm x hx) with ⟨k,hk,rfl⟩|⟨j,hj,rfl⟩|⟨p,hp',rfl⟩
 ·exact absurd hp.1 (jX M k).1
 ·have hr:=h.rules _ (pW hj)
  have hh:=hr.head;obtain⟨-,ea,hp⟩:=hp;have ea:=cB ea;have va:Yc (zLI.getD a [])=97+(vE M j).head:=by rw[ea];exact JN _ hh
  show Yc (zLI.getD b [])<Yc (zLI.getD a []);rw[va];rcases hp with ⟨y,hy,eb⟩|⟨y,hy,e5,eb⟩
  ·have eb:=cB eb
   obtain⟨p,hpp,m,rfl⟩:=Qc hy;rw[eb];rcases Up (hr.parts.2.2 p hpp) m with e|⟨i,hi,e⟩|⟨d,hd,e⟩
   ·rw[e,show Yc []=0 from rfl];omega
   ·rw[e,zDH i (by omega)];omega
   ·have:=(cT hd).2
    rw[e,JN d (by omega)];omega
  ·have eb:=cB eb
   rw[eb];rcases(hG j hj).nds y hy with hk|⟨t,ht,rfl⟩
   ·omega
   ·rcases QR ht with e|⟨i,h1,h2,e⟩|⟨d,hd,e⟩|⟨i,o,hi,e1,e2,e3,ho⟩
    ·rw[e]at e5;cases e5
    ·rw[e]at e5;cases e5
    ·have:=(cT hd).2
     rw[e];show Yc (xM 99 d)<_;rw[JN d (by omega)];omega
    ·rw[e1]at e5;cases e5
 ·exact absurd hp.1 (show ¬(4:Int)=3 by decide)
theorem V3(h:yA M)(labs:List Bs){F:List zE}(hm:∀x∈F,x∈vC M G):qV (uE labs F gZ)=false:=by
 have h8:=h.few;refine D8 (by rw[jb,xG]) (fun a=>300-((labs.getD a []).getD 1 0).toNat) fun a b ha hb hab=>?_;rw[wG labs F ha hb gZ xG,DW,lu]at hab;obtain⟨x,hx,hp⟩:=ma.1 hab;unfold zD2 at hp;simp only[pe,po]at hp;rcases Zb (hm x hx) with ⟨k,hk,rfl⟩|⟨j,hj,rfl⟩|⟨p,hp',rfl⟩
 ·exact absurd hp.1 (jX M k).2
 ·exact absurd hp.1 (show ¬(3:Int)=4 by decide)
 ·obtain⟨p1,p2,-⟩:=JZ h hp'
  obtain⟨-,ea,eb⟩:=hp;have ea:=cB ea;have eb:=cB eb;show 300-((labs.getD b []).getD 1 0).toNat<300-((labs.getD a []).getD 1 0).toNat;rw[ea,eb];have e1:=DI p.1 (by omega);have e2:=DI p.2 (by omega);show 300-((xM 114 p.2).getD 1 0).toNat<300-((xM 114 p.1).getD 1 0).toNat;rw[e1,e2];omega
theorem Uf(h:yA M)(hG:∀i,i<M.rules.length->oM (xF M.heads (vE M i).head) (vE M i) (G i)):qG (vC M G)=(0,0):=by
 unfold qG;rw[X3 _ 0 fun i _ hi=>DD h hG (by omega)];show Zi _=_;unfold Zi;rw[J5 _ 0 fun i _ hi=>zJT h hG (by omega)];show eL _=_;unfold eL;rw[VB h hG _ fun _ h=>h,V3 (G:=G) h _ fun _ h=>h,tb (by decide),tb (by decide)]
end Go.Proofs.YtnbpdffdnphbeabGreatDoor
