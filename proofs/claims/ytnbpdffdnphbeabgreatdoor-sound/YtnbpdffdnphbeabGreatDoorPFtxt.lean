import Derived.Test.YtnbpdffdnphbeabGreatDoorPGrd
namespace Go.Proofs.YtnbpdffdnphbeabGreatDoor
variable {P:List PT}
variable{nm:Bs}{k:Int}{low:List Nat}{ls:List zE}{B j i:Nat}{p:xF}{M:yB}{t:yF}{x:zE}(n:Nat)
structure GR where
 nd:List zN
 root:Int
 t:Int
 p:Int
structure iU(low:List Nat)(r:vR)(g:GR):Prop where
 dep:g.p<=4
 few:g.t=(r.tests.length:Nat)
 nds:∀z∈g.nd,zFA low z
 den:∃t l k,r.tests=t::l/\zIG low g.nd g.root k (j7 r.whole t l)
def rK(M:yB)(i:Nat):zE:=if i<3 then ⟨1,yV i,M.lo i,M.hi i,[],[],[],0,0,0,[]⟩ else ⟨2,yV i,0,0,[],[],[],0,0,0,[]⟩
def gX(r:vR)(i:Nat)(g:GR):zE:=⟨3,xL 114 i,0,0,xL 99 r.head,Xv r.parts,g.nd,g.root,g.t,g.p,[]⟩
def dW(p:Nat × Nat):zE:=⟨4,xL 114 p.1,0,0,[],[],[],0,0,0,xL 114 p.2⟩
def XO(M:yB):List (Nat × Nat):=(List.range M.rules.length).flatMap fun i=>(List.range M.rules.length).flatMap fun k=>if M.over i k=true then [(i,k)] else []
def uU(M:yB)(i:Nat):vR:=M.rules.getD i lU
def yP(M:yB)(G:Nat->GR):List zE:=(List.range 5).map (rK M)++(List.range M.rules.length).map (fun i=>gX (uU M i) i (G i))++(XO M).map dW
theorem fT(hi:i<M.rules.length):uU M i∈M.rules:=lD lU hi
def zIB(P:List PT)(l:List Bs)(Q:zE->Prop):Prop:=(∀w r,l=w::r->yA w≠0)/\0<l.length/\∀a,iX P a l->a+l.length<P.length->∃x,Q x/\vG P (a,false)=(x,(a+l.length,false))
theorem UI{ws:List Bs}(h:Dx x ws):zIB P ws (· = x):=⟨h.1,h.2.1,fun a hA hl=>⟨x,rfl,h.2.2 P a hA hl⟩⟩
theorem zGT(hM:yH M)(hi:i<M.rules.length)(lo:Bool):zIB P (cO (uU M i) i lo) (fun x=>∃g,iU (xJ M.heads (uU M i).head) (uU M i) g/\x=gX (uU M i) i g):=by
 have h8:=hM.few;have hr:=hM.rules _ (fT hi);generalize uU M i=r at *;have hh:=hr.head;have hl4:∀d∈xJ M.heads r.head,d<4:=fun d hd=>by have:=eX hd;omega
 have hn:yA (xL 114 i)=2:=mF (.inr (.inr (.inr rfl))) (by omega);have hc:yA (xL 99 r.head)=2:=mF (.inr (.inr (.inl rfl))) (by omega);have hS:=yf hl4 hr.parts
 obtain⟨t,l,htl⟩:∃t l,r.tests=t::l:=by
  have:=hr.tests.1
  cases h:r.tests with
  | nil=>rw[h]at this;simp at this
  | cons t l=>exact⟨t,l,rfl⟩
 have hT:=hr.tests;rw[htl]at hT
 have e:cO r i lo=jZ::xL 114 i::[58]::xL 99 r.head::[61]::(cM r.parts++xC::(cP r.whole (t::l) lo++[uX])):=by
  unfold cO;rw[htl];simp[jZ,xC,uX]
 rw[e];refine⟨fun w r h=>by cases h;decide,by simp,fun a h zJV=>?_⟩;obtain⟨h0,h1,h2,h3,h4,h5⟩:=h;generalize hSS:cM r.parts=S at *;generalize hGG:cP r.whole (t::l) lo=GG at *;have hl:a+(S.length+GG.length+7)<P.length:=by simp at zJV;omega
 rw[show S++xC::(GG++[uX])=(S++[xC])++(GG++[uX]) by simp]at h5;obtain⟨hs,hg⟩:=h5.app;obtain⟨_,hw⟩:=hs.app;obtain⟨hg1,hge⟩:=hg.app;have es:=hS P _ hs (by omega);rw[tq,mh,<-df]at hg hg1 hge;rw[<-hGG]at hg;obtain⟨root,nd,p,k,eg,hp,hD,hN⟩:=j6 hl4 r.whole lo hT hg (by rw[hGG];omega);rw[hGG]at eg;have ew:=dH hw.1 (by decide);have ee:=dH hge.1 (by decide);refine⟨gX r i ⟨nd,root,(l.length:Int)+1,p⟩,⟨⟨nd,root,(l.length:Int)+1,p⟩,⟨hp,by rw[htl];simp,hN,t,l,k,htl,hD⟩,rfl⟩,?_⟩
 have el:kL P (a+1,false)=(gX r i ⟨nd,root,(l.length:Int)+1,p⟩,(a+(jZ::xL 114 i::[58]::xL 99 r.head::[61]::(S++xC::(GG++[uX]))).length,false)):=by
  unfold kL;simp only[mX h1 hn,dH h2 (by decide),mX h3 hc,dH h4 (by decide),es,ew,eg,show ([59]:Bs)=uX from rfl,ee];refine Prod.ext rfl (Prod.ext ?_ rfl);simp;omega
 unfold vG;simp only[kB h0 [110,117,109] (fun _=>by decide),kB h0 [102,108,97,103] (fun _=>by decide),show ([114,117,108,101]:Bs)=jZ from rfl,lV h0 (by decide)];exact el
theorem in_k(hM:yH M)(hi:i<5):zIB P (gE M i) (· = rK M i):=by
 unfold gE rK;have hk:=bP hi;by_cases h3:i<3
 ·rw[tr h3,tr h3]
  have hn:=hM.nums i h3;obtain⟨a1,a2⟩:=rE (n:=M.lo i) (by omega) (by omega);obtain⟨b1,b2⟩:=rE (n:=M.hi i) (by omega) (by omega);have:=Fc hk a1 b1;rw[a2,b2]at this;exact UI this
 ·rw[tj h3,tj h3]
  exact UI (UH hk)
theorem Jv(h:yH M){p:Nat × Nat}(hp:p∈XO M):p.1<p.2/\p.2<M.rules.length/\M.over p.1 p.2=true:=by
 unfold XO at hp;obtain⟨i,hi,hp⟩:=bq.1 hp;obtain⟨k,hk,hp⟩:=bq.1 hp;split at hp
 ·rename_i ho
  rw[pr.1 hp];have:=h.over i k ho;exact⟨this.1,this.2.1,ho⟩
 ·cases hp
theorem ov_k(hM:yH M){p:Nat × Nat}(hp:p∈XO M):zIB P (ZJ p.1 p.2) (· = dW p):=by
 have h1:=Jv hM hp;have h8:=hM.few;exact UI (UG (mF (.inr (.inr (.inr rfl))) (by omega)) (mF (.inr (.inr (.inr rfl))) (by omega)))
def mO:List (zE->Prop)->List zE->Prop
 | [],[]=>True
 | Q::r,x::xs=>Q x/\mO r xs
 | _,_=>False
theorem Va(P:List PT):∀(K:List (List Bs × (zE->Prop))) (n a:Nat) (acc:List zE),(∀y∈K,zIB P y.1 y.2)->iX P a (K.map Prod.fst).flatten->(yT P (a+(K.map Prod.fst).flatten.length)).k=0->a+(K.map Prod.fst).flatten.length<P.length->K.length<n->∃xs,mO (K.map Prod.snd) xs/\jA P n (a,false) acc=(acc++xs,(a+(K.map Prod.fst).flatten.length,false)):=by
 intro K
 induction K with
 | nil =>
   intro n a acc hR hA hk hl hn;obtain⟨n,rfl⟩:∃k,n=k+1:=⟨n-1,by simp at hn;omega⟩;refine⟨[],trivial,?_⟩;rw[jA];simp only[List.map_nil,List.flatten_nil,List.length_nil,mz]at hk ⊢;rw[tr hk,ms]
 | cons y K ih =>
   intro n a acc hR hA hk hl hn;obtain⟨n,rfl⟩:∃k,n=k+1:=⟨n-1,by simp at hn;omega⟩;obtain⟨hx0,hx1,hx⟩:=hR y (by simp);obtain⟨l,Q⟩:=y;simp only at hx0 hx1 hx;have e0:(List.map Prod.fst ((l,Q)::K)).flatten=l++(List.map Prod.fst K).flatten:=rfl;rw[e0]at hA hk hl ⊢;rw[tq]at hk hl ⊢;obtain⟨h1,h2⟩:=hA.app;obtain⟨x,hQ,e⟩:=hx a h1 (by omega)
   have hk0:(yT P a).k≠0:=by
    cases l with
    | nil=>simp at hx1
    | cons w r=>rw[h1.1.1];exact hx0 w r rfl
   obtain⟨xs,hxs,ex⟩:=ih n (a+l.length) (acc++[x]) (fun y hy=>hR y (pt _ hy)) h2 (by rw[df];exact hk) (by omega) (by simp at hn;omega);refine⟨x::xs,⟨hQ,hxs⟩,?_⟩;rw[jA];simp only[e];rw[tj hk0,ex,pj,List.singleton_append,df]
theorem mO.app{A B:List (zE->Prop)}:∀ {xs:List zE},mO (A++B) xs->∃xa xb,xs=xa++xb/\mO A xa/\mO B xb:=by
 induction A with
 | nil=>intro xs h;exact⟨[],xs,rfl,trivial,h⟩
 | cons Q r ih =>
   intro xs h
   cases xs with
   | nil=>exact absurd h id
   | cons x xs =>
     obtain⟨xa,xb,e,h1,h2⟩:=ih h.2;exact⟨x::xa,xb,by rw[e];rfl,⟨h.1,h1⟩,h2⟩
theorem mO.eq{β:Type}{f:β->zE}{zs:List β}:∀ {xs:List zE},mO (zs.map fun z x=>x=f z) xs->xs=zs.map f:=by
 induction zs with
 | nil=>intro xs h;cases xs with
   | nil=>rfl
   | cons x xs=>exact absurd h id
 | cons z r ih=>intro xs h;cases xs with
   | nil=>exact absurd h id
   | cons x xs=>rw[cq,ih h.2,h.1]
theorem mO.one{Q:zE->Prop}{xs:List zE}(h:mO [Q] xs):∃x,xs=[x]/\Q x:=by
 cases xs with
 | nil=>exact absurd h id
 | cons x xs =>
   cases xs with
   | nil=>exact⟨x,rfl,h.1⟩
   | cons y ys=>exact absurd h.2 id
theorem mO.ex{S:Nat->GR->Prop}{F:Nat->GR->zE}:∀ {xs:List zE},mO ((List.range n).map fun i x=>∃g,S i g/\x=F i g) xs->∃G:Nat->GR,(∀i,i<n->S i (G i))/\xs=(List.range n).map fun i=>F i (G i):=by
 induction n with
 | zero =>
   intro xs h
   cases xs with
   | nil=>exact⟨fun _=>⟨[],0,0,0⟩,fun i hi=>absurd hi (by simp),rfl⟩
   | cons x xs=>exact absurd h id
 | succ n ih =>
   intro xs h;rw[ly,lj]at h;obtain⟨xa,xb,e,h1,h2⟩:=mO.app h;obtain⟨G,hG,ea⟩:=ih h1;obtain⟨x,ex,g,hg,eg⟩:=mO.one h2;refine⟨fun i=>if i=n then g else G i,fun i hi=>?_,?_⟩
   ·show S i (if i=n then g else G i)
    by_cases zK3:i=n
    ·rw[tr zK3,zK3];exact hg
    ·rw[tj zK3];exact hG i (by omega)
   ·rw[e,ea,ex,eg,ly,lj]
    congr 1
    ·refine List.map_congr_left fun i hi=>?_
     have:=md.1 hi;show F i (G i)=F i (if i=n then g else G i);rw[tj (show ¬i=n by omega)]
    ·simp
def Vy(M:yB)(lo:Bool):List (List Bs × (zE->Prop)) :=
 (List.range 5).map (fun i=>(gE M i,fun x=>x=rK M i))++(List.range M.rules.length).map (fun i=>(cO (uU M i) i lo,fun x=>∃g,iU (xJ M.heads (uU M i).head) (uU M i) g/\x=gX (uU M i) i g))++(XO M).map (fun p=>(ZJ p.1 p.2,fun x=>x=dW p))
theorem KJ(M:yB):((List.range M.rules.length).flatMap fun i=>tU M i M.rules.length)=(XO M).map fun p=>ZJ p.1 p.2:=by
 unfold XO tU;rw[List.map_flatMap];congr 1
 funext i
 rw[List.map_flatMap];congr 1
 funext k
 split <;> rfl
theorem aH(M:yB)(lo:Bool):(Vy M lo).map Prod.fst=xW M lo:=by
 unfold Vy xW;rw[KJ,lj,lj,List.map_map,List.map_map,List.map_map];rfl
theorem Dg(h:yH M)(lo:Bool):∀y∈Vy M lo,zIB P y.1 y.2:=fun y hy=>by
 unfold Vy at hy;rcases ph.1 hy with hy|hy
 ·rcases ph.1 hy with hy|hy
  ·obtain⟨i,hi,rfl⟩:=pd.1 hy
   exact in_k h (md.1 hi)
  ·obtain⟨i,hi,rfl⟩:=pd.1 hy
   exact zGT h (md.1 hi) lo
 ·obtain⟨p,hp,rfl⟩:=pd.1 hy
  exact ov_k h hp
theorem jf(h:yH M)(lo:Bool):(Vy M lo).length<=(xW M lo).flatten.length:=by
 have:∀K:List (List Bs × (zE->Prop)),(∀y∈K,zIB [] y.1 y.2)->K.length<=(K.map Prod.fst).flatten.length:=by
  intro K
  induction K with
  | nil=>intro _;simp
  | cons y r ih =>
    intro hK;have h1:=ih (fun z hz=>hK z (pt _ hz));have h2:=(hK y (by simp)).2.1;rw[cq,List.flatten_cons,tq,tz];omega
 have h2:=this _ (Dg (P:=[]) h lo)
 rwa [aH]at h2
theorem BI(h:yH M)(lo:Bool){l:Bs}(ht:tw l=(xW M lo).flatten):∃G:Nat->GR,(∀i,i<M.rules.length->iU (xJ M.heads (uU M i).head) (uU M i) (G i))/\(vY l).1=yP M G/\(vY l).2.2=false:=by
 have hn:=zIW l;have hk:=zGD l;have hA:=zCB l;have hf:=jf h lo;rw[ht,<-aH]at hn hk hA;rw[<-aH]at hf;obtain⟨xs,hxs,e⟩:=Va (sB l) (Vy M lo) (2*(sB l).length+1) 0 [] (Dg h lo) hA (by rw[db];exact hk) (by omega) (by omega)
 have es:(Vy M lo).map Prod.snd=(List.range 5).map (fun i x=>x=rK M i)++(List.range M.rules.length).map (fun i x=>∃g,iU (xJ M.heads (uU M i).head) (uU M i) g/\x=gX (uU M i) i g)++(XO M).map (fun p x=>x=dW p):=by
  unfold Vy;rw[lj,lj,List.map_map,List.map_map,List.map_map];rfl
 rw[es]at hxs;obtain⟨xa,x3,e1,h1,h3⟩:=mO.app hxs;obtain⟨x1,x2,e2,h1,h2⟩:=mO.app h1;have q1:=mO.eq h1;have q3:=mO.eq h3;obtain⟨G,hG,q2⟩:=mO.ex (S:=fun i g=>iU (xJ M.heads (uU M i).head) (uU M i) g) (F:=fun i g=>gX (uU M i) i g) M.rules.length h2;refine⟨G,hG,?_,?_⟩
 ·unfold vY
  rw[e];show []++xs=_;rw[e1,e2,q1,q2,q3];rfl
 ·unfold vY
  rw[e]
def zJN:List Bs->Prop
 | []=>True
 | w::r=>((w=[60]\/w=[62])->∃x r',r=x::r'/\isW x=true)/\zJN r
theorem zJN.app{a b:List Bs}(ha:zJN a)(hb:zJN b):zJN (a++b):=by
 induction a with
 | nil=>exact hb
 | cons w r ih =>
   refine⟨fun h=>?_,ih ha.2⟩;obtain⟨x,r',e,hx⟩:=ha.1 h;exact⟨x,r'++b,by rw[e];rfl,hx⟩
def mM:List Bs->Nat
 | []=>0
 | w::r=>w.length+3+mM r
theorem qX(a b:List Bs):mM (a++b)=mM a+mM b:=by
 induction a with
 | nil=>simp[mM]
 | cons w r ih=>simp only[my,mM];rw[ih];omega
theorem Xz{β:Type}{f:β->List Bs}(zs:List β)(h:∀z∈zs,mM (f z)<=B):mM (zs.flatMap f)<=zs.length*B:=by
 induction zs with
 | nil=>simp[mM]
 | cons z r ih =>
   rw[co,qX,tz,Nat.succ_mul];have:=h z (by simp);have:=ih fun x hx=>h x (pt _ hx);omega
theorem iK{p:Prop}[Decidable p]{a b:List Bs}(ha:p->mM a<=B)(hb:¬p->mM b<=B):mM (if p then a else b)<=B:=by split <;> rename_i h;exact ha h;exact hb h
theorem zBY(r:List Bs):(GJ r).length<=mM r+1:=by
 induction r with
 | nil=>simp[GJ,mM]
 | cons w r ih =>
   have h:(if w=[59] then w else 32::w).length<=w.length+1:=by
    split
    ·omega
    ·rw[tz];exact tg _
   rw[GJ,tq,mM];omega
theorem Uo{l:List Bs}(h:0<l.length):(dG l).length<=mM l:=by
 cases l with
 | nil=>simp at h
 | cons w r=>have:=zBY r;rw[dG,tq,mM];omega
theorem zBZ(L:List (List Bs))(h:∀l∈L,0<l.length):(Yp L).length<=mM L.flatten:=by
 induction L with
 | nil=>simp[Yp,mM]
 | cons l r ih =>
   have h1:=ih fun x hx=>h x (pt _ hx);have h2:=Uo (h l (by simp));unfold Yp at h1 ⊢;rw[co,tq,List.flatten_cons,qX];omega
theorem Ya(f:UInt8)(i:Nat):(xL f i).length=2:=rfl
theorem cE(i:Nat):(yV i).length=2:=by unfold yV;split <;> rfl
theorem qw{n:Int}(h0:0<=n)(h1:n<=9):(Lib.itoa n).length=1:=by
 rw[B4 h0,Lib.decDigits_one (by omega)];rfl
theorem zDR{k:Nat}(hk:k<6):(rC k).length<=2:=(show ∀k,k<6->(rC k).length<=2 by decide) k hk
theorem VL(h:lF low p):mM (uI p)<=13:=by
 obtain⟨mi,ti,n,nu,hd⟩:=p;rcases h with ⟨h0,h1,h2,h3⟩|⟨h0,h1,h2⟩|⟨h0,h1,h2,h3⟩|⟨h1,h2,d,hd4,h3⟩
 ·simp only at h0 h1 h2 h3
  subst h0 h2 h3;have e:uI ⟨mi,false,n,-1,-1⟩=[Lib.itoa n]:=by simp[uI,qG,pO,qO]
  have:=(YZ h1.1 h1.2).2.2.1;rw[e];simp only[mM];omega
 ·simp only at h0 h1 h2
  subst h0 h2;have e:uI ⟨mi,false,n,nu,-1⟩=[yV nu.toNat]:=by simp[uI,qG,pO,qO,h1.1]
  rw[e];simp only[mM,cE];omega
 ·simp only at h0 h1 h2 h3
  subst h0 h3;have e:uI ⟨mi,true,n,nu,-1⟩=[Lib.itoa n,[42],yV nu.toNat]:=by simp[uI,qG,pO,qO,h2.1]
  rw[e];simp only[mM,cE,qw h1.1 h1.2,tz,List.length_nil];omega
 ·simp only at h1 h2 h3
  subst h2 h3;cases ti
  ·have e:uI ⟨mi,false,n,-1,d⟩=[xL 99 d]:=by simp[uI,qG,pO,qO]
   rw[e];simp only[mM,Ya];omega
  ·have e:uI ⟨mi,true,n,-1,d⟩=[Lib.itoa n,[42],xL 99 d]:=by simp[uI,qG,pO,qO]
   rw[e];simp only[mM,Ya,qw h1.1 h1.2,tz,List.length_nil];omega
theorem zCL{ps:List xF}(h:tM low ps):mM (cM ps)<=64:=by
 cases ps with
 | nil=>exact absurd h.1 (by simp)
 | cons p r =>
   rw[C2,qX];have h1:=VL (h.2.2 p (by simp))
   have h2:mM (pM r)<=r.length*17:=Xz r fun q hq=>by
    have:=VL (h.2.2 q (pt _ hq));have h3:mM (nK q)=4:=by unfold nK;split <;> rfl
    rw[qX];omega
   have h3:=h.2.1;rw[tz]at h3;omega
theorem zA9(h:vU low t):mM (uS t)<=17:=by
 unfold uS;rcases h with h|⟨h,x1,x2⟩|⟨h,d,hd,hx⟩|⟨h,⟨x1,x2⟩,⟨y1,y2⟩,⟨m1,m2⟩,n1,n2⟩
 ·rw[tr h];decide
 ·rw[tj (by omega),tr h];simp only[mM,cE];omega
 ·rw[tj (by omega),tj (by omega),tr h]
  have:sG.length=3:=rfl;simp only[mM,Ya,this];omega
 ·rw[tj (by omega),tj (by omega),tj (by omega)]
  have hm:=zDR (k:=t.mark.toNat) (by omega);have hi:=(YZ n1 n2).2.2.1;exact iK (fun _=>by simp only[mM,cE];omega) (fun _=>by simp only[mM,cE];omega)
theorem oY{x:Bs}(hx:x.length+3<=B){p:Prop}[Decidable p]:mM (if p then [x] else [])<=B:=iK (fun _=>by simp only[mM];omega) (fun _=>by simp only[mM];omega)
theorem zC8(h:vU low t)(lo:Bool):mM (xH t lo)<=31:=by
 unfold xH;rw[qX,qX,qX];have h1:=zA9 h;have h2:mM (if t.not=true then [[110,111,116]] else [])<=6:=oY (by decide);have h3:mM (if (lo&&t.pair)=true then [[40]] else [])<=4:=oY (by decide);have h4:mM (if (lo&&t.pair)=true then [[41]] else [])<=4:=oY (by decide);omega
theorem zEG{ts:List yF}(h:pE low ts)(wh lo:Bool):mM (cP wh ts lo)<=236:=by
 unfold cP jW;rw[qX,qX,qX]
 have h1:mM ((List.range ts.length).flatMap fun j=>kU j (ts.getD j bR)++xH (ts.getD j bR) lo)<=(List.range ts.length).length*37:=Xz _ fun j hj=>by
  have:=zC8 (h.2.2 _ (lD bR (md.1 hj))) lo;have h3:mM (kU j (ts.getD j bR))<=6:=by unfold kU;exact iK (fun _=>by decide) (fun _=>iK (fun _=>by decide) (fun _=>by decide))
  rw[qX];omega
 have hl:=h.2.1;rw[List.length_range]at h1;have h2:mM (if wh=true then [[110,111,116]] else [])<=6:=oY (by decide);have h3:mM (if ZM wh lo ts.length=true then [[40]] else [])<=4:=oY (by decide);have h4:mM (if ZM wh lo ts.length=true then [[41]] else [])<=4:=oY (by decide);omega
theorem zCT{heads:List Nat}{r:vR}(h:gV heads r)(i:Nat)(lo:Bool):mM (cO r i lo)<=336:=by
 unfold cO;rw[qX,qX,qX,qX];have h1:=zCL h.parts;have h2:=zEG h.tests r.whole lo;have h3:mM [[114,117,108,101],xL 114 i,[58],xL 99 r.head,[61]]=25:=rfl;have h4:mM [[119,104,101,110]]=7:=rfl;have h5:mM [[59]]=4:=rfl;omega
theorem QI{β γ δ:Type}(zs:List β){f:β->List γ}{g:β->List δ}(h:∀z∈zs,(f z).length<=(g z).length):(zs.flatMap f).length<=(zs.flatMap g).length:=by
 induction zs with
 | nil=>simp
 | cons z r ih =>
   rw[co,co,tq,tq];have:=h z (by simp);have:=ih fun x hx=>h x (pt _ hx);omega
theorem vn:∀n,n<9->((List.range n).flatMap fun i=>(List.range n).flatMap fun k=>if i<k then [(i,k)] else []).length<=28:=by decide
theorem vu(h:yH M):((List.range M.rules.length).flatMap fun i=>tU M i M.rules.length).length<=28:=by
 have h8:=h.few;refine p8 (QI (g:=fun i=>(List.range M.rules.length).flatMap fun k=>if i<k then [(i,k)] else []) _ fun i hi=>?_) (vn M.rules.length (by omega));unfold tU;refine QI _ fun k hk=>?_;split
 ·rename_i ho
  rw[tr (h.over i k ho).1];exact tg _
 ·exact p7 _
theorem oM{L:List (List Bs)}(h:∀l∈L,mM l<=B):mM L.flatten<=L.length*B:=by
 have:=Xz (f:=id) L h
 rwa [List.flatMap_id]at this
theorem FB(h:yH M)(lo:Bool):mM (xW M lo).flatten<=4000:=by
 have h8:=h.few;unfold xW;rw[List.flatten_append,List.flatten_append,qX,qX]
 have h1:mM ((List.range 5).map (gE M)).flatten<=170:=by
  refine p8 (oM (B:=34) fun l hl=>?_) (by simp);obtain⟨i,hi,rfl⟩:=pd.1 hl;unfold gE;refine iK (fun h3=>?_) (fun _=>by simp only[mM,cE,tz,List.length_nil];omega);have:=h.nums i h3;have h4:=(YZ (n:=M.lo i) (by omega) (by omega)).2.2.1;have h5:=(YZ (n:=M.hi i) (by omega) (by omega)).2.2.1;simp only[mM,cE,tz,List.length_nil];omega
 have h2:mM ((List.range M.rules.length).map fun i=>cO (M.rules.getD i lU) i lo).flatten<=M.rules.length*336:=by
  refine p8 (oM (B:=336) fun l hl=>?_) (by simp);obtain⟨i,hi,rfl⟩:=pd.1 hl;exact zCT (h.rules _ (lD lU (md.1 hi))) i lo
 have h3:mM ((List.range M.rules.length).flatMap fun i=>tU M i M.rules.length).flatten<=28*21:=by
  refine p8 (oM (B:=21) fun l hl=>?_) (Nat.mul_le_mul_right _ (vu h));obtain⟨i,hi,hl⟩:=bq.1 hl;unfold tU at hl;obtain⟨j,hj,hl⟩:=bq.1 hl;split at hl
  ·rw[pr.1 hl];simp only[ZJ,mM,Ya,tz,List.length_nil];omega
  ·cases hl
 omega
theorem qm(lo:Bool):∀l∈xW M lo,0<l.length:=fun l hl=>by
 unfold xW at hl;rcases ph.1 hl with hl|hl
 ·rcases ph.1 hl with hl|hl
  ·obtain⟨i,hi,rfl⟩:=pd.1 hl
   unfold gE;split <;> simp
  ·obtain⟨i,hi,rfl⟩:=pd.1 hl
   unfold cO;simp
 ·obtain⟨i,hi,hl⟩:=bq.1 hl
  unfold tU at hl;obtain⟨j,hj,hl⟩:=bq.1 hl;split at hl
  ·rw[pr.1 hl];unfold ZJ;simp
  ·cases hl
theorem aX(h:yH M)(lo:Bool):(Yp (xW M lo)).length<=4000:=p8 (zBZ _ (qm lo)) (FB h lo)
theorem Bu:∀a,(∀i,a<=i->i<a+n->jG ls i=false)->lJ ls n a=none:=by
 induction n with
 | zero=>intro a _;rfl
 | succ n ih=>intro a h;rw[lJ,h a (by omega) (by omega),tj (by decide)];exact ih (a+1) fun i h1 h2=>h i (by omega) (by omega)
theorem Gl:∀a,(∀i,a<=i->i<a+n->lE ls i=0)->rX ls n a=none:=by
 induction n with
 | zero=>intro a _;rfl
 | succ n ih=>intro a h;rw[rX,h a (by omega) (by omega),tr rfl];exact ih (a+1) fun i h1 h2=>h i (by omega) (by omega)
theorem zCF(h:x∈ls.take i):∃j,j<i/\j<ls.length/\x=lA ls j:=by
 obtain⟨j,hj,e⟩:=List.mem_iff_getElem.1 h;rw[cb]at hj;refine⟨j,by omega,by omega,?_⟩;rw[<-e,List.getElem_take];unfold lA;simp[List.getD,show j<ls.length by omega]
theorem j4(h:∀j,j<i->j<ls.length->(lA ls j).kind=k->(lA ls j).name≠nm):uP (ls.take i) k nm=false:=by
 cases hh:uP (ls.take i) k nm
 ·rfl
 ·obtain⟨x,hx,hp⟩:=l8.1 hh
  obtain⟨j,h1,h2,rfl⟩:=zCF hx;unfold Xa at hp;simp only[mc,mj]at hp;exact absurd hp.2 (h j h1 h2 hp.1)
theorem Dd(hx:x∈ls)(h1:x.kind=k)(h2:x.name=nm):uP ls k nm=true :=
 l8.2 ⟨x,hx,by unfold Xa;simp[h1,h2]⟩
theorem X0(k:Int)(a b:List zE):vB k (a++b)=vB k a+vB k b:=by
 induction a with
 | nil=>simp[vB]
 | cons x r ih=>rw[my,vB,vB,ih];omega
theorem Dp(k:Int)(a:List zE):vB k a<=a.length:=by
 induction a with
 | nil=>simp[vB]
 | cons x r ih=>rw[vB,tz];split <;> omega
theorem JR{a:List zE}(h:∀x∈a,x.kind≠k):vB k a=0:=by
 induction a with
 | nil=>rfl
 | cons x r ih=>rw[vB,tj (h x (by simp)),ih fun y hy=>h y (pt _ hy)]
theorem zI2(h:i<ls.length):vB (lA ls i).kind (ls.take i)<vB (lA ls i).kind ls:=by
 have e:ls=ls.take i++lA ls i::ls.drop (i+1):=by
  conv=>lhs;rw[<-List.take_append_drop i ls,pi h]
  unfold lA;simp[List.getD,h]
 have h1:vB (lA ls i).kind ls=vB (lA ls i).kind (ls.take i)+vB (lA ls i).kind (lA ls i::ls.drop (i+1)):=by
  generalize (lA ls i).kind=k;have h2:=congrArg (vB k) e;rw[X0]at h2;exact h2
 rw[h1,vB,tr rfl];omega
theorem fB(M:yB)(i:Nat):(rK M i).name=yV i:=by unfold rK;split <;> rfl
theorem fD(M:yB)(i:Nat):(rK M i).kind=if i<3 then 1 else 2:=by unfold rK;split <;> rfl
theorem zE6:∀i,i<5->∀j,j<5->yV i=yV j->i=j:=by decide
theorem UC:∀i,i<8->∀j,j<8->xL 114 i=xL 114 j->i=j:=by decide
theorem zE7:∀i,i<5->∀j,j<4->xL 99 j≠yV i:=by decide
variable {M:yB} {G:Nat->GR}
theorem Yj(M:yB)(G:Nat->GR):(yP M G).length=5+M.rules.length+(XO M).length:=by unfold yP;simp only[tq,me,List.length_range]
theorem BG(h:i<5):lA (yP M G) i=rK M i:=by
 unfold lA yP;rw[ma,pj,po (by simpa using h)];simp[h]
theorem JN(h:j<M.rules.length):lA (yP M G) (5+j)=gX (uU M j) j (G j):=by
 unfold lA yP;rw[ma,pj,mq (by simp),po (by simpa using h)];simp[h]
theorem zHO(h:5+M.rules.length<=i)(h2:i<(yP M G).length):∃p∈XO M,lA (yP M G) i=dW p:=by
 have hl:=Yj M G
 have:lA (yP M G) i∈(XO M).map dW:=by
  unfold lA yP;rw[ma,mq (by simp;omega)];have h3:i-(((List.range 5).map (rK M))++(List.range M.rules.length).map (fun i=>gX (uU M i) i (G i))).length<((XO M).map dW).length:=by simp;omega
  rw[pw h3];exact f9 h3
 obtain⟨p,hp,e⟩:=pd.1 this;exact⟨p,hp,e.symm⟩
theorem Xo(h:i<(yP M G).length):(i<5/\lA (yP M G) i=rK M i)\/(∃j,j<M.rules.length/\i=5+j/\lA (yP M G) i=gX (uU M j) j (G j))\/(∃p∈XO M,lA (yP M G) i=dW p):=by
 by_cases h5:i<5
 ·exact .inl ⟨h5,BG h5⟩
 ·by_cases hn:i<5+M.rules.length
  ·refine .inr (.inl ⟨i-5,by omega,by omega,?_⟩)
   have:=JN (M:=M) (G:=G) (j:=i-5) (by omega)
   rwa [show 5+(i-5)=i by omega]at this
  ·exact .inr (.inr (zHO (by omega) h))
theorem Yi(h:x∈yP M G):(∃i,i<5/\x=rK M i)\/(∃j,j<M.rules.length/\x=gX (uU M j) j (G j))\/(∃p∈XO M,x=dW p):=by
 unfold yP at h;rcases ph.1 h with h|h
 ·rcases ph.1 h with h|h
  ·obtain⟨i,hi,rfl⟩:=pd.1 h
   exact .inl ⟨i,md.1 hi,rfl⟩
  ·obtain⟨i,hi,rfl⟩:=pd.1 h
   exact .inr (.inl ⟨i,md.1 hi,rfl⟩)
 ·obtain⟨p,hp,rfl⟩:=pd.1 h
  exact .inr (.inr ⟨p,hp,rfl⟩)
theorem ur(h:i<5):rK M i∈yP M G:=by
 unfold yP;exact List.mem_append_left _ (List.mem_append_left _ (pd.2 ⟨i,md.2 h,rfl⟩))
theorem zHA(h:j<M.rules.length):gX (uU M j) j (G j)∈yP M G:=by
 unfold yP;exact List.mem_append_left _ (List.mem_append_right _ (pd.2 ⟨j,md.2 h,rfl⟩))
theorem tC(M:yB)(i:Nat):(rK M i).kind≠3/\(rK M i).kind≠4:=by rw[fD];split <;> decide
theorem ZX(h:yH M)(hj:j<M.rules.length):(uU M j).head<4:=(h.rules _ (fT hj)).head
theorem Jz(h:i<3):uP (yP M G) 1 (yV i)=true:=Dd (ur (G:=G) (show i<5 by omega)) (by rw[fD,tr h]) (fB M i)
theorem jh(h:3<=i)(h5:i<5):uP (yP M G) 2 (yV i)=true:=Dd (ur (G:=G) h5) (by rw[fD,tj (by omega)]) (fB M i)
theorem Do(h:yH M){d:Nat}(hd:d∈M.heads):pB (yP M G) (xL 99 d)=true:=by
 rw[h.heads]at hd
 have hd2:d∈M.rules.map vR.head:=by
  have:=(bT (M.rules.map vR.head) [] (x:=d)).1 hd;rcases this with h1|h1
  ·cases h1
  ·exact h1
 obtain⟨r,hr,e⟩:=pd.1 hd2;obtain⟨j,hj,ej⟩:=List.mem_iff_getElem.1 hr;have er:uU M j=r:=by unfold uU;simp[List.getD,hj,ej]
 refine l8.2 ⟨_,zHA (G:=G) hj,?_⟩;unfold Da gX;simp[er,e]
theorem YT{d h:Nat}(hd:d∈xJ M.heads h):d∈M.heads/\d<h:=by
 unfold xJ at hd;rw[mw,md]at hd;exact⟨cg hd.2,hd.1⟩
theorem zFM(h:yH M)(hi:i<5):oH (yP M G) i=0:=by
 unfold oH;rw[BG hi,fB]
 have h1:∀k,uP ((yP M G).take i) k (yV i)=false:=fun k=>j4 fun j hj hjl _ e=>by
  rw[BG (by omega),fB]at e;have:=zE6 j (by omega) i hi e;omega
 have h2:pB (yP M G) (yV i)=false:=by
  cases hc:pB (yP M G) (yV i)
  ·rfl
  ·obtain⟨x,hx,hp⟩:=l8.1 hc
   unfold Da at hp;simp only[mc,mj]at hp;rcases Yi hx with ⟨k,hk,rfl⟩|⟨j,hj,rfl⟩|⟨p,hp',rfl⟩
   ·exact absurd hp.1 (tC M k).1
   ·exact absurd hp.2 (zE7 i hi _ (ZX h hj))
   ·exact absurd hp.1 (show ¬(4:Int)=3 by decide)
 rw[h1,h1,h2];rfl
theorem Xu{ps:List xF}{x:yQ}(h:x∈Xv ps):∃p∈ps,∃m,x=rW m p:=by
 cases ps with
 | nil=>cases h
 | cons p r =>
   rcases pf.1 h with rfl|h
   ·exact⟨p,by simp,false,rfl⟩
   ·obtain⟨q,hq,rfl⟩:=pd.1 h
    exact⟨q,pt _ hq,q.minus,rfl⟩
theorem ju(ps:List xF):(Xv ps).length=ps.length:=by cases ps <;> simp[Xv]
theorem V8(h:lF low p)(m:Bool):(rW m p).name=[]\/(∃i,i<3/\(rW m p).name=yV i)\/∃d∈low,(rW m p).name=xL 99 d:=by
 obtain⟨mi,ti,n,nu,hd⟩:=p;rcases h with ⟨h0,h1,h2,h3⟩|⟨h0,h1,h2⟩|⟨h0,h1,h2,h3⟩|⟨h1,h2,d,hd4,h3⟩
 ·simp only at h0 h1 h2 h3
  subst h0 h2 h3;exact .inl rfl
 ·simp only at h0 h1 h2
  subst h0 h2;exact .inr (.inl ⟨nu.toNat,by omega,by simp[rW,h1.1]⟩)
 ·simp only at h0 h1 h2 h3
  subst h0 h3;exact .inr (.inl ⟨nu.toNat,by omega,by simp[rW,h2.1]⟩)
 ·simp only at h1 h2 h3
  subst h2 h3;exact .inr (.inr ⟨d,hd4,by cases ti <;> simp[rW]⟩)
theorem zET(h:lF low p)(m:Bool):qT (rW m p)=false:=by
 unfold qT;obtain⟨mi,ti,n,nu,hd⟩:=p;cases ti
 ·have:(rW m ⟨mi,false,n,nu,hd⟩).starred=false:=by
   unfold rW;rw[tj (by simp)];split
   ·rfl
   ·split <;> rfl
  rw[this];rfl
 ·have h9:n<=9:=by
   rcases h with ⟨h0,-⟩|⟨h0,-⟩|⟨-,h1,-⟩|⟨h1,-⟩
   ·cases h0
   ·cases h0
   ·exact h1.2
   ·exact h1.2
  have:(rW m ⟨mi,true,n,nu,hd⟩).num=n:=by unfold rW;rw[tr rfl]
  rw[this,tu (by omega),Bool.and_false]
theorem zD7(h:yH M)(hj:j<M.rules.length):∀x∈Xv (uU M j).parts,qH (yP M G) x=true:=fun x hx=>by
 obtain⟨p,hp,m,rfl⟩:=Xu hx;have hr:=h.rules _ (fT hj);unfold qH Ql;rcases V8 (hr.parts.2.2 p hp) m with e|⟨i,hi,e⟩|⟨d,hd,e⟩
 ·simp[e]
 ·rw[e,Jz hi];simp
 ·rw[e,Do h (YT hd).1];simp
theorem Qh(h:vU low t):lT t=⟨4,0,0,[],[],[],0⟩\/(∃i,3<=i/\i<5/\lT t=⟨6,0,0,yV i,[],[],0⟩)\/(∃d∈low,lT t=⟨5,0,0,xL 99 d,[],[],0⟩)\/(∃i o,i<3/\(lT t).kind=7/\(lT t).name=yV i/\(lT t).other=o/\(o=[]\/∃i',i'<3/\o=yV i')):=by
 rcases h with h|⟨h,x1,x2⟩|⟨h,d,hd,hx⟩|⟨h,⟨x1,x2⟩,⟨y1,y2⟩,⟨m1,m2⟩,n1,n2⟩
 ·left;unfold lT;rw[tr h]
 ·right;left;exact⟨t.x.toNat,by omega,by omega,by unfold lT;rw[tj (by omega),tr h]⟩
 ·right;right;left;exact⟨d,hd,by unfold lT;rw[tj (by omega),tj (by omega),tr h,hx];rfl⟩
 ·right;right;right
  rcases h with h|h
  ·have e:lT t=⟨7,0,0,yV t.x.toNat,rC t.mark.toNat,[],t.n⟩:=by unfold lT;rw[tj (by omega),tj (by omega),tj (by omega),tr h]
   rw[e];exact⟨t.x.toNat,[],by omega,rfl,rfl,rfl,.inl rfl⟩
  ·have e:lT t=⟨7,0,0,yV t.x.toNat,rC t.mark.toNat,yV t.y.toNat,0⟩:=by unfold lT;rw[tj (by omega),tj (by omega),tj (by omega),tj (by omega)]
   rw[e];exact⟨t.x.toNat,_,by omega,rfl,rfl,rfl,.inr ⟨t.y.toNat,by omega,rfl⟩⟩
theorem zDD(h:yH M){hd:Nat}{x:zN}(hx:zFA (xJ M.heads hd) x):vE (yP M G) x=true:=by
 unfold vE;rcases hx with hk|⟨t,ht,rfl⟩
 ·rw[tj (by omega),tj (by omega),tj (by omega)]
 ·rcases Qh ht with e|⟨i,h1,h2,e⟩|⟨d,hd,e⟩|⟨i,o,hi,e1,e2,e3,ho⟩
  ·rw[e];rfl
  ·rw[e];exact jh h1 h2
  ·rw[e];exact Do h (YT hd).1
  ·rw[e1,tj (by decide),tj (by decide),tr rfl,e2,e3,Jz hi]
   rcases ho with rfl|⟨i',hi',rfl⟩
   ·rfl
   ·rw[Jz hi'];simp
theorem zEP{p:zE->Bool}:∀ {i:Nat} (a:Nat),i<ls.length->p (lA ls i)=true->(∀j,j<i->p (lA ls j)=false)->cG p ls a=a+i:=by
 induction ls with
 | nil=>intro i a h;simp at h
 | cons x r ih =>
   intro i a h h1 h2;rw[cG]
   cases i with
   | zero =>
     have:p x=true:=h1;rw[tr this];rfl
   | succ i =>
     have h0:p x=false:=h2 0 (by omega);rw[tj (by rw[h0];decide),ih (a+1) (by simpa using h) h1 (fun j hj=>h2 (j+1) (by omega))];omega
theorem Dh(h:yH M)(hj:j<M.rules.length):tF (yP M G) (xL 114 j)=5+j:=by
 have h8:=h.few;unfold tF;rw[zEP (i:=5+j) 0 (by rw[Yj];omega) (by rw[JN hj];unfold Xa gX;simp) (fun k hk=>?_)]
 ·omega
 ·unfold Xa
  rcases Xo (M:=M) (G:=G) (i:=k) (by rw[Yj];omega) with ⟨h1,e⟩|⟨j',h1,h2,e⟩|⟨p,hp,e⟩
  ·rw[e,tu (tC M k).1];rfl
  ·rw[e]
   have:xL 114 j'≠xL 114 j:=fun e'=>by have:=UC j' (by omega) j (by omega) e';omega
   unfold gX;simp[this]
  ·rw[e];rfl
theorem Vr(hi:i<M.rules.length):(M.rules.map vR.head).getD i 0=(uU M i).head:=by
 unfold uU;simp[List.getD,hi]
theorem zHW(h:yH M)(hG:∀i,i<M.rules.length->iU (xJ M.heads (uU M i).head) (uU M i) (G i))(hi:i<(yP M G).length):lE (yP M G) i=0:=by
 have h8:=h.few;unfold lE;rcases Xo hi with ⟨h5,e⟩|⟨j,hj,rfl,e⟩|⟨p,hp,e⟩
 ·have hk:=fD M i
  by_cases h3:i<3
  ·rw[tr h3]at hk
   rw[e,hk,tr rfl];unfold wG;rw[zFM h h5,tr rfl,e];have hn:=h.nums i h3;have e1:(rK M i).high=M.hi i:=by unfold rK;rw[tr h3]
   have e2:(rK M i).low=M.lo i:=by unfold rK;rw[tr h3]
   rw[e1,e2,tj (by omega)]
  ·rw[tj h3]at hk
   rw[e,hk,tj (by decide),tr rfl];exact zFM h h5
 ·rw[e]
  show bF (yP M G) (5+j)=0;unfold bF;rw[e]
  have h1:uP ((yP M G).take (5+j)) 3 (gX (uU M j) j (G j)).name=false:=j4 fun k hk hkl hk3 e'=>by
   rcases Xo hkl with ⟨_,q⟩|⟨j',q1,q2,q⟩|⟨p,hp,q⟩
   ·rw[q]at hk3;exact absurd hk3 (tC M k).1
   ·rw[q]at e'
    have:j'=j:=UC j' (by omega) j (by omega) e';omega
   ·rw[q]at hk3;exact absurd hk3 (show ¬(4:Int)=3 by decide)
  have h2:((gX (uU M j) j (G j)).sum.any fun x => !qH (yP M G) x)=false:=by
   rw[List.any_eq_false];intro x hx;rw[zD7 h hj x hx];decide
  have h3:((gX (uU M j) j (G j)).nd.any fun x => !vE (yP M G) x)=false:=by
   rw[List.any_eq_false];intro x hx;rw[zDD h ((hG j hj).nds x hx)];decide
  rw[h1,h2,h3];rfl
 ·obtain⟨p1,p2,p3⟩:=Jv h hp
  rw[e];show cW (yP M G) (dW p)=0;unfold cW;have q1:tF (yP M G) (dW p).name=5+p.1:=Dh h (by omega);have q2:tF (yP M G) (dW p).lower=5+p.2:=Dh h p2;have hl:=Yj M G;rw[q1,q2,tj (by omega),JN (by omega),JN p2];have zJZ:(dW p).name≠(dW p).lower:=fun e'=>by have:=UC p.1 (by omega) p.2 (by omega) e';omega
  have hc:(gX (uU M p.1) p.1 (G p.1)).conc=(gX (uU M p.2) p.2 (G p.2)).conc:=by
   have:=(h.over p.1 p.2 p3).2.2;rw[Vr (by omega),Vr p2]at this;show xL 99 _=xL 99 _;rw[this]
  rw[tj (fun hh=>by rcases hh with hh|hh;exact zJZ hh;exact hh hc)]
theorem zDA(h:yH M):(XO M).length<=28:=by
 have:=vu h;rw[KJ,me]at this;exact this
theorem zEZ(h:yH M)(k:Int)(hk:k=1\/k=2\/k=3\/k=4):(vB k (yP M G):Int)<=ZK k:=by
 have h8:=h.few;have hov:=zDA h;unfold yP;rw[X0,X0];have a1:=Dp k ((List.range M.rules.length).map fun i=>gX (uU M i) i (G i));have a2:=Dp k ((XO M).map dW);rw[me,List.length_range]at a1;rw[me]at a2
 have b1:k≠3->vB k ((List.range M.rules.length).map fun i=>gX (uU M i) i (G i))=0:=fun hk=>JR fun x hx e=>by
  obtain⟨i,_,rfl⟩:=pd.1 hx;exact hk e.symm
 have b2:k≠4->vB k ((XO M).map dW)=0:=fun hk=>JR fun x hx e=>by
  obtain⟨i,_,rfl⟩:=pd.1 hx;exact hk e.symm
 have c1:vB 1 ((List.range 5).map (rK M))=3:=by rfl
 have c2:vB 2 ((List.range 5).map (rK M))=2:=by rfl
 have c3:∀k:Int,k=3\/k=4->vB k ((List.range 5).map (rK M))=0:=fun k hk=>JR fun x hx e=>by
  obtain⟨i,_,rfl⟩:=pd.1 hx;rcases hk with rfl|rfl
  ·exact(tC M i).1 e
  ·exact(tC M i).2 e
 rcases hk with rfl|rfl|rfl|rfl
 ·rw[b1 (by decide),b2 (by decide),c1];decide
 ·rw[b1 (by decide),b2 (by decide),c2];decide
 ·rw[b2 (by decide),c3 3 (.inl rfl)]
  show _<=(8:Int);omega
 ·rw[b1 (by decide),c3 4 (.inr rfl)]
  show _<=(28:Int);omega
theorem zDU(h:yH M)(hG:∀i,i<M.rules.length->iU (xJ M.heads (uU M i).head) (uU M i) (G i))(hi:i<(yP M G).length):jG (yP M G) i=false:=by
 unfold jG;have h1:=zI2 hi
 have hk:(lA (yP M G) i).kind=1\/(lA (yP M G) i).kind=2\/(lA (yP M G) i).kind=3\/(lA (yP M G) i).kind=4:=by
  rcases Xo hi with ⟨h5,e⟩|⟨j,hj,rfl,e⟩|⟨p,hp,e⟩
  ·rw[e,fD];split
   ·exact .inl rfl
   ·exact .inr (.inl rfl)
  ·rw[e];exact .inr (.inr (.inl rfl))
  ·rw[e];exact .inr (.inr (.inr rfl))
 have h2:=zEZ (G:=G) h _ hk;rw[tu (by omega),ce];rcases Xo hi with ⟨h5,e⟩|⟨j,hj,rfl,e⟩|⟨p,hp,e⟩
 ·rw[e,tu (tC M i).1];rfl
 ·rw[e]
  have hg:=hG j hj;have hr:=h.rules _ (fT hj);have t6:=hr.tests.2.1;have p4:=hr.parts.2.1;have ht:=hg.few;have hd:=hg.dep;unfold YR tS;have e1:(gX (uU M j) j (G j)).tests=(G j).t:=rfl;have e2:(gX (uU M j) j (G j)).dep=(G j).p:=rfl;have e3:(gX (uU M j) j (G j)).sum=Xv (uU M j).parts:=rfl
  have e4:(Xv (uU M j).parts).any qT=false:=by
   rw[List.any_eq_false];intro x hx;obtain⟨p,hp,m,rfl⟩:=Xu hx;rw[zET (hr.parts.2.2 p hp) m];decide
  rw[e1,e2,e3,e4,ju,tu (show ¬ 6<(G j).t by omega),tu (show ¬ 4<(G j).p by omega),tu (show ¬ 4<(uU M j).parts.length by omega)];simp
 ·rw[e];rfl
def Zp(nm:Bs):Nat:=if nm.getD 0 0=99 then (nm.getD 1 0).toNat else 0
theorem Ge(nm:Bs)(l:List Bs):∀(i a:Nat),vN nm l i=(a:Int)->i<=a/\l.getD (a-i) []=nm:=by
 induction l with
 | nil=>intro i a h;rw[vN]at h;omega
 | cons x r ih =>
   intro i a h;rw[vN]at h;by_cases hx:x=nm
   ·rw[tr hx]at h
    have:i=a:=by omega
    subst this;exact⟨tg _,by rw[Nat.sub_self];exact hx⟩
   ·rw[tj hx]at h
    obtain⟨h1,h2⟩:=ih (i+1) a h;refine⟨by omega,?_⟩;rw[show a-i=(a-(i+1))+1 by omega];exact h2
theorem bU{zJP:List Bs}{a:Nat}(h:zJ zJP nm=(a:Int)):zJP.getD a []=nm:=by
 have:=(Ge nm zJP 0 a h).2
 rwa [Nat.sub_zero]at this
theorem Jb:∀d,d<4->Zp (xL 99 d)=97+d:=by decide
theorem zC4:∀i,i<5->Zp (yV i)=0:=by decide
theorem CS:∀d,d<8->((xL 114 d).getD 1 0).toNat=97+d:=by decide
theorem CE{Gr:List Bool}(hl:Gr.length=64)(R:Nat->Nat)(h:∀a b,a<8->b<8->gA Gr a b=true->R b<R a):kJ Gr=false:=by
 cases hr:kJ Gr
 ·rfl
 ·obtain⟨a,ha,ht⟩:=(Qr hl).1 hr
  have:=ht (fun x y=>R y<R x) (fun x y hxy=>h x y hxy.1 hxy.2.1 hxy.2.2) (fun x y z h1 h2=>Nat.lt_trans h2 h1);exact absurd this (Nat.lt_irrefl _)
theorem jd(a b:Nat):gA gZ a b=false:=by
 unfold gA gZ;rw[ma,dj];split <;> rfl
theorem vw(zK1:List Bs)(ls:List zE):∀Gr,(kE zK1 ls Gr).length=Gr.length:=by
 induction ls with
 | nil=>intro Gr;rfl
 | cons x r ih=>intro Gr;rw[kE,ih];split
                ·rw[mN]
                ·rfl
theorem uf(h:yH M)(hG:∀i,i<M.rules.length->iU (xJ M.heads (uU M i).head) (uU M i) (G i))(zJP:List Bs):kJ (jB zJP (yP M G) gZ)=false:=by
 refine CE (by rw[eL,xO]) (fun a=>Zp (zJP.getD a [])) fun a b ha hb hab=>?_;rw[ug zJP (yP M G) ha hb gZ xO,jd,ce]at hab;obtain⟨x,hx,hp⟩:=l8.1 hab;unfold zI7 at hp;simp only[mc,cr,mj,l8]at hp;rcases Yi hx with ⟨k,hk,rfl⟩|⟨j,hj,rfl⟩|⟨p,hp',rfl⟩
 ·exact absurd hp.1 (tC M k).1
 ·have hr:=h.rules _ (fT hj)
  have hh:=hr.head;obtain⟨-,ea,hp⟩:=hp;have ea:=bU ea;have va:Zp (zJP.getD a [])=97+(uU M j).head:=by rw[ea];exact Jb _ hh
  show Zp (zJP.getD b [])<Zp (zJP.getD a []);rw[va];rcases hp with ⟨y,hy,eb⟩|⟨y,hy,e5,eb⟩
  ·have eb:=bU eb
   obtain⟨p,hpp,m,rfl⟩:=Xu hy;rw[eb];rcases V8 (hr.parts.2.2 p hpp) m with e|⟨i,hi,e⟩|⟨d,hd,e⟩
   ·rw[e,show Zp []=0 from rfl];omega
   ·rw[e,zC4 i (by omega)];omega
   ·have:=(YT hd).2
    rw[e,Jb d (by omega)];omega
  ·have eb:=bU eb
   rw[eb];rcases(hG j hj).nds y hy with hk|⟨t,ht,rfl⟩
   ·omega
   ·rcases Qh ht with e|⟨i,h1,h2,e⟩|⟨d,hd,e⟩|⟨i,o,hi,e1,e2,e3,ho⟩
    ·rw[e]at e5;cases e5
    ·rw[e]at e5;cases e5
    ·have:=(YT hd).2
     rw[e];show Zp (xL 99 d)<_;rw[Jb d (by omega)];omega
    ·rw[e1]at e5;cases e5
 ·exact absurd hp.1 (show ¬(4:Int)=3 by decide)
theorem vv(h:yH M)(zK1:List Bs):kJ (kE zK1 (yP M G) gZ)=false:=by
 have h8:=h.few;refine CE (by rw[vw,xO]) (fun a=>300-((zK1.getD a []).getD 1 0).toNat) fun a b ha hb hab=>?_;rw[KK zK1 (yP M G) ha hb gZ xO,jd,ce]at hab;obtain⟨x,hx,hp⟩:=l8.1 hab;unfold zI6 at hp;simp only[mc,mj]at hp;rcases Yi hx with ⟨k,hk,rfl⟩|⟨j,hj,rfl⟩|⟨p,hp',rfl⟩
 ·exact absurd hp.1 (tC M k).2
 ·exact absurd hp.1 (show ¬(3:Int)=4 by decide)
 ·obtain⟨p1,p2,-⟩:=Jv h hp'
  obtain⟨-,ea,eb⟩:=hp;have ea:=bU ea;have eb:=bU eb;show 300-((zK1.getD b []).getD 1 0).toNat<300-((zK1.getD a []).getD 1 0).toNat;rw[ea,eb];have e1:=CS p.1 (by omega);have e2:=CS p.2 (by omega);show 300-((xL 114 p.2).getD 1 0).toNat<300-((xL 114 p.1).getD 1 0).toNat;rw[e1,e2];omega
theorem Z6(h:yH M)(hG:∀i,i<M.rules.length->iU (xJ M.heads (uU M i).head) (uU M i) (G i)):kF (yP M G)=(0,0):=by
 unfold kF;rw[Bu _ 0 fun i _ hi=>zDU h hG (by omega)];show Xw _=_;unfold Xw;rw[Gl _ 0 fun i _ hi=>zHW h hG (by omega)];show YA _=_;unfold YA;rw[uf h hG,vv h,tj (by decide),tj (by decide)]
end Go.Proofs.YtnbpdffdnphbeabGreatDoor
