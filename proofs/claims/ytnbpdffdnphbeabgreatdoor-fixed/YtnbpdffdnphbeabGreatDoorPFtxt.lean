import Derived.Test.YtnbpdffdnphbeabGreatDoorPGrd
namespace Go.Proofs.YtnbpdffdnphbeabGreatDoor
variable {P:List PT}
variable{k:Int}{ls:List zE}{j i B:Nat}{p:yR}{x:zE}{M:zT}{t:zX}(n:Nat)
structure GR where
 nd:List zM
 root:Int
 t:Int
 p:Int
structure sN(low:List Nat)(r:vF)(g:GR):Prop where
 dep:g.p<=4
 few:g.t=(r.tests.length:Nat)
 nds:∀z∈g.nd,kw low z
 good:pD g.nd
 cnt:g.nd.length<=100
 den:∃t l k,r.tests=t::l/\zA5 low g.nd g.root k (F5 r.whole t l)
def fE(M:zT)(i:Nat):zE:=if i<3 then ⟨1,yG i,M.lo i,M.hi i,[],[],[],0,0,0,[]⟩ else ⟨2,yG i,0,0,[],[],[],0,0,0,[]⟩
def fC(r:vF)(i:Nat)(g:GR):zE:=⟨3,xG 114 i,0,0,xG 99 r.head,gK r.parts,g.nd,g.root,g.t,g.p,[]⟩
def lS(p:Nat × Nat):zE:=⟨4,xG 114 p.1,0,0,[],[],[],0,0,0,xG 114 p.2⟩
def Yi(M:zT):List (Nat × Nat):=(List.range M.rules.length).flatMap fun i=>(List.range M.rules.length).flatMap fun k=>if M.over i k=true then [(i,k)] else []
def vB(M:zT)(i:Nat):vF:=M.rules.getD i oY
def zW(M:zT)(G:Nat->GR):List zE:=(List.range 5).map (fE M)++(List.range M.rules.length).map (fun i=>fC (vB M i) i (G i))++(Yi M).map lS
theorem pV(hi:i<M.rules.length):vB M i∈M.rules:=tR oY hi
def zCE(P:List PT)(l:List Bs)(Q:zE->Prop):Prop:=(∀w r,l=w::r->yC w≠0)/\0<l.length/\∀a,sP P a l->a+l.length<P.length->∃x,Q x/\vN P (a,false)=(x,(a+l.length,false))
theorem Kh{ws:List Bs}(h:UC x ws):zCE P ws (· = x):=⟨h.1,h.2.1,fun a hA hl=>⟨x,rfl,h.2.2 P a hA hl⟩⟩
theorem zAQ(hM:yF M)(hi:i<M.rules.length)(lo:Bool):zCE P (bM (vB M i) i lo) (fun x=>∃g,sN (yW M.heads (vB M i).head) (vB M i) g/\x=fC (vB M i) i g):=by
 have h8:=hM.few;have hr:=hM.rules _ (pV hi);generalize vB M i=r at *;have hh:=hr.head;have hl4:∀d∈yW M.heads r.head,d<4:=fun d hd=>by have:=rQ hd;omega
 have hn:yC (xG 114 i)=2:=tN (.inr (.inr (.inr rfl))) (by omega);have hc:yC (xG 99 r.head)=2:=tN (.inr (.inr (.inl rfl))) (by omega);have hS:=CX hl4 hr.parts
 obtain⟨t,l,htl⟩:∃t l,r.tests=t::l:=by
  have:=hr.tests.1
  cases h:r.tests with
  | nil=>rw[h]at this;simp at this
  | cons t l=>exact⟨t,l,rfl⟩
 have hT:=hr.tests;rw[htl]at hT
 have e:bM r i lo=Zt::xG 114 i::[58]::xG 99 r.head::[61]::(bL r.parts++uP::(bD r.whole (t::l) lo++[lW])):=by
  unfold bM;rw[htl];simp[Zt,uP,lW]
 have h100:=(Dl hr i lo).2;rw[e]at h100;rw[e];refine⟨fun w r h=>by cases h;decide,by simp,fun a h zEE=>?_⟩;obtain⟨h0,h1,h2,h3,h4,h5⟩:=h;generalize hSS:bL r.parts=S at *;generalize hGG:bD r.whole (t::l) lo=GG at *;have hl:a+(S.length+GG.length+7)<P.length:=by simp at zEE;omega
 rw[show S++uP::(GG++[lW])=(S++[uP])++(GG++[lW]) by simp]at h5;obtain⟨hs,hg⟩:=h5.app;obtain⟨_,hw⟩:=hs.app;obtain⟨hg1,hge⟩:=hg.app;have es:=hS P _ hs (by omega);rw[tb,pj,<-cw]at hg hg1 hge;rw[<-hGG]at hg;obtain⟨root,nd,p,k,eg,hp,hD,hN,hGd,hCn⟩:=F4 hl4 r.whole lo hT hg (by rw[hGG];omega);rw[hGG]at eg;have ew:=bX hw.1 (by decide);have ee:=bX hge.1 (by decide);refine⟨fC r i ⟨nd,root,(l.length:Int)+1,p⟩,⟨⟨nd,root,(l.length:Int)+1,p⟩,⟨hp,by rw[htl];simp,hN,hGd,by rw[hGG]at hCn;simp at h100;show nd.length<=100;omega,t,l,k,htl,hD⟩,rfl⟩,?_⟩
 have el:kZ P (a+1,false)=(fC r i ⟨nd,root,(l.length:Int)+1,p⟩,(a+(Zt::xG 114 i::[58]::xG 99 r.head::[61]::(S++uP::(GG++[lW]))).length,false)):=by
  unfold kZ;simp only[pM h1 hn,bX h2 (by decide),pM h3 hc,bX h4 (by decide),es,ew,eg,show ([59]:Bs)=lW from rfl,ee];refine Prod.ext rfl (Prod.ext ?_ rfl);simp;omega
 unfold vN;simp only[qF h0 [110,117,109] (fun _=>by decide),qF h0 [102,108,97,103] (fun _=>by decide),show ([114,117,108,101]:Bs)=Zt from rfl,mO h0 (by decide)];exact el
theorem in_k(hM:yF M)(hi:i<5):zCE P (dO M i) (· = fE M i):=by
 unfold dO fE;have hk:=pT hi;by_cases h3:i<3
 ·rw[tg h3,tg h3]
  have hn:=hM.nums i h3;obtain⟨a1,a2⟩:=dL (n:=M.lo i) (by omega) (by omega);obtain⟨b1,b2⟩:=dL (n:=M.hi i) (by omega) (by omega);have:=Bd hk a1 b1;rw[a2,b2]at this;exact Kh this
 ·rw[t7 h3,t7 h3]
  exact Kh (Ke hk)
theorem Xm(h:yF M){p:Nat × Nat}(hp:p∈Yi M):p.1<p.2/\p.2<M.rules.length/\M.over p.1 p.2=true:=by
 unfold Yi at hp;obtain⟨i,hi,hp⟩:=bq.1 hp;obtain⟨k,hk,hp⟩:=bq.1 hp;split at hp
 ·rename_i ho
  rw[po.1 hp];have:=h.over i k ho;exact⟨this.1,this.2.1,ho⟩
 ·cases hp
theorem ov_k(hM:yF M){p:Nat × Nat}(hp:p∈Yi M):zCE P (eV p.1 p.2) (· = lS p):=by
 have h1:=Xm hM hp;have h8:=hM.few;exact Kh (Kd (tN (.inr (.inr (.inr rfl))) (by omega)) (tN (.inr (.inr (.inr rfl))) (by omega)))
def tY:List (zE->Prop)->List zE->Prop
 | [],[]=>True
 | Q::r,x::xs=>Q x/\tY r xs
 | _,_=>False
theorem QF(P:List PT):∀(K:List (List Bs × (zE->Prop))) (n a:Nat) (acc:List zE),(∀y∈K,zCE P y.1 y.2)->sP P a (K.map Prod.fst).flatten->(yJ P (a+(K.map Prod.fst).flatten.length)).k=0->a+(K.map Prod.fst).flatten.length<P.length->K.length<n->∃xs,tY (K.map Prod.snd) xs/\cB P n (a,false) acc=(acc++xs,(a+(K.map Prod.fst).flatten.length,false)):=by
 intro K
 induction K with
 | nil =>
   intro n a acc hR hA hk hl hn;obtain⟨n,rfl⟩:∃k,n=k+1:=⟨n-1,by simp at hn;omega⟩;refine⟨[],trivial,?_⟩;rw[cB];simp only[List.map_nil,List.flatten_nil,List.length_nil,mj]at hk ⊢;rw[tg hk,md]
 | cons y K ih =>
   intro n a acc hR hA hk hl hn;obtain⟨n,rfl⟩:∃k,n=k+1:=⟨n-1,by simp at hn;omega⟩;obtain⟨hx0,hx1,hx⟩:=hR y (by simp);obtain⟨l,Q⟩:=y;simp only at hx0 hx1 hx;have e0:(List.map Prod.fst ((l,Q)::K)).flatten=l++(List.map Prod.fst K).flatten:=rfl;rw[e0]at hA hk hl ⊢;rw[tb]at hk hl ⊢;obtain⟨h1,h2⟩:=hA.app;obtain⟨x,hQ,e⟩:=hx a h1 (by omega)
   have hk0:(yJ P a).k≠0:=by
    cases l with
    | nil=>simp at hx1
    | cons w r=>rw[h1.1.1];exact hx0 w r rfl
   obtain⟨xs,hxs,ex⟩:=ih n (a+l.length) (acc++[x]) (fun y hy=>hR y (mc _ hy)) h2 (by rw[cw];exact hk) (by omega) (by simp at hn;omega);refine⟨x::xs,⟨hQ,hxs⟩,?_⟩;rw[cB];simp only[e];rw[t7 hk0,ex,pd,List.singleton_append,cw]
theorem tY.app{A B:List (zE->Prop)}:∀ {xs:List zE},tY (A++B) xs->∃xa xb,xs=xa++xb/\tY A xa/\tY B xb:=by
 induction A with
 | nil=>intro xs h;exact⟨[],xs,rfl,trivial,h⟩
 | cons Q r ih =>
   intro xs h
   cases xs with
   | nil=>exact absurd h id
   | cons x xs =>
     obtain⟨xa,xb,e,h1,h2⟩:=ih h.2;exact⟨x::xa,xb,by rw[e];rfl,⟨h.1,h1⟩,h2⟩
theorem tY.eq{β:Type}{f:β->zE}{zs:List β}:∀ {xs:List zE},tY (zs.map fun z x=>x=f z) xs->xs=zs.map f:=by
 induction zs with
 | nil=>intro xs h;cases xs with
   | nil=>rfl
   | cons x xs=>exact absurd h id
 | cons z r ih=>intro xs h;cases xs with
   | nil=>exact absurd h id
   | cons x xs=>rw[bw,ih h.2,h.1]
theorem tY.one{Q:zE->Prop}{xs:List zE}(h:tY [Q] xs):∃x,xs=[x]/\Q x:=by
 cases xs with
 | nil=>exact absurd h id
 | cons x xs =>
   cases xs with
   | nil=>exact⟨x,rfl,h.1⟩
   | cons y ys=>exact absurd h.2 id
theorem tY.ex{S:Nat->GR->Prop}{F:Nat->GR->zE}:∀ {xs:List zE},tY ((List.range n).map fun i x=>∃g,S i g/\x=F i g) xs->∃G:Nat->GR,(∀i,i<n->S i (G i))/\xs=(List.range n).map fun i=>F i (G i):=by
 induction n with
 | zero =>
   intro xs h
   cases xs with
   | nil=>exact⟨fun _=>⟨[],0,0,0⟩,fun i hi=>absurd hi (by simp),rfl⟩
   | cons x xs=>exact absurd h id
 | succ n ih =>
   intro xs h;rw[l8,lj]at h;obtain⟨xa,xb,e,h1,h2⟩:=tY.app h;obtain⟨G,hG,ea⟩:=ih h1;obtain⟨x,ex,g,hg,eg⟩:=tY.one h2;refine⟨fun i=>if i=n then g else G i,fun i hi=>?_,?_⟩
   ·show S i (if i=n then g else G i)
    by_cases zEL:i=n
    ·rw[tg zEL,zEL];exact hg
    ·rw[t7 zEL];exact hG i (by omega)
   ·rw[e,ea,ex,eg,l8,lj]
    congr 1
    ·refine List.map_congr_left fun i hi=>?_
     have:=ph.1 hi;show F i (G i)=F i (if i=n then g else G i);rw[t7 (show ¬i=n by omega)]
    ·simp
def Jd(M:zT)(lo:Bool):List (List Bs × (zE->Prop)) :=
 (List.range 5).map (fun i=>(dO M i,fun x=>x=fE M i))++(List.range M.rules.length).map (fun i=>(bM (vB M i) i lo,fun x=>∃g,sN (yW M.heads (vB M i).head) (vB M i) g/\x=fC (vB M i) i g))++(Yi M).map (fun p=>(eV p.1 p.2,fun x=>x=lS p))
theorem Qz(M:zT):((List.range M.rules.length).flatMap fun i=>jM M i M.rules.length)=(Yi M).map fun p=>eV p.1 p.2:=by
 unfold Yi jM;rw[List.map_flatMap];congr 1
 funext i
 rw[List.map_flatMap];congr 1
 funext k
 split <;> rfl
theorem oP(M:zT)(lo:Bool):(Jd M lo).map Prod.fst=vI M lo:=by
 unfold Jd vI;rw[Qz,lj,lj,List.map_map,List.map_map,List.map_map];rfl
theorem Uw(h:yF M)(lo:Bool):∀y∈Jd M lo,zCE P y.1 y.2:=fun y hy=>by
 unfold Jd at hy;rcases pt.1 hy with hy|hy
 ·rcases pt.1 hy with hy|hy
  ·obtain⟨i,hi,rfl⟩:=p7.1 hy
   exact in_k h (ph.1 hi)
  ·obtain⟨i,hi,rfl⟩:=p7.1 hy
   exact zAQ h (ph.1 hi) lo
 ·obtain⟨p,hp,rfl⟩:=p7.1 hy
  exact ov_k h hp
theorem FE(h:yF M)(lo:Bool):(Jd M lo).length<=(vI M lo).flatten.length:=by
 have:∀K:List (List Bs × (zE->Prop)),(∀y∈K,zCE [] y.1 y.2)->K.length<=(K.map Prod.fst).flatten.length:=by
  intro K
  induction K with
  | nil=>intro _;simp
  | cons y r ih =>
    intro hK;have h1:=ih (fun z hz=>hK z (mc _ hz));have h2:=(hK y (by simp)).2.1;rw[bw,List.flatten_cons,tb,ty];omega
 have h2:=this _ (Uw (P:=[]) h lo)
 rwa [oP]at h2
theorem Vc(h:yF M)(lo:Bool){l:Bs}(ht:tw l=(vI M lo).flatten):∃G:Nat->GR,(∀i,i<M.rules.length->sN (yW M.heads (vB M i).head) (vB M i) (G i))/\(qN l).1=zW M G/\(qN l).2.2=false:=by
 have hn:=j9 l;have hk:=CK l;have hA:=VJ l;have hf:=FE h lo;rw[ht,<-oP]at hn hk hA;rw[<-oP]at hf;obtain⟨xs,hxs,e⟩:=QF (mM l) (Jd M lo) (2*(mM l).length+1) 0 [] (Uw h lo) hA (by rw[bs];exact hk) (by omega) (by omega)
 have es:(Jd M lo).map Prod.snd=(List.range 5).map (fun i x=>x=fE M i)++(List.range M.rules.length).map (fun i x=>∃g,sN (yW M.heads (vB M i).head) (vB M i) g/\x=fC (vB M i) i g)++(Yi M).map (fun p x=>x=lS p):=by
  unfold Jd;rw[lj,lj,List.map_map,List.map_map,List.map_map];rfl
 rw[es]at hxs;obtain⟨xa,x3,e1,h1,h3⟩:=tY.app hxs;obtain⟨x1,x2,e2,h1,h2⟩:=tY.app h1;have q1:=tY.eq h1;have q3:=tY.eq h3;obtain⟨G,hG,q2⟩:=tY.ex (S:=fun i g=>sN (yW M.heads (vB M i).head) (vB M i) g) (F:=fun i g=>fC (vB M i) i g) M.rules.length h2;refine⟨G,hG,?_,?_⟩
 ·unfold qN
  rw[e];show []++xs=_;rw[e1,e2,q1,q2,q3];rfl
 ·unfold qN
  rw[e]
def zE0:List Bs->Prop
 | []=>True
 | w::r=>((w=[60]\/w=[62])->∃x r',r=x::r'/\isW x=true)/\zE0 r
theorem zE0.app{a b:List Bs}(ha:zE0 a)(hb:zE0 b):zE0 (a++b):=by
 induction a with
 | nil=>exact hb
 | cons w r ih =>
   refine⟨fun h=>?_,ih ha.2⟩;obtain⟨x,r',e,hx⟩:=ha.1 h;exact⟨x,r'++b,by rw[e];rfl,hx⟩
def tU:List Bs->Nat
 | []=>0
 | w::r=>w.length+3+tU r
theorem qD(a b:List Bs):tU (a++b)=tU a+tU b:=by
 induction a with
 | nil=>simp[tU]
 | cons w r ih=>simp only[l9,tU];rw[ih];omega
theorem ZR{β:Type}{f:β->List Bs}(zs:List β)(h:∀z∈zs,tU (f z)<=B):tU (zs.flatMap f)<=zs.length*B:=by
 induction zs with
 | nil=>simp[tU]
 | cons z r ih =>
   rw[ba,qD,ty,Nat.succ_mul];have:=h z (by simp);have:=ih fun x hx=>h x (mc _ hx);omega
theorem sJ{p:Prop}[Decidable p]{a b:List Bs}(ha:p->tU a<=B)(hb:¬p->tU b<=B):tU (if p then a else b)<=B:=by split <;> rename_i h;exact ha h;exact hb h
theorem zd(r:List Bs):(UH r).length<=tU r+1:=by
 induction r with
 | nil=>simp[UH,tU]
 | cons w r ih =>
   have h:(if w=[59] then w else 32::w).length<=w.length+1:=by
    split
    ·omega
    ·rw[ty];exact j1 _
   rw[UH,tb,tU];omega
theorem JI{l:List Bs}(h:0<l.length):(pF l).length<=tU l:=by
 cases l with
 | nil=>simp at h
 | cons w r=>have:=zd r;rw[pF,tb,tU];omega
theorem ze(L:List (List Bs))(h:∀l∈L,0<l.length):(sR L).length<=tU L.flatten:=by
 induction L with
 | nil=>simp[sR,tU]
 | cons l r ih =>
   have h1:=ih fun x hx=>h x (mc _ hx);have h2:=JI (h l (by simp));unfold sR at h1 ⊢;rw[ba,tb,List.flatten_cons,qD];omega
theorem iK(f:UInt8)(i:Nat):(xG f i).length=2:=rfl
theorem bB(i:Nat):(yG i).length=2:=by unfold yG;split <;> rfl
theorem Fg{n:Int}(h0:0<=n)(h1:n<=9):(Lib.itoa n).length=1:=by
 rw[KL h0,Lib.decDigits_one (by omega)];rfl
theorem vo{k:Nat}(hk:k<6):(nC k).length<=2:=(show ∀k,k<6->(nC k).length<=2 by decide) k hk
theorem Jx{low:List Nat}(h:qZ low p):tU (vU p)<=13:=by
 obtain⟨mi,ti,n,nu,hd⟩:=p;rcases h with ⟨h0,h1,h2,h3⟩|⟨h0,h1,h2⟩|⟨h0,h1,h2,h3⟩|⟨h1,h2,d,hd4,h3⟩
 ·simp only at h0 h1 h2 h3
  subst h0 h2 h3;have e:vU ⟨mi,false,n,-1,-1⟩=[Lib.itoa n]:=by simp[vU,uI,tD,uU]
  have:=(fV h1.1 h1.2).2.2.1;rw[e];simp only[tU];omega
 ·simp only at h0 h1 h2
  subst h0 h2;have e:vU ⟨mi,false,n,nu,-1⟩=[yG nu.toNat]:=by simp[vU,uI,tD,uU,h1.1]
  rw[e];simp only[tU,bB];omega
 ·simp only at h0 h1 h2 h3
  subst h0 h3;have e:vU ⟨mi,true,n,nu,-1⟩=[Lib.itoa n,[42],yG nu.toNat]:=by simp[vU,uI,tD,uU,h2.1]
  rw[e];simp only[tU,bB,Fg h1.1 h1.2,ty,List.length_nil];omega
 ·simp only at h1 h2 h3
  subst h2 h3;cases ti
  ·have e:vU ⟨mi,false,n,-1,d⟩=[xG 99 d]:=by simp[vU,uI,tD,uU]
   rw[e];simp only[tU,iK];omega
  ·have e:vU ⟨mi,true,n,-1,d⟩=[Lib.itoa n,[42],xG 99 d]:=by simp[vU,uI,tD,uU]
   rw[e];simp only[tU,iK,Fg h1.1 h1.2,ty,List.length_nil];omega
theorem yj{low:List Nat}{ps:List yR}(h:jD low ps):tU (bL ps)<=64:=by
 cases ps with
 | nil=>exact absurd h.1 (by simp)
 | cons p r =>
   rw[VN,qD];have h1:=Jx (h.2.2 p (by simp))
   have h2:tU (tC r)<=r.length*17:=ZR r fun q hq=>by
    have:=Jx (h.2.2 q (mc _ hq));have h3:tU (fH q)=4:=by unfold fH;split <;> rfl
    rw[qD];omega
   have h3:=h.2.1;rw[ty]at h3;omega
theorem Gh{low:List Nat}(h:xY low t):tU (uD t)<=17:=by
 unfold uD;rcases h with h|⟨h,x1,x2⟩|⟨h,d,hd,hx⟩|⟨h,⟨x1,x2⟩,⟨y1,y2⟩,⟨m1,m2⟩,n1,n2⟩
 ·rw[tg h];decide
 ·rw[t7 (by omega),tg h];simp only[tU,bB];omega
 ·rw[t7 (by omega),t7 (by omega),tg h]
  have:nY.length=3:=rfl;simp only[tU,iK,this];omega
 ·rw[t7 (by omega),t7 (by omega),t7 (by omega)]
  have hm:=vo (k:=t.mark.toNat) (by omega);have hi:=(fV n1 n2).2.2.1;exact sJ (fun _=>by simp only[tU,bB];omega) (fun _=>by simp only[tU,bB];omega)
theorem nB{x:Bs}(hx:x.length+3<=B){p:Prop}[Decidable p]:tU (if p then [x] else [])<=B:=sJ (fun _=>by simp only[tU];omega) (fun _=>by simp only[tU];omega)
theorem zz{low:List Nat}(h:xY low t)(lo:Bool):tU (yZ t lo)<=31:=by
 unfold yZ;rw[qD,qD,qD];have h1:=Gh h;have h2:tU (if t.not=true then [[110,111,116]] else [])<=6:=nB (by decide);have h3:tU (if (lo&&t.pair)=true then [[40]] else [])<=4:=nB (by decide);have h4:tU (if (lo&&t.pair)=true then [[41]] else [])<=4:=nB (by decide);omega
theorem ul{low:List Nat}{ts:List zX}(h:jS low ts)(wh lo:Bool):tU (bD wh ts lo)<=236:=by
 unfold bD kI;rw[qD,qD,qD]
 have h1:tU ((List.range ts.length).flatMap fun j=>qS j (ts.getD j lI)++yZ (ts.getD j lI) lo)<=(List.range ts.length).length*37:=ZR _ fun j hj=>by
  have:=zz (h.2.2 _ (tR lI (ph.1 hj))) lo;have h3:tU (qS j (ts.getD j lI))<=6:=by unfold qS;exact sJ (fun _=>by decide) (fun _=>sJ (fun _=>by decide) (fun _=>by decide))
  rw[qD];omega
 have hl:=h.2.1;rw[List.length_range]at h1;have h2:tU (if wh=true then [[110,111,116]] else [])<=6:=nB (by decide);have h3:tU (if iB wh lo ts.length=true then [[40]] else [])<=4:=nB (by decide);have h4:tU (if iB wh lo ts.length=true then [[41]] else [])<=4:=nB (by decide);omega
theorem yu{heads:List Nat}{r:vF}(h:bI heads r)(i:Nat)(lo:Bool):tU (bM r i lo)<=336:=by
 unfold bM;rw[qD,qD,qD,qD];have h1:=yj h.parts;have h2:=ul h.tests r.whole lo;have h3:tU [[114,117,108,101],xG 114 i,[58],xG 99 r.head,[61]]=25:=rfl;have h4:tU [[119,104,101,110]]=7:=rfl;have h5:tU [[59]]=4:=rfl;omega
theorem YM{β γ δ:Type}(zs:List β){f:β->List γ}{g:β->List δ}(h:∀z∈zs,(f z).length<=(g z).length):(zs.flatMap f).length<=(zs.flatMap g).length:=by
 induction zs with
 | nil=>simp
 | cons z r ih =>
   rw[ba,ba,tb,tb];have:=h z (by simp);have:=ih fun x hx=>h x (mc _ hx);omega
theorem Dx:∀n,n<9->((List.range n).flatMap fun i=>(List.range n).flatMap fun k=>if i<k then [(i,k)] else []).length<=28:=by decide
theorem D0(h:yF M):((List.range M.rules.length).flatMap fun i=>jM M i M.rules.length).length<=28:=by
 have h8:=h.few;refine tr (YM (g:=fun i=>(List.range M.rules.length).flatMap fun k=>if i<k then [(i,k)] else []) _ fun i hi=>?_) (Dx M.rules.length (by omega));unfold jM;refine YM _ fun k hk=>?_;split
 ·rename_i ho
  rw[tg (h.over i k ho).1];exact j1 _
 ·exact tq _
theorem gM{L:List (List Bs)}(h:∀l∈L,tU l<=B):tU L.flatten<=L.length*B:=by
 have:=ZR (f:=id) L h
 rwa [List.flatMap_id]at this
theorem Bz(h:yF M)(lo:Bool):tU (vI M lo).flatten<=4000:=by
 have h8:=h.few;unfold vI;rw[List.flatten_append,List.flatten_append,qD,qD]
 have h1:tU ((List.range 5).map (dO M)).flatten<=170:=by
  refine tr (gM (B:=34) fun l hl=>?_) (by simp);obtain⟨i,hi,rfl⟩:=p7.1 hl;unfold dO;refine sJ (fun h3=>?_) (fun _=>by simp only[tU,bB,ty,List.length_nil];omega);have:=h.nums i h3;have h4:=(fV (n:=M.lo i) (by omega) (by omega)).2.2.1;have h5:=(fV (n:=M.hi i) (by omega) (by omega)).2.2.1;simp only[tU,bB,ty,List.length_nil];omega
 have h2:tU ((List.range M.rules.length).map fun i=>bM (M.rules.getD i oY) i lo).flatten<=M.rules.length*336:=by
  refine tr (gM (B:=336) fun l hl=>?_) (by simp);obtain⟨i,hi,rfl⟩:=p7.1 hl;exact yu (h.rules _ (tR oY (ph.1 hi))) i lo
 have h3:tU ((List.range M.rules.length).flatMap fun i=>jM M i M.rules.length).flatten<=28*21:=by
  refine tr (gM (B:=21) fun l hl=>?_) (Nat.mul_le_mul_right _ (D0 h));obtain⟨i,hi,hl⟩:=bq.1 hl;unfold jM at hl;obtain⟨j,hj,hl⟩:=bq.1 hl;split at hl
  ·rw[po.1 hl];simp only[eV,tU,iK,ty,List.length_nil];omega
  ·cases hl
 omega
theorem DY(lo:Bool):∀l∈vI M lo,0<l.length:=fun l hl=>by
 unfold vI at hl;rcases pt.1 hl with hl|hl
 ·rcases pt.1 hl with hl|hl
  ·obtain⟨i,hi,rfl⟩:=p7.1 hl
   unfold dO;split <;> simp
  ·obtain⟨i,hi,rfl⟩:=p7.1 hl
   unfold bM;simp
 ·obtain⟨i,hi,hl⟩:=bq.1 hl
  unfold jM at hl;obtain⟨j,hj,hl⟩:=bq.1 hl;split at hl
  ·rw[po.1 hl];unfold eV;simp
  ·cases hl
theorem CM(h:yF M)(lo:Bool):(sR (vI M lo)).length<=4000:=tr (ze _ (DY lo)) (Bz h lo)
theorem K9:∀a,(∀i,a<=i->i<a+n->qW ls i=false)->mG ls n a=none:=by
 induction n with
 | zero=>intro a _;rfl
 | succ n ih=>intro a h;rw[mG,h a (by omega) (by omega),t7 (by decide)];exact ih (a+1) fun i h1 h2=>h i (by omega) (by omega)
theorem Cc:∀a,(∀i,a<=i->i<a+n->tT ls i=0)->nT ls n a=none:=by
 induction n with
 | zero=>intro a _;rfl
 | succ n ih=>intro a h;rw[nT,h a (by omega) (by omega),tg rfl];exact ih (a+1) fun i h1 h2=>h i (by omega) (by omega)
theorem ye(h:x∈ls.take i):∃j,j<i/\j<ls.length/\x=lA ls j:=by
 obtain⟨j,hj,e⟩:=List.mem_iff_getElem.1 h;rw[lu]at hj;refine⟨j,by omega,by omega,?_⟩;rw[<-e,List.getElem_take];unfold lA;simp[List.getD,show j<ls.length by omega]
theorem F0{nm:Bs}(h:∀j,j<i->j<ls.length->(lA ls j).kind=k->(lA ls j).name≠nm):vP (ls.take i) k nm=false:=by
 cases hh:vP (ls.take i) k nm
 ·rfl
 ·obtain⟨x,hx,hp⟩:=me.1 hh
  obtain⟨j,h1,h2,rfl⟩:=ye hx;unfold rX at hp;simp only[pr,pu]at hp;exact absurd hp.2 (h j h1 h2 hp.1)
theorem Uu{nm:Bs}(hx:x∈ls)(h1:x.kind=k)(h2:x.name=nm):vP ls k nm=true :=
 me.2 ⟨x,hx,by unfold rX;simp[h1,h2]⟩
theorem ZT(k:Int)(a b:List zE):xI k (a++b)=xI k a+xI k b:=by
 induction a with
 | nil=>simp[xI]
 | cons x r ih=>rw[l9,xI,xI,ih];omega
theorem U3(k:Int)(a:List zE):xI k a<=a.length:=by
 induction a with
 | nil=>simp[xI]
 | cons x r ih=>rw[xI,ty];split <;> omega
theorem XE{a:List zE}(h:∀x∈a,x.kind≠k):xI k a=0:=by
 induction a with
 | nil=>rfl
 | cons x r ih=>rw[xI,t7 (h x (by simp)),ih fun y hy=>h y (mc _ hy)]
theorem zC5(h:i<ls.length):xI (lA ls i).kind (ls.take i)<xI (lA ls i).kind ls:=by
 have e:ls=ls.take i++lA ls i::ls.drop (i+1):=by
  conv=>lhs;rw[<-List.take_append_drop i ls,pe h]
  unfold lA;simp[List.getD,h]
 have h1:xI (lA ls i).kind ls=xI (lA ls i).kind (ls.take i)+xI (lA ls i).kind (lA ls i::ls.drop (i+1)):=by
  generalize (lA ls i).kind=k;have h2:=congrArg (xI k) e;rw[ZT]at h2;exact h2
 rw[h1,xI,tg rfl];omega
theorem fZ(M:zT)(i:Nat):(fE M i).name=yG i:=by unfold fE;split <;> rfl
theorem cQ(M:zT)(i:Nat):(fE M i).kind=if i<3 then 1 else 2:=by unfold fE;split <;> rfl
theorem uf:∀i,i<5->∀j,j<5->yG i=yG j->i=j:=by decide
theorem Ka:∀i,i<8->∀j,j<8->xG 114 i=xG 114 j->i=j:=by decide
theorem ug:∀i,i<5->∀j,j<4->xG 99 j≠yG i:=by decide
variable {M:zT} {G:Nat->GR}
theorem iU(M:zT)(G:Nat->GR):(zW M G).length=5+M.rules.length+(Yi M).length:=by unfold zW;simp only[tb,pi,List.length_range]
theorem Vb(h:i<5):lA (zW M G) i=fE M i:=by
 unfold lA zW;rw[tu,pd,pm (by simpa using h)];simp[h]
theorem X9(h:j<M.rules.length):lA (zW M G) (5+j)=fC (vB M j) j (G j):=by
 unfold lA zW;rw[tu,pd,ma (by simp),pm (by simpa using h)];simp[h]
theorem zBS(h:5+M.rules.length<=i)(h2:i<(zW M G).length):∃p∈Yi M,lA (zW M G) i=lS p:=by
 have hl:=iU M G
 have:lA (zW M G) i∈(Yi M).map lS:=by
  unfold lA zW;rw[tu,ma (by simp;omega)];have h3:i-(((List.range 5).map (fE M))++(List.range M.rules.length).map (fun i=>fC (vB M i) i (G i))).length<((Yi M).map lS).length:=by simp;omega
  rw[p9 h3];exact cg h3
 obtain⟨p,hp,e⟩:=p7.1 this;exact⟨p,hp,e.symm⟩
theorem ZE(h:i<(zW M G).length):(i<5/\lA (zW M G) i=fE M i)\/(∃j,j<M.rules.length/\i=5+j/\lA (zW M G) i=fC (vB M j) j (G j))\/(∃p∈Yi M,lA (zW M G) i=lS p):=by
 by_cases h5:i<5
 ·exact .inl ⟨h5,Vb h5⟩
 ·by_cases hn:i<5+M.rules.length
  ·refine .inr (.inl ⟨i-5,by omega,by omega,?_⟩)
   have:=X9 (M:=M) (G:=G) (j:=i-5) (by omega)
   rwa [show 5+(i-5)=i by omega]at this
  ·exact .inr (.inr (zBS (by omega) h))
theorem iT(h:x∈zW M G):(∃i,i<5/\x=fE M i)\/(∃j,j<M.rules.length/\x=fC (vB M j) j (G j))\/(∃p∈Yi M,x=lS p):=by
 unfold zW at h;rcases pt.1 h with h|h
 ·rcases pt.1 h with h|h
  ·obtain⟨i,hi,rfl⟩:=p7.1 h
   exact .inl ⟨i,ph.1 hi,rfl⟩
  ·obtain⟨i,hi,rfl⟩:=p7.1 h
   exact .inr (.inl ⟨i,ph.1 hi,rfl⟩)
 ·obtain⟨p,hp,rfl⟩:=p7.1 h
  exact .inr (.inr ⟨p,hp,rfl⟩)
theorem DM(h:i<5):fE M i∈zW M G:=by
 unfold zW;exact List.mem_append_left _ (List.mem_append_left _ (p7.2 ⟨i,ph.2 h,rfl⟩))
theorem zB5(h:j<M.rules.length):fC (vB M j) j (G j)∈zW M G:=by
 unfold zW;exact List.mem_append_left _ (List.mem_append_right _ (p7.2 ⟨j,ph.2 h,rfl⟩))
theorem kP(M:zT)(i:Nat):(fE M i).kind≠3/\(fE M i).kind≠4:=by rw[cQ];split <;> decide
theorem VT(h:yF M)(hj:j<M.rules.length):(vB M j).head<4:=(h.rules _ (pV hj)).head
theorem Xn(h:i<3):vP (zW M G) 1 (yG i)=true:=Uu (DM (G:=G) (show i<5 by omega)) (by rw[cQ,tg h]) (fZ M i)
theorem FG(h:3<=i)(h5:i<5):vP (zW M G) 2 (yG i)=true:=Uu (DM (G:=G) h5) (by rw[cQ,t7 (by omega)]) (fZ M i)
theorem U2(h:yF M){d:Nat}(hd:d∈M.heads):kO (zW M G) (xG 99 d)=true:=by
 rw[h.heads]at hd
 have hd2:d∈M.rules.map vF.head:=by
  have:=(nL (M.rules.map vF.head) [] (x:=d)).1 hd;rcases this with h1|h1
  ·cases h1
  ·exact h1
 obtain⟨r,hr,e⟩:=p7.1 hd2;obtain⟨j,hj,ej⟩:=List.mem_iff_getElem.1 hr;have er:vB M j=r:=by unfold vB;simp[List.getD,hj,ej]
 refine me.2 ⟨_,zB5 (G:=G) hj,?_⟩;unfold KO fC;simp[er,e]
theorem Zn{d h:Nat}(hd:d∈yW M.heads h):d∈M.heads/\d<h:=by
 unfold yW at hd;rw[mu,ph]at hd;exact⟨ly hd.2,hd.1⟩
theorem jp(h:yF M)(hi:i<5):fY (zW M G) i=0:=by
 unfold fY;rw[Vb hi,fZ]
 have h1:∀k,vP ((zW M G).take i) k (yG i)=false:=fun k=>F0 fun j hj hjl _ e=>by
  rw[Vb (by omega),fZ]at e;have:=uf j (by omega) i hi e;omega
 have h2:kO (zW M G) (yG i)=false:=by
  cases hc:kO (zW M G) (yG i)
  ·rfl
  ·obtain⟨x,hx,hp⟩:=me.1 hc
   unfold KO at hp;simp only[pr,pu]at hp;rcases iT hx with ⟨k,hk,rfl⟩|⟨j,hj,rfl⟩|⟨p,hp',rfl⟩
   ·exact absurd hp.1 (kP M k).1
   ·exact absurd hp.2 (ug i hi _ (VT h hj))
   ·exact absurd hp.1 (show ¬(4:Int)=3 by decide)
 rw[h1,h1,h2];rfl
theorem ZN{ps:List yR}{x:yT}(h:x∈gK ps):∃p∈ps,∃m,x=mS m p:=by
 cases ps with
 | nil=>cases h
 | cons p r =>
   rcases l3.1 h with rfl|h
   ·exact⟨p,by simp,false,rfl⟩
   ·obtain⟨q,hq,rfl⟩:=p7.1 h
    exact⟨q,mc _ hq,q.minus,rfl⟩
theorem Jp(ps:List yR):(gK ps).length=ps.length:=by cases ps <;> simp[gK]
theorem Jq{low:List Nat}(h:qZ low p)(m:Bool):(mS m p).name=[]\/(∃i,i<3/\(mS m p).name=yG i)\/∃d∈low,(mS m p).name=xG 99 d:=by
 obtain⟨mi,ti,n,nu,hd⟩:=p;rcases h with ⟨h0,h1,h2,h3⟩|⟨h0,h1,h2⟩|⟨h0,h1,h2,h3⟩|⟨h1,h2,d,hd4,h3⟩
 ·simp only at h0 h1 h2 h3
  subst h0 h2 h3;exact .inl rfl
 ·simp only at h0 h1 h2
  subst h0 h2;exact .inr (.inl ⟨nu.toNat,by omega,by simp[mS,h1.1]⟩)
 ·simp only at h0 h1 h2 h3
  subst h0 h3;exact .inr (.inl ⟨nu.toNat,by omega,by simp[mS,h2.1]⟩)
 ·simp only at h1 h2 h3
  subst h2 h3;exact .inr (.inr ⟨d,hd4,by cases ti <;> simp[mS]⟩)
theorem qj{low:List Nat}(h:qZ low p)(m:Bool):kX (mS m p)=false:=by
 unfold kX;obtain⟨mi,ti,n,nu,hd⟩:=p;cases ti
 ·have:(mS m ⟨mi,false,n,nu,hd⟩).starred=false:=by
   unfold mS;rw[t7 (by simp)];split
   ·rfl
   ·split <;> rfl
  rw[this];rfl
 ·have h9:n<=9:=by
   rcases h with ⟨h0,-⟩|⟨h0,-⟩|⟨-,h1,-⟩|⟨h1,-⟩
   ·cases h0
   ·cases h0
   ·exact h1.2
   ·exact h1.2
  have:(mS m ⟨mi,true,n,nu,hd⟩).num=n:=by unfold mS;rw[tg rfl]
  rw[this,tm (by omega),Bool.and_false]
theorem x7(h:yF M)(hj:j<M.rules.length):∀x∈gK (vB M j).parts,uJ (zW M G) x=true:=fun x hx=>by
 obtain⟨p,hp,m,rfl⟩:=ZN hx;have hr:=h.rules _ (pV hj);unfold uJ Yw;rcases Jq (hr.parts.2.2 p hp) m with e|⟨i,hi,e⟩|⟨d,hd,e⟩
 ·simp[e]
 ·rw[e,Xn hi];simp
 ·rw[e,U2 h (Zn hd).1];simp
theorem Yu{low:List Nat}(h:xY low t):tZ t=⟨4,0,0,[],[],[],0⟩\/(∃i,3<=i/\i<5/\tZ t=⟨6,0,0,yG i,[],[],0⟩)\/(∃d∈low,tZ t=⟨5,0,0,xG 99 d,[],[],0⟩)\/(∃i o,i<3/\(tZ t).kind=7/\(tZ t).name=yG i/\(tZ t).other=o/\(o=[]\/∃i',i'<3/\o=yG i')):=by
 rcases h with h|⟨h,x1,x2⟩|⟨h,d,hd,hx⟩|⟨h,⟨x1,x2⟩,⟨y1,y2⟩,⟨m1,m2⟩,n1,n2⟩
 ·left;unfold tZ;rw[tg h]
 ·right;left;exact⟨t.x.toNat,by omega,by omega,by unfold tZ;rw[t7 (by omega),tg h]⟩
 ·right;right;left;exact⟨d,hd,by unfold tZ;rw[t7 (by omega),t7 (by omega),tg h,hx];rfl⟩
 ·right;right;right
  rcases h with h|h
  ·have e:tZ t=⟨7,0,0,yG t.x.toNat,nC t.mark.toNat,[],t.n⟩:=by unfold tZ;rw[t7 (by omega),t7 (by omega),t7 (by omega),tg h]
   rw[e];exact⟨t.x.toNat,[],by omega,rfl,rfl,rfl,.inl rfl⟩
  ·have e:tZ t=⟨7,0,0,yG t.x.toNat,nC t.mark.toNat,yG t.y.toNat,0⟩:=by unfold tZ;rw[t7 (by omega),t7 (by omega),t7 (by omega),t7 (by omega)]
   rw[e];exact⟨t.x.toNat,_,by omega,rfl,rfl,rfl,.inr ⟨t.y.toNat,by omega,rfl⟩⟩
theorem xj(h:yF M){hd:Nat}{x:zM}(hx:kw (yW M.heads hd) x):xT (zW M G) x=true:=by
 unfold xT;rcases hx with hk|⟨t,ht,rfl⟩
 ·rw[t7 (by omega),t7 (by omega),t7 (by omega)]
 ·rcases Yu ht with e|⟨i,h1,h2,e⟩|⟨d,hd,e⟩|⟨i,o,hi,e1,e2,e3,ho⟩
  ·rw[e];rfl
  ·rw[e];exact FG h1 h2
  ·rw[e];exact U2 h (Zn hd).1
  ·rw[e1,t7 (by decide),t7 (by decide),tg rfl,e2,e3,Xn hi]
   rcases ho with rfl|⟨i',hi',rfl⟩
   ·rfl
   ·rw[Xn hi'];simp
theorem uy{p:zE->Bool}:∀ {i:Nat} (a:Nat),i<ls.length->p (lA ls i)=true->(∀j,j<i->p (lA ls j)=false)->jP p ls a=a+i:=by
 induction ls with
 | nil=>intro i a h;simp at h
 | cons x r ih =>
   intro i a h h1 h2;rw[jP]
   cases i with
   | zero =>
     have:p x=true:=h1;rw[tg this];rfl
   | succ i =>
     have h0:p x=false:=h2 0 (by omega);rw[t7 (by rw[h0];decide),ih (a+1) (by simpa using h) h1 (fun j hj=>h2 (j+1) (by omega))];omega
theorem Ux(h:yF M)(hj:j<M.rules.length):vT (zW M G) (xG 114 j)=5+j:=by
 have h8:=h.few;unfold vT;rw[uy (i:=5+j) 0 (by rw[iU];omega) (by rw[X9 hj];unfold rX fC;simp) (fun k hk=>?_)]
 ·omega
 ·unfold rX
  rcases ZE (M:=M) (G:=G) (i:=k) (by rw[iU];omega) with ⟨h1,e⟩|⟨j',h1,h2,e⟩|⟨p,hp,e⟩
  ·rw[e,tm (kP M k).1];rfl
  ·rw[e]
   have:xG 114 j'≠xG 114 j:=fun e'=>by have:=Ka j' (by omega) j (by omega) e';omega
   unfold fC;simp[this]
  ·rw[e];rfl
theorem QX(hi:i<M.rules.length):(M.rules.map vF.head).getD i 0=(vB M i).head:=by
 unfold vB;simp[List.getD,hi]
theorem zC2(h:yF M)(hG:∀i,i<M.rules.length->sN (yW M.heads (vB M i).head) (vB M i) (G i))(hi:i<(zW M G).length):tT (zW M G) i=0:=by
 have h8:=h.few;unfold tT;rcases ZE hi with ⟨h5,e⟩|⟨j,hj,rfl,e⟩|⟨p,hp,e⟩
 ·have hk:=cQ M i
  by_cases h3:i<3
  ·rw[tg h3]at hk
   rw[e,hk,tg rfl];unfold aA;rw[jp h h5,tg rfl,e];have hn:=h.nums i h3;have e1:(fE M i).high=M.hi i:=by unfold fE;rw[tg h3]
   have e2:(fE M i).low=M.lo i:=by unfold fE;rw[tg h3]
   rw[e1,e2,t7 (by omega)]
  ·rw[t7 h3]at hk
   rw[e,hk,t7 (by decide),tg rfl];exact jp h h5
 ·rw[e]
  show mA (zW M G) (5+j)=0;unfold mA;rw[e]
  have h1:vP ((zW M G).take (5+j)) 3 (fC (vB M j) j (G j)).name=false:=F0 fun k hk hkl hk3 e'=>by
   rcases ZE hkl with ⟨_,q⟩|⟨j',q1,q2,q⟩|⟨p,hp,q⟩
   ·rw[q]at hk3;exact absurd hk3 (kP M k).1
   ·rw[q]at e'
    have:j'=j:=Ka j' (by omega) j (by omega) e';omega
   ·rw[q]at hk3;exact absurd hk3 (show ¬(4:Int)=3 by decide)
  have h2:((fC (vB M j) j (G j)).sum.any fun x => !uJ (zW M G) x)=false:=by
   rw[List.any_eq_false];intro x hx;rw[x7 h hj x hx];decide
  have h3:((fC (vB M j) j (G j)).nd.any fun x => !xT (zW M G) x)=false:=by
   rw[List.any_eq_false];intro x hx;rw[xj h ((hG j hj).nds x hx)];decide
  rw[h1,h2,h3];rfl
 ·obtain⟨p1,p2,p3⟩:=Xm h hp
  rw[e];show lR (zW M G) (lS p)=0;unfold lR;have q1:vT (zW M G) (lS p).name=5+p.1:=Ux h (by omega);have q2:vT (zW M G) (lS p).lower=5+p.2:=Ux h p2;have hl:=iU M G;rw[q1,q2,t7 (by omega),X9 (by omega),X9 p2];have zEB:(lS p).name≠(lS p).lower:=fun e'=>by have:=Ka p.1 (by omega) p.2 (by omega) e';omega
  have hc:(fC (vB M p.1) p.1 (G p.1)).conc=(fC (vB M p.2) p.2 (G p.2)).conc:=by
   have:=(h.over p.1 p.2 p3).2.2;rw[QX (by omega),QX p2]at this;show xG 99 _=xG 99 _;rw[this]
  rw[t7 (fun hh=>by rcases hh with hh|hh;exact zEB hh;exact hh hc)]
theorem Ua(h:yF M):(Yi M).length<=28:=by
 have:=D0 h;rw[Qz,pi]at this;exact this
theorem qs(h:yF M)(k:Int)(hk:k=1\/k=2\/k=3\/k=4):(xI k (zW M G):Int)<=eY k:=by
 have h8:=h.few;have hov:=Ua h;unfold zW;rw[ZT,ZT];have a1:=U3 k ((List.range M.rules.length).map fun i=>fC (vB M i) i (G i));have a2:=U3 k ((Yi M).map lS);rw[pi,List.length_range]at a1;rw[pi]at a2
 have b1:k≠3->xI k ((List.range M.rules.length).map fun i=>fC (vB M i) i (G i))=0:=fun hk=>XE fun x hx e=>by
  obtain⟨i,_,rfl⟩:=p7.1 hx;exact hk e.symm
 have b2:k≠4->xI k ((Yi M).map lS)=0:=fun hk=>XE fun x hx e=>by
  obtain⟨i,_,rfl⟩:=p7.1 hx;exact hk e.symm
 have c1:xI 1 ((List.range 5).map (fE M))=3:=by rfl
 have c2:xI 2 ((List.range 5).map (fE M))=2:=by rfl
 have c3:∀k:Int,k=3\/k=4->xI k ((List.range 5).map (fE M))=0:=fun k hk=>XE fun x hx e=>by
  obtain⟨i,_,rfl⟩:=p7.1 hx;rcases hk with rfl|rfl
  ·exact(kP M i).1 e
  ·exact(kP M i).2 e
 rcases hk with rfl|rfl|rfl|rfl
 ·rw[b1 (by decide),b2 (by decide),c1];decide
 ·rw[b1 (by decide),b2 (by decide),c2];decide
 ·rw[b2 (by decide),c3 3 (.inl rfl)]
  show _<=(8:Int);omega
 ·rw[b1 (by decide),c3 4 (.inr rfl)]
  show _<=(28:Int);omega
theorem vu(h:yF M)(hG:∀i,i<M.rules.length->sN (yW M.heads (vB M i).head) (vB M i) (G i))(hi:i<(zW M G).length):qW (zW M G) i=false:=by
 unfold qW;have h1:=zC5 hi
 have hk:(lA (zW M G) i).kind=1\/(lA (zW M G) i).kind=2\/(lA (zW M G) i).kind=3\/(lA (zW M G) i).kind=4:=by
  rcases ZE hi with ⟨h5,e⟩|⟨j,hj,rfl,e⟩|⟨p,hp,e⟩
  ·rw[e,cQ];split
   ·exact .inl rfl
   ·exact .inr (.inl rfl)
  ·rw[e];exact .inr (.inr (.inl rfl))
  ·rw[e];exact .inr (.inr (.inr rfl))
 have h2:=qs (G:=G) h _ hk;rw[tm (by omega),lk];rcases ZE hi with ⟨h5,e⟩|⟨j,hj,rfl,e⟩|⟨p,hp,e⟩
 ·rw[e,tm (kP M i).1];rfl
 ·rw[e]
  have hg:=hG j hj;have hr:=h.rules _ (pV hj);have t6:=hr.tests.2.1;have p4:=hr.parts.2.1;have ht:=hg.few;have hd:=hg.dep;unfold Zk jI;have e1:(fC (vB M j) j (G j)).tests=(G j).t:=rfl;have e2:(fC (vB M j) j (G j)).dep=(G j).p:=rfl;have e3:(fC (vB M j) j (G j)).sum=gK (vB M j).parts:=rfl
  have e4:(gK (vB M j).parts).any kX=false:=by
   rw[List.any_eq_false];intro x hx;obtain⟨p,hp,m,rfl⟩:=ZN hx;rw[qj (hr.parts.2.2 p hp) m];decide
  rw[e1,e2,e3,e4,Jp,tm (show ¬ 6<(G j).t by omega),tm (show ¬ 4<(G j).p by omega),tm (show ¬ 4<(vB M j).parts.length by omega)];simp
 ·rw[e];rfl
def eB(nm:Bs):Nat:=if nm.getD 0 0=99 then (nm.getD 1 0).toNat else 0
theorem BR(nm:Bs)(l:List Bs):∀(i a:Nat),uW nm l i=(a:Int)->i<=a/\l.getD (a-i) []=nm:=by
 induction l with
 | nil=>intro i a h;rw[uW]at h;omega
 | cons x r ih =>
   intro i a h;rw[uW]at h;by_cases hx:x=nm
   ·rw[tg hx]at h
    have:i=a:=by omega
    subst this;exact⟨j1 _,by rw[Nat.sub_self];exact hx⟩
   ·rw[t7 hx]at h
    obtain⟨h1,h2⟩:=ih (i+1) a h;refine⟨by omega,?_⟩;rw[show a-i=(a-(i+1))+1 by omega];exact h2
theorem lK{zE6:List Bs}{nm:Bs}{a:Nat}(h:zJ zE6 nm=(a:Int)):zE6.getD a []=nm:=by
 have:=(BR nm zE6 0 a h).2
 rwa [Nat.sub_zero]at this
theorem Xf:∀d,d<4->eB (xG 99 d)=97+d:=by decide
theorem zu:∀i,i<5->eB (yG i)=0:=by decide
theorem Un:∀d,d<8->((xG 114 d).getD 1 0).toNat=97+d:=by decide
theorem Uc{Gr:List Bool}(hl:Gr.length=64)(R:Nat->Nat)(h:∀a b,a<8->b<8->gA Gr a b=true->R b<R a):qA Gr=false:=by
 cases hr:qA Gr
 ·rfl
 ·obtain⟨a,ha,ht⟩:=(sX hl).1 hr
  have:=ht (fun x y=>R y<R x) (fun x y hxy=>h x y hxy.1 hxy.2.1 hxy.2.2) (fun x y z h1 h2=>Nat.lt_trans h2 h1);exact absurd this (Nat.lt_irrefl _)
theorem FB(a b:Nat):gA gZ a b=false:=by
 unfold gA gZ;rw[tu,bf];split <;> rfl
theorem D2(labs:List Bs)(ls:List zE):∀Gr,(uB labs ls Gr).length=Gr.length:=by
 induction ls with
 | nil=>intro Gr;rfl
 | cons x r ih=>intro Gr;rw[uB,ih];split
                ·rw[tV]
                ·rfl
theorem DC(h:yF M)(hG:∀i,i<M.rules.length->sN (yW M.heads (vB M i).head) (vB M i) (G i))(zE6:List Bs):qA (uE zE6 (zW M G) gZ)=false:=by
 refine Uc (by rw[cL,yY]) (fun a=>eB (zE6.getD a [])) fun a b ha hb hab=>?_;rw[Zg zE6 (zW M G) ha hb gZ yY,FB,lk]at hab;obtain⟨x,hx,hp⟩:=me.1 hab;unfold ke at hp;simp only[pr,bt,pu,me]at hp;rcases iT hx with ⟨k,hk,rfl⟩|⟨j,hj,rfl⟩|⟨p,hp',rfl⟩
 ·exact absurd hp.1 (kP M k).1
 ·have hr:=h.rules _ (pV hj)
  have hh:=hr.head;obtain⟨-,ea,hp⟩:=hp;have ea:=lK ea;have va:eB (zE6.getD a [])=97+(vB M j).head:=by rw[ea];exact Xf _ hh
  show eB (zE6.getD b [])<eB (zE6.getD a []);rw[va];rcases hp with ⟨y,hy,eb⟩|⟨y,hy,e5,eb⟩
  ·have eb:=lK eb
   obtain⟨p,hpp,m,rfl⟩:=ZN hy;rw[eb];rcases Jq (hr.parts.2.2 p hpp) m with e|⟨i,hi,e⟩|⟨d,hd,e⟩
   ·rw[e,show eB []=0 from rfl];omega
   ·rw[e,zu i (by omega)];omega
   ·have:=(Zn hd).2
    rw[e,Xf d (by omega)];omega
  ·have eb:=lK eb
   rw[eb];rcases(hG j hj).nds y hy with hk|⟨t,ht,rfl⟩
   ·omega
   ·rcases Yu ht with e|⟨i,h1,h2,e⟩|⟨d,hd,e⟩|⟨i,o,hi,e1,e2,e3,ho⟩
    ·rw[e]at e5;cases e5
    ·rw[e]at e5;cases e5
    ·have:=(Zn hd).2
     rw[e];show eB (xG 99 d)<_;rw[Xf d (by omega)];omega
    ·rw[e1]at e5;cases e5
 ·exact absurd hp.1 (show ¬(4:Int)=3 by decide)
theorem D1(h:yF M)(labs:List Bs):qA (uB labs (zW M G) gZ)=false:=by
 have h8:=h.few;refine Uc (by rw[D2,yY]) (fun a=>300-((labs.getD a []).getD 1 0).toNat) fun a b ha hb hab=>?_;rw[Zb labs (zW M G) ha hb gZ yY,FB,lk]at hab;obtain⟨x,hx,hp⟩:=me.1 hab;unfold qz at hp;simp only[pr,pu]at hp;rcases iT hx with ⟨k,hk,rfl⟩|⟨j,hj,rfl⟩|⟨p,hp',rfl⟩
 ·exact absurd hp.1 (kP M k).2
 ·exact absurd hp.1 (show ¬(3:Int)=4 by decide)
 ·obtain⟨p1,p2,-⟩:=Xm h hp'
  obtain⟨-,ea,eb⟩:=hp;have ea:=lK ea;have eb:=lK eb;show 300-((labs.getD b []).getD 1 0).toNat<300-((labs.getD a []).getD 1 0).toNat;rw[ea,eb];have e1:=Un p.1 (by omega);have e2:=Un p.2 (by omega);show 300-((xG 114 p.2).getD 1 0).toNat<300-((xG 114 p.1).getD 1 0).toNat;rw[e1,e2];omega
theorem Je(h:yF M)(hG:∀i,i<M.rules.length->sN (yW M.heads (vB M i).head) (vB M i) (G i)):qK (zW M G)=(0,0):=by
 unfold qK;rw[K9 _ 0 fun i _ hi=>vu h hG (by omega)];show ZO _=_;unfold ZO;rw[Cc _ 0 fun i _ hi=>zC2 h hG (by omega)];show wT _=_;unfold wT;rw[DC h hG,D1 h,t7 (by decide),t7 (by decide)]
end Go.Proofs.YtnbpdffdnphbeabGreatDoor
