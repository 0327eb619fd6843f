import Derived.Test.YtnbpdffdnphbeabGreatDoorRgLinks
namespace Go.Proofs.YtnbpdffdnphbeabGreatDoor
variable{v w:Bs}{p i t:Int}{P:List PT}{ps:List yQ}{ys xs:List zE}{nd:List zN}{a n b:Nat}{s:St}{c:UInt8}{x:yQ}(k:Int)(m:Bool)(l:Bs)
def GJ:List Bs->Bs
 | []=>[10]
 | w::r=>(if w=[59] then w else 32::w)++GJ r
def dG:List Bs->Bs
 | []=>[10]
 | w::r=>w++GJ r
def Yp(L:List (List Bs)):Bs:=L.flatMap dG
def x6(c:UInt8):Bool:=c==32 || c==59 || c==10
def Wd(w:Bs):Prop:=w≠[]/\so (w.getD 0 0)≠3/\∀c r,x6 c=true->uD (w++c::r)=w.length
theorem Qo(h:x6 c=true):c=32\/c=59\/c=10:=by
 unfold x6 at h;simp only[cr,beq_iff_eq]at h;rcases h with (h|h)|h
 ·exact .inl h
 ·exact .inr (.inl h)
 ·exact .inr (.inr h)
theorem xt(c:UInt8)(r:Bs)(h:∀x∈l,so x=k)(hc:so c≠k):tZ k (l++c::r)=l.length:=by
 induction l with
 | nil=>simp[tZ,hc]
 | cons x l ih=>rw[my,tZ,tr (h x (by simp)),ih (fun y hy=>h y (by simp[hy])),tz]
theorem GY(hk:k=1\/k=2)(h0:w≠[])(h:∀x∈w,so x=k):Wd w:=by
 obtain⟨x,l,rfl⟩:∃x l,w=x::l:=by
  cases w with
  | nil=>exact absurd rfl h0
  | cons x l=>exact⟨x,l,rfl⟩
 have hx:so x=k:=h x (by simp);refine⟨h0,?_,fun c r hc=>?_⟩
 ·show so x≠3
  rw[hx];rcases hk with rfl|rfl <;> decide
 ·have hs:so c≠k:=by rcases hk with rfl|rfl <;> rcases Qo hc with rfl|rfl|rfl <;> decide
  show uD (x::(l++c::r))=_;unfold uD;rw[show (x::(l++c::r)).getD 0 0=x from rfl,hx,tj (by rcases hk with rfl|rfl <;> decide)];rw[show (x::(l++c::r)).drop 1=l++c::r from rfl,xt k l c r (fun y hy=>h y (by simp[hy])) hs,tz,Nat.add_comm]
theorem Kt(m c:UInt8)(r:Bs):Ur (m::c::r)=jO jD [m,c]:=by
 unfold Ur;rw[show (m::c::r).take 2=[m,c] from rfl,ty (by simp),ld]
theorem zC1{m:UInt8}(h:so m=0)(h1:jO jD [m,32]=false)(h2:jO jD [m,59]=false)(h3:jO jD [m,10]=false):Wd [m]:=by
 refine⟨by simp,?_,fun c r hc=>?_⟩
 ·show so m≠3
  rw[h];decide
 ·show uD (m::c::r)=1
  unfold uD;rw[show (m::c::r).getD 0 0=m from rfl,tr h,Kt];rcases Qo hc with rfl|rfl|rfl
  ·rw[h1];rfl
  ·rw[h2];rfl
  ·rw[h3];rfl
theorem Kq{m n:UInt8}(h:so m=0)(h1:jO jD [m,n]=true):Wd [m,n]:=by
 refine⟨by simp,?_,fun c r _=>?_⟩
 ·show so m≠3
  rw[h];decide
 ·show uD (m::n::c::r)=2
  unfold uD;rw[show (m::n::c::r).getD 0 0=m from rfl,tr h,Kt,h1];rfl
def tw(l:Bs):List Bs:=(uH l.length l 0).map Prod.snd
theorem UM(n:Nat):∀(l:Bs) (p q:Nat),(uH n l p).map Prod.snd=(uH n l q).map Prod.snd:=by
 induction n with
 | zero=>intro l p q;rfl
 | succ n ih =>
   intro l p q;simp only[uH];split
   ·rfl
   ·split
    ·exact ih _ _ _
    ·simp only[cq];rw[ih]
theorem Jc{l:Bs}(p:Nat)(h:l.length<=n):(uH n l p).map Prod.snd=tw l:=by
 unfold tw;rw[cV n l.length l p h (tg _)];exact UM _ _ _ _
theorem Yu(r:Bs)(h:so c=3):tw (c::r)=tw r:=by
 unfold tw;rw[show (c::r).length=r.length+1 from rfl,uH,tj (by simp),tr (show so ((c::r).getD 0 0)=3 from h)];exact Jc _ (tg _)
theorem Cw(hw:Wd w)(r:Bs)(hc:x6 c=true):tw (w++c::r)=w::tw (c::r):=by
 obtain⟨h0,h3,hl⟩:=hw;have hl:=hl c r hc
 have hg:(w++c::r).getD 0 0=w.getD 0 0:=by
  cases w with
  | nil=>exact absurd rfl h0
  | cons x l=>rfl
 rw[show tw (w++c::r)=(uH (w++c::r).length (w++c::r) 0).map Prod.snd from rfl];rw[cV _ ((w++c::r).length+1) _ _ (tg _) (by omega),uH,tj (by simp),tj (by rw[hg];exact h3),hl];rw[cq,List.take_left' rfl,List.drop_left' rfl,Jc _ (by simp)]
theorem Ko(ws:List Bs)(rest:Bs):∃c r,GJ ws++rest=c::r/\x6 c=true:=by
 cases ws with
 | nil=>exact⟨10,rest,rfl,rfl⟩
 | cons w r =>
   rw[GJ];by_cases h:w=[59]
   ·rw[tr h,h];exact⟨59,_,rfl,rfl⟩
   ·rw[tj h];exact⟨32,_,rfl,rfl⟩
theorem zG8(ws:List Bs):(∀w∈ws,Wd w)->∀rest,tw (GJ ws++rest)=ws++tw rest:=by
 induction ws with
 | nil=>intro _ rest;exact Yu (c:=10) rest (by decide)
 | cons w r ih =>
   intro h rest;obtain⟨c,r',e,hc⟩:=Ko r rest;have hw:=h w (by simp);have hr:=ih (fun x hx=>h x (by simp[hx])) rest;have h1:tw (w++(GJ r++rest))=w::(r++tw rest):=by rw[e,Cw hw r' hc,<-e,hr]
   rw[GJ];by_cases h0:w=[59]
   ·rw[tr h0,pj];exact h1
   ·rw[tj h0,my,my,Yu _ (by decide),pj];exact h1
theorem zC6{ws:List Bs}(h:∀w∈ws,Wd w)(rest:Bs):tw (dG ws++rest)=ws++tw rest:=by
 cases ws with
 | nil=>exact Yu (c:=10) rest (by decide)
 | cons w r =>
   obtain⟨c,r',e,hc⟩:=Ko r rest;rw[dG,pj,e,Cw (h w (by simp)) r' hc,<-e,zG8 r (fun x hx=>h x (by simp[hx]))];rfl
theorem zG9(L:List (List Bs)):(∀ws∈L,∀w∈ws,Wd w)->tw (Yp L)=L.flatten:=by
 induction L with
 | nil=>intro _;rfl
 | cons ws r ih =>
   intro h;rw[Yp,co,zC6 (h ws (by simp)),List.flatten_cons];rw[show tw (List.flatMap dG r)=r.flatten from ih (fun x hx=>h x (by simp[hx]))]
def At(P:List PT)(a:Nat)(w:Bs):Prop:=(yT P a).k=yA w/\(yT P a).s=w/\(yT P a).v=qS w
def iX(P:List PT):Nat->List Bs->Prop
 | _,[]=>True
 | a,w::r=>At P a w/\iX P (a+1) r
theorem iX.app{us:List Bs}:∀ {a:Nat} {ws:List Bs},iX P a (ws++us)->iX P a ws/\iX P (a+ws.length) us:=by
 intro a ws
 induction ws generalizing a with
 | nil=>intro h;exact⟨trivial,h⟩
 | cons w r ih =>
   intro h;obtain⟨h1,h2⟩:=ih h.2;exact⟨⟨h.1,h1⟩,by rw[tz,show a+(r.length+1)=a+1+r.length by omega];exact h2⟩
theorem Yx:(xB l 0).map Prod.snd=tw l:=by
 unfold xB;rw[List.drop_zero];exact Jc 0 (tg _)
theorem Dn(A B:List PT)(i:Nat):yT (A++B) (A.length+i)=yT B i:=by
 unfold yT;simp only[List.getD,List.getElem?_append];rw[tj (by omega),Nat.add_sub_cancel_left]
theorem zF5(f:Nat × Bs->PT)(hf:∀t,(f t).k=yA t.2/\(f t).s=t.2/\(f t).v=qS t.2)(E:List PT)(ts:List (Nat × Bs)):∀A:List PT,iX (A++(ts.map f++E)) A.length (ts.map Prod.snd):=by
 induction ts with
 | nil=>intro A;trivial
 | cons t r ih =>
   intro A;refine⟨?_,?_⟩
   ·have e:yT (A++(List.map f (t::r)++E)) A.length=f t:=Dn A _ 0
    unfold At;rw[e];exact hf t
   ·have:=ih (A++[f t])
    simpa using this
theorem zCB:iX (sB l) 0 (tw l):=by
 rw[<-Yx];exact zF5 _ (fun t=>⟨rfl,rfl,rfl⟩) _ (xB l 0) []
theorem zGD:(yT (sB l) (tw l).length).k=0:=by
 have e:(tw l).length=((xB l 0).map (fun t=>(⟨yA t.2,t.2,qS t.2,t.1⟩:PT))).length:=by rw[<-Yx,me,me]
 unfold sB;rw[e];exact congrArg PT.k (Dn _ _ 0)
theorem zIW:(sB l).length=(tw l).length+1:=by
 unfold sB;rw[tq,me,<-Yx,me];rfl
theorem lV{t:Bs}(h:At P a t)(hk:yA t=4):zD P t (a,false)=(true,(a+1,false)):=by
 have e:jS P t a false=true:=by unfold jS;rw[h.1,h.2.1,hk];simp
 unfold zD;simp only[e,ZN]
theorem kB(h:At P a w)(t:Bs)(hn:yA w=4->w≠t):zD P t (a,false)=(false,(a,false)):=by
 have e:jS P t a false=false:=by
  unfold jS;rw[h.1,h.2.1];by_cases hk:yA w=4
  ·simp[hn hk]
  ·simp[hk]
 unfold zD;simp only[e,ZN]
theorem dH{t:Bs}(h:At P a t)(hk:yA t=4):zP P t (a,false)=(a+1,false):=by
 have e:jS P t a false=true:=by unfold jS;rw[h.1,h.2.1,hk];simp
 unfold zP;simp only[e,ZN,Bool.not_true]
theorem mX(h:At P a w)(hk:yA w=2):zG P (a,false)=(w,(a+1,false)):=by
 have e:uQ P 2 a false=true:=by unfold uQ;rw[h.1,hk];simp
 unfold zG;simp only[e,ZN,tk,Bool.not_true,h.2.1]
theorem nT(h:At P a w)(hk:yA w=3):yC P (a,false)=(qS w,(a+1,false)):=by
 have e:uQ P 3 a false=true:=by unfold uQ;rw[h.1,hk];simp
 unfold yC;simp only[e,ZN,tk,Bool.not_true,h.2.2]
theorem JE(h:At P a w)(hk:yA w=3):kR P (a,false)=true:=by
 unfold kR;rw[h.1,hk];rfl
theorem CZ(h:At P a w)(hk:yA w≠3):kR P (a,false)=false:=by
 unfold kR;rw[h.1];simpa using hk
theorem Qv(h:At P a w)(hk:yA w=2):vM P m (a,false)=(⟨m,false,0,w⟩,(a+1,false)):=by
 unfold vM;rw[CZ h (by rw[hk];decide),mX h hk]
theorem vm(h:At P a w)(hk:yA w=3)(h2:At P (a+1) v)(hv:yA v=4->v≠[42]):vM P m (a,false)=(⟨m,false,qS w,[]⟩,(a+1,false)):=by
 unfold vM;rw[JE h hk,nT h hk];simp only[kB h2 [42] hv]
theorem Qu(h:At P a w)(hk:yA w=3)(h2:At P (a+1) [42])(h3:At P (a+1+1) v)(hv:yA v=2):vM P m (a,false)=(⟨m,true,qS w,v⟩,(a+1+1+1,false)):=by
 unfold vM;rw[JE h hk,nT h hk];simp only[lV h2 (by decide),mX h3 hv]
theorem zCK{m:Bool}(h:vM P m s=(x,(b,false)))(h2:At P b v)(hv:yA v=4->v≠[45]/\v≠[43]):jF P (n+1) m s ps=(ps++[x],(b,false)):=by
 rw[jF,h];simp only[kB h2 [45] (fun k=>(hv k).1),kB h2 [43] (fun k=>(hv k).2)]
theorem DJ{m:Bool}(h:vM P m s=(x,(b,false)))(h2:At P b [45]):jF P (n+1) m s ps=jF P n true (b+1,false) (ps++[x]):=by
 rw[jF,h];simp only[lV h2 (by decide)]
theorem yg{m:Bool}(h:vM P m s=(x,(b,false)))(h2:At P b [43]):jF P (n+1) m s ps=jF P n false (b+1,false) (ps++[x]):=by
 rw[jF,h];simp only[kB h2 [45] (fun _=>by decide),lV h2 (by decide)]
def iE:Bs:=[97,108,119,97,121,115]
def sG:Bs:=[104,97,115]
theorem zy(h:At P a iE):yZ P (a,false)=(⟨4,0,0,[],[],[],0⟩,(a+1,false)):=by
 unfold yZ;simp only[show ([97,108,119,97,121,115]:Bs)=iE from rfl,lV h (by decide)]
theorem zx(h:At P a sG)(h2:At P (a+1) w)(hw:yA w=2):yZ P (a,false)=(⟨5,0,0,w,[],[],0⟩,(a+1+1,false)):=by
 unfold yZ;simp only[show ([104,97,115]:Bs)=sG from rfl,kB h [97,108,119,97,121,115] (fun _=>by decide),lV h (by decide),mX h2 hw]
def dp(a d:Int):Int:=if a<d then d else a
theorem Xs{x:zN}(nd:List zN)(t p d:Int)(h:At P a w)(h1:yA w=4->w≠yX/\w≠yO)(ht:yZ P (a,false)=(x,(b,false))):yJ P (n+1) ⟨(a,false),nd,t,p⟩ d=(((nd.length:Nat):Int),⟨(b,false),nd++[x],t+1,dp p d⟩):=by
 rw[yJ];simp only[kB h yX (fun k=>(h1 k).1),kB h yO (fun k=>(h1 k).2),ht,GS.tested,GS.to,GS.add,dp]
theorem wX{q':GS}(nd:List zN)(t p d:Int)(h:At P a yX)(hf:yJ P n ⟨(a+1,false),nd,t,p⟩ (d+1)=(i,q')):yJ P (n+1) ⟨(a,false),nd,t,p⟩ d=(((q'.nd.length:Nat):Int),q'.add ⟨3,i,0,[],[],[],0⟩):=by
 rw[yJ];simp only[lV h (by decide),GS.to,hf]
theorem dY{item:GS->Int × GS}{tok:Bs}{kind:Int}{k:Nat}{left:Int}(h:At P b v)(hv:yA v=4->v≠tok):kQ P item tok kind (k+1) left ⟨(b,false),nd,t,p⟩=(left,⟨(b,false),nd,t,p⟩):=by
 rw[kQ];simp only[kB h tok hv,GS.to]
theorem CO{item:GS->Int × GS}{tok:Bs}{kind:Int}{k:Nat}{left:Int}{q':GS}(h:At P b tok)(hk:yA tok=4)(hi:item ⟨(b+1,false),nd,t,p⟩=(i,q')):kQ P item tok kind (k+1) left ⟨(b,false),nd,t,p⟩=kQ P item tok kind k (q'.nd.length:Nat) (q'.add ⟨kind,left,i,[],[],[],0⟩):=by
 rw[kQ];simp only[lV h hk,GS.to,hi]
theorem iZ{fact:GS->Int->Int × GS}{q:GS}{d:Int}(hP:0<P.length)(hf:fact q d=(i,⟨(b,false),nd,t,p⟩))(h:At P b v)(hv:yA v=4->v≠xT):qZ P fact q d=(i,⟨(b,false),nd,t,p⟩):=by
 obtain⟨k,hk⟩:∃k,P.length=k+1:=⟨P.length-1,by omega⟩;unfold qZ;rw[hf,hk];exact dY h hv
theorem JW{fact:GS->Int->Int × GS}{q:GS}{d:Int}(hP:0<P.length)(hf:qZ P fact q d=(i,⟨(b,false),nd,t,p⟩))(h:At P b v)(hv:yA v=4->v≠jU):bJ P fact q d=(i,⟨(b,false),nd,t,p⟩):=by
 obtain⟨k,hk⟩:∃k,P.length=k+1:=⟨P.length-1,by omega⟩;unfold bJ;rw[hf,hk];exact dY h hv
def SumR(ps:List yQ)(S:List Bs):Prop:=∀P a,iX P a (S++[xC])->a+S.length<P.length->kZ P (a,false)=(ps,(a+S.length,false))
def Dx(x:zE)(ws:List Bs):Prop:=(∀w r,ws=w::r->yA w≠0)/\0<ws.length/\∀P a,iX P a ws->a+ws.length<P.length->vG P (a,false)=(x,(a+ws.length,false))
theorem UG{r c:Bs}(hr:yA r=2)(hc:yA c=2):Dx ⟨4,r,0,0,[],[],[],0,0,0,c⟩ [iB,r,c,uX]:=by
 refine⟨fun w r h=>by cases h;decide,by simp,fun P a h _=>?_⟩;obtain⟨h0,h1,h2,h3,_⟩:=h;unfold vG;simp only[kB h0 [110,117,109] (fun _=>by decide),kB h0 [102,108,97,103] (fun _=>by decide),kB h0 [114,117,108,101] (fun _=>by decide),show ([111,118,101,114]:Bs)=iB from rfl,dH h0 (by decide)];unfold qE;simp only[mX h1 hr,mX h2 hc,show ([59]:Bs)=uX from rfl,dH h3 (by decide)];rfl
def xL(f:UInt8)(i:Nat):Bs:=[f,UInt8.ofNat (97+i)]
structure Sim(x y:zE):Prop where
 k:x.kind=3
 k':y.kind=3
 nm:x.name=y.name
 cc:x.conc=y.conc
 c0:x.conc≠[]
 mn:YR x=YR y
 er:∀ls,(∀nm,uP ls 1 nm=false)->(x.sum.any (fun p => !qH ls p) || x.nd.any (fun p => !vE ls p))=(y.sum.any (fun p => !qH ls p) || y.nd.any (fun p => !vE ls p))
 gr:∀zJP f G,zJ zJP [] = -1->tP zJP f x.nd (mB zJP f x.sum G)=tP zJP f y.nd (mB zJP f y.sum G)
def kT:List zE->List zE->Prop
 | [],[]=>True
 | x::xs,y::ys=>Sim x y/\kT xs ys
 | _,_=>False
theorem kT.ind{M:List zE->List zE->Prop}(h0:M [] [])(h1:∀x y xs ys,Sim x y->kT xs ys->M xs ys->M (x::xs) (y::ys)):∀xs ys,kT xs ys->M xs ys
 | [],[],_=>h0
 | x::xs,y::ys,h=>h1 x y xs ys h.1 h.2 (kT.ind h0 h1 xs ys h.2)
 | [],_::_,h=>absurd h id
 | _::_,[],h=>absurd h id
theorem kT.len(h:kT xs ys):xs.length=ys.length :=
 kT.ind (M:=fun xs ys=>xs.length=ys.length) rfl (fun _ _ _ _ _ _ h=>by simp[h]) xs ys h
theorem kT.cnt(h:kT xs ys)(k:Int):vB k xs=vB k ys :=
 kT.ind (M:=fun xs ys=>vB k xs=vB k ys) rfl (fun _ _ _ _ s _ h=>by rw[vB,vB,s.k,s.k',h]) xs ys h
theorem kT.take(h:kT xs ys):∀n,kT (xs.take n) (ys.take n) :=
 kT.ind (M:=fun xs ys=>∀n,kT (xs.take n) (ys.take n)) (fun n=>by simp[kT]) (fun x y xs ys s _ h n=>by
  cases n with
  | zero=>trivial
  | succ n=>exact⟨s,h n⟩) xs ys h
theorem kT.get(h:kT xs ys):∀i,i<ys.length->Sim (lA xs i) (lA ys i) :=
 kT.ind (M:=fun xs ys=>∀i,i<ys.length->Sim (lA xs i) (lA ys i)) (fun i hi=>absurd hi (by simp)) (fun x y xs ys s _ h i hi=>by
  cases i with
  | zero=>exact s
  | succ i=>exact h i (by simpa using hi)) xs ys h
theorem kT.has(h:kT xs ys)(k:Int)(nm:Bs):uP xs k nm=uP ys k nm :=
 kT.ind (M:=fun xs ys=>uP xs k nm=uP ys k nm) rfl (fun _ _ _ _ s _ h=>by
  unfold uP Xa at *;rw[cw,cw,s.k,s.k',s.nm,h]) xs ys h
theorem kT.con(h:kT xs ys)(nm:Bs):pB xs nm=pB ys nm :=
 kT.ind (M:=fun xs ys=>pB xs nm=pB ys nm) rfl (fun _ _ _ _ s _ h=>by
  unfold pB Da at *;rw[cw,cw,s.k,s.k',s.cc,h]) xs ys h
theorem kT.no(h:kT xs ys)(nm:Bs):uP ys 1 nm=false :=
 kT.ind (M:=fun _ ys=>uP ys 1 nm=false) rfl (fun _ _ _ _ s _ h=>by
  unfold uP Xa at *;rw[cw,s.k',h];rfl) xs ys h
theorem kT.heads(h:kT xs ys):∀acc,vO xs acc=vO ys acc :=
 kT.ind (M:=fun xs ys=>∀acc,vO xs acc=vO ys acc) (fun _=>rfl) (fun _ _ _ _ s _ h acc=>by rw[vO,vO,s.k,s.k',s.cc,h]) xs ys h
theorem kT.nam(h:kT xs ys)(l:List Bs)(hl:zJ l [] = -1):∀G,jB l xs G=jB l ys G :=
 kT.ind (M:=fun xs ys=>∀G,jB l xs G=jB l ys G) (fun _=>rfl) (fun _ _ _ _ s _ h G=>by rw[jB,jB,s.k,s.k',tr rfl,tr rfl,s.cc,s.gr l _ G hl,h]) xs ys h
theorem kT.many(h:kT xs ys):∀n i,i+n<=ys.length->lJ xs n i=lJ ys n i:=by
 intro n
 induction n with
 | zero=>intro i _;rfl
 | succ n ih =>
   intro i hi;have s:=h.get i (by omega);have e:jG xs i=jG ys i:=by unfold jG;rw[s.k,s.k',s.mn,(h.take i).cnt]
   rw[lJ,lJ,e,ih (i+1) (by omega)]
theorem UO(h:kT xs ys)(p:yQ):qH xs p=qH ys p:=by unfold qH Ql;rw[h.has,h.con]
theorem Ba(h:kT xs ys)(p:zN):vE xs p=vE ys p:=by unfold vE;rw[h.has,h.has,h.has,h.con]
theorem kT.err(h:kT xs ys)(i:Nat)(hi:i<ys.length):lE xs i=lE ys i:=by
 have s:=h.get i hi;unfold lE;rw[s.k,s.k',tj (by decide),tj (by decide),tr rfl,tj (by decide),tj (by decide),tr rfl];unfold bF;rw[(h.take i).has,s.nm,funext (fun p=>UO h p),funext (fun p=>Ba h p),s.er ys h.no]
end Go.Proofs.YtnbpdffdnphbeabGreatDoor
