import Derived.Test.YtnbpdffdnphbeabGreatDoorRgLinks
namespace Go.Proofs.YtnbpdffdnphbeabGreatDoor
variable{w v:Bs}{t i p:Int}{P:List PT}{ps:List yT}{xs ys:List zE}{nd:List zM}{n b a:Nat}{s:St}{c:UInt8}{x:yT}(k:Int)(m:Bool)(l:Bs)
def UH:List Bs->Bs
 | []=>[10]
 | w::r=>(if w=[59] then w else 32::w)++UH r
def pF:List Bs->Bs
 | []=>[10]
 | w::r=>w++UH r
def sR(L:List (List Bs)):Bs:=L.flatMap pF
def Dg(c:UInt8):Bool:=c==32 || c==59 || c==10
def Wd(w:Bs):Prop:=w≠[]/\so (w.getD 0 0)≠3/\∀c r,Dg c=true->uC (w++c::r)=w.length
theorem Y1(h:Dg c=true):c=32\/c=59\/c=10:=by
 unfold Dg at h;simp only[bt,beq_iff_eq]at h;rcases h with (h|h)|h
 ·exact .inl h
 ·exact .inr (.inl h)
 ·exact .inr (.inr h)
theorem Di(c:UInt8)(r:Bs)(h:∀x∈l,so x=k)(hc:so c≠k):tL k (l++c::r)=l.length:=by
 induction l with
 | nil=>simp[tL,hc]
 | cons x l ih=>rw[l9,tL,tg (h x (by simp)),ih (fun y hy=>h y (by simp[hy])),ty]
theorem sS(hk:k=1\/k=2)(h0:w≠[])(h:∀x∈w,so x=k):Wd w:=by
 obtain⟨x,l,rfl⟩:∃x l,w=x::l:=by
  cases w with
  | nil=>exact absurd rfl h0
  | cons x l=>exact⟨x,l,rfl⟩
 have hx:so x=k:=h x (by simp);refine⟨h0,?_,fun c r hc=>?_⟩
 ·show so x≠3
  rw[hx];rcases hk with rfl|rfl <;> decide
 ·have hs:so c≠k:=by rcases hk with rfl|rfl <;> rcases Y1 hc with rfl|rfl|rfl <;> decide
  show uC (x::(l++c::r))=_;unfold uC;rw[show (x::(l++c::r)).getD 0 0=x from rfl,hx,t7 (by rcases hk with rfl|rfl <;> decide)];rw[show (x::(l++c::r)).drop 1=l++c::r from rfl,Di k l c r (fun y hy=>h y (by simp[hy])) hs,ty,Nat.add_comm]
theorem Qh(m c:UInt8)(r:Bs):JM (m::c::r)=jN qU [m,c]:=by
 unfold JM;rw[show (m::c::r).take 2=[m,c] from rfl,tl (by simp),mh]
theorem Xe{m:UInt8}(h:so m=0)(h1:jN qU [m,32]=false)(h2:jN qU [m,59]=false)(h3:jN qU [m,10]=false):Wd [m]:=by
 refine⟨by simp,?_,fun c r hc=>?_⟩
 ·show so m≠3
  rw[h];decide
 ·show uC (m::c::r)=1
  unfold uC;rw[show (m::c::r).getD 0 0=m from rfl,tg h,Qh];rcases Y1 hc with rfl|rfl|rfl
  ·rw[h1];rfl
  ·rw[h2];rfl
  ·rw[h3];rfl
theorem Qe{m n:UInt8}(h:so m=0)(h1:jN qU [m,n]=true):Wd [m,n]:=by
 refine⟨by simp,?_,fun c r _=>?_⟩
 ·show so m≠3
  rw[h];decide
 ·show uC (m::n::c::r)=2
  unfold uC;rw[show (m::n::c::r).getD 0 0=m from rfl,tg h,Qh,h1];rfl
def tw(l:Bs):List Bs:=(qG l.length l 0).map Prod.snd
theorem Kl(n:Nat):∀(l:Bs) (p q:Nat),(qG n l p).map Prod.snd=(qG n l q).map Prod.snd:=by
 induction n with
 | zero=>intro l p q;rfl
 | succ n ih =>
   intro l p q;simp only[qG];split
   ·rfl
   ·split
    ·exact ih _ _ _
    ·simp only[bw];rw[ih]
theorem Xg{l:Bs}(p:Nat)(h:l.length<=n):(qG n l p).map Prod.snd=tw l:=by
 unfold tw;rw[bS n l.length l p h (j1 _)];exact Kl _ _ _ _
theorem wC(r:Bs)(h:so c=3):tw (c::r)=tw r:=by
 unfold tw;rw[show (c::r).length=r.length+1 from rfl,qG,t7 (by simp),tg (show so ((c::r).getD 0 0)=3 from h)];exact Xg _ (j1 _)
theorem VI(hw:Wd w)(r:Bs)(hc:Dg c=true):tw (w++c::r)=w::tw (c::r):=by
 obtain⟨h0,h3,hl⟩:=hw;have hl:=hl c r hc
 have hg:(w++c::r).getD 0 0=w.getD 0 0:=by
  cases w with
  | nil=>exact absurd rfl h0
  | cons x l=>rfl
 rw[show tw (w++c::r)=(qG (w++c::r).length (w++c::r) 0).map Prod.snd from rfl];rw[bS _ ((w++c::r).length+1) _ _ (j1 _) (by omega),qG,t7 (by simp),t7 (by rw[hg];exact h3),hl];rw[bw,List.take_left' rfl,List.drop_left' rfl,Xg _ (by simp)]
theorem Qc(ws:List Bs)(rest:Bs):∃c r,UH ws++rest=c::r/\Dg c=true:=by
 cases ws with
 | nil=>exact⟨10,rest,rfl,rfl⟩
 | cons w r =>
   rw[UH];by_cases h:w=[59]
   ·rw[tg h,h];exact⟨59,_,rfl,rfl⟩
   ·rw[t7 h];exact⟨32,_,rfl,rfl⟩
theorem zAC(ws:List Bs):(∀w∈ws,Wd w)->∀rest,tw (UH ws++rest)=ws++tw rest:=by
 induction ws with
 | nil=>intro _ rest;exact wC (c:=10) rest (by decide)
 | cons w r ih =>
   intro h rest;obtain⟨c,r',e,hc⟩:=Qc r rest;have hw:=h w (by simp);have hr:=ih (fun x hx=>h x (by simp[hx])) rest;have h1:tw (w++(UH r++rest))=w::(r++tw rest):=by rw[e,VI hw r' hc,<-e,hr]
   rw[UH];by_cases h0:w=[59]
   ·rw[tg h0,pd];exact h1
   ·rw[t7 h0,l9,l9,wC _ (by decide),pd];exact h1
theorem zx{ws:List Bs}(h:∀w∈ws,Wd w)(rest:Bs):tw (pF ws++rest)=ws++tw rest:=by
 cases ws with
 | nil=>exact wC (c:=10) rest (by decide)
 | cons w r =>
   obtain⟨c,r',e,hc⟩:=Qc r rest;rw[pF,pd,e,VI (h w (by simp)) r' hc,<-e,zAC r (fun x hx=>h x (by simp[hx]))];rfl
theorem CI(L:List (List Bs)):(∀ws∈L,∀w∈ws,Wd w)->tw (sR L)=L.flatten:=by
 induction L with
 | nil=>intro _;rfl
 | cons ws r ih =>
   intro h;rw[sR,ba,zx (h ws (by simp)),List.flatten_cons];rw[show tw (List.flatMap pF r)=r.flatten from ih (fun x hx=>h x (by simp[hx]))]
def At(P:List PT)(a:Nat)(w:Bs):Prop:=(yJ P a).k=yC w/\(yJ P a).s=w/\(yJ P a).v=qM w
def sP(P:List PT):Nat->List Bs->Prop
 | _,[]=>True
 | a,w::r=>At P a w/\sP P (a+1) r
theorem sP.app{us:List Bs}:∀ {a:Nat} {ws:List Bs},sP P a (ws++us)->sP P a ws/\sP P (a+ws.length) us:=by
 intro a ws
 induction ws generalizing a with
 | nil=>intro h;exact⟨trivial,h⟩
 | cons w r ih =>
   intro h;obtain⟨h1,h2⟩:=ih h.2;exact⟨⟨h.1,h1⟩,by rw[ty,show a+(r.length+1)=a+1+r.length by omega];exact h2⟩
theorem wF:(vC l 0).map Prod.snd=tw l:=by
 unfold vC;rw[List.drop_zero];exact Xg 0 (j1 _)
theorem U1(A B:List PT)(i:Nat):yJ (A++B) (A.length+i)=yJ B i:=by
 unfold yJ;simp only[List.getD,List.getElem?_append];rw[t7 (by omega),Nat.add_sub_cancel_left]
theorem qx(f:Nat × Bs->PT)(hf:∀t,(f t).k=yC t.2/\(f t).s=t.2/\(f t).v=qM t.2)(E:List PT)(ts:List (Nat × Bs)):∀A:List PT,sP (A++(ts.map f++E)) A.length (ts.map Prod.snd):=by
 induction ts with
 | nil=>intro A;trivial
 | cons t r ih =>
   intro A;refine⟨?_,?_⟩
   ·have e:yJ (A++(List.map f (t::r)++E)) A.length=f t:=U1 A _ 0
    unfold At;rw[e];exact hf t
   ·have:=ih (A++[f t])
    simpa using this
theorem VJ:sP (mM l) 0 (tw l):=by
 rw[<-wF];exact qx _ (fun t=>⟨rfl,rfl,rfl⟩) _ (vC l 0) []
theorem CK:(yJ (mM l) (tw l).length).k=0:=by
 have e:(tw l).length=((vC l 0).map (fun t=>(⟨yC t.2,t.2,qM t.2,t.1⟩:PT))).length:=by rw[<-wF,pi,pi]
 unfold mM;rw[e];exact congrArg PT.k (U1 _ _ 0)
theorem j9:(mM l).length=(tw l).length+1:=by
 unfold mM;rw[tb,pi,<-wF,pi];rfl
theorem mO{t:Bs}(h:At P a t)(hk:yC t=4):zD P t (a,false)=(true,(a+1,false)):=by
 have e:jE P t a false=true:=by unfold jE;rw[h.1,h.2.1,hk];simp
 unfold zD;simp only[e,J4]
theorem qF(h:At P a w)(t:Bs)(hn:yC w=4->w≠t):zD P t (a,false)=(false,(a,false)):=by
 have e:jE P t a false=false:=by
  unfold jE;rw[h.1,h.2.1];by_cases hk:yC w=4
  ·simp[hn hk]
  ·simp[hk]
 unfold zD;simp only[e,J4]
theorem bX{t:Bs}(h:At P a t)(hk:yC t=4):zO P t (a,false)=(a+1,false):=by
 have e:jE P t a false=true:=by unfold jE;rw[h.1,h.2.1,hk];simp
 unfold zO;simp only[e,J4,Bool.not_true]
theorem pM(h:At P a w)(hk:yC w=2):zG P (a,false)=(w,(a+1,false)):=by
 have e:uZ P 2 a false=true:=by unfold uZ;rw[h.1,hk];simp
 unfold zG;simp only[e,J4,tk,Bool.not_true,h.2.1]
theorem fP(h:At P a w)(hk:yC w=3):yB P (a,false)=(qM w,(a+1,false)):=by
 have e:uZ P 3 a false=true:=by unfold uZ;rw[h.1,hk];simp
 unfold yB;simp only[e,J4,tk,Bool.not_true,h.2.2]
theorem X1(h:At P a w)(hk:yC w=3):isNum P (a,false)=true:=by
 unfold isNum;rw[h.1,hk];rfl
theorem Up(h:At P a w)(hk:yC w≠3):isNum P (a,false)=false:=by
 unfold isNum;rw[h.1];simpa using hk
theorem Y4(h:At P a w)(hk:yC w=2):uL P m (a,false)=(⟨m,false,0,w⟩,(a+1,false)):=by
 unfold uL;rw[Up h (by rw[hk];decide),pM h hk]
theorem Dw(h:At P a w)(hk:yC w=3)(h2:At P (a+1) v)(hv:yC v=4->v≠[42]):uL P m (a,false)=(⟨m,false,qM w,[]⟩,(a+1,false)):=by
 unfold uL;rw[X1 h hk,fP h hk];simp only[qF h2 [42] hv]
theorem Y3(h:At P a w)(hk:yC w=3)(h2:At P (a+1) [42])(h3:At P (a+1+1) v)(hv:yC v=2):uL P m (a,false)=(⟨m,true,qM w,v⟩,(a+1+1+1,false)):=by
 unfold uL;rw[X1 h hk,fP h hk];simp only[mO h2 (by decide),pM h3 hv]
theorem yi{m:Bool}(h:uL P m s=(x,(b,false)))(h2:At P b v)(hv:yC v=4->v≠[45]/\v≠[43]):mD P (n+1) m s ps=(ps++[x],(b,false)):=by
 rw[mD,h];simp only[qF h2 [45] (fun k=>(hv k).1),qF h2 [43] (fun k=>(hv k).2)]
theorem UR{m:Bool}(h:uL P m s=(x,(b,false)))(h2:At P b [45]):mD P (n+1) m s ps=mD P n true (b+1,false) (ps++[x]):=by
 rw[mD,h];simp only[mO h2 (by decide)]
theorem CY{m:Bool}(h:uL P m s=(x,(b,false)))(h2:At P b [43]):mD P (n+1) m s ps=mD P n false (b+1,false) (ps++[x]):=by
 rw[mD,h];simp only[qF h2 [45] (fun _=>by decide),mO h2 (by decide)]
def rW:Bs:=[97,108,119,97,121,115]
def nY:Bs:=[104,97,115]
theorem CS(h:At P a rW):vH P (a,false)=(⟨4,0,0,[],[],[],0⟩,(a+1,false)):=by
 unfold vH;simp only[show ([97,108,119,97,121,115]:Bs)=rW from rfl,mO h (by decide)]
theorem CR(h:At P a nY)(h2:At P (a+1) w)(hw:yC w=2):vH P (a,false)=(⟨5,0,0,w,[],[],0⟩,(a+1+1,false)):=by
 unfold vH;simp only[show ([104,97,115]:Bs)=nY from rfl,qF h [97,108,119,97,121,115] (fun _=>by decide),mO h (by decide),pM h2 hw]
def dp(a d:Int):Int:=if a<d then d else a
theorem ZL{x:zM}(nd:List zM)(t p d:Int)(h:At P a w)(h1:yC w=4->w≠xR/\w≠xQ)(ht:vH P (a,false)=(x,(b,false))):yU P (n+1) ⟨(a,false),nd,t,p⟩ d=(((nd.length:Nat):Int),⟨(b,false),nd++[x],t+1,dp p d⟩):=by
 rw[yU];simp only[qF h xR (fun k=>(h1 k).1),qF h xQ (fun k=>(h1 k).2),ht,GS.tested,GS.to,GS.add,dp]
theorem aO{q':GS}(nd:List zM)(t p d:Int)(h:At P a xR)(hf:yU P n ⟨(a+1,false),nd,t,p⟩ (d+1)=(i,q')):yU P (n+1) ⟨(a,false),nd,t,p⟩ d=(((q'.nd.length:Nat):Int),q'.add ⟨3,i,0,[],[],[],0⟩):=by
 rw[yU];simp only[mO h (by decide),GS.to,hf]
theorem cM{item:GS->Int × GS}{tok:Bs}{kind:Int}{k:Nat}{left:Int}(h:At P b v)(hv:yC v=4->v≠tok):pB P item tok kind (k+1) left ⟨(b,false),nd,t,p⟩=(left,⟨(b,false),nd,t,p⟩):=by
 rw[pB];simp only[qF h tok hv,GS.to]
theorem Ul{item:GS->Int × GS}{tok:Bs}{kind:Int}{k:Nat}{left:Int}{q':GS}(h:At P b tok)(hk:yC tok=4)(hi:item ⟨(b+1,false),nd,t,p⟩=(i,q')):pB P item tok kind (k+1) left ⟨(b,false),nd,t,p⟩=pB P item tok kind k (q'.nd.length:Nat) (q'.add ⟨kind,left,i,[],[],[],0⟩):=by
 rw[pB];simp only[mO h hk,GS.to,hi]
theorem sU{fact:GS->Int->Int × GS}{q:GS}{d:Int}(hP:0<P.length)(hf:fact q d=(i,⟨(b,false),nd,t,p⟩))(h:At P b v)(hv:yC v=4->v≠tP):lN P fact q d=(i,⟨(b,false),nd,t,p⟩):=by
 obtain⟨k,hk⟩:∃k,P.length=k+1:=⟨P.length-1,by omega⟩;unfold lN;rw[hf,hk];exact cM h hv
theorem XG{fact:GS->Int->Int × GS}{q:GS}{d:Int}(hP:0<P.length)(hf:lN P fact q d=(i,⟨(b,false),nd,t,p⟩))(h:At P b v)(hv:yC v=4->v≠rU):aT P fact q d=(i,⟨(b,false),nd,t,p⟩):=by
 obtain⟨k,hk⟩:∃k,P.length=k+1:=⟨P.length-1,by omega⟩;unfold aT;rw[hf,hk];exact cM h hv
def SumR(ps:List yT)(S:List Bs):Prop:=∀P a,sP P a (S++[uP])->a+S.length<P.length->kY P (a,false)=(ps,(a+S.length,false))
def UC(x:zE)(ws:List Bs):Prop:=(∀w r,ws=w::r->yC w≠0)/\0<ws.length/\∀P a,sP P a ws->a+ws.length<P.length->vN P (a,false)=(x,(a+ws.length,false))
theorem Kd{r c:Bs}(hr:yC r=2)(hc:yC c=2):UC ⟨4,r,0,0,[],[],[],0,0,0,c⟩ [Ff,r,c,lW]:=by
 refine⟨fun w r h=>by cases h;decide,by simp,fun P a h _=>?_⟩;obtain⟨h0,h1,h2,h3,_⟩:=h;unfold vN;simp only[qF h0 [110,117,109] (fun _=>by decide),qF h0 [102,108,97,103] (fun _=>by decide),qF h0 [114,117,108,101] (fun _=>by decide),show ([111,118,101,114]:Bs)=Ff from rfl,bX h0 (by decide)];unfold pI;simp only[pM h1 hr,pM h2 hc,show ([59]:Bs)=lW from rfl,bX h3 (by decide)];rfl
def xG(f:UInt8)(i:Nat):Bs:=[f,UInt8.ofNat (97+i)]
structure Sim(x y:zE):Prop where
 k:x.kind=3
 k':y.kind=3
 nm:x.name=y.name
 cc:x.conc=y.conc
 c0:x.conc≠[]
 mn:Zk x=Zk y
 er:∀ls,(∀nm,vP ls 1 nm=false)->(x.sum.any (fun p => !uJ ls p) || x.nd.any (fun p => !xT ls p))=(y.sum.any (fun p => !uJ ls p) || y.nd.any (fun p => !xT ls p))
 gr:∀zE6 f G,zJ zE6 [] = -1->jG zE6 f x.nd (tM zE6 f x.sum G)=jG zE6 f y.nd (tM zE6 f y.sum G)
def qE:List zE->List zE->Prop
 | [],[]=>True
 | x::xs,y::ys=>Sim x y/\qE xs ys
 | _,_=>False
theorem qE.ind{M:List zE->List zE->Prop}(h0:M [] [])(h1:∀x y xs ys,Sim x y->qE xs ys->M xs ys->M (x::xs) (y::ys)):∀xs ys,qE xs ys->M xs ys
 | [],[],_=>h0
 | x::xs,y::ys,h=>h1 x y xs ys h.1 h.2 (qE.ind h0 h1 xs ys h.2)
 | [],_::_,h=>absurd h id
 | _::_,[],h=>absurd h id
theorem qE.len(h:qE xs ys):xs.length=ys.length :=
 qE.ind (M:=fun xs ys=>xs.length=ys.length) rfl (fun _ _ _ _ _ _ h=>by simp[h]) xs ys h
theorem qE.cnt(h:qE xs ys)(k:Int):xI k xs=xI k ys :=
 qE.ind (M:=fun xs ys=>xI k xs=xI k ys) rfl (fun _ _ _ _ s _ h=>by rw[xI,xI,s.k,s.k',h]) xs ys h
theorem qE.take(h:qE xs ys):∀n,qE (xs.take n) (ys.take n) :=
 qE.ind (M:=fun xs ys=>∀n,qE (xs.take n) (ys.take n)) (fun n=>by simp[qE]) (fun x y xs ys s _ h n=>by
  cases n with
  | zero=>trivial
  | succ n=>exact⟨s,h n⟩) xs ys h
theorem qE.get(h:qE xs ys):∀i,i<ys.length->Sim (lA xs i) (lA ys i) :=
 qE.ind (M:=fun xs ys=>∀i,i<ys.length->Sim (lA xs i) (lA ys i)) (fun i hi=>absurd hi (by simp)) (fun x y xs ys s _ h i hi=>by
  cases i with
  | zero=>exact s
  | succ i=>exact h i (by simpa using hi)) xs ys h
theorem qE.has(h:qE xs ys)(k:Int)(nm:Bs):vP xs k nm=vP ys k nm :=
 qE.ind (M:=fun xs ys=>vP xs k nm=vP ys k nm) rfl (fun _ _ _ _ s _ h=>by
  unfold vP rX at *;rw[li,li,s.k,s.k',s.nm,h]) xs ys h
theorem qE.con(h:qE xs ys)(nm:Bs):kO xs nm=kO ys nm :=
 qE.ind (M:=fun xs ys=>kO xs nm=kO ys nm) rfl (fun _ _ _ _ s _ h=>by
  unfold kO KO at *;rw[li,li,s.k,s.k',s.cc,h]) xs ys h
theorem qE.no(h:qE xs ys)(nm:Bs):vP ys 1 nm=false :=
 qE.ind (M:=fun _ ys=>vP ys 1 nm=false) rfl (fun _ _ _ _ s _ h=>by
  unfold vP rX at *;rw[li,s.k',h];rfl) xs ys h
theorem qE.heads(h:qE xs ys):∀acc,vD xs acc=vD ys acc :=
 qE.ind (M:=fun xs ys=>∀acc,vD xs acc=vD ys acc) (fun _=>rfl) (fun _ _ _ _ s _ h acc=>by rw[vD,vD,s.k,s.k',s.cc,h]) xs ys h
theorem qE.labs(h:qE xs ys):∀acc,uO xs acc=uO ys acc :=
 qE.ind (M:=fun xs ys=>∀acc,uO xs acc=uO ys acc) (fun _=>rfl) (fun _ _ _ _ s _ h acc=>by rw[uO,uO,s.k,s.k',s.nm,h]) xs ys h
theorem qE.nam(h:qE xs ys)(l:List Bs)(hl:zJ l [] = -1):∀G,uE l xs G=uE l ys G :=
 qE.ind (M:=fun xs ys=>∀G,uE l xs G=uE l ys G) (fun _=>rfl) (fun _ _ _ _ s _ h G=>by rw[uE,uE,s.k,s.k',tg rfl,tg rfl,s.cc,s.gr l _ G hl,h]) xs ys h
theorem qE.many(h:qE xs ys):∀n i,i+n<=ys.length->mG xs n i=mG ys n i:=by
 intro n
 induction n with
 | zero=>intro i _;rfl
 | succ n ih =>
   intro i hi;have s:=h.get i (by omega);have e:qW xs i=qW ys i:=by unfold qW;rw[s.k,s.k',s.mn,(h.take i).cnt]
   rw[mG,mG,e,ih (i+1) (by omega)]
theorem Kn(h:qE xs ys)(p:yT):uJ xs p=uJ ys p:=by unfold uJ Yw;rw[h.has,h.con]
theorem Kz(h:qE xs ys)(p:zM):xT xs p=xT ys p:=by unfold xT;rw[h.has,h.has,h.has,h.con]
theorem qE.err(h:qE xs ys)(i:Nat)(hi:i<ys.length):tT xs i=tT ys i:=by
 have s:=h.get i hi;unfold tT;rw[s.k,s.k',t7 (by decide),t7 (by decide),tg rfl,t7 (by decide),t7 (by decide),tg rfl];unfold mA;rw[(h.take i).has,s.nm,funext (fun p=>Kn h p),funext (fun p=>Kz h p),s.er ys h.no]
end Go.Proofs.YtnbpdffdnphbeabGreatDoor
