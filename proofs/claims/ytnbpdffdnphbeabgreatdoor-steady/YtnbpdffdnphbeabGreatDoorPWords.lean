import Derived.Test.YtnbpdffdnphbeabGreatDoorRgLinks
namespace Go.Proofs.YtnbpdffdnphbeabGreatDoor
variable{v w:Bs}{t p i:Int}{P:List PT}{ps:List yT}{nd:List zJ}{a b n:Nat}{s:St}{c:UInt8}{x:yT}(l:Bs)(m:Bool)
def jh:List Bs->Bs
 | []=>[10]
 | w::r=>(if w=[59] then w else 32::w)++jh r
def gO:List Bs->Bs
 | []=>[10]
 | w::r=>w++jh r
def X1(L:List (List Bs)):Bs:=L.flatMap gO
def A6(c:UInt8):Bool:=c==32 || c==59 || c==10
def Wd(w:Bs):Prop:=w≠[]/\so (w.getD 0 0)≠3/\∀c r,A6 c=true->uP (w++c::r)=w.length
theorem JL(h:A6 c=true):c=32\/c=59\/c=10:=by
 unfold A6 at h;simp only[ce,beq_iff_eq]at h;rcases h with (h|h)|h
 ·exact .inl h
 ·exact .inr (.inl h)
 ·exact .inr (.inr h)
theorem Si(k:Int)(l:Bs)(c:UInt8)(r:Bs)(h:∀x∈l,so x=k)(hc:so c≠k):pX k (l++c::r)=l.length:=by
 induction l with
 | nil=>simp[pX,hc]
 | cons x l ih=>rw[li,pX,tr (h x (by simp)),ih (λy hy=>h y (by simp[hy])),pb]
theorem jz(k:Int)(hk:k=1\/k=2)(h0:w≠[])(h:∀x∈w,so x=k):Wd w:=by
 obtain⟨x,l,rfl⟩:∃x l,w=x::l:=by
  cases w with
  | nil=>exact x' rfl h0
  | cons x l=>exact⟨x,l,rfl⟩
 have hx:so x=k:=h x (by simp);refine⟨h0,?_,λc r hc=>?_⟩
 ·show so x≠3
  rw[hx];rcases hk with rfl|rfl <;> decide
 ·have hs:so c≠k:=by rcases hk with rfl|rfl <;> rcases JL hc with rfl|rfl|rfl <;> decide
  show uP (x::(l++c::r))=_;unfold uP;rw[show (x::(l++c::r)).getD 0 0=x from rfl,hx,tj (by rcases hk with rfl|rfl <;> decide)];rw[show (x::(l++c::r)).drop 1=l++c::r from rfl,Si k l c r (λy hy=>h y (by simp[hy])) hs,pb,Nat.add_comm]
theorem VU(m c:UInt8)(r:Bs):Cj (m::c::r)=mI jY [m,c]:=by
 unfold Cj;rw[show (m::c::r).take 2=[m,c] from rfl,tz (by simp),bm]
theorem PM{m:UInt8}(h:so m=0)(h1:mI jY [m,32]=false)(h2:mI jY [m,59]=false)(h3:mI jY [m,10]=false):Wd [m]:=by
 refine⟨by simp,?_,λc r hc=>?_⟩
 ·show so m≠3
  rw[h];decide
 ·show uP (m::c::r)=1
  unfold uP;rw[show (m::c::r).getD 0 0=m from rfl,tr h,VU];rcases JL hc with rfl|rfl|rfl
  ·rw[h1];rfl
  ·rw[h2];rfl
  ·rw[h3];rfl
theorem VQ{m n:UInt8}(h:so m=0:=by decide)(h1:mI jY [m,n]=true:=by decide):Wd [m,n]:=by
 refine⟨by simp,?_,λc r _=>?_⟩
 ·show so m≠3
  rw[h];decide
 ·show uP (m::n::c::r)=2
  unfold uP;rw[show (m::n::c::r).getD 0 0=m from rfl,tr h,VU,h1];rfl
def tw(l:Bs):List Bs:=(uX l.length l 0).map Prod.snd
theorem CM(n:Nat):∀(l:Bs) (p q:Nat),(uX n l p).map Prod.snd=(uX n l q).map Prod.snd:=by
 induction n with
 | zero=>intro l p q;rfl
 | succ n ih =>
   intro l p q;simp only[uX];split
   ·rfl
   ·split
    ·exact ih _ _ _
    ·simp only[cf];rw[ih]
theorem KB{l:Bs}(p:Nat)(h:l.length<=n):(uX n l p).map Prod.snd=tw l:=by
 unfold tw;rw[fW n l.length l p h (tg _)];exact CM _ _ _ _
theorem X5(r:Bs)(h:so c=3):tw (c::r)=tw r:=by
 unfold tw;rw[show (c::r).length=r.length+1 from rfl,uX,tj (by simp),tr (show so ((c::r).getD 0 0)=3 from h)];exact KB _ (tg _)
theorem Fx(hw:Wd w)(r:Bs)(hc:A6 c=true):tw (w++c::r)=w::tw (c::r):=by
 obtain⟨h0,h3,hl⟩:=hw;have hl:=hl c r hc
 have hg:(w++c::r).getD 0 0=w.getD 0 0:=by
  cases w with
  | nil=>exact x' rfl h0
  | cons x l=>rfl
 rw[show tw (w++c::r)=(uX (w++c::r).length (w++c::r) 0).map Prod.snd from rfl];rw[fW _ ((w++c::r).length+1) _ _ (tg _) (by omega),uX,tj (by simp),tj (by rw[hg];exact h3),hl];rw[cf,List.take_left' rfl,List.drop_left' rfl,KB _ (by simp)]
theorem VO(ws:List Bs)(rest:Bs):∃c r,jh ws++rest=c::r/\A6 c=true:=by
 cases ws with
 | nil=>exact⟨10,rest,rfl,rfl⟩
 | cons w r =>
   rw[jh];by_cases h:w=[59]
   ·rw[tr h,h];exact⟨59,_,rfl,rfl⟩
   ·rw[tj h];exact⟨32,_,rfl,rfl⟩
theorem NA(ws:List Bs):(∀w∈ws,Wd w)->∀rest,tw (jh ws++rest)=ws++tw rest:=by
 induction ws with
 | nil=>intro _ rest;exact X5 (c:=10) rest (by decide)
 | cons w r ih =>
   intro h rest;obtain⟨c,r',e,hc⟩:=VO r rest;have hw:=h w (by simp);have hr:=ih (λx hx=>h x (by simp[hx])) rest;have h1:tw (w++(jh r++rest))=w::(r++tw rest):=by rw[e,Fx hw r' hc,<-e,hr]
   rw[jh];by_cases h0:w=[59]
   ·rw[tr h0,po];exact h1
   ·rw[tj h0,li,li,X5 _ (by decide),po];exact h1
theorem PH{ws:List Bs}(h:∀w∈ws,Wd w)(rest:Bs):tw (gO ws++rest)=ws++tw rest:=by
 cases ws with
 | nil=>exact X5 (c:=10) rest (by decide)
 | cons w r =>
   obtain⟨c,r',e,hc⟩:=VO r rest;rw[gO,po,e,Fx (h w (by simp)) r' hc,<-e,NA r (λx hx=>h x (by simp[hx]))];rfl
theorem M9(L:List (List Bs)):(∀ws∈L,∀w∈ws,Wd w)->tw (X1 L)=L.flatten:=by
 induction L with
 | nil=>intro _;rfl
 | cons ws r ih =>
   intro h;rw[X1,cg,PH (h ws (by simp)),List.flatten_cons];rw[show tw (List.flatMap gO r)=r.flatten from ih (λx hx=>h x (by simp[hx]))]
def At(P:List PT)(a:Nat)(w:Bs):Prop:=(yB P a).k=yG w/\(yB P a).s=w/\(yB P a).v=kM w
def ZW(P:List PT):Nat->List Bs->Prop
 | _,[]=>True
 | a,w::r=>At P a w/\ZW P (a+1) r
theorem ZW.app{us:List Bs}:∀ {a:Nat} {ws:List Bs},ZW P a (ws++us)->ZW P a ws/\ZW P (a+ws.length) us:=by
 intro a ws
 induction ws generalizing a with
 | nil=>intro h;exact⟨trivial,h⟩
 | cons w r ih =>
   intro h;obtain⟨h1,h2⟩:=ih h.2;exact⟨⟨h.1,h1⟩,by rw[pb,show a+(r.length+1)=a+1+r.length by omega];exact h2⟩
theorem X8:(xI l 0).map Prod.snd=tw l:=by
 unfold xI;rw[List.drop_zero];exact KB 0 (tg _)
theorem G1(A B:List PT)(i:Nat):yB (A++B) (A.length+i)=yB B i:=by
 unfold yB;simp only[List.getD,List.getElem?_append];rw[i6,Nat.add_sub_cancel_left]
theorem NP(f:Nat × Bs->PT)(hf:∀t,(f t).k=yG t.2/\(f t).s=t.2/\(f t).v=kM t.2)(E:List PT)(ts:List (Nat × Bs)):∀A:List PT,ZW (A++(ts.map f++E)) A.length (ts.map Prod.snd):=by
 induction ts with
 | nil=>intro A;trivial
 | cons t r ih =>
   intro A;refine⟨?_,?_⟩
   ·have e:yB (A++(List.map f (t::r)++E)) A.length=f t:=G1 A _ 0
    unfold At;rw[e];exact hf t
   ·have:=ih (A++[f t])
    simpa using this
theorem PA:ZW (rB l) 0 (tw l):=by
 rw[<-X8];exact NP _ (λt=>⟨rfl,rfl,rfl⟩) _ (xI l 0) []
theorem M5:(yB (rB l) (tw l).length).k=0:=by
 have e:(tw l).length=((xI l 0).map (λt=>(⟨yG t.2,t.2,kM t.2,t.1⟩:PT))).length:=by rw[<-X8,pt,pt]
 unfold rB;rw[e];exact gk PT.k (G1 _ _ 0)
theorem Ll:(rB l).length=(tw l).length+1:=by
 unfold rB;rw[tm,pt,<-X8,pt];rfl
theorem cC{t:Bs}(h:At P a t)(hk:yG t=4):zD P t (a,false)=(true,(a+1,false)):=by
 have e:tN P t a false=true:=by unfold tN;rw[h.1,h.2.1,hk];simp
 unfold zD;simp only[e,Xe]
theorem kT(h:At P a w)(t:Bs)(hn:yG w=4->w≠t):zD P t (a,false)=(false,(a,false)):=by
 have e:tN P t a false=false:=by
  unfold tN;rw[h.1,h.2.1];by_cases hk:yG w=4
  ·simp[hn hk]
  ·simp[hk]
 unfold zD;simp only[e,Xe]
theorem gP{t:Bs}(h:At P a t)(hk:yG t=4):zR P t (a,false)=(a+1,false):=by
 have e:tN P t a false=true:=by unfold tN;rw[h.1,h.2.1,hk];simp
 unfold zR;simp only[e,Xe,Bool.not_true]
theorem bL(h:At P a w)(hk:yG w=2):zI P (a,false)=(w,(a+1,false)):=by
 have e:qH P 2 a false=true:=by unfold qH;rw[h.1,hk];simp
 unfold zI;simp only[e,Xe,tk,Bool.not_true,h.2.1]
theorem sB(h:At P a w)(hk:yG w=3):yI P (a,false)=(kM w,(a+1,false)):=by
 have e:qH P 3 a false=true:=by unfold qH;rw[h.1,hk];simp
 unfold yI;simp only[e,Xe,tk,Bool.not_true,h.2.2]
theorem Vo(h:At P a w)(hk:yG w=3):jM P (a,false)=true:=by
 unfold jM;rw[h.1,hk];rfl
theorem Gl(h:At P a w)(hk:yG w≠3):jM P (a,false)=false:=by
 unfold jM;rw[h.1];simpa using hk
theorem JS(h:At P a w)(hk:yG w=2):vV P m (a,false)=(⟨m,false,0,w⟩,(a+1,false)):=by
 unfold vV;rw[Gl h (by rw[hk];decide),bL h hk]
theorem Sa(h:At P a w)(hk:yG w=3)(h2:At P (a+1) v)(hv:yG v=4->v≠[42]):vV P m (a,false)=(⟨m,false,kM w,[]⟩,(a+1,false)):=by
 unfold vV;rw[Vo h hk,sB h hk];simp only[kT h2 [42] hv]
theorem JR(h:At P a w)(hk:yG w=3)(h2:At P (a+1) [42])(h3:At P (a+1+1) v)(hv:yG v=2):vV P m (a,false)=(⟨m,true,kM w,v⟩,(a+1+1+1,false)):=by
 unfold vV;rw[Vo h hk,sB h hk];simp only[cC h2 (by decide),bL h3 hv]
theorem Ow{m:Bool}(h:vV P m s=(x,(b,false)))(h2:At P b v)(hv:yG v=4->v≠[45]/\v≠[43]):tB P (n+1) m s ps=(ps++[x],(b,false)):=by
 rw[tB,h];simp only[kT h2 [45] (λk=>(hv k).1),kT h2 [43] (λk=>(hv k).2)]
theorem zm{m:Bool}(h:vV P m s=(x,(b,false)))(h2:At P b [45]):tB P (n+1) m s ps=tB P n true (b+1,false) (ps++[x]):=by
 rw[tB,h];simp only[cC h2 (by decide)]
theorem Ss{m:Bool}(h:vV P m s=(x,(b,false)))(h2:At P b [43]):tB P (n+1) m s ps=tB P n false (b+1,false) (ps++[x]):=by
 rw[tB,h];simp only[kT h2 [45] (λ_=>by decide),cC h2 (by decide)]
def ZB:Bs:=[97,108,119,97,121,115]
def eU:Bs:=[104,97,115]
theorem Sz(h:At P a ZB):xH P (a,false)=(⟨4,0,0,[],[],[],0⟩,(a+1,false)):=by
 unfold xH;simp only[show ([97,108,119,97,121,115]:Bs)=ZB from rfl,cC h (by decide)]
theorem S1(h:At P a eU)(h2:At P (a+1) w)(hw:yG w=2):xH P (a,false)=(⟨5,0,0,w,[],[],0⟩,(a+1+1,false)):=by
 unfold xH;simp only[show ([104,97,115]:Bs)=eU from rfl,kT h [97,108,119,97,121,115] (λ_=>by decide),cC h (by decide),bL h2 hw]
def dp(a d:Int):Int:=if a<d then d else a
theorem QF{x:zJ}(nd:List zJ)(t p d:Int)(h:At P a w)(h1:yG w=4->w≠xE/\w≠yS)(ht:xH P (a,false)=(x,(b,false))):yQ P (n+1) ⟨(a,false),nd,t,p⟩ d=(((nd.length:Nat):Int),⟨(b,false),nd++[x],t+1,dp p d⟩):=by
 rw[yQ];simp only[kT h xE (λk=>(h1 k).1),kT h yS (λk=>(h1 k).2),ht,GS.tested,GS.to,GS.add,dp]
theorem Ys{q':GS}(nd:List zJ)(t p d:Int)(h:At P a xE)(hf:yQ P n ⟨(a+1,false),nd,t,p⟩ (d+1)=(i,q')):yQ P (n+1) ⟨(a,false),nd,t,p⟩ d=(((q'.nd.length:Nat):Int),q'.add ⟨3,i,0,[],[],[],0⟩):=by
 rw[yQ];simp only[cC h (by decide),GS.to,hf]
theorem nL{item:GS->Int × GS}{tok:Bs}{kind:Int}{k:Nat}{left:Int}(h:At P b v)(hv:yG v=4->v≠tok):jK P item tok kind (k+1) left ⟨(b,false),nd,t,p⟩=(left,⟨(b,false),nd,t,p⟩):=by
 rw[jK];simp only[kT h tok hv,GS.to]
theorem FX{item:GS->Int × GS}{tok:Bs}{kind:Int}{k:Nat}{left:Int}{q':GS}(h:At P b tok)(hk:yG tok=4)(hi:item ⟨(b+1,false),nd,t,p⟩=(i,q')):jK P item tok kind (k+1) left ⟨(b,false),nd,t,p⟩=jK P item tok kind k (q'.nd.length:Nat) (q'.add ⟨kind,left,i,[],[],[],0⟩):=by
 rw[jK];simp only[cC h hk,GS.to,hi]
theorem Ya{fact:GS->Int->Int × GS}{q:GS}{d:Int}(hP:0<P.length)(hf:fact q d=(i,⟨(b,false),nd,t,p⟩))(h:At P b v)(hv:yG v=4->v≠xW):kR P fact q d=(i,⟨(b,false),nd,t,p⟩):=by
 obtain⟨k,hk⟩:∃k,P.length=k+1:=⟨P.length-1,by omega⟩;unfold kR;rw[hf,hk];exact nL h hv
theorem V7{fact:GS->Int->Int × GS}{q:GS}{d:Int}(hP:0<P.length)(hf:kR P fact q d=(i,⟨(b,false),nd,t,p⟩))(h:At P b v)(hv:yG v=4->v≠tC):dC P fact q d=(i,⟨(b,false),nd,t,p⟩):=by
 obtain⟨k,hk⟩:∃k,P.length=k+1:=⟨P.length-1,by omega⟩;unfold dC;rw[hf,hk];exact nL h hv
def Ht(ps:List yT)(S:List Bs):Prop:=∀P a,ZW P a (S++[xF])->a+S.length<P.length->jS P (a,false)=(ps,(a+S.length,false))
def GB(x:zE)(ws:List Bs):Prop:=(∀w r,ws=w::r->yG w≠0)/\0<ws.length/\∀P a,ZW P a ws->a+ws.length<P.length->vP P (a,false)=(x,(a+ws.length,false))
theorem CD{r c:Bs}(hr:yG r=2)(hc:yG c=2):GB ⟨4,r,0,0,[],[],[],0,0,0,c⟩ [Z9,r,c,qM]:=by
 refine⟨λw r h=>by cases h;decide,by simp,λP a h _=>?_⟩;obtain⟨h0,h1,h2,h3,_⟩:=h;unfold vP;simp only[kT h0 [110,117,109] (λ_=>by decide),kT h0 [102,108,97,103] (λ_=>by decide),kT h0 [114,117,108,101] (λ_=>by decide),show ([111,118,101,114]:Bs)=Z9 from rfl,gP h0 (by decide)];unfold kA;simp only[bL h1 hr,bL h2 hc,show ([59]:Bs)=qM from rfl,gP h3 (by decide)];rfl
def xU(f:UInt8)(i:Nat):Bs:=[f,UInt8.ofNat (97+i)]
end Go.Proofs.YtnbpdffdnphbeabGreatDoor
