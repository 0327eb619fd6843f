import Derived.Test.YtnbpdffdnphbeabGreatDoorRgLinks
namespace Go.Proofs.YtnbpdffdnphbeabGreatDoor
variable{w v:Bs}{t p i:Int}{P:List PT}{ps:List xE}{nd:List zT}{b a n:Nat}{s:St}{c:UInt8}{x:xE}(l:Bs)(m:Bool)
def DG:List Bs->Bs
 | []=>[10]
 | w::r=>(if w=[59] then w else 32::w)++DG r
def mP:List Bs->Bs
 | []=>[10]
 | w::r=>w++DG r
def eK(L:List (List Bs)):Bs:=L.flatMap mP
def x5(c:UInt8):Bool:=c==32 || c==59 || c==10
def Wd(w:Bs):Prop:=w≠[]/\so (w.getD 0 0)≠3/\∀c r,x5 c=true->uU (w++c::r)=w.length
theorem Qw(h:x5 c=true):c=32\/c=59\/c=10:=by
 unfold x5 at h;simp only[lq,beq_iff_eq]at h;rcases h with (h|h)|h
 ·exact .inl h
 ·exact .inr (.inl h)
 ·exact .inr (.inr h)
theorem x9(k:Int)(l:Bs)(c:UInt8)(r:Bs)(h:∀x∈l,so x=k)(hc:so c≠k):pS k (l++c::r)=l.length:=by
 induction l with
 | nil=>simp[pS,hc]
 | cons x l ih=>rw[cd,pS,tm (h x (by simp)),ih (fun y hy=>h y (by simp[hy])),pd]
theorem wO(k:Int)(hk:k=1\/k=2)(h0:w≠[])(h:∀x∈w,so x=k):Wd w:=by
 obtain⟨x,l,rfl⟩:∃x l,w=x::l:=by
  cases w with
  | nil=>exact absurd rfl h0
  | cons x l=>exact⟨x,l,rfl⟩
 have hx:so x=k:=h x (by simp);refine⟨h0,?_,fun c r hc=>?_⟩
 ·show so x≠3
  rw[hx];rcases hk with rfl|rfl <;> decide
 ·have hs:so c≠k:=by rcases hk with rfl|rfl <;> rcases Qw hc with rfl|rfl|rfl <;> decide
  show uU (x::(l++c::r))=_;unfold uU;rw[show (x::(l++c::r)).getD 0 0=x from rfl,hx,tb (by rcases hk with rfl|rfl <;> decide)];rw[show (x::(l++c::r)).drop 1=l++c::r from rfl,x9 k l c r (fun y hy=>h y (by simp[hy])) hs,pd,Nat.add_comm]
theorem K2(m c:UInt8)(r:Bs):Uy (m::c::r)=lD kX [m,c]:=by
 unfold Uy;rw[show (m::c::r).take 2=[m,c] from rfl,tu (by simp),mu]
theorem Jp{m:UInt8}(h:so m=0)(h1:lD kX [m,32]=false)(h2:lD kX [m,59]=false)(h3:lD kX [m,10]=false):Wd [m]:=by
 refine⟨by simp,?_,fun c r hc=>?_⟩
 ·show so m≠3
  rw[h];decide
 ·show uU (m::c::r)=1
  unfold uU;rw[show (m::c::r).getD 0 0=m from rfl,tm h,K2];rcases Qw hc with rfl|rfl|rfl
  ·rw[h1];rfl
  ·rw[h2];rfl
  ·rw[h3];rfl
theorem Kz{m n:UInt8}(h:so m=0)(h1:lD kX [m,n]=true):Wd [m,n]:=by
 refine⟨by simp,?_,fun c r _=>?_⟩
 ·show so m≠3
  rw[h];decide
 ·show uU (m::n::c::r)=2
  unfold uU;rw[show (m::n::c::r).getD 0 0=m from rfl,tm h,K2,h1];rfl
def tw(l:Bs):List Bs:=(qY l.length l 0).map Prod.snd
theorem UY(n:Nat):∀(l:Bs) (p q:Nat),(qY n l p).map Prod.snd=(qY n l q).map Prod.snd:=by
 induction n with
 | zero=>intro l p q;rfl
 | succ n ih =>
   intro l p q;simp only[qY];split
   ·rfl
   ·split
    ·exact ih _ _ _
    ·simp only[dq];rw[ih]
theorem Jr{l:Bs}(p:Nat)(h:l.length<=n):(qY n l p).map Prod.snd=tw l:=by
 unfold tw;rw[dL n l.length l p h (j1 _)];exact UY _ _ _ _
theorem Yy(r:Bs)(h:so c=3):tw (c::r)=tw r:=by
 unfold tw;rw[show (c::r).length=r.length+1 from rfl,qY,tb (by simp),tm (show so ((c::r).getD 0 0)=3 from h)];exact Jr _ (j1 _)
theorem C8(hw:Wd w)(r:Bs)(hc:x5 c=true):tw (w++c::r)=w::tw (c::r):=by
 obtain⟨h0,h3,hl⟩:=hw;have hl:=hl c r hc
 have hg:(w++c::r).getD 0 0=w.getD 0 0:=by
  cases w with
  | nil=>exact absurd rfl h0
  | cons x l=>rfl
 rw[show tw (w++c::r)=(qY (w++c::r).length (w++c::r) 0).map Prod.snd from rfl];rw[dL _ ((w++c::r).length+1) _ _ (j1 _) (by omega),qY,tb (by simp),tb (by rw[hg];exact h3),hl];rw[dq,List.take_left' rfl,List.drop_left' rfl,Jr _ (by simp)]
theorem Kx(ws:List Bs)(rest:Bs):∃c r,DG ws++rest=c::r/\x5 c=true:=by
 cases ws with
 | nil=>exact⟨10,rest,rfl,rfl⟩
 | cons w r =>
   rw[DG];by_cases h:w=[59]
   ·rw[tm h,h];exact⟨59,_,rfl,rfl⟩
   ·rw[tb h];exact⟨32,_,rfl,rfl⟩
theorem zGC(ws:List Bs):(∀w∈ws,Wd w)->∀rest,tw (DG ws++rest)=ws++tw rest:=by
 induction ws with
 | nil=>intro _ rest;exact Yy (c:=10) rest (by decide)
 | cons w r ih =>
   intro h rest;obtain⟨c,r',e,hc⟩:=Kx r rest;have hw:=h w (by simp);have hr:=ih (fun x hx=>h x (by simp[hx])) rest;have h1:tw (w++(DG r++rest))=w::(r++tw rest):=by rw[e,C8 hw r' hc,<-e,hr]
   rw[DG];by_cases h0:w=[59]
   ·rw[tm h0,pr];exact h1
   ·rw[tb h0,cd,cd,Yy _ (by decide),pr];exact h1
theorem zBP{ws:List Bs}(h:∀w∈ws,Wd w)(rest:Bs):tw (mP ws++rest)=ws++tw rest:=by
 cases ws with
 | nil=>exact Yy (c:=10) rest (by decide)
 | cons w r =>
   obtain⟨c,r',e,hc⟩:=Kx r rest;rw[mP,pr,e,C8 (h w (by simp)) r' hc,<-e,zGC r (fun x hx=>h x (by simp[hx]))];rfl
theorem zm(L:List (List Bs)):(∀ws∈L,∀w∈ws,Wd w)->tw (eK L)=L.flatten:=by
 induction L with
 | nil=>intro _;rfl
 | cons ws r ih =>
   intro h;rw[eK,bf,zBP (h ws (by simp)),List.flatten_cons];rw[show tw (List.flatMap mP r)=r.flatten from ih (fun x hx=>h x (by simp[hx]))]
def At(P:List PT)(a:Nat)(w:Bs):Prop:=(yM P a).k=yJ w/\(yM P a).s=w/\(yM P a).v=kK w
def wH(P:List PT):Nat->List Bs->Prop
 | _,[]=>True
 | a,w::r=>At P a w/\wH P (a+1) r
theorem wH.app{us:List Bs}:∀ {a:Nat} {ws:List Bs},wH P a (ws++us)->wH P a ws/\wH P (a+ws.length) us:=by
 intro a ws
 induction ws generalizing a with
 | nil=>intro h;exact⟨trivial,h⟩
 | cons w r ih =>
   intro h;obtain⟨h1,h2⟩:=ih h.2;exact⟨⟨h.1,h1⟩,by rw[pd,show a+(r.length+1)=a+1+r.length by omega];exact h2⟩
theorem Y1:(vK l 0).map Prod.snd=tw l:=by
 unfold vK;rw[List.drop_zero];exact Jr 0 (j1 _)
theorem Dv(A B:List PT)(i:Nat):yM (A++B) (A.length+i)=yM B i:=by
 unfold yM;simp only[List.getD,List.getElem?_append];rw[tb (by omega),Nat.add_sub_cancel_left]
theorem zEO(f:Nat × Bs->PT)(hf:∀t,(f t).k=yJ t.2/\(f t).s=t.2/\(f t).v=kK t.2)(E:List PT)(ts:List (Nat × Bs)):∀A:List PT,wH (A++(ts.map f++E)) A.length (ts.map Prod.snd):=by
 induction ts with
 | nil=>intro A;trivial
 | cons t r ih =>
   intro A;refine⟨?_,?_⟩
   ·have e:yM (A++(List.map f (t::r)++E)) A.length=f t:=Dv A _ 0
    unfold At;rw[e];exact hf t
   ·have:=ih (A++[f t])
    simpa using this
theorem CA:wH (lY l) 0 (tw l):=by
 rw[<-Y1];exact zEO _ (fun t=>⟨rfl,rfl,rfl⟩) _ (vK l 0) []
theorem zp:(yM (lY l) (tw l).length).k=0:=by
 have e:(tw l).length=((vK l 0).map (fun t=>(⟨yJ t.2,t.2,kK t.2,t.1⟩:PT))).length:=by rw[<-Y1,pi,pi]
 unfold lY;rw[e];exact congrArg PT.k (Dv _ _ 0)
theorem zF8:(lY l).length=(tw l).length+1:=by
 unfold lY;rw[tl,pi,<-Y1,pi];rfl
theorem bA{t:Bs}(h:At P a t)(hk:yJ t=4):zD P t (a,false)=(true,(a+1,false)):=by
 have e:tG P t a false=true:=by unfold tG;rw[h.1,h.2.1,hk];simp
 unfold zD;simp only[e,Uh]
theorem qX(h:At P a w)(t:Bs)(hn:yJ w=4->w≠t):zD P t (a,false)=(false,(a,false)):=by
 have e:tG P t a false=false:=by
  unfold tG;rw[h.1,h.2.1];by_cases hk:yJ w=4
  ·simp[hn hk]
  ·simp[hk]
 unfold zD;simp only[e,Uh]
theorem dP{t:Bs}(h:At P a t)(hk:yJ t=4):zW P t (a,false)=(a+1,false):=by
 have e:tG P t a false=true:=by unfold tG;rw[h.1,h.2.1,hk];simp
 unfold zW;simp only[e,Uh,Bool.not_true]
theorem mU(h:At P a w)(hk:yJ w=2):zH P (a,false)=(w,(a+1,false)):=by
 have e:qO P 2 a false=true:=by unfold qO;rw[h.1,hk];simp
 unfold zH;simp only[e,Uh,tk,Bool.not_true,h.2.1]
theorem oK(h:At P a w)(hk:yJ w=3):yI P (a,false)=(kK w,(a+1,false)):=by
 have e:qO P 3 a false=true:=by unfold qO;rw[h.1,hk];simp
 unfold yI;simp only[e,Uh,tk,Bool.not_true,h.2.2]
theorem JG(h:At P a w)(hk:yJ w=3):isNum P (a,false)=true:=by
 unfold isNum;rw[h.1,hk];rfl
theorem Di(h:At P a w)(hk:yJ w≠3):isNum P (a,false)=false:=by
 unfold isNum;rw[h.1];simpa using hk
theorem Q6(h:At P a w)(hk:yJ w=2):qB P m (a,false)=(⟨m,false,0,w⟩,(a+1,false)):=by
 unfold qB;rw[Di h (by rw[hk];decide),mU h hk]
theorem vj(h:At P a w)(hk:yJ w=3)(h2:At P (a+1) v)(hv:yJ v=4->v≠[42]):qB P m (a,false)=(⟨m,false,kK w,[]⟩,(a+1,false)):=by
 unfold qB;rw[JG h hk,oK h hk];simp only[qX h2 [42] hv]
theorem Q5(h:At P a w)(hk:yJ w=3)(h2:At P (a+1) [42])(h3:At P (a+1+1) v)(hv:yJ v=2):qB P m (a,false)=(⟨m,true,kK w,v⟩,(a+1+1+1,false)):=by
 unfold qB;rw[JG h hk,oK h hk];simp only[bA h2 (by decide),mU h3 hv]
theorem zC2{m:Bool}(h:qB P m s=(x,(b,false)))(h2:At P b v)(hv:yJ v=4->v≠[45]/\v≠[43]):lQ P (n+1) m s ps=(ps++[x],(b,false)):=by
 rw[lQ,h];simp only[qX h2 [45] (fun k=>(hv k).1),qX h2 [43] (fun k=>(hv k).2)]
theorem DT{m:Bool}(h:qB P m s=(x,(b,false)))(h2:At P b [45]):lQ P (n+1) m s ps=lQ P n true (b+1,false) (ps++[x]):=by
 rw[lQ,h];simp only[bA h2 (by decide)]
theorem yi{m:Bool}(h:qB P m s=(x,(b,false)))(h2:At P b [43]):lQ P (n+1) m s ps=lQ P n false (b+1,false) (ps++[x]):=by
 rw[lQ,h];simp only[qX h2 [45] (fun _=>by decide),bA h2 (by decide)]
def iG:Bs:=[97,108,119,97,121,115]
def sT:Bs:=[104,97,115]
theorem yb(h:At P a iG):vR P (a,false)=(⟨4,0,0,[],[],[],0⟩,(a+1,false)):=by
 unfold vR;simp only[show ([97,108,119,97,121,115]:Bs)=iG from rfl,bA h (by decide)]
theorem ya(h:At P a sT)(h2:At P (a+1) w)(hw:yJ w=2):vR P (a,false)=(⟨5,0,0,w,[],[],0⟩,(a+1+1,false)):=by
 unfold vR;simp only[show ([104,97,115]:Bs)=sT from rfl,qX h [97,108,119,97,121,115] (fun _=>by decide),bA h (by decide),mU h2 hw]
def dp(a d:Int):Int:=if a<d then d else a
theorem X2{x:zT}(nd:List zT)(t p d:Int)(h:At P a w)(h1:yJ w=4->w≠vG/\w≠vI)(ht:vR P (a,false)=(x,(b,false))):xB P (n+1) ⟨(a,false),nd,t,p⟩ d=(((nd.length:Nat):Int),⟨(b,false),nd++[x],t+1,dp p d⟩):=by
 rw[xB];simp only[qX h vG (fun k=>(h1 k).1),qX h vI (fun k=>(h1 k).2),ht,GS.tested,GS.to,GS.add,dp]
theorem Zk{q':GS}(nd:List zT)(t p d:Int)(h:At P a vG)(hf:xB P n ⟨(a+1,false),nd,t,p⟩ (d+1)=(i,q')):xB P (n+1) ⟨(a,false),nd,t,p⟩ d=(((q'.nd.length:Nat):Int),q'.add ⟨3,i,0,[],[],[],0⟩):=by
 rw[xB];simp only[bA h (by decide),GS.to,hf]
theorem fN{item:GS->Int × GS}{tok:Bs}{kind:Int}{k:Nat}{left:Int}(h:At P b v)(hv:yJ v=4->v≠tok):mO P item tok kind (k+1) left ⟨(b,false),nd,t,p⟩=(left,⟨(b,false),nd,t,p⟩):=by
 rw[mO];simp only[qX h tok hv,GS.to]
theorem Db{item:GS->Int × GS}{tok:Bs}{kind:Int}{k:Nat}{left:Int}{q':GS}(h:At P b tok)(hk:yJ tok=4)(hi:item ⟨(b+1,false),nd,t,p⟩=(i,q')):mO P item tok kind (k+1) left ⟨(b,false),nd,t,p⟩=mO P item tok kind k (q'.nd.length:Nat) (q'.add ⟨kind,left,i,[],[],[],0⟩):=by
 rw[mO];simp only[bA h hk,GS.to,hi]
theorem wP{fact:GS->Int->Int × GS}{q:GS}{d:Int}(hP:0<P.length)(hf:fact q d=(i,⟨(b,false),nd,t,p⟩))(h:At P b v)(hv:yJ v=4->v≠dE):cC P fact q d=(i,⟨(b,false),nd,t,p⟩):=by
 obtain⟨k,hk⟩:∃k,P.length=k+1:=⟨P.length-1,by omega⟩;unfold cC;rw[hf,hk];exact fN h hv
theorem Ka{fact:GS->Int->Int × GS}{q:GS}{d:Int}(hP:0<P.length)(hf:cC P fact q d=(i,⟨(b,false),nd,t,p⟩))(h:At P b v)(hv:yJ v=4->v≠XY):Zs P fact q d=(i,⟨(b,false),nd,t,p⟩):=by
 obtain⟨k,hk⟩:∃k,P.length=k+1:=⟨P.length-1,by omega⟩;unfold Zs;rw[hf,hk];exact fN h hv
def SumR(ps:List xE)(S:List Bs):Prop:=∀P a,wH P a (S++[qR])->a+S.length<P.length->jZ P (a,false)=(ps,(a+S.length,false))
def D6(x:zE)(ws:List Bs):Prop:=(∀w r,ws=w::r->yJ w≠0)/\0<ws.length/\∀P a,wH P a ws->a+ws.length<P.length->vZ P (a,false)=(x,(a+ws.length,false))
theorem UP{r c:Bs}(hr:yJ r=2)(hc:yJ c=2):D6 ⟨4,r,0,0,[],[],[],0,0,0,c⟩ [zFM,r,c,cP]:=by
 refine⟨fun w r h=>by cases h;decide,by simp,fun P a h _=>?_⟩;obtain⟨h0,h1,h2,h3,_⟩:=h;unfold vZ;simp only[qX h0 [110,117,109] (fun _=>by decide),qX h0 [102,108,97,103] (fun _=>by decide),qX h0 [114,117,108,101] (fun _=>by decide),show ([111,118,101,114]:Bs)=zFM from rfl,dP h0 (by decide)];unfold mQ;simp only[mU h1 hr,mU h2 hc,show ([59]:Bs)=cP from rfl,dP h3 (by decide)];rfl
def yZ(f:UInt8)(i:Nat):Bs:=[f,UInt8.ofNat (97+i)]
end Go.Proofs.YtnbpdffdnphbeabGreatDoor
