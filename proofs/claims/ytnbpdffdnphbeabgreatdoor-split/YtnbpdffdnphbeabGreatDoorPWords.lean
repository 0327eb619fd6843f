import Derived.Test.YtnbpdffdnphbeabGreatDoorRgLinks
namespace Go.Proofs.YtnbpdffdnphbeabGreatDoor
variable{w v:Bs}{i t p:Int}{P:List PT}{ps:List xE}{nd:List zT}{b n a:Nat}{s:St}{c:UInt8}{x:xE}(l:Bs)(m:Bool)
def DZ:List Bs->Bs
 | []=>[10]
 | w::r=>(if w=[59] then w else 32::w)++DZ r
def mU:List Bs->Bs
 | []=>[10]
 | w::r=>w++DZ r
def wU(L:List (List Bs)):Bs:=L.flatMap mU
def vz(c:UInt8):Bool:=c==32 || c==59 || c==10
def Wd(w:Bs):Prop:=w≠[]/\so (w.getD 0 0)≠3/\∀c r,vz c=true->uT (w++c::r)=w.length
theorem QA(h:vz c=true):c=32\/c=59\/c=10:=by
 unfold vz at h;simp only[ba,beq_iff_eq]at h;rcases h with (h|h)|h
 ·exact .inl h
 ·exact .inr (.inl h)
 ·exact .inr (.inr h)
theorem uc(k:Int)(l:Bs)(c:UInt8)(r:Bs)(h:∀x∈l,so x=k)(hc:so c≠k):pS k (l++c::r)=l.length:=by
 induction l with
 | nil=>simp[pS,hc]
 | cons x l ih=>rw[cf,pS,tl (h x (by simp)),ih (fun y hy=>h y (by simp[hy])),pf]
theorem wX(k:Int)(hk:k=1\/k=2)(h0:w≠[])(h:∀x∈w,so x=k):Wd w:=by
 obtain⟨x,l,rfl⟩:∃x l,w=x::l:=by
  cases w with
  | nil=>exact absurd rfl h0
  | cons x l=>exact⟨x,l,rfl⟩
 have hx:so x=k:=h x (by simp);refine⟨h0,?_,fun c r hc=>?_⟩
 ·show so x≠3
  rw[hx];rcases hk with rfl|rfl <;> decide
 ·have hs:so c≠k:=by rcases hk with rfl|rfl <;> rcases QA hc with rfl|rfl|rfl <;> decide
  show uT (x::(l++c::r))=_;unfold uT;rw[show (x::(l++c::r)).getD 0 0=x from rfl,hx,tb (by rcases hk with rfl|rfl <;> decide)];rw[show (x::(l++c::r)).drop 1=l++c::r from rfl,uc k l c r (fun y hy=>h y (by simp[hy])) hs,pf,Nat.add_comm]
theorem K9(m c:UInt8)(r:Bs):UE (m::c::r)=lG kW [m,c]:=by
 unfold UE;rw[show (m::c::r).take 2=[m,c] from rfl,tu (by simp),mz]
theorem Jx{m:UInt8}(h:so m=0)(h1:lG kW [m,32]=false)(h2:lG kW [m,59]=false)(h3:lG kW [m,10]=false):Wd [m]:=by
 refine⟨by simp,?_,fun c r hc=>?_⟩
 ·show so m≠3
  rw[h];decide
 ·show uT (m::c::r)=1
  unfold uT;rw[show (m::c::r).getD 0 0=m from rfl,tl h,K9];rcases QA hc with rfl|rfl|rfl
  ·rw[h1];rfl
  ·rw[h2];rfl
  ·rw[h3];rfl
theorem K6{m n:UInt8}(h:so m=0)(h1:lG kW [m,n]=true):Wd [m,n]:=by
 refine⟨by simp,?_,fun c r _=>?_⟩
 ·show so m≠3
  rw[h];decide
 ·show uT (m::n::c::r)=2
  unfold uT;rw[show (m::n::c::r).getD 0 0=m from rfl,tl h,K9,h1];rfl
def tw(l:Bs):List Bs:=(kE l.length l 0).map Prod.snd
theorem Bq(n:Nat):∀(l:Bs) (p q:Nat),(kE n l p).map Prod.snd=(kE n l q).map Prod.snd:=by
 induction n with
 | zero=>intro l p q;rfl
 | succ n ih =>
   intro l p q;simp only[kE];split
   ·rfl
   ·split
    ·exact ih _ _ _
    ·simp only[da];rw[ih]
theorem Jz{l:Bs}(p:Nat)(h:l.length<=n):(kE n l p).map Prod.snd=tw l:=by
 unfold tw;rw[dW n l.length l p h (j1 _)];exact Bq _ _ _ _
theorem Y7(r:Bs)(h:so c=3):tw (c::r)=tw r:=by
 unfold tw;rw[show (c::r).length=r.length+1 from rfl,kE,tb (by simp),tl (show so ((c::r).getD 0 0)=3 from h)];exact Jz _ (j1 _)
theorem CL(hw:Wd w)(r:Bs)(hc:vz c=true):tw (w++c::r)=w::tw (c::r):=by
 obtain⟨h0,h3,hl⟩:=hw;have hl:=hl c r hc
 have hg:(w++c::r).getD 0 0=w.getD 0 0:=by
  cases w with
  | nil=>exact absurd rfl h0
  | cons x l=>rfl
 rw[show tw (w++c::r)=(kE (w++c::r).length (w++c::r) 0).map Prod.snd from rfl];rw[dW _ ((w++c::r).length+1) _ _ (j1 _) (by omega),kE,tb (by simp),tb (by rw[hg];exact h3),hl];rw[da,List.take_left' rfl,List.drop_left' rfl,Jz _ (by simp)]
theorem K4(ws:List Bs)(rest:Bs):∃c r,DZ ws++rest=c::r/\vz c=true:=by
 cases ws with
 | nil=>exact⟨10,rest,rfl,rfl⟩
 | cons w r =>
   rw[DZ];by_cases h:w=[59]
   ·rw[tl h,h];exact⟨59,_,rfl,rfl⟩
   ·rw[tb h];exact⟨32,_,rfl,rfl⟩
theorem zH7(ws:List Bs):(∀w∈ws,Wd w)->∀rest,tw (DZ ws++rest)=ws++tw rest:=by
 induction ws with
 | nil=>intro _ rest;exact Y7 (c:=10) rest (by decide)
 | cons w r ih =>
   intro h rest;obtain⟨c,r',e,hc⟩:=K4 r rest;have hw:=h w (by simp);have hr:=ih (fun x hx=>h x (by simp[hx])) rest;have h1:tw (w++(DZ r++rest))=w::(r++tw rest):=by rw[e,CL hw r' hc,<-e,hr]
   rw[DZ];by_cases h0:w=[59]
   ·rw[tl h0,pt];exact h1
   ·rw[tb h0,cf,cf,Y7 _ (by decide),pt];exact h1
theorem zCK{ws:List Bs}(h:∀w∈ws,Wd w)(rest:Bs):tw (mU ws++rest)=ws++tw rest:=by
 cases ws with
 | nil=>exact Y7 (c:=10) rest (by decide)
 | cons w r =>
   obtain⟨c,r',e,hc⟩:=K4 r rest;rw[mU,pt,e,CL (h w (by simp)) r' hc,<-e,zH7 r (fun x hx=>h x (by simp[hx]))];rfl
theorem yw(L:List (List Bs)):(∀ws∈L,∀w∈ws,Wd w)->tw (wU L)=L.flatten:=by
 induction L with
 | nil=>intro _;rfl
 | cons ws r ih =>
   intro h;rw[wU,bh,zCK (h ws (by simp)),List.flatten_cons];rw[show tw (List.flatMap mU r)=r.flatten from ih (fun x hx=>h x (by simp[hx]))]
def At(P:List PT)(a:Nat)(w:Bs):Prop:=(yK P a).k=yJ w/\(yK P a).s=w/\(yK P a).v=kL w
def wT(P:List PT):Nat->List Bs->Prop
 | _,[]=>True
 | a,w::r=>At P a w/\wT P (a+1) r
theorem wT.app{us:List Bs}:∀ {a:Nat} {ws:List Bs},wT P a (ws++us)->wT P a ws/\wT P (a+ws.length) us:=by
 intro a ws
 induction ws generalizing a with
 | nil=>intro h;exact⟨trivial,h⟩
 | cons w r ih =>
   intro h;obtain⟨h1,h2⟩:=ih h.2;exact⟨⟨h.1,h1⟩,by rw[pf,show a+(r.length+1)=a+1+r.length by omega];exact h2⟩
theorem YA:(vM l 0).map Prod.snd=tw l:=by
 unfold vM;rw[List.drop_zero];exact Jz 0 (j1 _)
theorem DF(A B:List PT)(i:Nat):yK (A++B) (A.length+i)=yK B i:=by
 unfold yK;simp only[List.getD,List.getElem?_append];rw[tb (by omega),Nat.add_sub_cancel_left]
theorem zFK(f:Nat × Bs->PT)(hf:∀t,(f t).k=yJ t.2/\(f t).s=t.2/\(f t).v=kL t.2)(E:List PT)(ts:List (Nat × Bs)):∀A:List PT,wT (A++(ts.map f++E)) A.length (ts.map Prod.snd):=by
 induction ts with
 | nil=>intro A;trivial
 | cons t r ih =>
   intro A;refine⟨?_,?_⟩
   ·have e:yK (A++(List.map f (t::r)++E)) A.length=f t:=DF A _ 0
    unfold At;rw[e];exact hf t
   ·have:=ih (A++[f t])
    simpa using this
theorem CO:wT (bB l) 0 (tw l):=by
 rw[<-YA];exact zFK _ (fun t=>⟨rfl,rfl,rfl⟩) _ (vM l 0) []
theorem yz:(yK (bB l) (tw l).length).k=0:=by
 have e:(tw l).length=((vM l 0).map (fun t=>(⟨yJ t.2,t.2,kL t.2,t.1⟩:PT))).length:=by rw[<-YA,pi,pi]
 unfold bB;rw[e];exact congrArg PT.k (DF _ _ 0)
theorem zG3:(bB l).length=(tw l).length+1:=by
 unfold bB;rw[tm,pi,<-YA,pi];rfl
theorem bC{t:Bs}(h:At P a t)(hk:yJ t=4):zD P t (a,false)=(true,(a+1,false)):=by
 have e:tF P t a false=true:=by unfold tF;rw[h.1,h.2.1,hk];simp
 unfold zD;simp only[e,Us]
theorem kB(h:At P a w)(t:Bs)(hn:yJ w=4->w≠t):zD P t (a,false)=(false,(a,false)):=by
 have e:tF P t a false=false:=by
  unfold tF;rw[h.1,h.2.1];by_cases hk:yJ w=4
  ·simp[hn hk]
  ·simp[hk]
 unfold zD;simp only[e,Us]
theorem fD{t:Bs}(h:At P a t)(hk:yJ t=4):zW P t (a,false)=(a+1,false):=by
 have e:tF P t a false=true:=by unfold tF;rw[h.1,h.2.1,hk];simp
 unfold zW;simp only[e,Us,Bool.not_true]
theorem mY(h:At P a w)(hk:yJ w=2):zI P (a,false)=(w,(a+1,false)):=by
 have e:qR P 2 a false=true:=by unfold qR;rw[h.1,hk];simp
 unfold zI;simp only[e,Us,tk,Bool.not_true,h.2.1]
theorem oM(h:At P a w)(hk:yJ w=3):yG P (a,false)=(kL w,(a+1,false)):=by
 have e:qR P 3 a false=true:=by unfold qR;rw[h.1,hk];simp
 unfold yG;simp only[e,Us,tk,Bool.not_true,h.2.2]
theorem JM(h:At P a w)(hk:yJ w=3):isNum P (a,false)=true:=by
 unfold isNum;rw[h.1,hk];rfl
theorem D0(h:At P a w)(hk:yJ w≠3):isNum P (a,false)=false:=by
 unfold isNum;rw[h.1];simpa using hk
theorem QF(h:At P a w)(hk:yJ w=2):qC P m (a,false)=(⟨m,false,0,w⟩,(a+1,false)):=by
 unfold qC;rw[D0 h (by rw[hk];decide),mY h hk]
theorem uu(h:At P a w)(hk:yJ w=3)(h2:At P (a+1) v)(hv:yJ v=4->v≠[42]):qC P m (a,false)=(⟨m,false,kL w,[]⟩,(a+1,false)):=by
 unfold qC;rw[JM h hk,oM h hk];simp only[kB h2 [42] hv]
theorem QE(h:At P a w)(hk:yJ w=3)(h2:At P (a+1) [42])(h3:At P (a+1+1) v)(hv:yJ v=2):qC P m (a,false)=(⟨m,true,kL w,v⟩,(a+1+1+1,false)):=by
 unfold qC;rw[JM h hk,oM h hk];simp only[bC h2 (by decide),mY h3 hv]
theorem zCX{m:Bool}(h:qC P m s=(x,(b,false)))(h2:At P b v)(hv:yJ v=4->v≠[45]/\v≠[43]):lS P (n+1) m s ps=(ps++[x],(b,false)):=by
 rw[lS,h];simp only[kB h2 [45] (fun k=>(hv k).1),kB h2 [43] (fun k=>(hv k).2)]
theorem Fp{m:Bool}(h:qC P m s=(x,(b,false)))(h2:At P b [45]):lS P (n+1) m s ps=lS P n true (b+1,false) (ps++[x]):=by
 rw[lS,h];simp only[bC h2 (by decide)]
theorem vf{m:Bool}(h:qC P m s=(x,(b,false)))(h2:At P b [43]):lS P (n+1) m s ps=lS P n false (b+1,false) (ps++[x]):=by
 rw[lS,h];simp only[kB h2 [45] (fun _=>by decide),bC h2 (by decide)]
def iS:Bs:=[97,108,119,97,121,115]
def aB:Bs:=[104,97,115]
theorem xt(h:At P a iS):vU P (a,false)=(⟨4,0,0,[],[],[],0⟩,(a+1,false)):=by
 unfold vU;simp only[show ([97,108,119,97,121,115]:Bs)=iS from rfl,bC h (by decide)]
theorem xq(h:At P a aB)(h2:At P (a+1) w)(hw:yJ w=2):vU P (a,false)=(⟨5,0,0,w,[],[],0⟩,(a+1+1,false)):=by
 unfold vU;simp only[show ([104,97,115]:Bs)=aB from rfl,kB h [97,108,119,97,121,115] (fun _=>by decide),bC h (by decide),mY h2 hw]
def dp(a d:Int):Int:=if a<d then d else a
theorem XC{x:zT}(nd:List zT)(t p d:Int)(h:At P a w)(h1:yJ w=4->w≠vG/\w≠vK)(ht:vU P (a,false)=(x,(b,false))):xA P (n+1) ⟨(a,false),nd,t,p⟩ d=(((nd.length:Nat):Int),⟨(b,false),nd++[x],t+1,dp p d⟩):=by
 rw[xA];simp only[kB h vG (fun k=>(h1 k).1),kB h vK (fun k=>(h1 k).2),ht,GS.tested,GS.to,GS.add,dp]
theorem Zu{q':GS}(nd:List zT)(t p d:Int)(h:At P a vG)(hf:xA P n ⟨(a+1,false),nd,t,p⟩ (d+1)=(i,q')):xA P (n+1) ⟨(a,false),nd,t,p⟩ d=(((q'.nd.length:Nat):Int),q'.add ⟨3,i,0,[],[],[],0⟩):=by
 rw[xA];simp only[bC h (by decide),GS.to,hf]
theorem fV{item:GS->Int × GS}{tok:Bs}{kind:Int}{k:Nat}{left:Int}(h:At P b v)(hv:yJ v=4->v≠tok):mS P item tok kind (k+1) left ⟨(b,false),nd,t,p⟩=(left,⟨(b,false),nd,t,p⟩):=by
 rw[mS];simp only[kB h tok hv,GS.to]
theorem Dt{item:GS->Int × GS}{tok:Bs}{kind:Int}{k:Nat}{left:Int}{q':GS}(h:At P b tok)(hk:yJ tok=4)(hi:item ⟨(b+1,false),nd,t,p⟩=(i,q')):mS P item tok kind (k+1) left ⟨(b,false),nd,t,p⟩=mS P item tok kind k (q'.nd.length:Nat) (q'.add ⟨kind,left,i,[],[],[],0⟩):=by
 rw[mS];simp only[bC h hk,GS.to,hi]
theorem wZ{fact:GS->Int->Int × GS}{q:GS}{d:Int}(hP:0<P.length)(hf:fact q d=(i,⟨(b,false),nd,t,p⟩))(h:At P b v)(hv:yJ v=4->v≠dR):cJ P fact q d=(i,⟨(b,false),nd,t,p⟩):=by
 obtain⟨k,hk⟩:∃k,P.length=k+1:=⟨P.length-1,by omega⟩;unfold cJ;rw[hf,hk];exact fV h hv
theorem Kg{fact:GS->Int->Int × GS}{q:GS}{d:Int}(hP:0<P.length)(hf:cJ P fact q d=(i,⟨(b,false),nd,t,p⟩))(h:At P b v)(hv:yJ v=4->v≠Qi):Z8 P fact q d=(i,⟨(b,false),nd,t,p⟩):=by
 obtain⟨k,hk⟩:∃k,P.length=k+1:=⟨P.length-1,by omega⟩;unfold Z8;rw[hf,hk];exact fV h hv
def SumR(ps:List xE)(S:List Bs):Prop:=∀P a,wT P a (S++[qU])->a+S.length<P.length->jY P (a,false)=(ps,(a+S.length,false))
def DP(x:zE)(ws:List Bs):Prop:=(∀w r,ws=w::r->yJ w≠0)/\0<ws.length/\∀P a,wT P a ws->a+ws.length<P.length->uA P (a,false)=(x,(a+ws.length,false))
theorem Bh{r c:Bs}(hr:yJ r=2)(hc:yJ c=2):DP ⟨4,r,0,0,[],[],[],0,0,0,c⟩ [zGG,r,c,cW]:=by
 refine⟨fun w r h=>by cases h;decide,by simp,fun P a h _=>?_⟩;obtain⟨h0,h1,h2,h3,_⟩:=h;unfold uA;simp only[kB h0 [110,117,109] (fun _=>by decide),kB h0 [102,108,97,103] (fun _=>by decide),kB h0 [114,117,108,101] (fun _=>by decide),show ([111,118,101,114]:Bs)=zGG from rfl,fD h0 (by decide)];unfold mV;simp only[mY h1 hr,mY h2 hc,show ([59]:Bs)=cW from rfl,fD h3 (by decide)];rfl
def xG(f:UInt8)(i:Nat):Bs:=[f,UInt8.ofNat (97+i)]
end Go.Proofs.YtnbpdffdnphbeabGreatDoor
