import Derived.Test.YtnbpdffdnphbeabGreatDoorRgLinks
namespace Go.Proofs.YtnbpdffdnphbeabGreatDoor
variable{v w:Bs}{p i t:Int}{P:List PT}{ps:List xI}{nd:List zR}{a k b:Nat}{s:St}{c:UInt8}{x:xI}(l:Bs)(m:Bool)
def F7:List Bs->Bs
 | []=>[10]
 | w::r=>(if w=[59] then w else 32::w)++F7 r
def mV:List Bs->Bs
 | []=>[10]
 | w::r=>w++F7 r
def gY(L:List (List Bs)):Bs:=L.flatMap mV
def qu(c:UInt8):Bool:=c==32 || c==59 || c==10
def Wd(w:Bs):Prop:=w≠[]/\so (w.getD 0 0)≠3/\∀c r,qu c=true->uV (w++c::r)=w.length
theorem QY(h:qu c=true):c=32\/c=59\/c=10:=by
 unfold qu at h;simp only[bg,beq_iff_eq]at h;rcases h with (h|h)|h
 ·exact .inl h
 ·exact .inr (.inl h)
 ·exact .inr (.inr h)
theorem qx(k:Int)(l:Bs)(c:UInt8)(r:Bs)(h:∀x∈l,so x=k)(hc:so c≠k):pV k (l++c::r)=l.length:=by
 induction l with
 | nil=>simp[pV,hc]
 | cons x l ih=>rw[cd,pV,tl (h x (by simp)),ih (fun y hy=>h y (by simp[hy])),p9]
theorem Zv(k:Int)(hk:k=1\/k=2)(h0:w≠[])(h:∀x∈w,so x=k):Wd w:=by
 obtain⟨x,l,rfl⟩:∃x l,w=x::l:=by
  cases w with
  | nil=>exact absurd rfl h0
  | cons x l=>exact⟨x,l,rfl⟩
 have hx:so x=k:=h x (by simp);refine⟨h0,?_,fun c r hc=>?_⟩
 ·show so x≠3
  rw[hx];rcases hk with rfl|rfl <;> decide
 ·have hs:so c≠k:=by rcases hk with rfl|rfl <;> rcases QY hc with rfl|rfl|rfl <;> decide
  show uV (x::(l++c::r))=_;unfold uV;rw[show (x::(l++c::r)).getD 0 0=x from rfl,hx,tb (by rcases hk with rfl|rfl <;> decide)];rw[show (x::(l++c::r)).drop 1=l++c::r from rfl,qx k l c r (fun y hy=>h y (by simp[hy])) hs,p9,Nat.add_comm]
theorem KZ(m c:UInt8)(r:Bs):UY (m::c::r)=lJ jA [m,c]:=by
 unfold UY;rw[show (m::c::r).take 2=[m,c] from rfl,tr (by simp),my]
theorem JM{m:UInt8}(h:so m=0)(h1:lJ jA [m,32]=false)(h2:lJ jA [m,59]=false)(h3:lJ jA [m,10]=false):Wd [m]:=by
 refine⟨by simp,?_,fun c r hc=>?_⟩
 ·show so m≠3
  rw[h];decide
 ·show uV (m::c::r)=1
  unfold uV;rw[show (m::c::r).getD 0 0=m from rfl,tl h,KZ];rcases QY hc with rfl|rfl|rfl
  ·rw[h1];rfl
  ·rw[h2];rfl
  ·rw[h3];rfl
theorem KW{m n:UInt8}(h:so m=0)(h1:lJ jA [m,n]=true):Wd [m,n]:=by
 refine⟨by simp,?_,fun c r _=>?_⟩
 ·show so m≠3
  rw[h];decide
 ·show uV (m::n::c::r)=2
  unfold uV;rw[show (m::n::c::r).getD 0 0=m from rfl,tl h,KZ,h1];rfl
def tw(l:Bs):List Bs:=(kI l.length l 0).map Prod.snd
theorem BE(n:Nat):∀(l:Bs) (p q:Nat),(kI n l p).map Prod.snd=(kI n l q).map Prod.snd:=by
 induction n with
 | zero=>intro l p q;rfl
 | succ n ih =>
   intro l p q;simp only[kI];split
   ·rfl
   ·split
    ·exact ih _ _ _
    ·simp only[dc];rw[ih]
theorem JO{n:Nat}{l:Bs}(p:Nat)(h:l.length<=n):(kI n l p).map Prod.snd=tw l:=by
 unfold tw;rw[dW n l.length l p h (j1 _)];exact BE _ _ _ _
theorem YO(r:Bs)(h:so c=3):tw (c::r)=tw r:=by
 unfold tw;rw[show (c::r).length=r.length+1 from rfl,kI,tb (by simp),tl (show so ((c::r).getD 0 0)=3 from h)];exact JO _ (j1 _)
theorem Dk(hw:Wd w)(r:Bs)(hc:qu c=true):tw (w++c::r)=w::tw (c::r):=by
 obtain⟨h0,h3,hl⟩:=hw;have hl:=hl c r hc
 have hg:(w++c::r).getD 0 0=w.getD 0 0:=by
  cases w with
  | nil=>exact absurd rfl h0
  | cons x l=>rfl
 rw[show tw (w++c::r)=(kI (w++c::r).length (w++c::r) 0).map Prod.snd from rfl];rw[dW _ ((w++c::r).length+1) _ _ (j1 _) (by omega),kI,tb (by simp),tb (by rw[hg];exact h3),hl];rw[dc,List.take_left' rfl,List.drop_left' rfl,JO _ (by simp)]
theorem KU(ws:List Bs)(rest:Bs):∃c r,F7 ws++rest=c::r/\qu c=true:=by
 cases ws with
 | nil=>exact⟨10,rest,rfl,rfl⟩
 | cons w r =>
   rw[F7];by_cases h:w=[59]
   ·rw[tl h,h];exact⟨59,_,rfl,rfl⟩
   ·rw[tb h];exact⟨32,_,rfl,rfl⟩
theorem zHX(ws:List Bs):(∀w∈ws,Wd w)->∀rest,tw (F7 ws++rest)=ws++tw rest:=by
 induction ws with
 | nil=>intro _ rest;exact YO (c:=10) rest (by decide)
 | cons w r ih =>
   intro h rest;obtain⟨c,r',e,hc⟩:=KU r rest;have hw:=h w (by simp);have hr:=ih (fun x hx=>h x (by simp[hx])) rest;have h1:tw (w++(F7 r++rest))=w::(r++tw rest):=by rw[e,Dk hw r' hc,<-e,hr]
   rw[F7];by_cases h0:w=[59]
   ·rw[tl h0,pr];exact h1
   ·rw[tb h0,cd,cd,YO _ (by decide),pr];exact h1
theorem zDJ{ws:List Bs}(h:∀w∈ws,Wd w)(rest:Bs):tw (mV ws++rest)=ws++tw rest:=by
 cases ws with
 | nil=>exact YO (c:=10) rest (by decide)
 | cons w r =>
   obtain⟨c,r',e,hc⟩:=KU r rest;rw[mV,pr,e,Dk (h w (by simp)) r' hc,<-e,zHX r (fun x hx=>h x (by simp[hx]))];rfl
theorem ui(L:List (List Bs)):(∀ws∈L,∀w∈ws,Wd w)->tw (gY L)=L.flatten:=by
 induction L with
 | nil=>intro _;rfl
 | cons ws r ih =>
   intro h;rw[gY,bi,zDJ (h ws (by simp)),List.flatten_cons];rw[show tw (List.flatMap mV r)=r.flatten from ih (fun x hx=>h x (by simp[hx]))]
def At(P:List PT)(a:Nat)(w:Bs):Prop:=(yL P a).k=yI w/\(yL P a).s=w/\(yL P a).v=kQ w
def Zu(P:List PT):Nat->List Bs->Prop
 | _,[]=>True
 | a,w::r=>At P a w/\Zu P (a+1) r
theorem Zu.app{us:List Bs}:∀ {a:Nat} {ws:List Bs},Zu P a (ws++us)->Zu P a ws/\Zu P (a+ws.length) us:=by
 intro a ws
 induction ws generalizing a with
 | nil=>intro h;exact⟨trivial,h⟩
 | cons w r ih =>
   intro h;obtain⟨h1,h2⟩:=ih h.2;exact⟨⟨h.1,h1⟩,by rw[p9,show a+(r.length+1)=a+1+r.length by omega];exact h2⟩
theorem YR:(vP l 0).map Prod.snd=tw l:=by
 unfold vP;rw[List.drop_zero];exact JO 0 (j1 _)
theorem Fe(A B:List PT)(i:Nat):yL (A++B) (A.length+i)=yL B i:=by
 unfold yL;simp only[List.getD,List.getElem?_append];rw[tb (by omega),Nat.add_sub_cancel_left]
theorem zG8(f:Nat × Bs->PT)(hf:∀t,(f t).k=yI t.2/\(f t).s=t.2/\(f t).v=kQ t.2)(E:List PT)(ts:List (Nat × Bs)):∀A:List PT,Zu (A++(ts.map f++E)) A.length (ts.map Prod.snd):=by
 induction ts with
 | nil=>intro A;trivial
 | cons t r ih =>
   intro A;refine⟨?_,?_⟩
   ·have e:yL (A++(List.map f (t::r)++E)) A.length=f t:=Fe A _ 0
    unfold At;rw[e];exact hf t
   ·have:=ih (A++[f t])
    simpa using this
theorem Dm:Zu (lY l) 0 (tw l):=by
 rw[<-YR];exact zG8 _ (fun t=>⟨rfl,rfl,rfl⟩) _ (vP l 0) []
theorem uq:(yL (lY l) (tw l).length).k=0:=by
 have e:(tw l).length=((vP l 0).map (fun t=>(⟨yI t.2,t.2,kQ t.2,t.1⟩:PT))).length:=by rw[<-YR,pw,pw]
 unfold lY;rw[e];exact congrArg PT.k (Fe _ _ 0)
theorem zGT:(lY l).length=(tw l).length+1:=by
 unfold lY;rw[tm,pw,<-YR,pw];rfl
theorem bA{t:Bs}(h:At P a t)(hk:yI t=4):zD P t (a,false)=(true,(a+1,false)):=by
 have e:tO P t a false=true:=by unfold tO;rw[h.1,h.2.1,hk];simp
 unfold zD;simp only[e,UC]
theorem kG(h:At P a w)(t:Bs)(hn:yI w=4->w≠t):zD P t (a,false)=(false,(a,false)):=by
 have e:tO P t a false=false:=by
  unfold tO;rw[h.1,h.2.1];by_cases hk:yI w=4
  ·simp[hn hk]
  ·simp[hk]
 unfold zD;simp only[e,UC]
theorem fD{t:Bs}(h:At P a t)(hk:yI t=4):zU P t (a,false)=(a+1,false):=by
 have e:tO P t a false=true:=by unfold tO;rw[h.1,h.2.1,hk];simp
 unfold zU;simp only[e,UC,Bool.not_true]
theorem lB(h:At P a w)(hk:yI w=2):zI P (a,false)=(w,(a+1,false)):=by
 have e:qU P 2 a false=true:=by unfold qU;rw[h.1,hk];simp
 unfold zI;simp only[e,UC,tk,Bool.not_true,h.2.1]
theorem oZ(h:At P a w)(hk:yI w=3):yG P (a,false)=(kQ w,(a+1,false)):=by
 have e:qU P 3 a false=true:=by unfold qU;rw[h.1,hk];simp
 unfold yG;simp only[e,UC,tk,Bool.not_true,h.2.2]
theorem Km(h:At P a w)(hk:yI w=3):isNum P (a,false)=true:=by
 unfold isNum;rw[h.1,hk];rfl
theorem DN(h:At P a w)(hk:yI w≠3):isNum P (a,false)=false:=by
 unfold isNum;rw[h.1];simpa using hk
theorem Je(h:At P a w)(hk:yI w=2):qD P m (a,false)=(⟨m,false,0,w⟩,(a+1,false)):=by
 unfold qD;rw[DN h (by rw[hk];decide),lB h hk]
theorem j6(h:At P a w)(hk:yI w=3)(h2:At P (a+1) v)(hv:yI v=4->v≠[42]):qD P m (a,false)=(⟨m,false,kQ w,[]⟩,(a+1,false)):=by
 unfold qD;rw[Km h hk,oZ h hk];simp only[kG h2 [42] hv]
theorem Jd(h:At P a w)(hk:yI w=3)(h2:At P (a+1) [42])(h3:At P (a+1+1) v)(hv:yI v=2):qD P m (a,false)=(⟨m,true,kQ w,v⟩,(a+1+1+1,false)):=by
 unfold qD;rw[Km h hk,oZ h hk];simp only[bA h2 (by decide),lB h3 hv]
theorem zDW{n:Nat}{m:Bool}(h:qD P m s=(x,(b,false)))(h2:At P b v)(hv:yI v=4->v≠[45]/\v≠[43]):lS P (n+1) m s ps=(ps++[x],(b,false)):=by
 rw[lS,h];simp only[kG h2 [45] (fun k=>(hv k).1),kG h2 [43] (fun k=>(hv k).2)]
theorem FO{n:Nat}{m:Bool}(h:qD P m s=(x,(b,false)))(h2:At P b [45]):lS P (n+1) m s ps=lS P n true (b+1,false) (ps++[x]):=by
 rw[lS,h];simp only[bA h2 (by decide)]
theorem qi{n:Nat}{m:Bool}(h:qD P m s=(x,(b,false)))(h2:At P b [43]):lS P (n+1) m s ps=lS P n false (b+1,false) (ps++[x]):=by
 rw[lS,h];simp only[kG h2 [45] (fun _=>by decide),bA h2 (by decide)]
def wU:Bs:=[97,108,119,97,121,115]
def aU:Bs:=[104,97,115]
theorem qb(h:At P a wU):vY P (a,false)=(⟨4,0,0,[],[],[],0⟩,(a+1,false)):=by
 unfold vY;simp only[show ([97,108,119,97,121,115]:Bs)=wU from rfl,bA h (by decide)]
theorem uz(h:At P a aU)(h2:At P (a+1) w)(hw:yI w=2):vY P (a,false)=(⟨5,0,0,w,[],[],0⟩,(a+1+1,false)):=by
 unfold vY;simp only[show ([104,97,115]:Bs)=aU from rfl,kG h [97,108,119,97,121,115] (fun _=>by decide),bA h (by decide),lB h2 hw]
def dp(a d:Int):Int:=if a<d then d else a
theorem XZ{n:Nat}{x:zR}(nd:List zR)(t p d:Int)(h:At P a w)(h1:yI w=4->w≠vK/\w≠vO)(ht:vY P (a,false)=(x,(b,false))):xB P (n+1) ⟨(a,false),nd,t,p⟩ d=(((nd.length:Nat):Int),⟨(b,false),nd++[x],t+1,dp p d⟩):=by
 rw[xB];simp only[kG h vK (fun k=>(h1 k).1),kG h vO (fun k=>(h1 k).2),ht,GS.tested,GS.to,GS.add,dp]
theorem ZM{n:Nat}{q':GS}(nd:List zR)(t p d:Int)(h:At P a vK)(hf:xB P n ⟨(a+1,false),nd,t,p⟩ (d+1)=(i,q')):xB P (n+1) ⟨(a,false),nd,t,p⟩ d=(((q'.nd.length:Nat):Int),q'.add ⟨3,i,0,[],[],[],0⟩):=by
 rw[xB];simp only[bA h (by decide),GS.to,hf]
theorem fY{item:GS->Int × GS}{tok:Bs}{kind:Int}{left:Int}(h:At P b v)(hv:yI v=4->v≠tok):mU P item tok kind (k+1) left ⟨(b,false),nd,t,p⟩=(left,⟨(b,false),nd,t,p⟩):=by
 rw[mU];simp only[kG h tok hv,GS.to]
theorem DG{item:GS->Int × GS}{tok:Bs}{kind:Int}{left:Int}{q':GS}(h:At P b tok)(hk:yI tok=4)(hi:item ⟨(b+1,false),nd,t,p⟩=(i,q')):mU P item tok kind (k+1) left ⟨(b,false),nd,t,p⟩=mU P item tok kind k (q'.nd.length:Nat) (q'.add ⟨kind,left,i,[],[],[],0⟩):=by
 rw[mU];simp only[bA h hk,GS.to,hi]
theorem Zw{fact:GS->Int->Int × GS}{q:GS}{d:Int}(hP:0<P.length)(hf:fact q d=(i,⟨(b,false),nd,t,p⟩))(h:At P b v)(hv:yI v=4->v≠dQ):cG P fact q d=(i,⟨(b,false),nd,t,p⟩):=by
 obtain⟨k,hk⟩:∃k,P.length=k+1:=⟨P.length-1,by omega⟩;unfold cG;rw[hf,hk];exact fY h hv
theorem K4{fact:GS->Int->Int × GS}{q:GS}{d:Int}(hP:0<P.length)(hf:cG P fact q d=(i,⟨(b,false),nd,t,p⟩))(h:At P b v)(hv:yI v=4->v≠Q8):ZT P fact q d=(i,⟨(b,false),nd,t,p⟩):=by
 obtain⟨k,hk⟩:∃k,P.length=k+1:=⟨P.length-1,by omega⟩;unfold ZT;rw[hf,hk];exact fY h hv
def SumR(ps:List xI)(S:List Bs):Prop:=∀P a,Zu P a (S++[qX])->a+S.length<P.length->tH P (a,false)=(ps,(a+S.length,false))
def Fs(x:zE)(ws:List Bs):Prop:=(∀w r,ws=w::r->yI w≠0)/\0<ws.length/\∀P a,Zu P a ws->a+ws.length<P.length->uC P (a,false)=(x,(a+ws.length,false))
theorem B5{r c:Bs}(hr:yI r=2)(hc:yI c=2):Fs ⟨4,r,0,0,[],[],[],0,0,0,c⟩ [zH6,r,c,cU]:=by
 refine⟨fun w r h=>by cases h;decide,by simp,fun P a h _=>?_⟩;obtain⟨h0,h1,h2,h3,_⟩:=h;unfold uC;simp only[kG h0 [110,117,109] (fun _=>by decide),kG h0 [102,108,97,103] (fun _=>by decide),kG h0 [114,117,108,101] (fun _=>by decide),show ([111,118,101,114]:Bs)=zH6 from rfl,fD h0 (by decide)];unfold mX;simp only[lB h1 hr,lB h2 hc,show ([59]:Bs)=cU from rfl,fD h3 (by decide)];rfl
def xM(f:UInt8)(i:Nat):Bs:=[f,UInt8.ofNat (97+i)]
def cE(m k:Nat):List Nat:=(List.range m).map fun i=>(i+k)%m
theorem um{m i:Nat}(h:i∈cE m k):i<m:=by
 unfold cE at h;obtain⟨j,hj,rfl⟩:=p7.1 h;exact Nat.mod_lt _ (by have:=pm.1 hj;omega)
theorem QQ(m k:Nat):(cE m k).length=m:=by simp[cE]
end Go.Proofs.YtnbpdffdnphbeabGreatDoor
