import Derived.Test.YtnbpdffdnphbeabGreatDoorPHear
import Derived.Test.YtnbpdffdnphbeabGreatDoorFAbove
namespace Go.Proofs.YtnbpdffdnphbeabGreatDoor
variable {M:yC} {wh:Bool} {ts:List zR}
variable{u:FV}{i:Nat}(lo hi:Nat->Int)(v:FV)
def ut(t:zR):zR:=if t.kind=2 then ⟨t.or,t.not,t.pair,0,t.x,t.y,t.mark,t.n⟩ else t
def QI(n:Int):yU:=⟨false,false,n,-1,-1⟩
def cL(wh:Bool)(n:Int)(ts:List zR):xP:=⟨0,wh,[QI n],ts⟩
def bR(lo hi:Nat->Int)(wh:Bool)(ts:List zR):yC:=⟨lo,hi,[cL wh 1 ts,cL (!wh) 2 ts],fun _ _=>false,[0]⟩
theorem zHW{low:List Nat}{t:zR}(h:xL low t):xL [] (ut t):=by
 unfold ut;split
 ·exact .inl rfl
 ·rename_i hk
  rcases h with h|h|h|h
  ·exact .inl h
  ·exact .inr (.inl h)
  ·exact absurd h.1 hk
  ·exact .inr (.inr (.inr h))
theorem zDL{low:List Nat}(h:qX low ts):qX [] (ts.map ut):=by
 refine⟨by rw[pi];exact h.1,by rw[pi];exact h.2.1,fun t ht=>?_⟩;obtain⟨q,hq,rfl⟩:=p9.1 ht;exact zHW (h.2.2 q hq)
theorem Da{n:Int}(h0:0<=n)(h1:n<=9999)(h:qX [] ts):dI [0] (cL wh n ts):=by
 refine⟨by show 0<4;decide,⟨by show 0<1;decide,by show 1<=4;decide,fun p hp=>?_⟩,h,⟨fun p hp=>?_,fun p r e=>?_⟩⟩
 ·have e:p=QI n:=pr.1 hp
  rw[e];exact .inl ⟨rfl,⟨h0,h1⟩,rfl,rfl⟩
 ·have e:p=QI n:=pr.1 hp
  rw[e];exact .inr (.inr ⟨rfl,rfl⟩)
 ·have e2:[QI n]=p::r:=e
  injection e2 with e3 e4
  rw[<-e3];rfl
theorem zD4(h:yI M)(ht:qX [] ts):yI (bR M.lo M.hi wh ts):=by
 refine⟨h.nums,by show 2<=8;decide,by show [0]=yM [0,0];decide,fun r hr=>?_,fun i j hij=>by cases hij⟩;have hr2:r∈[cL wh 1 ts,cL (!wh) 2 ts]:=hr;rw[l6,pr]at hr2;rcases hr2 with rfl|rfl
 ·exact Da (by decide) (by decide) ht
 ·exact Da (by decide) (by decide) ht
open Go.RowKit
def dP(i:Nat)(ts:List zR):List zR:=(ts.take i).map ut++ts.drop i
theorem tO(i:Nat)(ts:List zR):(dP i ts).length=ts.length:=by unfold dP;rw[tm,pi,cd,dj];omega
theorem FW(ts:List zR):dP 0 ts=ts:=by unfold dP;simp
theorem qy(ts:List zR):dP ts.length ts=ts.map ut:=by unfold dP;simp
def D9:zR:=⟨false,false,false,0,0,0,0,0⟩
theorem iH(i:Nat)(ts:List zR)(k:Nat)(hk:k<ts.length):(dP i ts).getD k D9=if k<i then ut (ts.getD k D9) else ts.getD k D9:=by
 unfold dP;rw[pd,List.getElem?_append,pi,cd];by_cases h:k<i
 ·rw[tl (by omega),tl h,List.getElem?_map,df,tl h]
  simp[List.getD,hk]
 ·rw[tb (by omega),tb h,List.getElem?_drop,show i+(k-min i ts.length)=k by omega]
  simp[List.getD]
theorem sK(t:zR):(mT t).length=8:=rfl
theorem qx{B:Nat}{w:World}{qa:Option Addr}{ts:List zR}(h:mO B w 87 qa ((dP i ts).flatMap mT))(hi:i<ts.length):∃g,B<=g/\qa=some ⟨g,0,none⟩/\w.cell? ⟨g,i*8+3,none⟩=some (.int .i64 (ts.getD i D9).kind)/\w.frozen? ⟨g,i*8+3,none⟩=false:=by
 have hl:((dP i ts).flatMap mT).length=ts.length*8:=by rw[dC mT 8 sK,tO]
 rcases h with h|⟨g,cs,h0,h1,h2,h3⟩
 ·rw[h]at hl;simp at hl;omega
 ·refine⟨g,h0,h1,(zB h2 _).trans ((h3 _ (by omega)).trans ?_),by simp[World.frozen?,h2]⟩
  rw[zN mT 8 sK D9 _ i 3 (by rw[tO];exact hi) (by decide),iH _ _ _ hi,tb (by omega)];rfl
theorem qw{ts:List zR}(hi:i<ts.length)(hk:(ts.getD i D9).kind≠2):dP (i+1) ts=dP i ts:=by
 refine List.ext_getElem? fun k=>?_;by_cases h:k<ts.length
 ·have e1:=iH (i+1) ts k h
  have e2:=iH i ts k h;have h1:k<(dP (i+1) ts).length:=by rw[tO];exact h
  have h2:k<(dP i ts).length:=by rw[tO];exact h
  have e3:(dP (i+1) ts).getD k D9=(dP i ts).getD k D9:=by
   rw[e1,e2];by_cases hk2:k=i
   ·subst hk2
    rw[tl (by omega),tb (by omega)];unfold ut;rw[tb hk]
   ·by_cases h3:k<i
    ·rw[tl (by omega),tl h3]
    ·rw[tb (by omega),tb h3]
  rw[pb h1,pb h2];simpa[List.getD,h1,h2] using e3
 ·rw[fw (by rw[tO];omega),fw (by rw[tO];omega)]
theorem zE5{B:Nat}{w:World}{g:Nat}{ts:List zR}(h:mO B w 87 (some ⟨g,0,none⟩) ((dP i ts).flatMap mT))(hi:i<ts.length)(hk:(ts.getD i D9).kind=2):mO B (w.setCell ⟨g,i*8+3,none⟩ (.int .i64 0)) 87 (some ⟨g,0,none⟩) ((dP (i+1) ts).flatMap mT):=by
 have hl:∀j,((dP j ts).flatMap mT).length=ts.length*8:=fun j=>by rw[dC mT 8 sK,tO]
 have hl0:=hl i;rcases h with h|⟨g',cs,h0,h1,h2,h3⟩
 ·rw[h]at hl0;simp at hl0;omega
 ·obtain rfl:g=g':=by simpa using h1
  refine .inr ⟨g,_,h0,rfl,tr _ _ _ _ _ _ h2,fun j hj=>?_⟩;rw[hl]at hj
  have zLN:i*8+3<cs.size:=by
   have q:=h3 (i*8+3) (by omega);rw[pb (by omega)]at q;exact(Array.getElem?_eq_some_iff.1 q).1
  rw[vN zLN];have hj8:j/8<ts.length:=by omega
  have hr:j%8<8:=Nat.mod_lt _ (by decide);have a1:=zN mT 8 sK D9 (dP (i+1) ts) (j/8) (j%8) (by rw[tO];exact hj8) hr;have a2:=zN mT 8 sK D9 (dP i ts) (j/8) (j%8) (by rw[tO];exact hj8) hr;rw[show j/8*8+j%8=j by omega]at a1 a2;rw[a1,iH _ _ _ hj8];by_cases e:j=i*8+3
  ·have e1:j/8=i:=by omega
   have e2:j%8=3:=by omega
   rw[tl e,e1,e2,tl (by omega)];unfold ut;rw[tl hk];rfl
  ·rw[tb e,h3 j (by omega),a2,iH _ _ _ hj8]
   by_cases e1:j/8=i
   ·rw[e1,tb (by omega),tl (by omega)]
    unfold ut;rw[tl hk];have e2:j%8≠3:=by omega
    generalize j%8=q at *;rcases(show q=0\/q=1\/q=2\/q=4\/q=5\/q=6\/q=7 by omega) with rfl|rfl|rfl|rfl|rfl|rfl|rfl <;> rfl
   ·by_cases h5:j/8<i
    ·rw[tl h5,tl (by omega)]
    ·rw[tb h5,tb (by omega)]
def zJZ(l0 l1 l2 h0 h1 h2:Int)(hv:Value):Array Value:=(.int .i64 l0::.int .i64 l1::.int .i64 l2::.int .i64 h0::.int .i64 h1::.int .i64 h2::(Value.slice none 0 0::(List.replicate 64 (Value.bool false)++[hv]))).toArray
theorem zD5(l0 l1 l2 h0 h1 h2:Int)(a:Option Addr)(n c:Nat):(((((((Tryz.zeroCells48.setIfInBounds 0 (.int .i64 l0)).setIfInBounds 1 (.int .i64 l1)).setIfInBounds 2 (.int .i64 l2)).setIfInBounds 3 (.int .i64 h0)).setIfInBounds 4 (.int .i64 h1)).setIfInBounds 5 (.int .i64 h2)).setIfInBounds 71 (.slice a n c))=zJZ l0 l1 l2 h0 h1 h2 (.slice a n c):=by kernel_rfl
theorem zHM(w:World)(lo hi:Nat->Int)(hv:Value){g:Nat}(h:w.heap[g]? = some (.cells (zJZ (lo 0) (lo 1) (lo 2) (hi 0) (hi 1) (hi 2) hv) 48 (0,0))):uX w g lo hi (.slice none 0 0) (fun _ _=>false) hv:=by
 refine⟨_,h,by simp[zJZ],fun i hi=>?_,fun i hi=>?_,rfl,fun i j hi hj=>?_,rfl⟩
 ·rcases(show i=0\/i=1\/i=2 by omega) with rfl|rfl|rfl <;> rfl
 ·rcases(show i=0\/i=1\/i=2 by omega) with rfl|rfl|rfl <;> rfl
 ·unfold zJZ
  rw[bg,show 7+i*8+j=(i*8+j)+7 by omega];simp only[co];rw[ms (by simp;omega),bt,tl (by omega)]
variable {M:yC} {wh:Bool} {ts:List zR}
theorem D8(wh:Bool)(ts:List zR):gI v (!wh) ts = !gI v wh ts:=by
 cases ts with
 | nil=>cases wh <;> rfl
 | cons t l =>
   show (K1 v false (mJ v t) l != !wh) = !(K1 v false (mJ v t) l != wh);generalize K1 v false (mJ v t) l=x;cases wh <;> cases x <;> rfl
theorem eU(wh:Bool)(n:Int)(ts:List zR):bJ v (cL wh n ts)=gI v wh ts:=by
 unfold bJ cL nU;simp[QI]
theorem CZ:vO (bR lo hi wh ts) 0=cL wh 1 ts:=rfl
theorem CY:vO (bR lo hi wh ts) 1=cL (!wh) 2 ts:=rfl
theorem vq:¬zJS (bR lo hi wh ts):=by
 rintro⟨i,j,h1,h2,-,v,-,h3,h4⟩;have h2':j<2:=h2;obtain rfl:j=1:=by omega
 obtain rfl:i=0:=by omega
 have e3:bJ v (cL wh 1 ts)=true:=h3;have e4:bJ v (cL (!wh) 2 ts)=true:=h4;rw[eU]at e3 e4;rw[D8,e3]at e4;cases e4
theorem UP(a b:Nat):gA (yB (nX (bR lo hi wh ts))) a b=false:=by
 have e:nX (bR lo hi wh ts)=List.replicate 64 false:=by show (List.range 64).map (fun _=>false)=_;decide
 rw[e];have e2:yB (List.replicate 64 false)=List.replicate 64 false:=by decide +kernel
 rw[e2];unfold gA;rw[pd,bt];split <;> rfl
theorem vr(r:Nat):XM (bR lo hi wh ts) v r=false:=by
 unfold XM;rw[dy];intro k _;rw[UP];simp
theorem CX(wh:Bool)(n:Int)(ts:List zR):KA v (cL wh n ts)=n:=by
 unfold KA cL;simp[yy,QI,eW]
theorem Fr:aL (bR lo hi wh ts) v 0=if gI v wh ts=true then [0] else [1]:=by
 unfold aL;have e:(fun r=>decide ((vO (bR lo hi wh ts) r).head=0)&&(bJ v (vO (bR lo hi wh ts) r) && !XM (bR lo hi wh ts) v r))=fun r=>decide ((vO (bR lo hi wh ts) r).head=0)&&bJ v (vO (bR lo hi wh ts) r):=funext fun r=>by rw[vr];simp
 rw[e];show (List.range 2).filter _=_;have h0:(decide ((vO (bR lo hi wh ts) 0).head=0)&&bJ v (vO (bR lo hi wh ts) 0))=gI v wh ts:=by rw[CZ,eU];rfl
 have h1:(decide ((vO (bR lo hi wh ts) 1).head=0)&&bJ v (vO (bR lo hi wh ts) 1)) = !gI v wh ts:=by rw[CY,eU,D8];rfl
 rw[show List.range 2=[0,1] by decide];cases hg:gI v wh ts
 ·rw[hg]at h0 h1
  rw[List.filter_cons_of_neg (by rw[h0];decide),List.filter_cons_of_pos (by rw[h1];rfl)];rfl
 ·rw[hg]at h0 h1
  rw[List.filter_cons_of_pos (by rw[h0]),List.filter_cons_of_neg (by rw[h1];decide)];rfl
theorem CN{v:FV}(h:∀i,u.inn i=v.inn i){t:zR}(ht:xL [] t):mJ u t=mJ v t:=by
 have hi:u.inn=v.inn:=funext h;unfold mJ XK;rcases ht with h1|h1|⟨_,d,h2,_⟩|⟨h1,_⟩
 ·rw[tl h1,tl h1]
 ·have k0:¬t.kind=0:=by omega
  simp only[hi,tb k0,tl h1.1]
 ·cases h2
 ·have k0:¬t.kind=0:=by omega
  have k1:¬t.kind=1:=by omega
  have k2:¬t.kind=2:=by omega
  simp only[hi,tb k0,tb k1,tb k2]
theorem zIN{v:FV}(h:∀i,u.inn i=v.inn i):∀(l:List zR) (s r:Bool),(∀t∈l,xL [] t)->K1 u s r l=K1 v s r l:=by
 intro l
 induction l with
 | nil=>intro s r _;rfl
 | cons t l ih =>
   intro s r ht;rw[K1,K1,CN h (ht t (by simp)),ih _ _ fun q hq=>ht q (by simp[hq]),ih _ _ fun q hq=>ht q (by simp[hq])]
theorem zEU{v:FV}(h:∀i,u.inn i=v.inn i)(ht:∀t∈ts,xL [] t):gI u wh ts=gI v wh ts:=by
 cases ts with
 | nil=>rfl
 | cons t l =>
   show (K1 u false (mJ u t) l != wh)=(K1 v false (mJ v t) l != wh);rw[CN h (ht t (by simp)),zIN h _ _ _ fun q hq=>ht q (by simp[hq])]
theorem vo{lo hi:Nat->Int}{v:FV}{st av vd:Nat->Int}(hH:zBU (bR lo hi wh ts) u st av vd)(h:∀i,u.inn i=v.inn i)(ht:∀t∈ts,xL [] t):st 0=1/\av 0=if gI v wh ts=true then 1 else 2:=by
 have k1:=hH.kst 0 (by show 0<1;decide);have k2:=hH.kav 0 (by show 0<1;decide);have e:(bR lo hi wh ts).heads.getD 0 0=0:=rfl;rw[e,Fr,zEU h ht]at k1 k2;cases hg:gI v wh ts
 ·rw[hg]at k1 k2
  rw[tb (by decide)]at k1 k2 ⊢;rw[k1,k2];refine⟨by decide,?_⟩;show KA u (vO (bR lo hi wh ts) 1)=2;rw[CY,CX]
 ·rw[hg]at k1 k2
  rw[tl rfl]at k1 k2 ⊢;rw[k1,k2];refine⟨by decide,?_⟩;show KA u (vO (bR lo hi wh ts) 0)=1;rw[CZ,CX]
end Go.Proofs.YtnbpdffdnphbeabGreatDoor
