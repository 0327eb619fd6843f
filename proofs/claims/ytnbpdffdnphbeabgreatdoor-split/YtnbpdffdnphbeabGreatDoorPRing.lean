import Derived.Test.YtnbpdffdnphbeabGreatDoorCkErr2
import Derived.Deep.OwnRows
namespace Go.Proofs.YtnbpdffdnphbeabGreatDoor
variable{l:List Bool}{b a g:Nat}{w:World}(zKX:List Bs)(xs:List zE)(n:Nat)(ls ys:List zE)(f:Int)
def ovX(x y:Bs)(l:zE):Bool:=decide (l.kind=4)&&(decide (l.name=x)&&decide (l.lower=y))
theorem gL(nm:Bs)(l:List Bs):∀i:Nat,qK nm l i<0 ↔ nm ∉ l:=by
 induction l with
 | nil=>intro i;simp[qK]
 | cons x r ih =>
   intro i;rw[qK];split
   ·rename_i h;subst h;simp
   ·rename_i h;rw[ih,l6,not_or];exact⟨fun h1=>⟨fun e=>h e.symm,h1⟩,fun h1=>h1.2⟩
theorem Jg(nm:Bs)(l:List Bs):l.Nodup->∀(i a:Nat),qK nm l i=((i+a:Nat):Int) ↔ a<l.length/\l.getD a []=nm:=by
 induction l with
 | nil=>intro _ i a;simp[qK];omega
 | cons x r ih =>
   intro hn i a;rw[List.nodup_cons]at hn;rw[qK];split
   ·rename_i h
    subst h
    cases a with
    | zero=>simp
    | succ a =>
      constructor
      ·intro h;omega
      ·rintro⟨h1,h2⟩
       exfalso
       apply hn.1
       rw[<-h2];have h3:a<r.length:=by simpa using h1
       have:(x::r).getD (a+1) []=r[a]:=by simp[List.getD,h3]
       rw[this];exact dm h3
   ·rename_i h
    cases a with
    | zero =>
      constructor
      ·intro h1
       have:=oY nm r (i+1);exfalso
       have h2:0<=qK nm r (i+1):=by rw[h1];omega
       have h3:=ih hn.2 (i+1);obtain⟨b,hb⟩:=cb h2
       have hge:∀(l:List Bs) (j:Nat),0<=qK nm l j->(j:Int)<=qK nm l j:=by
        intro l
        induction l with
        | nil=>intro j hj;simp[qK]at hj
        | cons y s ihs=>intro j hj;rw[qK]at hj ⊢;split
                        ·omega
                        ·rename_i hy;rw[tb hy]at hj;have:=ihs (j+1) hj;omega
       have:=hge r (i+1) h2;omega
      ·rintro⟨_,h2⟩;exact absurd (by simpa using h2) h
    | succ a =>
      rw[show i+(a+1)=i+1+a by omega,ih hn.2 (i+1) a];simp
theorem X8{zKX:List Bs}(hn:zKX.Nodup)(nm:Bs)(a:Nat):zH zKX nm=(a:Int) ↔ a<zKX.length/\zKX.getD a []=nm:=by
 have:=Jg nm zKX hn 0 a
 rwa [cx]at this
theorem QV:∀(acc:List Bs),acc.Nodup->(uM ls acc).Nodup/\(∀nm,nm∈uM ls acc ↔ (nm∈acc\/ls.any (D1 nm)=true))/\(uM ls acc).length<=acc.length+vC 3 ls:=by
 induction ls with
 | nil=>intro acc h;exact⟨h,fun nm=>by simp[uM],by simp[uM,vC]⟩
 | cons x r ih =>
   intro acc h;rw[uM,vC];by_cases hk:x.kind=3
   ·rw[tl hk]
    by_cases hf:zH acc x.conc<0
    ·rw[tl ⟨hk,hf⟩]
     have hnm:=(gL x.conc acc 0).1 hf;obtain⟨h1,h2,h3⟩:=ih (acc++[x.conc]) (by rw[List.nodup_append];exact⟨h,by simp,fun a ha b hb=>by rw[pr.1 hb];exact fun e=>hnm (e ▸ ha)⟩);refine⟨h1,fun nm=>?_,by rw[tm,mh]at h3;omega⟩;rw[h2,cw,ba,pu,pr];unfold D1;rw[tu hk,mz,bq];constructor
     ·rintro((h|h)|h)
      ·exact .inl h
      ·exact .inr (.inl h.symm)
      ·exact .inr (.inr h)
     ·rintro(h|h|h)
      ·exact .inl (.inl h)
      ·exact .inl (.inr h.symm)
      ·exact .inr h
    ·rw[tb (fun h=>hf h.2)]
     have hnm:x.conc∈acc:=by
      rcases Classical.em (x.conc∈acc) with h1|h1
      ·exact h1
      ·exact absurd ((gL x.conc acc 0).2 h1) hf
     obtain⟨h1,h2,h3⟩:=ih acc h;refine⟨h1,fun nm=>?_,by omega⟩;rw[h2,cw,ba];unfold D1;rw[tu hk,mz,bq];constructor
     ·rintro(h|h)
      ·exact .inl h
      ·exact .inr (.inr h)
     ·rintro(h|h|h)
      ·exact .inl h
      ·exact .inl (h ▸ hnm)
      ·exact .inr h
   ·rw[tb (fun h=>hk h.1),tb hk]
    obtain⟨h1,h2,h3⟩:=ih acc h;refine⟨h1,fun nm=>?_,by omega⟩;rw[h2,cw];unfold D1;rw[ty hk];simp
theorem X1:∀acc,uM (xs++ys) acc=uM ys (uM xs acc):=by
 induction xs with
 | nil=>intro acc;rfl
 | cons x r ih=>intro acc;rw[cf,uM,ih,uM]
theorem bP(i:Nat)(h:i<ls.length):ls.take (i+1)=ls.take i++[lA ls i]:=by
 rw[cy,pb h];simp[lA,List.getD,h]
theorem Gi:∀acc,kY (xs++ys) acc=kY ys (kY xs acc):=by
 induction xs with
 | nil=>intro acc;rfl
 | cons x r ih=>intro acc;rw[cf,kY,ih,kY]
theorem XQ{G:List Bool}(hl:G.length=64)(f t:Int)(ha:a<8)(hb:b<8):gA (nP G f t) a b=(gA G a b || (decide (f=(a:Int))&&decide (t=(b:Int)))):=by
 unfold nP;by_cases h:(0<=f/\f<8)/\(0<=t/\t<8)
 ·rw[tl h,BY hl (by omega)]
  congr 1
  have e:decide (a*8+b=f.toNat*8+t.toNat)=(decide (f=(a:Int))&&decide (t=(b:Int))):=by
   rw[dn,pq,bq,bq,bq];omega
  exact e
 ·rw[tb h]
  have:(decide (f=(a:Int))&&decide (t=(b:Int)))=false:=by
   rw[fe,di,di];omega
  rw[this,Bool.or_false]
theorem QG(S:List xE):∀G,(lR zKX f S G).length=G.length:=by
 induction S with
 | nil=>intro G;rfl
 | cons x r ih=>intro G;rw[lR,ih,mE]
theorem FO(N:List zT):∀G,(pF zKX f N G).length=G.length:=by
 induction N with
 | nil=>intro G;rfl
 | cons x r ih=>intro G;rw[pF,ih];split
                ·rw[mE]
                ·rfl
theorem FI(S:List xE)(ha:a<8)(hb:b<8):∀G,G.length=64->gA (lR zKX f S G) a b=(gA G a b || (decide (f=(a:Int))&&S.any (fun x=>decide (zH zKX x.name=(b:Int))))):=by
 induction S with
 | nil=>intro G _;simp[lR]
 | cons x r ih =>
   intro G hl;rw[lR,ih _ (by rw[mE,hl]),XQ hl f _ ha hb,cw];cases gA G a b <;> cases decide (f=(a:Int)) <;> cases decide (zH zKX x.name=(b:Int)) <;> simp
theorem FP(N:List zT)(ha:a<8)(hb:b<8):∀G,G.length=64->gA (pF zKX f N G) a b=(gA G a b || (decide (f=(a:Int))&&N.any (fun x=>decide (x.kind=5)&&decide (zH zKX x.name=(b:Int))))):=by
 induction N with
 | nil=>intro G _;simp[pF]
 | cons x r ih =>
   intro G hl;rw[pF];by_cases hk:x.kind=5
   ·rw[tl hk,ih _ (by rw[mE,hl]),XQ hl f _ ha hb,cw,tu hk]
    cases gA G a b <;> cases decide (f=(a:Int)) <;> cases decide (zH zKX x.name=(b:Int)) <;> simp
   ·rw[tb hk,ih _ hl,cw,ty hk];simp
def zFN(zKX:List Bs)(a b:Nat)(x:zE):Bool:=decide (x.kind=3)&&(decide (zH zKX x.conc=(a:Int))&&(x.sum.any (fun y=>decide (zH zKX y.name=(b:Int))) || x.nd.any (fun y=>decide (y.kind=5)&&decide (zH zKX y.name=(b:Int)))))
theorem Xe(ha:a<8)(hb:b<8):∀G,G.length=64->gA (qM zKX ls G) a b=(gA G a b || ls.any (zFN zKX a b)):=by
 induction ls with
 | nil=>intro G _;simp[qM]
 | cons x r ih =>
   intro G hl;rw[qM,cw];by_cases hk:x.kind=3
   ·have ex:zFN zKX a b x=(decide (zH zKX x.conc=(a:Int))&&(x.sum.any (fun y=>decide (zH zKX y.name=(b:Int))) || x.nd.any (fun y=>decide (y.kind=5)&&decide (zH zKX y.name=(b:Int))))):=by
     unfold zFN;rw[tu hk,mz]
    rw[tl hk,ih _ (by rw[FO,QG,hl]),FP _ _ _ ha hb _ (by rw[QG,hl]),FI _ _ _ ha hb _ hl,ex];generalize r.any (zFN zKX a b)=R;generalize x.sum.any (fun y=>decide (zH zKX y.name=(b:Int)))=s;generalize x.nd.any (fun y=>decide (y.kind=5)&&decide (zH zKX y.name=(b:Int)))=n;cases gA G a b <;> cases decide (zH zKX x.conc=(a:Int)) <;> cases s <;> cases n <;> simp
   ·have ex:zFN zKX a b x=false:=by unfold zFN;rw[ty hk];rfl
    rw[tb hk,ih _ hl,ex,bf]
def zFM(labs:List Bs)(a b:Nat)(x:zE):Bool:=decide (x.kind=4)&&(decide (zH labs x.name=(a:Int))&&decide (zH labs x.lower=(b:Int)))
theorem YW(labs:List Bs)(ls:List zE)(ha:a<8)(hb:b<8):∀G,G.length=64->gA (uW labs ls G) a b=(gA G a b || ls.any (zFM labs a b)):=by
 induction ls with
 | nil=>intro G _;simp[uW]
 | cons x r ih =>
   intro G hl;rw[uW,cw];by_cases hk:x.kind=4
   ·rw[tl hk,ih _ (by rw[mE,hl]),XQ hl _ _ ha hb]
    unfold zFM;rw[tu hk];cases gA G a b <;> cases decide (zH labs x.name=(a:Int)) <;> cases decide (zH labs x.lower=(b:Int)) <;> simp
   ·rw[tb hk,ih _ hl]
    have:zFM labs a b x=false:=by unfold zFM;rw[ty hk];rfl
    rw[this,bf]
theorem BU:gA gZ a b=false:=by
 unfold gA gZ;simp only[pd,bt];split <;> rfl
theorem zKJ{labs:List Bs}(hn:labs.Nodup)(x:zE):zFM labs a b x=(decide (a<labs.length)&&(decide (b<labs.length)&&ovX (labs.getD a []) (labs.getD b []) x)):=by
 unfold zFM ovX
 have e:∀(nm:Bs) (k:Nat),decide (zH labs nm=(k:Int))=(decide (k<labs.length)&&decide (nm=labs.getD k [])):=fun nm k=>by
  rw[dn,pq,bq,bq,bq,X8 hn];exact⟨fun h=>⟨h.1,h.2.symm⟩,fun h=>⟨h.1,h.2.symm⟩⟩
 rw[e,e];cases decide (x.kind=4) <;> cases decide (a<labs.length) <;> cases decide (b<labs.length) <;> simp
theorem ja:∀acc,(kY ls acc).length=acc.length+vC 3 ls/\(∀nm,nm∈kY ls acc ↔ (nm∈acc\/uR ls 3 nm=true)):=by
 induction ls with
 | nil=>intro acc;exact⟨by simp[kY,vC],fun nm=>by simp[kY,uR]⟩
 | cons x r ih =>
   intro acc;rw[kY,vC];by_cases hk:x.kind=3
   ·rw[tl hk,tl hk]
    obtain⟨h1,h2⟩:=ih (acc++[x.name]);refine⟨by rw[h1,tm,mh];omega,fun nm=>?_⟩;rw[h2,pu,pr];unfold uR;rw[cw,ba];unfold Zl;rw[tu hk,mz,bq];constructor
    ·rintro((h|h)|h)
     ·exact .inl h
     ·exact .inr (.inl h.symm)
     ·exact .inr (.inr h)
    ·rintro(h|h|h)
     ·exact .inl (.inl h)
     ·exact .inl (.inr h.symm)
     ·exact .inr h
   ·rw[tb hk,tb hk]
    obtain⟨h1,h2⟩:=ih acc;refine⟨by omega,fun nm=>?_⟩;rw[h2];unfold uR;rw[cw];have:Zl 3 nm x=false:=by unfold Zl;rw[ty hk];rfl
    rw[this,bf]
theorem BK(h:∀i,i<ls.length->(lA ls i).kind=3->uR (ls.take i) 3 (lA ls i).name=false):(vD ls).Nodup:=by
 have key:∀n,n<=ls.length->(kY (ls.take n) []).Nodup:=by
  intro n
  induction n with
  | zero=>intro _;simp[kY]
  | succ n ih =>
    intro hn;rw[bP ls n (by omega),Gi,kY,kY];split
    ·rename_i hk
     rw[List.nodup_append];refine⟨ih (by omega),by simp,fun a ha b hb=>?_⟩;rw[pr.1 hb];intro e;subst e;have:=((ja (ls.take n) []).2 (lA ls n).name).1 ha;rcases this with h1|h1
     ·simp at h1
     ·rw[h n (by omega) hk]at h1;exact absurd h1 (by decide)
    ·exact ih (by omega)
 have:=key ls.length (j1 _);rw[bw]at this;exact this
open Go.RowKit
def jU(w:World)(g:Nat)(l:List Bool):Prop:=w.heap[g]? = some (.cells (gC l) 4 (0,0))
theorem jU.cell(h:jU w g l){k:Nat}(hk:k<l.length):w.cell? ⟨g,k,none⟩=some (.bool (l.getD k false)):=by
 simp only[World.cell?,show w.heap[g]? = _ from h];exact BX hk
theorem jU.free(h:jU w g l)(k:Nat):w.frozen? ⟨g,k,none⟩=false:=by simp[World.frozen?,show w.heap[g]? = _ from h]
theorem jU.lt(h:jU w g l):g<w.heap.size:=by
 rcases md g w.heap.size with h1|h1
 ·exact h1
 ·have h2:w.heap[g]? = _:=h;rw[mc h1]at h2;cases h2
theorem jU.set(h:jU w g l)(k:Nat)(b:Bool):jU (w.setCell ⟨g,k,none⟩ (.bool b)) g (l.set k b):=by
 unfold jU at h ⊢;rw[setCell_eq_setRow w g k _ _ _ _ h,cg w g (gC l) _ _ _ h];congr 2
 simp[gC,List.map_set]
theorem cU:madeCells #[Value.bool false] n=gC (List.replicate n false):=by
 apply Array.ext
 ·simp[madeCells,gC]
 ·intro i h1 h2
  simp[madeCells,gC,Nat.mod_one]
theorem dA:(Tryz.prog.info? 4).map (fun i=>(i.zero,i.size,i.bytes))=some (some (.bool false),1,1):=by kernel_rfl
theorem jU.below{w':World}(h:jU w g l)(hb:Below w.heap.size w w'):jU w' g l:=by
 have hl:=h.lt;unfold jU at h ⊢;rw[hb.block g hl];exact h
theorem zIA{B:Nat}{lv:Value}{ls:List LX}(h:Kt w B lv ls)(hg:∀x∈ls,gO x.1)(hf:ls.length<=10000):∃a c,lv=.slice a ls.length c/\ls.length<=c/\jS w a ls:=by
 have hrows:∀x∈ls,ZZ w x:=fun x hx=>by
  refine⟨Qb.of_rows (h.2 x hx),hg x hx,?_⟩;rcases(h.2 x hx).2.2 with ⟨_,h2⟩|⟨_,cap,_,_,_,_,h4,h5,_,_⟩
  ·rw[h2];exact p7 _
  ·exact p8 h4 h5
 rcases h.1.2 with ⟨h1,h2⟩|⟨gl,cap,yK,h1,_,h3,h4,_,_,h7⟩
 ·exact⟨none,0,by rw[h1,h2],by omega,⟨fun h0=>by omega,hrows,hf⟩⟩
 ·exact⟨_,cap,h1,h4,⟨fun _=>⟨gl,yK,rfl,h3,h7⟩,hrows,hf⟩⟩
theorem BB{ls:List zE}:∀i,fU ls n i=none->∀j,i<=j->j<i+n->tH ls j=false:=by
 induction n with
 | zero=>intro i _ j h1 h2;omega
 | succ n ih =>
   intro i h j h1 h2;rw[fU]at h;split at h
   ·cases h
   ·rename_i hm
    by_cases hj:j=i
    ·subst hj;simpa using hm
    ·exact ih (i+1) h j (by omega) (by omega)
theorem GE{ls:List zE}:∀i,sR ls n i=none->∀j,i<=j->j<i+n->mM ls j=0:=by
 induction n with
 | zero=>intro i _ j h1 h2;omega
 | succ n ih =>
   intro i h j h1 h2;rw[sR]at h;split at h
   ·rename_i hm
    by_cases hj:j=i
    ·subst hj;exact hm
    ·exact ih (i+1) h j (by omega) (by omega)
   ·cases h
theorem VZ(k:Int)(xs ys:List zE):vC k (xs++ys)=vC k xs+vC k ys:=by
 induction xs with
 | nil=>simp[vC]
 | cons x r ih=>rw[cf,vC,ih,vC];omega
theorem G6{ls:List zE}(h:∀i,i<ls.length->tH ls i=false):vC 3 ls<=8:=by
 have key:∀n,n<=ls.length->vC 3 (ls.take n)<=8:=by
  intro n
  induction n with
  | zero=>intro _;simp[vC]
  | succ n ih =>
    intro hn;rw[bP ls n (by omega),VZ];have ih:=ih (by omega);by_cases hk:(lA ls n).kind=3
    ·have hm:=h n (by omega)
     unfold tH at hm;rw[bp,di,hk]at hm;have hl:Yd 3=8:=by decide
     rw[hl]at hm;simp only[vC,hk,dt];omega
    ·simp only[vC,tb hk];omega
 have:=key ls.length (j1 _)
 rwa [bw]at this
end Go.Proofs.YtnbpdffdnphbeabGreatDoor
