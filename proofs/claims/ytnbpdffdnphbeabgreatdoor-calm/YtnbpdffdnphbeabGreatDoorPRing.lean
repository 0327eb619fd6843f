import Derived.Test.YtnbpdffdnphbeabGreatDoorCkErr2
import Derived.Deep.OwnRows
namespace Go.Proofs.YtnbpdffdnphbeabGreatDoor
variable{l:List Bool}{b a g:Nat}{w:World}(zK2:List Bs)(xs:List zE)(n:Nat)(ls ys:List zE)(f:Int)
def ovX(x y:Bs)(l:zE):Bool:=decide (l.kind=4)&&(decide (l.name=x)&&decide (l.lower=y))
theorem fV(nm:Bs)(l:List Bs):∀i:Nat,qI nm l i<0 ↔ nm ∉ l:=by
 induction l with
 | nil=>intro i;simp[qI]
 | cons x r ih =>
   intro i;rw[qI];split
   ·rename_i h;subst h;simp
   ·rename_i h;rw[ih,mz,not_or];exact⟨fun h1=>⟨fun e=>h e.symm,h1⟩,fun h1=>h1.2⟩
theorem QW(nm:Bs)(l:List Bs):l.Nodup->∀(i a:Nat),qI nm l i=((i+a:Nat):Int) ↔ a<l.length/\l.getD a []=nm:=by
 induction l with
 | nil=>intro _ i a;simp[qI];omega
 | cons x r ih =>
   intro hn i a;rw[List.nodup_cons]at hn;rw[qI];split
   ·rename_i h
    subst h
    cases a with
    | zero=>simp
    | succ a =>
      constructor
      ·intro h;omega
      ·rintro⟨h1,h2⟩
       exfalso
       apply hn.1
       rw[<-h2];have h3:a<r.length:=by simpa using h1
       have:(x::r).getD (a+1) []=r[a]:=by simp[List.getD,h3]
       rw[this];exact cx h3
   ·rename_i h
    cases a with
    | zero =>
      constructor
      ·intro h1
       have:=oZ nm r (i+1);exfalso
       have h2:0<=qI nm r (i+1):=by rw[h1];omega
       have h3:=ih hn.2 (i+1);obtain⟨b,hb⟩:=bw h2
       have hge:∀(l:List Bs) (j:Nat),0<=qI nm l j->(j:Int)<=qI nm l j:=by
        intro l
        induction l with
        | nil=>intro j hj;simp[qI]at hj
        | cons y s ihs=>intro j hj;rw[qI]at hj ⊢;split
                        ·omega
                        ·rename_i hy;rw[tb hy]at hj;have:=ihs (j+1) hj;omega
       have:=hge r (i+1) h2;omega
      ·rintro⟨_,h2⟩;exact absurd (by simpa using h2) h
    | succ a =>
      rw[show i+(a+1)=i+1+a by omega,ih hn.2 (i+1) a];simp
theorem Xy{zK2:List Bs}(hn:zK2.Nodup)(nm:Bs)(a:Nat):zI zK2 nm=(a:Int) ↔ a<zK2.length/\zK2.getD a []=nm:=by
 have:=QW nm zK2 hn 0 a
 rwa [cq]at this
theorem QL:∀(acc:List Bs),acc.Nodup->(uM ls acc).Nodup/\(∀nm,nm∈uM ls acc ↔ (nm∈acc\/ls.any (Dj nm)=true))/\(uM ls acc).length<=acc.length+xZ 3 ls:=by
 induction ls with
 | nil=>intro acc h;exact⟨h,fun nm=>by simp[uM],by simp[uM,xZ]⟩
 | cons x r ih =>
   intro acc h;rw[uM,xZ];by_cases hk:x.kind=3
   ·rw[tm hk]
    by_cases hf:zI acc x.conc<0
    ·rw[tm ⟨hk,hf⟩]
     have hnm:=(fV x.conc acc 0).1 hf;obtain⟨h1,h2,h3⟩:=ih (acc++[x.conc]) (by rw[List.nodup_append];exact⟨h,by simp,fun a ha b hb=>by rw[pw.1 hb];exact fun e=>hnm (e ▸ ha)⟩);refine⟨h1,fun nm=>?_,by rw[tl,me]at h3;omega⟩;rw[h2,cr,lq,pu,pw];unfold Dj;rw[tu hk,mu,bq];constructor
     ·rintro((h|h)|h)
      ·exact .inl h
      ·exact .inr (.inl h.symm)
      ·exact .inr (.inr h)
     ·rintro(h|h|h)
      ·exact .inl (.inl h)
      ·exact .inl (.inr h.symm)
      ·exact .inr h
    ·rw[tb (fun h=>hf h.2)]
     have hnm:x.conc∈acc:=by
      rcases Classical.em (x.conc∈acc) with h1|h1
      ·exact h1
      ·exact absurd ((fV x.conc acc 0).2 h1) hf
     obtain⟨h1,h2,h3⟩:=ih acc h;refine⟨h1,fun nm=>?_,by omega⟩;rw[h2,cr,lq];unfold Dj;rw[tu hk,mu,bq];constructor
     ·rintro(h|h)
      ·exact .inl h
      ·exact .inr (.inr h)
     ·rintro(h|h|h)
      ·exact .inl h
      ·exact .inl (h ▸ hnm)
      ·exact .inr h
   ·rw[tb (fun h=>hk h.1),tb hk]
    obtain⟨h1,h2,h3⟩:=ih acc h;refine⟨h1,fun nm=>?_,by omega⟩;rw[h2,cr];unfold Dj;rw[tq hk];simp
theorem Xp:∀acc,uM (xs++ys) acc=uM ys (uM xs acc):=by
 induction xs with
 | nil=>intro acc;rfl
 | cons x r ih=>intro acc;rw[cd,uM,ih,uM]
theorem bJ(i:Nat)(h:i<ls.length):ls.take (i+1)=ls.take i++[lA ls i]:=by
 rw[cw,p9 h];simp[lA,List.getD,h]
theorem FJ:∀acc,kZ (xs++ys) acc=kZ ys (kZ xs acc):=by
 induction xs with
 | nil=>intro acc;rfl
 | cons x r ih=>intro acc;rw[cd,kZ,ih,kZ]
theorem XI{G:List Bool}(hl:G.length=64)(f t:Int)(ha:a<8)(hb:b<8):gA (nG G f t) a b=(gA G a b || (decide (f=(a:Int))&&decide (t=(b:Int)))):=by
 unfold nG;by_cases h:(0<=f/\f<8)/\(0<=t/\t<8)
 ·rw[tm h,BH hl (by omega)]
  congr 1
  have e:decide (a*8+b=f.toNat*8+t.toNat)=(decide (f=(a:Int))&&decide (t=(b:Int))):=by
   rw[dg,pj,bq,bq,bq];omega
  exact e
 ·rw[tb h]
  have:(decide (f=(a:Int))&&decide (t=(b:Int)))=false:=by
   rw[f8,db,db];omega
  rw[this,Bool.or_false]
theorem Q7(S:List xE):∀G,(lP zK2 f S G).length=G.length:=by
 induction S with
 | nil=>intro G;rfl
 | cons x r ih=>intro G;rw[lP,ih,mF]
theorem F0(N:List zT):∀G,(pF zK2 f N G).length=G.length:=by
 induction N with
 | nil=>intro G;rfl
 | cons x r ih=>intro G;rw[pF,ih];split
                ·rw[mF]
                ·rfl
theorem Ft(S:List xE)(ha:a<8)(hb:b<8):∀G,G.length=64->gA (lP zK2 f S G) a b=(gA G a b || (decide (f=(a:Int))&&S.any (fun x=>decide (zI zK2 x.name=(b:Int))))):=by
 induction S with
 | nil=>intro G _;simp[lP]
 | cons x r ih =>
   intro G hl;rw[lP,ih _ (by rw[mF,hl]),XI hl f _ ha hb,cr];cases gA G a b <;> cases decide (f=(a:Int)) <;> cases decide (zI zK2 x.name=(b:Int)) <;> simp
theorem F1(N:List zT)(ha:a<8)(hb:b<8):∀G,G.length=64->gA (pF zK2 f N G) a b=(gA G a b || (decide (f=(a:Int))&&N.any (fun x=>decide (x.kind=5)&&decide (zI zK2 x.name=(b:Int))))):=by
 induction N with
 | nil=>intro G _;simp[pF]
 | cons x r ih =>
   intro G hl;rw[pF];by_cases hk:x.kind=5
   ·rw[tm hk,ih _ (by rw[mF,hl]),XI hl f _ ha hb,cr,tu hk]
    cases gA G a b <;> cases decide (f=(a:Int)) <;> cases decide (zI zK2 x.name=(b:Int)) <;> simp
   ·rw[tb hk,ih _ hl,cr,tq hk];simp
def zER(zK2:List Bs)(a b:Nat)(x:zE):Bool:=decide (x.kind=3)&&(decide (zI zK2 x.conc=(a:Int))&&(x.sum.any (fun y=>decide (zI zK2 y.name=(b:Int))) || x.nd.any (fun y=>decide (y.kind=5)&&decide (zI zK2 y.name=(b:Int)))))
theorem YU(ha:a<8)(hb:b<8):∀G,G.length=64->gA (qK zK2 ls G) a b=(gA G a b || ls.any (zER zK2 a b)):=by
 induction ls with
 | nil=>intro G _;simp[qK]
 | cons x r ih =>
   intro G hl;rw[qK,cr];by_cases hk:x.kind=3
   ·have ex:zER zK2 a b x=(decide (zI zK2 x.conc=(a:Int))&&(x.sum.any (fun y=>decide (zI zK2 y.name=(b:Int))) || x.nd.any (fun y=>decide (y.kind=5)&&decide (zI zK2 y.name=(b:Int))))):=by
     unfold zER;rw[tu hk,mu]
    rw[tm hk,ih _ (by rw[F0,Q7,hl]),F1 _ _ _ ha hb _ (by rw[Q7,hl]),Ft _ _ _ ha hb _ hl,ex];generalize r.any (zER zK2 a b)=R;generalize x.sum.any (fun y=>decide (zI zK2 y.name=(b:Int)))=s;generalize x.nd.any (fun y=>decide (y.kind=5)&&decide (zI zK2 y.name=(b:Int)))=n;cases gA G a b <;> cases decide (zI zK2 x.conc=(a:Int)) <;> cases s <;> cases n <;> simp
   ·have ex:zER zK2 a b x=false:=by unfold zER;rw[tq hk];rfl
    rw[tb hk,ih _ hl,ex,lu]
def zEQ(labs:List Bs)(a b:Nat)(x:zE):Bool:=decide (x.kind=4)&&(decide (zI labs x.name=(a:Int))&&decide (zI labs x.lower=(b:Int)))
theorem YN(labs:List Bs)(ls:List zE)(ha:a<8)(hb:b<8):∀G,G.length=64->gA (uT labs ls G) a b=(gA G a b || ls.any (zEQ labs a b)):=by
 induction ls with
 | nil=>intro G _;simp[uT]
 | cons x r ih =>
   intro G hl;rw[uT,cr];by_cases hk:x.kind=4
   ·rw[tm hk,ih _ (by rw[mF,hl]),XI hl _ _ ha hb]
    unfold zEQ;rw[tu hk];cases gA G a b <;> cases decide (zI labs x.name=(a:Int)) <;> cases decide (zI labs x.lower=(b:Int)) <;> simp
   ·rw[tb hk,ih _ hl]
    have:zEQ labs a b x=false:=by unfold zEQ;rw[tq hk];rfl
    rw[this,lu]
theorem BE:gA gZ a b=false:=by
 unfold gA gZ;simp only[pe,cf];split <;> rfl
theorem zJQ{labs:List Bs}(hn:labs.Nodup)(x:zE):zEQ labs a b x=(decide (a<labs.length)&&(decide (b<labs.length)&&ovX (labs.getD a []) (labs.getD b []) x)):=by
 unfold zEQ ovX
 have e:∀(nm:Bs) (k:Nat),decide (zI labs nm=(k:Int))=(decide (k<labs.length)&&decide (nm=labs.getD k [])):=fun nm k=>by
  rw[dg,pj,bq,bq,bq,Xy hn];exact⟨fun h=>⟨h.1,h.2.symm⟩,fun h=>⟨h.1,h.2.symm⟩⟩
 rw[e,e];cases decide (x.kind=4) <;> cases decide (a<labs.length) <;> cases decide (b<labs.length) <;> simp
theorem qg:∀acc,(kZ ls acc).length=acc.length+xZ 3 ls/\(∀nm,nm∈kZ ls acc ↔ (nm∈acc\/uR ls 3 nm=true)):=by
 induction ls with
 | nil=>intro acc;exact⟨by simp[kZ,xZ],fun nm=>by simp[kZ,uR]⟩
 | cons x r ih =>
   intro acc;rw[kZ,xZ];by_cases hk:x.kind=3
   ·rw[tm hk,tm hk]
    obtain⟨h1,h2⟩:=ih (acc++[x.name]);refine⟨by rw[h1,tl,me];omega,fun nm=>?_⟩;rw[h2,pu,pw];unfold uR;rw[cr,lq];unfold Zb;rw[tu hk,mu,bq];constructor
    ·rintro((h|h)|h)
     ·exact .inl h
     ·exact .inr (.inl h.symm)
     ·exact .inr (.inr h)
    ·rintro(h|h|h)
     ·exact .inl (.inl h)
     ·exact .inl (.inr h.symm)
     ·exact .inr h
   ·rw[tb hk,tb hk]
    obtain⟨h1,h2⟩:=ih acc;refine⟨by omega,fun nm=>?_⟩;rw[h2];unfold uR;rw[cr];have:Zb 3 nm x=false:=by unfold Zb;rw[tq hk];rfl
    rw[this,lu]
theorem B2(h:∀i,i<ls.length->(lA ls i).kind=3->uR (ls.take i) 3 (lA ls i).name=false):(xW ls).Nodup:=by
 have key:∀n,n<=ls.length->(kZ (ls.take n) []).Nodup:=by
  intro n
  induction n with
  | zero=>intro _;simp[kZ]
  | succ n ih =>
    intro hn;rw[bJ ls n (by omega),FJ,kZ,kZ];split
    ·rename_i hk
     rw[List.nodup_append];refine⟨ih (by omega),by simp,fun a ha b hb=>?_⟩;rw[pw.1 hb];intro e;subst e;have:=((qg (ls.take n) []).2 (lA ls n).name).1 ha;rcases this with h1|h1
     ·simp at h1
     ·rw[h n (by omega) hk]at h1;exact absurd h1 (by decide)
    ·exact ih (by omega)
 have:=key ls.length (j1 _);rw[bt]at this;exact this
open Go.RowKit
def jW(w:World)(g:Nat)(l:List Bool):Prop:=w.heap[g]? = some (.cells (gC l) 4 (0,0))
theorem jW.cell(h:jW w g l){k:Nat}(hk:k<l.length):w.cell? ⟨g,k,none⟩=some (.bool (l.getD k false)):=by
 simp only[World.cell?,show w.heap[g]? = _ from h];exact Xu hk
theorem jW.free(h:jW w g l)(k:Nat):w.frozen? ⟨g,k,none⟩=false:=by simp[World.frozen?,show w.heap[g]? = _ from h]
theorem jW.lt(h:jW w g l):g<w.heap.size:=by
 rcases mc g w.heap.size with h1|h1
 ·exact h1
 ·have h2:w.heap[g]? = _:=h;rw[ma h1]at h2;cases h2
theorem jW.set(h:jW w g l)(k:Nat)(b:Bool):jW (w.setCell ⟨g,k,none⟩ (.bool b)) g (l.set k b):=by
 unfold jW at h ⊢;rw[setCell_eq_setRow w g k _ _ _ _ h,bi w g (gC l) _ _ _ h];congr 2
 simp[gC,List.map_set]
theorem cO:madeCells #[Value.bool false] n=gC (List.replicate n false):=by
 apply Array.ext
 ·simp[madeCells,gC]
 ·intro i h1 h2
  simp[madeCells,gC,Nat.mod_one]
theorem cT:(Tryz.prog.info? 4).map (fun i=>(i.zero,i.size,i.bytes))=some (some (.bool false),1,1):=by kernel_rfl
theorem jW.below{w':World}(h:jW w g l)(hb:Below w.heap.size w w'):jW w' g l:=by
 have hl:=h.lt;unfold jW at h ⊢;rw[hb.block g hl];exact h
theorem zHF{B:Nat}{lv:Value}{ls:List LX}(h:Ko w B lv ls)(hg:∀x∈ls,fX x.1)(hf:ls.length<=10000):∃a c,lv=.slice a ls.length c/\ls.length<=c/\jU w a ls:=by
 have hrows:∀x∈ls,ZN w x:=fun x hx=>by
  refine⟨XR.of_rows (h.2 x hx),hg x hx,?_⟩;rcases(h.2 x hx).2.2 with ⟨_,h2⟩|⟨_,cap,_,_,_,_,h4,h5,_,_⟩
  ·rw[h2];exact ty _
  ·exact p7 h4 h5
 rcases h.1.2 with ⟨h1,h2⟩|⟨gl,cap,yM,h1,_,h3,h4,_,_,h7⟩
 ·exact⟨none,0,by rw[h1,h2],by omega,⟨fun h0=>by omega,hrows,hf⟩⟩
 ·exact⟨_,cap,h1,h4,⟨fun _=>⟨gl,yM,rfl,h3,h7⟩,hrows,hf⟩⟩
theorem Bt{ls:List zE}:∀i,fM ls n i=none->∀j,i<=j->j<i+n->tJ ls j=false:=by
 induction n with
 | zero=>intro i _ j h1 h2;omega
 | succ n ih =>
   intro i h j h1 h2;rw[fM]at h;split at h
   ·cases h
   ·rename_i hm
    by_cases hj:j=i
    ·subst hj;simpa using hm
    ·exact ih (i+1) h j (by omega) (by omega)
theorem Gt{ls:List zE}:∀i,sL ls n i=none->∀j,i<=j->j<i+n->lB ls j=0:=by
 induction n with
 | zero=>intro i _ j h1 h2;omega
 | succ n ih =>
   intro i h j h1 h2;rw[sL]at h;split at h
   ·rename_i hm
    by_cases hj:j=i
    ·subst hj;exact hm
    ·exact ih (i+1) h j (by omega) (by omega)
   ·cases h
theorem VR(k:Int)(xs ys:List zE):xZ k (xs++ys)=xZ k xs+xZ k ys:=by
 induction xs with
 | nil=>simp[xZ]
 | cons x r ih=>rw[cd,xZ,ih,xZ];omega
theorem Gi{ls:List zE}(h:∀i,i<ls.length->tJ ls i=false):xZ 3 ls<=8:=by
 have key:∀n,n<=ls.length->xZ 3 (ls.take n)<=8:=by
  intro n
  induction n with
  | zero=>intro _;simp[xZ]
  | succ n ih =>
    intro hn;rw[bJ ls n (by omega),VR];have ih:=ih (by omega);by_cases hk:(lA ls n).kind=3
    ·have hm:=h n (by omega)
     unfold tJ at hm;rw[bp,db,hk]at hm;have hl:ZS 3=8:=by decide
     rw[hl]at hm;simp only[xZ,hk,f9];omega
    ·simp only[xZ,tb hk];omega
 have:=key ls.length (j1 _)
 rwa [bt]at this
end Go.Proofs.YtnbpdffdnphbeabGreatDoor
