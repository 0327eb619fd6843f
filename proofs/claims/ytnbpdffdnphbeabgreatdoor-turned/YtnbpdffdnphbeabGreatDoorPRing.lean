import Derived.Test.YtnbpdffdnphbeabGreatDoorCkErr2
import Derived.Deep.OwnRows
namespace Go.Proofs.YtnbpdffdnphbeabGreatDoor
variable{l:List Bool}{a b g:Nat}{w:World}(zLI:List Bs)(xs ls ys:List zE)(f:Int)
def ovX(x y:Bs)(l:zE):Bool:=decide (l.kind=4)&&(decide (l.name=x)&&decide (l.lower=y))
theorem gO(nm:Bs)(l:List Bs):∀i:Nat,qL nm l i<0 ↔ nm ∉ l:=by
 induction l with
 | nil=>intro i;simp[qL]
 | cons x r ih =>
   intro i;rw[qL];split
   ·rename_i h;subst h;simp
   ·rename_i h;rw[ih,l6,not_or];exact⟨fun h1=>⟨fun e=>h e.symm,h1⟩,fun h1=>h1.2⟩
theorem J2(nm:Bs)(l:List Bs):l.Nodup->∀(i a:Nat),qL nm l i=((i+a:Nat):Int) ↔ a<l.length/\l.getD a []=nm:=by
 induction l with
 | nil=>intro _ i a;simp[qL];omega
 | cons x r ih =>
   intro hn i a;rw[List.nodup_cons]at hn;rw[qL];split
   ·rename_i h
    subst h
    cases a with
    | zero=>simp
    | succ a =>
      constructor
      ·intro h;omega
      ·rintro⟨h1,h2⟩
       exfalso
       apply hn.1
       rw[<-h2];have h3:a<r.length:=by simpa using h1
       have:(x::r).getD (a+1) []=r[a]:=by simp[List.getD,h3]
       rw[this];exact fe h3
   ·rename_i h
    cases a with
    | zero =>
      constructor
      ·intro h1
       have:=rW nm r (i+1);exfalso
       have h2:0<=qL nm r (i+1):=by rw[h1];omega
       have h3:=ih hn.2 (i+1);obtain⟨b,hb⟩:=bt h2
       have hge:∀(l:List Bs) (j:Nat),0<=qL nm l j->(j:Int)<=qL nm l j:=by
        intro l
        induction l with
        | nil=>intro j hj;simp[qL]at hj
        | cons y s ihs=>intro j hj;rw[qL]at hj ⊢;split
                        ·omega
                        ·rename_i hy;rw[tb hy]at hj;have:=ihs (j+1) hj;omega
       have:=hge r (i+1) h2;omega
      ·rintro⟨_,h2⟩;exact absurd (by simpa using h2) h
    | succ a =>
      rw[show i+(a+1)=i+1+a by omega,ih hn.2 (i+1) a];simp
theorem XV{zLI:List Bs}(hn:zLI.Nodup)(nm:Bs)(a:Nat):zH zLI nm=(a:Int) ↔ a<zLI.length/\zLI.getD a []=nm:=by
 have:=J2 nm zLI hn 0 a
 rwa [cr]at this
theorem ZF:∀(acc:List Bs),acc.Nodup->(uQ ls acc).Nodup/\(∀nm,nm∈uQ ls acc ↔ (nm∈acc\/ls.any (DO nm)=true))/\(uQ ls acc).length<=acc.length+xT 3 ls:=by
 induction ls with
 | nil=>intro acc h;exact⟨h,fun nm=>by simp[uQ],by simp[uQ,xT]⟩
 | cons x r ih =>
   intro acc h;rw[uQ,xT];by_cases hk:x.kind=3
   ·rw[tl hk]
    by_cases hf:zH acc x.conc<0
    ·rw[tl ⟨hk,hf⟩]
     have hnm:=(gO x.conc acc 0).1 hf;obtain⟨h1,h2,h3⟩:=ih (acc++[x.conc]) (by rw[List.nodup_append];exact⟨h,by simp,fun a ha b hb=>by rw[pu.1 hb];exact fun e=>hnm (e ▸ ha)⟩);refine⟨h1,fun nm=>?_,by rw[tm,mj]at h3;omega⟩;rw[h2,cg,bg,pt,pu];unfold DO;rw[tr hk,my,bq];constructor
     ·rintro((h|h)|h)
      ·exact .inl h
      ·exact .inr (.inl h.symm)
      ·exact .inr (.inr h)
     ·rintro(h|h|h)
      ·exact .inl (.inl h)
      ·exact .inl (.inr h.symm)
      ·exact .inr h
    ·rw[tb (fun h=>hf h.2)]
     have hnm:x.conc∈acc:=by
      rcases Classical.em (x.conc∈acc) with h1|h1
      ·exact h1
      ·exact absurd ((gO x.conc acc 0).2 h1) hf
     obtain⟨h1,h2,h3⟩:=ih acc h;refine⟨h1,fun nm=>?_,by omega⟩;rw[h2,cg,bg];unfold DO;rw[tr hk,my,bq];constructor
     ·rintro(h|h)
      ·exact .inl h
      ·exact .inr (.inr h)
     ·rintro(h|h|h)
      ·exact .inl h
      ·exact .inl (h ▸ hnm)
      ·exact .inr h
   ·rw[tb (fun h=>hk h.1),tb hk]
    obtain⟨h1,h2,h3⟩:=ih acc h;refine⟨h1,fun nm=>?_,by omega⟩;rw[h2,cg];unfold DO;rw[tu hk];simp
theorem XL:∀acc,uQ (xs++ys) acc=uQ ys (uQ xs acc):=by
 induction xs with
 | nil=>intro acc;rfl
 | cons x r ih=>intro acc;rw[cd,uQ,ih,uQ]
theorem bN(i:Nat)(h:i<ls.length):ls.take (i+1)=ls.take i++[lA ls i]:=by
 rw[db,pb h];simp[lA,List.getD,h]
theorem GK:∀acc,jD (xs++ys) acc=jD ys (jD xs acc):=by
 induction xs with
 | nil=>intro acc;rfl
 | cons x r ih=>intro acc;rw[cd,jD,ih,jD]
theorem Qn{G:List Bool}(hl:G.length=64)(f t:Int)(ha:a<8)(hb:b<8):gA (oB G f t) a b=(gA G a b || (decide (f=(a:Int))&&decide (t=(b:Int)))):=by
 unfold oB;by_cases h:(0<=f/\f<8)/\(0<=t/\t<8)
 ·rw[tl h,Cx hl (by omega)]
  congr 1
  have e:decide (a*8+b=f.toNat*8+t.toNat)=(decide (f=(a:Int))&&decide (t=(b:Int))):=by
   rw[ct,pe,bq,bq,bq];omega
  exact e
 ·rw[tb h]
  have:(decide (f=(a:Int))&&decide (t=(b:Int)))=false:=by
   rw[fa,dk,dk];omega
  rw[this,Bool.or_false]
theorem Jf(S:List xI):∀G,(lR zLI f S G).length=G.length:=by
 induction S with
 | nil=>intro G;rfl
 | cons x r ih=>intro G;rw[lR,ih,mI]
theorem G2(N:List zR):∀G,(pK zLI f N G).length=G.length:=by
 induction N with
 | nil=>intro G;rfl
 | cons x r ih=>intro G;rw[pK,ih];split
                ·rw[mI]
                ·rfl
theorem Gw(S:List xI)(ha:a<8)(hb:b<8):∀G,G.length=64->gA (lR zLI f S G) a b=(gA G a b || (decide (f=(a:Int))&&S.any (fun x=>decide (zH zLI x.name=(b:Int))))):=by
 induction S with
 | nil=>intro G _;simp[lR]
 | cons x r ih =>
   intro G hl;rw[lR,ih _ (by rw[mI,hl]),Qn hl f _ ha hb,cg];cases gA G a b <;> cases decide (f=(a:Int)) <;> cases decide (zH zLI x.name=(b:Int)) <;> simp
theorem G3(N:List zR)(ha:a<8)(hb:b<8):∀G,G.length=64->gA (pK zLI f N G) a b=(gA G a b || (decide (f=(a:Int))&&N.any (fun x=>decide (x.kind=5)&&decide (zH zLI x.name=(b:Int))))):=by
 induction N with
 | nil=>intro G _;simp[pK]
 | cons x r ih =>
   intro G hl;rw[pK];by_cases hk:x.kind=5
   ·rw[tl hk,ih _ (by rw[mI,hl]),Qn hl f _ ha hb,cg,tr hk]
    cases gA G a b <;> cases decide (f=(a:Int)) <;> cases decide (zH zLI x.name=(b:Int)) <;> simp
   ·rw[tb hk,ih _ hl,cg,tu hk];simp
def zGA(zLI:List Bs)(a b:Nat)(x:zE):Bool:=decide (x.kind=3)&&(decide (zH zLI x.conc=(a:Int))&&(x.sum.any (fun y=>decide (zH zLI y.name=(b:Int))) || x.nd.any (fun y=>decide (y.kind=5)&&decide (zH zLI y.name=(b:Int)))))
theorem Xx(ha:a<8)(hb:b<8):∀G,G.length=64->gA (qN zLI ls G) a b=(gA G a b || ls.any (zGA zLI a b)):=by
 induction ls with
 | nil=>intro G _;simp[qN]
 | cons x r ih =>
   intro G hl;rw[qN,cg];by_cases hk:x.kind=3
   ·have ex:zGA zLI a b x=(decide (zH zLI x.conc=(a:Int))&&(x.sum.any (fun y=>decide (zH zLI y.name=(b:Int))) || x.nd.any (fun y=>decide (y.kind=5)&&decide (zH zLI y.name=(b:Int))))):=by
     unfold zGA;rw[tr hk,my]
    rw[tl hk,ih _ (by rw[G2,Jf,hl]),G3 _ _ _ ha hb _ (by rw[Jf,hl]),Gw _ _ _ ha hb _ hl,ex];generalize r.any (zGA zLI a b)=R;generalize x.sum.any (fun y=>decide (zH zLI y.name=(b:Int)))=s;generalize x.nd.any (fun y=>decide (y.kind=5)&&decide (zH zLI y.name=(b:Int)))=n;cases gA G a b <;> cases decide (zH zLI x.conc=(a:Int)) <;> cases s <;> cases n <;> simp
   ·have ex:zGA zLI a b x=false:=by unfold zGA;rw[tu hk];rfl
    rw[tb hk,ih _ hl,ex,lu]
def zD2(labs:List Bs)(a b:Nat)(x:zE):Bool:=decide (x.kind=4)&&(decide (zH labs x.name=(a:Int))&&decide (zH labs x.lower=(b:Int)))
theorem wG(labs:List Bs)(ls:List zE)(ha:a<8)(hb:b<8):∀G,G.length=64->gA (uE labs ls G) a b=(gA G a b || ls.any (zD2 labs a b)):=by
 induction ls with
 | nil=>intro G _;simp[uE]
 | cons x r ih =>
   intro G hl;rw[uE,cg];by_cases hk:x.kind=4
   ·rw[tl hk,ih _ (by rw[mI,hl]),Qn hl _ _ ha hb]
    unfold zD2;rw[tr hk];cases gA G a b <;> cases decide (zH labs x.name=(a:Int)) <;> cases decide (zH labs x.lower=(b:Int)) <;> simp
   ·rw[tb hk,ih _ hl]
    have:zD2 labs a b x=false:=by unfold zD2;rw[tu hk];rfl
    rw[this,lu]
theorem Ct:gA gZ a b=false:=by
 unfold gA gZ;simp only[p8,co];split <;> rfl
theorem zL5{labs:List Bs}(hn:labs.Nodup)(x:zE):zD2 labs a b x=(decide (a<labs.length)&&(decide (b<labs.length)&&ovX (labs.getD a []) (labs.getD b []) x)):=by
 unfold zD2 ovX
 have e:∀(nm:Bs) (k:Nat),decide (zH labs nm=(k:Int))=(decide (k<labs.length)&&decide (nm=labs.getD k [])):=fun nm k=>by
  rw[ct,pe,bq,bq,bq,XV hn];exact⟨fun h=>⟨h.1,h.2.symm⟩,fun h=>⟨h.1,h.2.symm⟩⟩
 rw[e,e];cases decide (x.kind=4) <;> cases decide (a<labs.length) <;> cases decide (b<labs.length) <;> simp
theorem zA9:∀acc,(jD ls acc).length=acc.length+xT 3 ls/\(∀nm,nm∈jD ls acc ↔ (nm∈acc\/vQ ls 3 nm=true)):=by
 induction ls with
 | nil=>intro acc;exact⟨by simp[jD,xT],fun nm=>by simp[jD,vQ]⟩
 | cons x r ih =>
   intro acc;rw[jD,xT];by_cases hk:x.kind=3
   ·rw[tl hk,tl hk]
    obtain⟨h1,h2⟩:=ih (acc++[x.name]);refine⟨by rw[h1,tm,mj];omega,fun nm=>?_⟩;rw[h2,pt,pu];unfold vQ;rw[cg,bg];unfold iP;rw[tr hk,my,bq];constructor
    ·rintro((h|h)|h)
     ·exact .inl h
     ·exact .inr (.inl h.symm)
     ·exact .inr (.inr h)
    ·rintro(h|h|h)
     ·exact .inl (.inl h)
     ·exact .inl (.inr h.symm)
     ·exact .inr h
   ·rw[tb hk,tb hk]
    obtain⟨h1,h2⟩:=ih acc;refine⟨by omega,fun nm=>?_⟩;rw[h2];unfold vQ;rw[cg];have:iP 3 nm x=false:=by unfold iP;rw[tu hk];rfl
    rw[this,lu]
theorem Cg(h:∀i,i<ls.length->(lA ls i).kind=3->vQ (ls.take i) 3 (lA ls i).name=false):(yW ls).Nodup:=by
 have key:∀n,n<=ls.length->(jD (ls.take n) []).Nodup:=by
  intro n
  induction n with
  | zero=>intro _;simp[jD]
  | succ n ih =>
    intro hn;rw[bN ls n (by omega),GK,jD,jD];split
    ·rename_i hk
     rw[List.nodup_append];refine⟨ih (by omega),by simp,fun a ha b hb=>?_⟩;rw[pu.1 hb];intro e;subst e;have:=((zA9 (ls.take n) []).2 (lA ls n).name).1 ha;rcases this with h1|h1
     ·simp at h1
     ·rw[h n (by omega) hk]at h1;exact absurd h1 (by decide)
    ·exact ih (by omega)
 have:=key ls.length (j1 _);rw[ce]at this;exact this
open Go.RowKit
def tE(w:World)(g:Nat)(l:List Bool):Prop:=w.heap[g]? = some (.cells (gC l) 4 (0,0))
theorem tE.cell(h:tE w g l){k:Nat}(hk:k<l.length):w.cell? ⟨g,k,none⟩=some (.bool (l.getD k false)):=by
 simp only[World.cell?,show w.heap[g]? = _ from h];exact Cw hk
theorem tE.free(h:tE w g l)(k:Nat):w.frozen? ⟨g,k,none⟩=false:=by simp[World.frozen?,show w.heap[g]? = _ from h]
theorem tE.lt(h:tE w g l):g<w.heap.size:=by
 rcases me g w.heap.size with h1|h1
 ·exact h1
 ·have h2:w.heap[g]? = _:=h;rw[md h1]at h2;cases h2
theorem tE.set(h:tE w g l)(k:Nat)(b:Bool):tE (w.setCell ⟨g,k,none⟩ (.bool b)) g (l.set k b):=by
 unfold tE at h ⊢;rw[setCell_eq_setRow w g k _ _ _ _ h,cf w g (gC l) _ _ _ h];congr 2
 simp[gC,List.map_set]
theorem cS(n:Nat):madeCells #[Value.bool false] n=gC (List.replicate n false):=by
 apply Array.ext
 ·simp[madeCells,gC]
 ·intro i h1 h2
  simp[madeCells,gC,Nat.mod_one]
theorem cZ:(Tryz.prog.info? 4).map (fun i=>(i.zero,i.size,i.bytes))=some (some (.bool false),1,1):=by kernel_rfl
theorem tE.below{w':World}(h:tE w g l)(hb:Below w.heap.size w w'):tE w' g l:=by
 have hl:=h.lt;unfold tE at h ⊢;rw[hb.block g hl];exact h
theorem zJ1{B:Nat}{lv:Value}{ls:List LX}(h:KJ w B lv ls)(hg:∀x∈ls,gQ x.1)(hf:ls.length<=10000):∃a c,lv=.slice a ls.length c/\ls.length<=c/\tC w a ls:=by
 have hrows:∀x∈ls,Yt w x:=fun x hx=>by
  refine⟨Qw.of_rows (h.2 x hx),hg x hx,?_⟩;rcases(h.2 x hx).2.2 with ⟨_,h2⟩|⟨_,cap,_,_,_,_,h4,h5,_,_⟩
  ·rw[h2];exact tx _
  ·exact ty h4 h5
 rcases h.1.2 with ⟨h1,h2⟩|⟨gl,cap,yL,h1,_,h3,h4,_,_,h7⟩
 ·exact⟨none,0,by rw[h1,h2],by omega,⟨fun h0=>by omega,hrows,hf⟩⟩
 ·exact⟨_,cap,h1,h4,⟨fun _=>⟨gl,yL,rfl,h3,h7⟩,hrows,hf⟩⟩
theorem BY{ls:List zE}(n:Nat):∀i,fX ls n i=none->∀j,i<=j->j<i+n->jL ls j=false:=by
 induction n with
 | zero=>intro i _ j h1 h2;omega
 | succ n ih =>
   intro i h j h1 h2;rw[fX]at h;split at h
   ·cases h
   ·rename_i hm
    by_cases hj:j=i
    ·subst hj;simpa using hm
    ·exact ih (i+1) h j (by omega) (by omega)
theorem yi{ls:List zE}(n:Nat):∀i,aL ls n i=none->∀j,i<=j->j<i+n->jQ ls j=0:=by
 induction n with
 | zero=>intro i _ j h1 h2;omega
 | succ n ih =>
   intro i h j h1 h2;rw[aL]at h;split at h
   ·rename_i hm
    by_cases hj:j=i
    ·subst hj;exact hm
    ·exact ih (i+1) h j (by omega) (by omega)
   ·cases h
theorem Uu(k:Int)(xs ys:List zE):xT k (xs++ys)=xT k xs+xT k ys:=by
 induction xs with
 | nil=>simp[xT]
 | cons x r ih=>rw[cd,xT,ih,xT];omega
theorem zu{ls:List zE}(h:∀i,i<ls.length->jL ls i=false):xT 3 ls<=8:=by
 have key:∀n,n<=ls.length->xT 3 (ls.take n)<=8:=by
  intro n
  induction n with
  | zero=>intro _;simp[xT]
  | succ n ih =>
    intro hn;rw[bN ls n (by omega),Uu];have ih:=ih (by omega);by_cases hk:(lA ls n).kind=3
    ·have hm:=h n (by omega)
     unfold jL at hm;rw[bh,dk,hk]at hm;have hl:Yy 3=8:=by decide
     rw[hl]at hm;simp only[xT,hk,dw];omega
    ·simp only[xT,tb hk];omega
 have:=key ls.length (j1 _)
 rwa [ce]at this
end Go.Proofs.YtnbpdffdnphbeabGreatDoor
