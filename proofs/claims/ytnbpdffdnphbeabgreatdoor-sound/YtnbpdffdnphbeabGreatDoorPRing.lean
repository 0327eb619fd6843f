import Derived.Test.YtnbpdffdnphbeabGreatDoorCkErr2
namespace Go.Proofs.YtnbpdffdnphbeabGreatDoor
variable{b a:Nat}(zJP:List Bs)(ls:List zE)(f:Int)
theorem fJ(nm:Bs)(l:List Bs):∀i:Nat,vN nm l i<0 ↔ nm ∉ l:=by
 induction l with
 | nil=>intro i;simp[vN]
 | cons x r ih =>
   intro i;rw[vN];split
   ·rename_i h;subst h;simp
   ·rename_i h;rw[ih,pf,not_or];exact⟨fun h1=>⟨fun e=>h e.symm,h1⟩,fun h1=>h1.2⟩
theorem Gb(nm:Bs)(l:List Bs):l.Nodup->∀(i a:Nat),vN nm l i=((i+a:Nat):Int) ↔ a<l.length/\l.getD a []=nm:=by
 induction l with
 | nil=>intro _ i a;simp[vN];omega
 | cons x r ih =>
   intro hn i a;rw[List.nodup_cons]at hn;rw[vN];split
   ·rename_i h
    subst h
    cases a with
    | zero=>simp
    | succ a =>
      constructor
      ·intro h;omega
      ·rintro⟨h1,h2⟩
       exfalso
       apply hn.1
       rw[<-h2];have h3:a<r.length:=by simpa using h1
       have:(x::r).getD (a+1) []=r[a]:=by simp[List.getD,h3]
       rw[this];exact f9 h3
   ·rename_i h
    cases a with
    | zero =>
      constructor
      ·intro h1
       have:=Z8 nm r (i+1);exfalso
       have h2:0<=vN nm r (i+1):=by rw[h1];omega
       have h3:=ih hn.2 (i+1);obtain⟨b,hb⟩:=bt h2
       have hge:∀(l:List Bs) (j:Nat),0<=vN nm l j->(j:Int)<=vN nm l j:=by
        intro l
        induction l with
        | nil=>intro j hj;simp[vN]at hj
        | cons y s ihs=>intro j hj;rw[vN]at hj ⊢;split
                        ·omega
                        ·rename_i hy;rw[tj hy]at hj;have:=ihs (j+1) hj;omega
       have:=hge r (i+1) h2;omega
      ·rintro⟨_,h2⟩;exact absurd (by simpa using h2) h
    | succ a =>
      rw[show i+(a+1)=i+1+a by omega,ih hn.2 (i+1) a];simp
theorem FP:∀(acc:List Bs),acc.Nodup->(vO ls acc).Nodup/\(∀nm,nm∈vO ls acc ↔ (nm∈acc\/ls.any (Da nm)=true))/\(vO ls acc).length<=acc.length+vB 3 ls:=by
 induction ls with
 | nil=>intro acc h;exact⟨h,fun nm=>by simp[vO],by simp[vO,vB]⟩
 | cons x r ih =>
   intro acc h;rw[vO,vB];by_cases hk:x.kind=3
   ·rw[tr hk]
    by_cases hf:zJ acc x.conc<0
    ·rw[tr ⟨hk,hf⟩]
     have hnm:=(fJ x.conc acc 0).1 hf;obtain⟨h1,h2,h3⟩:=ih (acc++[x.conc]) (by rw[List.nodup_append];exact⟨h,by simp,fun a ha b hb=>by rw[pr.1 hb];exact fun e=>hnm (e ▸ ha)⟩);refine⟨h1,fun nm=>?_,by rw[tq,mh]at h3;omega⟩;rw[h2,cw,cr,ph,pr];unfold Da;rw[ty hk,ld,ct];constructor
     ·rintro((h|h)|h)
      ·exact .inl h
      ·exact .inr (.inl h.symm)
      ·exact .inr (.inr h)
     ·rintro(h|h|h)
      ·exact .inl (.inl h)
      ·exact .inl (.inr h.symm)
      ·exact .inr h
    ·rw[tj (fun h=>hf h.2)]
     have hnm:x.conc∈acc:=by
      rcases Classical.em (x.conc∈acc) with h1|h1
      ·exact h1
      ·exact absurd ((fJ x.conc acc 0).2 h1) hf
     obtain⟨h1,h2,h3⟩:=ih acc h;refine⟨h1,fun nm=>?_,by omega⟩;rw[h2,cw,cr];unfold Da;rw[ty hk,ld,ct];constructor
     ·rintro(h|h)
      ·exact .inl h
      ·exact .inr (.inr h)
     ·rintro(h|h|h)
      ·exact .inl h
      ·exact .inl (h ▸ hnm)
      ·exact .inr h
   ·rw[tj (fun h=>hk h.1),tj hk]
    obtain⟨h1,h2,h3⟩:=ih acc h;refine⟨h1,fun nm=>?_,by omega⟩;rw[h2,cw];unfold Da;rw[tu hk];simp
theorem Xi(xs ys:List zE):∀acc,vO (xs++ys) acc=vO ys (vO xs acc):=by
 induction xs with
 | nil=>intro acc;rfl
 | cons x r ih=>intro acc;rw[my,vO,ih,vO]
theorem fQ(i:Nat)(h:i<ls.length):ls.take (i+1)=ls.take i++[lA ls i]:=by
 rw[cy,pw h];simp[lA,List.getD,h]
theorem X5{G:List Bool}(hl:G.length=64)(f t:Int)(ha:a<8)(hb:b<8):gA (gO G f t) a b=(gA G a b || (decide (f=(a:Int))&&decide (t=(b:Int)))):=by
 unfold gO;by_cases h:(0<=f/\f<8)/\(0<=t/\t<8)
 ·rw[tr h,BE hl (by omega)]
  congr 1
  have e:decide (a*8+b=f.toNat*8+t.toNat)=(decide (f=(a:Int))&&decide (t=(b:Int))):=by
   rw[Bool.eq_iff_iff,mc,ct,ct,ct];omega
  exact e
 ·rw[tj h]
  have:(decide (f=(a:Int))&&decide (t=(b:Int)))=false:=by
   rw[f8,di,di];omega
  rw[this,Bool.or_false]
theorem Qw(S:List yQ):∀G,(mB zJP f S G).length=G.length:=by
 induction S with
 | nil=>intro G;rfl
 | cons x r ih=>intro G;rw[mB,ih,mN]
theorem Fv(N:List zN):∀G,(tP zJP f N G).length=G.length:=by
 induction N with
 | nil=>intro G;rfl
 | cons x r ih=>intro G;rw[tP,ih];split
                ·rw[mN]
                ·rfl
theorem Fk(S:List yQ)(ha:a<8)(hb:b<8):∀G,G.length=64->gA (mB zJP f S G) a b=(gA G a b || (decide (f=(a:Int))&&S.any (fun x=>decide (zJ zJP x.name=(b:Int))))):=by
 induction S with
 | nil=>intro G _;simp[mB]
 | cons x r ih =>
   intro G hl;rw[mB,ih _ (by rw[mN,hl]),X5 hl f _ ha hb,cw];cases gA G a b <;> cases decide (f=(a:Int)) <;> cases decide (zJ zJP x.name=(b:Int)) <;> simp
theorem Fw(N:List zN)(ha:a<8)(hb:b<8):∀G,G.length=64->gA (tP zJP f N G) a b=(gA G a b || (decide (f=(a:Int))&&N.any (fun x=>decide (x.kind=5)&&decide (zJ zJP x.name=(b:Int))))):=by
 induction N with
 | nil=>intro G _;simp[tP]
 | cons x r ih =>
   intro G hl;rw[tP];by_cases hk:x.kind=5
   ·rw[tr hk,ih _ (by rw[mN,hl]),X5 hl f _ ha hb,cw,ty hk]
    cases gA G a b <;> cases decide (f=(a:Int)) <;> cases decide (zJ zJP x.name=(b:Int)) <;> simp
   ·rw[tj hk,ih _ hl,cw,tu hk];simp
def zI7(zJP:List Bs)(a b:Nat)(x:zE):Bool:=decide (x.kind=3)&&(decide (zJ zJP x.conc=(a:Int))&&(x.sum.any (fun y=>decide (zJ zJP y.name=(b:Int))) || x.nd.any (fun y=>decide (y.kind=5)&&decide (zJ zJP y.name=(b:Int)))))
theorem ug(ha:a<8)(hb:b<8):∀G,G.length=64->gA (jB zJP ls G) a b=(gA G a b || ls.any (zI7 zJP a b)):=by
 induction ls with
 | nil=>intro G _;simp[jB]
 | cons x r ih =>
   intro G hl;rw[jB,cw];by_cases hk:x.kind=3
   ·have ex:zI7 zJP a b x=(decide (zJ zJP x.conc=(a:Int))&&(x.sum.any (fun y=>decide (zJ zJP y.name=(b:Int))) || x.nd.any (fun y=>decide (y.kind=5)&&decide (zJ zJP y.name=(b:Int))))):=by
     unfold zI7;rw[ty hk,ld]
    rw[tr hk,ih _ (by rw[Fv,Qw,hl]),Fw _ _ _ ha hb _ (by rw[Qw,hl]),Fk _ _ _ ha hb _ hl,ex];generalize r.any (zI7 zJP a b)=R;generalize x.sum.any (fun y=>decide (zJ zJP y.name=(b:Int)))=s;generalize x.nd.any (fun y=>decide (y.kind=5)&&decide (zJ zJP y.name=(b:Int)))=n;cases gA G a b <;> cases decide (zJ zJP x.conc=(a:Int)) <;> cases s <;> cases n <;> simp
   ·have ex:zI7 zJP a b x=false:=by unfold zI7;rw[tu hk];rfl
    rw[tj hk,ih _ hl,ex,ce]
def zI6(zK1:List Bs)(a b:Nat)(x:zE):Bool:=decide (x.kind=4)&&(decide (zJ zK1 x.name=(a:Int))&&decide (zJ zK1 x.lower=(b:Int)))
theorem KK(zK1:List Bs)(ls:List zE)(ha:a<8)(hb:b<8):∀G,G.length=64->gA (kE zK1 ls G) a b=(gA G a b || ls.any (zI6 zK1 a b)):=by
 induction ls with
 | nil=>intro G _;simp[kE]
 | cons x r ih =>
   intro G hl;rw[kE,cw];by_cases hk:x.kind=4
   ·rw[tr hk,ih _ (by rw[mN,hl]),X5 hl _ _ ha hb]
    unfold zI6;rw[ty hk];cases gA G a b <;> cases decide (zJ zK1 x.name=(a:Int)) <;> cases decide (zJ zK1 x.lower=(b:Int)) <;> simp
   ·rw[tj hk,ih _ hl]
    have:zI6 zK1 a b x=false:=by unfold zI6;rw[tu hk];rfl
    rw[this,ce]
end Go.Proofs.YtnbpdffdnphbeabGreatDoor
