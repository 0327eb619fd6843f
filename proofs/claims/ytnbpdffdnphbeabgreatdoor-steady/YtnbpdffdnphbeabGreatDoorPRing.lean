import Derived.Test.YtnbpdffdnphbeabGreatDoorCkErr2
import Derived.Deep.OwnRows
open Go.Proofs.Tryz
set_option maxHeartbeats 1000000
namespace Go.Proofs.YtnbpdffdnphbeabGreatDoor
variable{l:List Bool}{a b g:Nat}{w:World}(aA:List Bs)(n:Nat)(nm:Bs)(ls:List zE)(f:Int)
def HJ(x y:Bs)(l:zE):Bool:=decide (l.kind=4)&&(decide (l.name=x)&&decide (l.lower=y))
theorem nW(l:List Bs):∀i:Nat,kJ nm l i<0 ↔ nm ∉ l:=by
 induction l with
 | nil=>intro i;simp[kJ]
 | cons x r ih =>
   intro i;rw[kJ];split
   ·rename_i h;subst h;simp
   ·rename_i h;rw[ih,pi,not_or];exact⟨λh1=>⟨λe=>h e.symm,h1⟩,λh1=>h1.2⟩
theorem Km(l:List Bs):l.Nodup->∀(i a:Nat),kJ nm l i=((i+a:Nat):Int) ↔ a<l.length/\l.getD a []=nm:=by
 induction l with
 | nil=>intro _ i a;simp[kJ];omega
 | cons x r ih =>
   intro hn i a;rw[List.nodup_cons]at hn;rw[kJ];split
   ·rename_i h
    subst h
    cases a with
    | zero=>simp
    | succ a =>
      constructor
      ·intro h;omega
      ·rintro⟨h1,h2⟩
       exfalso
       apply hn.1
       rw[<-h2];have h3:a<r.length:=by simpa using h1
       have:(x::r).getD (a+1) []=r[a]:=by simp[List.getD,h3]
       rw[this];exact dq h3
   ·rename_i h
    cases a with
    | zero =>
      constructor
      ·intro h1
       have:=YQ nm r (i+1);exfalso
       have h2:0<=kJ nm r (i+1):=(by rw[h1];omega);have h3:=ih hn.2 (i+1);obtain⟨b,hb⟩:=mz h2
       have aS:∀(l:List Bs) (j:Nat),0<=kJ nm l j->(j:Int)<=kJ nm l j:=by
        intro l
        induction l with
        | nil=>intro j hj;simp[kJ]at hj
        | cons y s aP=>intro j hj;rw[kJ]at hj ⊢;split
                       ·omega
                       ·rename_i hy;rw[tj hy]at hj;have:=aP (j+1) hj;omega
       have:=aS r (i+1) h2;omega
      ·rintro⟨_,h2⟩;exact x' (by simpa using h2) h
    | succ a =>
      rw[show i+(a+1)=i+1+a by omega,ih hn.2 (i+1) a];simp
theorem QC{aA:List Bs}(hn:aA.Nodup)(nm:Bs)(a:Nat):zQ aA nm=(a:Int) ↔ a<aA.length/\aA.getD a []=nm:=by
 have:=Km nm aA hn 0 a
 rwa [cw]at this
theorem Kd:∀(acc:List Bs),acc.Nodup->(uY ls acc).Nodup/\(∀nm,nm∈uY ls acc ↔ (nm∈acc\/ls.any (Gm nm)=true))/\(uY ls acc).length<=acc.length+vS 3 ls:=by
 induction ls with
 | nil=>intro acc h;exact⟨h,λnm=>by simp[uY],by simp[uY,vS]⟩
 | cons x r ih =>
   intro acc h;rw[uY,vS];by_cases hk:x.kind=3
   ·rw[tr hk]
    by_cases hf:zQ acc x.ae<0
    ·rw[tr ⟨hk,hf⟩]
     have aD:=(nW x.ae acc 0).1 hf;obtain⟨h1,h2,h3⟩:=ih (acc++[x.ae]) (by rw[List.nodup_append];exact⟨h,by simp,λa ha b hb=>by rw[pr.1 hb];exact λe=>aD (e ▸ ha)⟩);refine⟨h1,λnm=>?_,by rw[tm,pu]at h3;omega⟩;rw[h2,fe,ce,pj,pr];unfold Gm;rw[tz hk,bm,cd];constructor
     ·rintro((h|h)|h)
      ·exact .inl h
      ·exact .inr (.inl h.symm)
      ·exact .inr (.inr h)
     ·rintro(h|h|h)
      ·exact .inl (.inl h)
      ·exact .inl (.inr h.symm)
      ·exact .inr h
    ·rw[tj (λh=>hf h.2)]
     have aD:x.ae∈acc:=by
      rcases Classical.em (x.ae∈acc) with h1|h1
      ·exact h1
      ·exact x' ((nW x.ae acc 0).2 h1) hf
     obtain⟨h1,h2,h3⟩:=ih acc h;refine⟨h1,λnm=>?_,by omega⟩;rw[h2,fe,ce];unfold Gm;rw[tz hk,bm,cd];constructor
     ·rintro(h|h)
      ·exact .inl h
      ·exact .inr (.inr h)
     ·rintro(h|h|h)
      ·exact .inl h
      ·exact .inl (h ▸ aD)
      ·exact .inr h
   ·rw[tj (λh=>hk h.1),tj hk]
    obtain⟨h1,h2,h3⟩:=ih acc h;refine⟨h1,λnm=>?_,by omega⟩;rw[h2,fe];unfold Gm;rw[ty hk];simp
theorem Q5(xs ys:List zE):∀acc,uY (xs++ys) acc=uY ys (uY xs acc):=by
 induction xs with
 | nil=>intro acc;rfl
 | cons x r ih=>intro acc;rw[li,uY,ih,uY]
theorem oF(i:Nat)(h:i<ls.length):ls.take (i+1)=ls.take i++[lA ls i]:=by
 rw[dc,pm h];simp[lA,List.getD,h]
theorem QV{G:List Bool}(hl:G.length=64)(f t:Int)(ha:a<8)(hb:b<8):gA (oV G f t) a b=(gA G a b || (decide (f=(a:Int))&&decide (t=(b:Int)))):=by
 unfold oV;by_cases h:(0<=f/\f<8)/\(0<=t/\t<8)
 ·rw[tr h,DE hl]
  congr 1
  have e:decide (a*8+b=f.toNat*8+t.toNat)=(decide (f=(a:Int))&&decide (t=(b:Int))):=by
   rw[Bool.eq_iff_iff,ma,cd,cd,cd];omega
  exact e
 ·rw[tj h]
  have:(decide (f=(a:Int))&&decide (t=(b:Int)))=false:=by
   rw[fd,dk,dk];omega
  rw[this,Bool.or_false]
theorem JT(S:List yT):∀G,(bV aA f S G).length=G.length:=by
 induction S with
 | nil=>intro G;rfl
 | cons x r ih=>intro G;rw[bV,ih,lL]
theorem xx(N:List zJ):∀G,(mN aA f N G).length=G.length:=by
 induction N with
 | nil=>intro G;rfl
 | cons x r ih=>intro G;rw[mN,ih];split
                ·rw[lL]
                ·rfl
theorem x7(S:List yT)(ha:a<8)(hb:b<8):∀G,G.length=64->gA (bV aA f S G) a b=(gA G a b || (decide (f=(a:Int))&&S.any (λx=>decide (zQ aA x.name=(b:Int))))):=by
 induction S with
 | nil=>intro G _;simp[bV]
 | cons x r ih =>
   intro G hl;rw[bV,ih _ (by rw[lL,hl]),QV hl f _ ha hb,fe];cases gA G a b <;> cases decide (f=(a:Int)) <;> cases decide (zQ aA x.name=(b:Int)) <;> simp
theorem xy(N:List zJ)(ha:a<8)(hb:b<8):∀G,G.length=64->gA (mN aA f N G) a b=(gA G a b || (decide (f=(a:Int))&&N.any (λx=>decide (x.kind=5)&&decide (zQ aA x.name=(b:Int))))):=by
 induction N with
 | nil=>intro G _;simp[mN]
 | cons x r ih =>
   intro G hl;rw[mN];by_cases hk:x.kind=5
   ·rw[tr hk,ih _ (by rw[lL,hl]),QV hl f _ ha hb,fe,tz hk]
    cases gA G a b <;> cases decide (f=(a:Int)) <;> cases decide (zQ aA x.name=(b:Int)) <;> simp
   ·rw[tj hk,ih _ hl,fe,ty hk];simp
def wg(aA:List Bs)(a b:Nat)(x:zE):Bool:=decide (x.kind=3)&&(decide (zQ aA x.ae=(a:Int))&&(x.sum.any (λy=>decide (zQ aA y.name=(b:Int))) || x.nd.any (λy=>decide (y.kind=5)&&decide (zQ aA y.name=(b:Int)))))
theorem U4(ha:a<8)(hb:b<8):∀G,G.length=64->gA (kW aA ls G) a b=(gA G a b || ls.any (wg aA a b)):=by
 induction ls with
 | nil=>intro G _;simp[kW]
 | cons x r ih =>
   intro G hl;rw[kW,fe];by_cases hk:x.kind=3
   ·have ex:wg aA a b x=(decide (zQ aA x.ae=(a:Int))&&(x.sum.any (λy=>decide (zQ aA y.name=(b:Int))) || x.nd.any (λy=>decide (y.kind=5)&&decide (zQ aA y.name=(b:Int))))):=by
     unfold wg;rw[tz hk,bm]
    rw[tr hk,ih _ (by rw[xx,JT,hl]),xy _ _ _ ha hb _ (by rw[JT,hl]),x7 _ _ _ ha hb _ hl,ex];generalize r.any (wg aA a b)=R;generalize x.sum.any (λy=>decide (zQ aA y.name=(b:Int)))=s;generalize x.nd.any (λy=>decide (y.kind=5)&&decide (zQ aA y.name=(b:Int)))=n;cases gA G a b <;> cases decide (zQ aA x.ae=(a:Int)) <;> cases s <;> cases n <;> simp
   ·have ex:wg aA a b x=false:=by unfold wg;rw[ty hk];rfl
    rw[tj hk,ih _ hl,ex,bt]
def se(ag:List Bs)(a b:Nat)(x:zE):Bool:=decide (x.kind=4)&&(decide (zQ ag x.name=(a:Int))&&decide (zQ ag x.lower=(b:Int)))
theorem XZ(ag:List Bs)(ls:List zE)(ha:a<8)(hb:b<8):∀G,G.length=64->gA (qN ag ls G) a b=(gA G a b || ls.any (se ag a b)):=by
 induction ls with
 | nil=>intro G _;simp[qN]
 | cons x r ih =>
   intro G hl;rw[qN,fe];by_cases hk:x.kind=4
   ·rw[tr hk,ih _ (by rw[lL,hl]),QV hl _ _ ha hb]
    unfold se;rw[tz hk];cases gA G a b <;> cases decide (zQ ag x.name=(a:Int)) <;> cases decide (zQ ag x.lower=(b:Int)) <;> simp
   ·rw[tj hk,ih _ hl]
    have:se ag a b x=false:=by unfold se;rw[ty hk];rfl
    rw[this,bt]
theorem Ih:gA gZ a b=false:=by
 unfold gA gZ;simp only[mq,cy];split <;> rfl
theorem LR{ag:List Bs}(hn:ag.Nodup)(x:zE):se ag a b x=(decide (a<ag.length)&&(decide (b<ag.length)&&HJ (ag.getD a []) (ag.getD b []) x)):=by
 unfold se HJ
 have e:∀(nm:Bs) (k:Nat),decide (zQ ag nm=(k:Int))=(decide (k<ag.length)&&decide (nm=ag.getD k [])):=λnm k=>by
  rw[Bool.eq_iff_iff,ma,cd,cd,cd,QC hn];exact⟨λh=>⟨h.1,h.2.symm⟩,λh=>⟨h.1,h.2.symm⟩⟩
 rw[e,e];cases decide (x.kind=4) <;> cases decide (a<ag.length) <;> cases decide (b<ag.length) <;> simp
open Go.RowKit
def lQ(w:World)(g:Nat)(l:List Bool):Prop:=w.heap[g]? = some (.cells (gC l) 4 (0,0))
theorem lQ.cell(h:lQ w g l){k:Nat}(hk:k<l.length):w.cell? ⟨g,k,none⟩=some (.bool (l.getD k false)):=by
 simp only[World.cell?,show w.heap[g]? = _ from h];exact Q9 hk
theorem lQ.free(h:lQ w g l)(k:Nat):w.frozen? ⟨g,k,none⟩=false:=by simp[World.frozen?,show w.heap[g]? = _ from h]
theorem lQ.lt(h:lQ w g l):g<w.heap.size:=by
 rcases mc g w.heap.size with h1|h1
 ·exact h1
 ·have h2:w.heap[g]? = _:=h;rw[pw h1]at h2;cases h2
theorem lQ.set(h:lQ w g l)(k:Nat)(b:Bool):lQ (w.setCell ⟨g,k,none⟩ (.bool b)) g (l.set k b):=by
 unfold lQ at h ⊢;rw[setCell_eq_setRow w g k _ _ _ _ h,l9 w g (gC l) _ h];congr 2
 simp[gC,List.map_set]
theorem Qk:madeCells #[Value.bool false] n=gC (List.replicate n false):=by
 apply Array.ext
 ·simp[madeCells,gC]
 ·intro i h1 h2
  simp[madeCells,gC,Nat.mod_one]
theorem UT:(prog.info? 4).map (λi=>(i.zero,i.size,i.bytes))=some (some (.bool false),1,1):=by kernel_rfl
theorem lQ.below{w':World}(h:lQ w g l)(hb:Below w.heap.size w w'):lQ w' g l:=by
 have hl:=h.lt;unfold lQ at h ⊢;rw[hb.block g hl];exact h
def rO(l:Bs):Int × Int:=if 4000<l.length then (1,0) else match (yZ l).2.2 with|true=>(2,((yB (rB l) (yZ l).2.1).p:Int))|false=>uE (yZ l).1
theorem Dz{B:Nat}{lv:Value}{ls:List LX}(h:wV w B lv ls)(hg:∀x∈ls,bG x.1)(hf:ls.length<=10000):∃a c,lv=.slice a ls.length c/\ls.length<=c/\tT w a ls:=by
 have hrows:∀x∈ls,YY w x:=λx hx=>by
  refine⟨cR.iu (h.2 x hx),hg x hx,?_⟩;rcases(h.2 x hx).2.2 with ⟨_,h2⟩|⟨_,cap,_,_,_,_,h4,h5,_,_⟩
  ·rw[h2];exact p8
  ·exact tu h4 h5
 rcases h.1.2 with ⟨h1,h2⟩|⟨gl,cap,yB,h1,_,h3,h4,_,_,h7⟩
 ·exact⟨none,0,by rw[h1,h2],by omega,⟨λh0=>by omega,hrows,hf⟩⟩
 ·exact⟨_,cap,h1,h4,⟨λ_=>⟨gl,yB,rfl,h3,h7⟩,hrows,hf⟩⟩
theorem YW(l:Bs)(w:World)(k:Int)(hk:k=1\/k=2)(p:Int)(hR:Calls prog 55 #[.string ⟨l.toArray⟩] w λe w'=>e=.returned (jE (.slice none 0 0) k p)/\Below w.heap.size w w') :
 Calls prog 37 #[.string ⟨l.toArray⟩] w λe w'=>e=.returned (.tuple #[.int .i64 k,.int .i64 p])/\Below w.heap.size w w':=by
 have HR:=zA hR;have e1:(k != 0)=true:=by rcases hk with rfl|rfl <;> rfl
 clear hR hk
 go_enter func37,ntmps37
 go_wp2_with fail
 refine HR.out.mono ?_;rintro e w1 ⟨rfl,hb⟩;have HB:=zA hb;have hs:=hb.size;clear hb HR;unfold jE;go_wp2_with fail
 go_quiet (fail)
 go_wp2_with fail
 go_ret2
 exact⟨rfl,xQ (HB.out.alloc hs _) _⟩
theorem BJ(l:Bs)(w:World)(aO:l.length<=maxLen)(hg:l.length<=4000->(yZ l).2.2=false->∀x∈(yZ l).1,bG x)(hm:l.length<=4000->(yZ l).1.length<=10000) :
 Calls prog 37 #[.string ⟨l.toArray⟩] w λe w'=>e=.returned (.tuple #[.int .i64 (rO l).1,.int .i64 (rO l).2])/\Below w.heap.size w w':=by
 by_cases hl:4000<l.length
 ·have e:rO l=(1,0):=by unfold rO;rw[tr hl]
  rw[e];exact YW l w 1 (.inl rfl) 0 (bT l w aO hl)
 ·have hR:=lR l w (by omega)
  have hg:=hg (by omega);have hm:=hm (by omega);cases hf:(yZ l).2.2
  ·have e:rO l=uE (yZ l).1:=by unfold rO;rw[tj hl,hf]
   rw[e];have hg:=hg hf;have HR:=zA hR
   have aJ:Hid (∀w' e,lP w w' l e->∃lv ls,e=.returned (jE lv 0 0)/\ls.map Prod.fst=(yZ l).1/\wV w' w.heap.size lv ls):=by
    intro w' e h;unfold lP at h;rw[hf]at h;exact h
   generalize (yZ l).1=F at *;have HG:=zA hg;have aK:=zA hm;clear hR hg hm hf e;generalize aH:uE F=ck at *;have aM:=zA aH;clear aH;obtain⟨aV,aU⟩:=ck
   go_enter func37,ntmps37
   go_wp2_with fail
   refine HR.out.mono ?_;rintro e w1 ⟨aF,hb⟩;obtain⟨lv,ls,rfl,aC,aB⟩:=aJ.out _ _ aF;have HB:=zA hb;have hs:=hb.size;have aT:ls.length<=10000:=by have h9:=gk List.length aC;rw[pt]at h9;rw[h9];exact aK.out
   obtain⟨la,lc,rfl,aR,aG⟩:=Dz aB (λx hx=>HG.out _ (by rw[<-aC];exact pd.2 ⟨x,hx,rfl⟩)) aT
   have aL:Hid (∀o,Calls prog 56 #[.slice la ls.length lc] (w1.alloc o) λe w'=>e=.returned (cO (aV,aU))/\Below (w1.alloc o).heap.size (w1.alloc o) w'):=λo=>by
    have:=VG (w1.alloc o) la lc ls aR (aG.below (fk (tg _) o) (tg _));rw[show fs ls=F from aC,aM.out]at this;exact this
   clear hb aF aB aG aC HR aJ HG aK aM;unfold jE;go_wp2_with fail
   refine(aL.out _).mono ?_;rintro e w2 ⟨rfl,aI⟩;have aN:Hid (Below w.heap.size w w2):=(HB.out.alloc hs _).trans (aI.mono (by simp;omega));have aQ:=aN.out.size;clear aI aL;unfold cO;go_wp2_with fail
   go_quiet (fail)
   go_wp2_with fail
   go_ret2
   exact⟨rfl,xQ (aN.out.alloc aQ _) _⟩
  ·have e:rO l=(2,((yB (rB l) (yZ l).2.1).p:Int)):=by unfold rO;rw[tj hl,hf]
   rw[e];refine YW l w 2 (.inr rfl) _ (hR.mono ?_);rintro e w' ⟨h1,h2⟩;unfold lP at h1;rw[hf]at h1;exact⟨h1,h2⟩
theorem Ds{ls:List zE}:∀i,nK ls n i=none->∀j,i<=j->j<i+n->mA ls j=false:=by
 induction n with
 | zero=>intro i _ j h1 h2;omega
 | succ n ih =>
   intro i h j h1 h2;rw[nK]at h;split at h
   ·cases h
   ·rename_i hm
    by_cases hj:j=i
    ·subst hj;simpa using hm
    ·exact ih (i+1) h j (by omega) (by omega)
theorem ql{ls:List zE}:∀i,eC ls n i=none->∀j,i<=j->j<i+n->bY ls j=0:=by
 induction n with
 | zero=>intro i _ j h1 h2;omega
 | succ n ih =>
   intro i h j h1 h2;rw[eC]at h;split at h
   ·rename_i hm
    by_cases hj:j=i
    ·subst hj;exact hm
    ·exact ih (i+1) h j (by omega) (by omega)
   ·cases h
theorem Bu(k:Int)(xs ys:List zE):vS k (xs++ys)=vS k xs+vS k ys:=by
 induction xs with
 | nil=>simp[vS]
 | cons x r ih=>rw[li,vS,ih,vS];omega
theorem qb{ls:List zE}(h:∀i,i<ls.length->mA ls i=false):vS 3 ls<=8:=by
 have key:∀n,n<=ls.length->vS 3 (ls.take n)<=8:=by
  intro n
  induction n with
  | zero=>intro _;simp[vS]
  | succ n ih =>
    intro hn;rw[oF ls n (by omega),Bu];have ih:=ih (by omega);by_cases hk:(lA ls n).kind=3
    ·have hm:=h n (by omega)
     unfold mA at hm;rw[dy,dk,hk]at hm;have hl:Xb 3=8:=by decide
     rw[hl]at hm;simp only[vS,hk,dj];omega
    ·simp only[vS,tj hk];omega
 have:=key ls.length (tg _)
 rwa [co]at this
end Go.Proofs.YtnbpdffdnphbeabGreatDoor
