import Derived.Test.YtnbpdffdnphbeabGreatDoorCkErr2
import Derived.Deep.OwnRows
namespace Go.Proofs.YtnbpdffdnphbeabGreatDoor
variable{l:List Bool}{gs:List Nat}{g B b N a:Nat}{m:Nat->Nat->Bool}{v:Value}{w' w:World}(zE6:List Bs)(xs:List zE)(n:Nat)(ls ys:List zE)(f:Int)
def ovX(x y:Bs)(l:zE):Bool:=decide (l.kind=4)&&(decide (l.name=x)&&decide (l.lower=y))
theorem cU(nm:Bs)(l:List Bs):∀i:Nat,uW nm l i<0 ↔ nm ∉ l:=by
 induction l with
 | nil=>intro i;simp[uW]
 | cons x r ih =>
   intro i;rw[uW];split
   ·rename_i h;subst h;simp
   ·rename_i h;rw[ih,l3,not_or];exact⟨fun h1=>⟨fun e=>h e.symm,h1⟩,fun h1=>h1.2⟩
theorem YO(nm:Bs)(l:List Bs):l.Nodup->∀(i a:Nat),uW nm l i=((i+a:Nat):Int) ↔ a<l.length/\l.getD a []=nm:=by
 induction l with
 | nil=>intro _ i a;simp[uW];omega
 | cons x r ih =>
   intro hn i a;rw[List.nodup_cons]at hn;rw[uW];split
   ·rename_i h
    subst h
    cases a with
    | zero=>simp
    | succ a =>
      constructor
      ·intro h;omega
      ·rintro⟨h1,h2⟩
       exfalso
       apply hn.1
       rw[<-h2];have h3:a<r.length:=by simpa using h1
       have:(x::r).getD (a+1) []=r[a]:=by simp[List.getD,h3]
       rw[this];exact cg h3
   ·rename_i h
    cases a with
    | zero =>
      constructor
      ·intro h1
       have:=gI nm r (i+1);exfalso
       have h2:0<=uW nm r (i+1):=by rw[h1];omega
       have h3:=ih hn.2 (i+1);obtain⟨b,hb⟩:=lh h2
       have hge:∀(l:List Bs) (j:Nat),0<=uW nm l j->(j:Int)<=uW nm l j:=by
        intro l
        induction l with
        | nil=>intro j hj;simp[uW]at hj
        | cons y s ihs=>intro j hj;rw[uW]at hj ⊢;split
                        ·omega
                        ·rename_i hy;rw[t7 hy]at hj;have:=ihs (j+1) hj;omega
       have:=hge r (i+1) h2;omega
      ·rintro⟨_,h2⟩;exact absurd (by simpa using h2) h
    | succ a =>
      rw[show i+(a+1)=i+1+a by omega,ih hn.2 (i+1) a];simp
theorem ZH{zE6:List Bs}(hn:zE6.Nodup)(nm:Bs)(a:Nat):zJ zE6 nm=(a:Int) ↔ a<zE6.length/\zE6.getD a []=nm:=by
 have:=YO nm zE6 hn 0 a
 rwa [bs]at this
theorem YF:∀(acc:List Bs),acc.Nodup->(vD ls acc).Nodup/\(∀nm,nm∈vD ls acc ↔ (nm∈acc\/ls.any (KO nm)=true))/\(vD ls acc).length<=acc.length+xI 3 ls:=by
 induction ls with
 | nil=>intro acc h;exact⟨h,fun nm=>by simp[vD],by simp[vD,xI]⟩
 | cons x r ih =>
   intro acc h;rw[vD,xI];by_cases hk:x.kind=3
   ·rw[tg hk]
    by_cases hf:zJ acc x.conc<0
    ·rw[tg ⟨hk,hf⟩]
     have hnm:=(cU x.conc acc 0).1 hf;obtain⟨h1,h2,h3⟩:=ih (acc++[x.conc]) (by rw[List.nodup_append];exact⟨h,by simp,fun a ha b hb=>by rw[po.1 hb];exact fun e=>hnm (e ▸ ha)⟩);refine⟨h1,fun nm=>?_,by rw[tb,pj]at h3;omega⟩;rw[h2,li,bt,pt,po];unfold KO;rw[tl hk,mh,l6];constructor
     ·rintro((h|h)|h)
      ·exact .inl h
      ·exact .inr (.inl h.symm)
      ·exact .inr (.inr h)
     ·rintro(h|h|h)
      ·exact .inl (.inl h)
      ·exact .inl (.inr h.symm)
      ·exact .inr h
    ·rw[t7 (fun h=>hf h.2)]
     have hnm:x.conc∈acc:=by
      rcases Classical.em (x.conc∈acc) with h1|h1
      ·exact h1
      ·exact absurd ((cU x.conc acc 0).2 h1) hf
     obtain⟨h1,h2,h3⟩:=ih acc h;refine⟨h1,fun nm=>?_,by omega⟩;rw[h2,li,bt];unfold KO;rw[tl hk,mh,l6];constructor
     ·rintro(h|h)
      ·exact .inl h
      ·exact .inr (.inr h)
     ·rintro(h|h|h)
      ·exact .inl h
      ·exact .inl (h ▸ hnm)
      ·exact .inr h
   ·rw[t7 (fun h=>hk h.1),t7 hk]
    obtain⟨h1,h2,h3⟩:=ih acc h;refine⟨h1,fun nm=>?_,by omega⟩;rw[h2,li];unfold KO;rw[tm hk];simp
theorem Z7:∀acc,vD (xs++ys) acc=vD ys (vD xs acc):=by
 induction xs with
 | nil=>intro acc;rfl
 | cons x r ih=>intro acc;rw[l9,vD,ih,vD]
theorem mY(i:Nat)(h:i<ls.length):ls.take (i+1)=ls.take i++[lA ls i]:=by
 rw[List.take_add_one,p9 h];simp[lA,List.getD,h]
theorem B7:∀acc,uO (xs++ys) acc=uO ys (uO xs acc):=by
 induction xs with
 | nil=>intro acc;rfl
 | cons x r ih=>intro acc;rw[l9,uO,ih,uO]
theorem ZW{G:List Bool}(hl:G.length=64)(f t:Int)(ha:a<8)(hb:b<8):gA (dU G f t) a b=(gA G a b || (decide (f=(a:Int))&&decide (t=(b:Int)))):=by
 unfold dU;by_cases h:(0<=f/\f<8)/\(0<=t/\t<8)
 ·rw[tg h,Va hl (by omega)]
  congr 1
  have e:decide (a*8+b=f.toNat*8+t.toNat)=(decide (f=(a:Int))&&decide (t=(b:Int))):=by
   rw[cp,pr,l6,l6,l6];omega
  exact e
 ·rw[t7 h]
  have:(decide (f=(a:Int))&&decide (t=(b:Int)))=false:=by
   rw[cr,cd,cd];omega
  rw[this,Bool.or_false]
theorem Y5(S:List yT):∀G,(tM zE6 f S G).length=G.length:=by
 induction S with
 | nil=>intro G;rfl
 | cons x r ih=>intro G;rw[tM,ih,tV]
theorem Bo(N:List zM):∀G,(jG zE6 f N G).length=G.length:=by
 induction N with
 | nil=>intro G;rfl
 | cons x r ih=>intro G;rw[jG,ih];split
                ·rw[tV]
                ·rfl
theorem Bi(S:List yT)(ha:a<8)(hb:b<8):∀G,G.length=64->gA (tM zE6 f S G) a b=(gA G a b || (decide (f=(a:Int))&&S.any (fun x=>decide (zJ zE6 x.name=(b:Int))))):=by
 induction S with
 | nil=>intro G _;simp[tM]
 | cons x r ih =>
   intro G hl;rw[tM,ih _ (by rw[tV,hl]),ZW hl f _ ha hb,li];cases gA G a b <;> cases decide (f=(a:Int)) <;> cases decide (zJ zE6 x.name=(b:Int)) <;> simp
theorem Bp(N:List zM)(ha:a<8)(hb:b<8):∀G,G.length=64->gA (jG zE6 f N G) a b=(gA G a b || (decide (f=(a:Int))&&N.any (fun x=>decide (x.kind=5)&&decide (zJ zE6 x.name=(b:Int))))):=by
 induction N with
 | nil=>intro G _;simp[jG]
 | cons x r ih =>
   intro G hl;rw[jG];by_cases hk:x.kind=5
   ·rw[tg hk,ih _ (by rw[tV,hl]),ZW hl f _ ha hb,li,tl hk]
    cases gA G a b <;> cases decide (f=(a:Int)) <;> cases decide (zJ zE6 x.name=(b:Int)) <;> simp
   ·rw[t7 hk,ih _ hl,li,tm hk];simp
def ke(zE6:List Bs)(a b:Nat)(x:zE):Bool:=decide (x.kind=3)&&(decide (zJ zE6 x.conc=(a:Int))&&(x.sum.any (fun y=>decide (zJ zE6 y.name=(b:Int))) || x.nd.any (fun y=>decide (y.kind=5)&&decide (zJ zE6 y.name=(b:Int)))))
theorem Zg(ha:a<8)(hb:b<8):∀G,G.length=64->gA (uE zE6 ls G) a b=(gA G a b || ls.any (ke zE6 a b)):=by
 induction ls with
 | nil=>intro G _;simp[uE]
 | cons x r ih =>
   intro G hl;rw[uE,li];by_cases hk:x.kind=3
   ·have ex:ke zE6 a b x=(decide (zJ zE6 x.conc=(a:Int))&&(x.sum.any (fun y=>decide (zJ zE6 y.name=(b:Int))) || x.nd.any (fun y=>decide (y.kind=5)&&decide (zJ zE6 y.name=(b:Int))))):=by
     unfold ke;rw[tl hk,mh]
    rw[tg hk,ih _ (by rw[Bo,Y5,hl]),Bp _ _ _ ha hb _ (by rw[Y5,hl]),Bi _ _ _ ha hb _ hl,ex];generalize r.any (ke zE6 a b)=R;generalize x.sum.any (fun y=>decide (zJ zE6 y.name=(b:Int)))=s;generalize x.nd.any (fun y=>decide (y.kind=5)&&decide (zJ zE6 y.name=(b:Int)))=n;cases gA G a b <;> cases decide (zJ zE6 x.conc=(a:Int)) <;> cases s <;> cases n <;> simp
   ·have ex:ke zE6 a b x=false:=by unfold ke;rw[tm hk];rfl
    rw[t7 hk,ih _ hl,ex,lk]
def qz(labs:List Bs)(a b:Nat)(x:zE):Bool:=decide (x.kind=4)&&(decide (zJ labs x.name=(a:Int))&&decide (zJ labs x.lower=(b:Int)))
theorem Zb(labs:List Bs)(ls:List zE)(ha:a<8)(hb:b<8):∀G,G.length=64->gA (uB labs ls G) a b=(gA G a b || ls.any (qz labs a b)):=by
 induction ls with
 | nil=>intro G _;simp[uB]
 | cons x r ih =>
   intro G hl;rw[uB,li];by_cases hk:x.kind=4
   ·rw[tg hk,ih _ (by rw[tV,hl]),ZW hl _ _ ha hb]
    unfold qz;rw[tl hk];cases gA G a b <;> cases decide (zJ labs x.name=(a:Int)) <;> cases decide (zJ labs x.lower=(b:Int)) <;> simp
   ·rw[t7 hk,ih _ hl]
    have:qz labs a b x=false:=by unfold qz;rw[tm hk];rfl
    rw[this,lk]
theorem KX:gA gZ a b=false:=by
 unfold gA gZ;simp only[tu,bf];split <;> rfl
theorem zDS{labs:List Bs}(hn:labs.Nodup)(x:zE):qz labs a b x=(decide (a<labs.length)&&(decide (b<labs.length)&&ovX (labs.getD a []) (labs.getD b []) x)):=by
 unfold qz ovX
 have e:∀(nm:Bs) (k:Nat),decide (zJ labs nm=(k:Int))=(decide (k<labs.length)&&decide (nm=labs.getD k [])):=fun nm k=>by
  rw[cp,pr,l6,l6,l6,ZH hn];exact⟨fun h=>⟨h.1,h.2.symm⟩,fun h=>⟨h.1,h.2.symm⟩⟩
 rw[e,e];cases decide (x.kind=4) <;> cases decide (a<labs.length) <;> cases decide (b<labs.length) <;> simp
theorem Fd:∀acc,(uO ls acc).length=acc.length+xI 3 ls/\(∀nm,nm∈uO ls acc ↔ (nm∈acc\/vP ls 3 nm=true)):=by
 induction ls with
 | nil=>intro acc;exact⟨by simp[uO,xI],fun nm=>by simp[uO,vP]⟩
 | cons x r ih =>
   intro acc;rw[uO,xI];by_cases hk:x.kind=3
   ·rw[tg hk,tg hk]
    obtain⟨h1,h2⟩:=ih (acc++[x.name]);refine⟨by rw[h1,tb,pj];omega,fun nm=>?_⟩;rw[h2,pt,po];unfold vP;rw[li,bt];unfold rX;rw[tl hk,mh,l6];constructor
    ·rintro((h|h)|h)
     ·exact .inl h
     ·exact .inr (.inl h.symm)
     ·exact .inr (.inr h)
    ·rintro(h|h|h)
     ·exact .inl (.inl h)
     ·exact .inl (.inr h.symm)
     ·exact .inr h
   ·rw[t7 hk,t7 hk]
    obtain⟨h1,h2⟩:=ih acc;refine⟨by omega,fun nm=>?_⟩;rw[h2];unfold vP;rw[li];have:rX 3 nm x=false:=by unfold rX;rw[tm hk];rfl
    rw[this,lk]
theorem KJ(h:∀i,i<ls.length->(lA ls i).kind=3->vP (ls.take i) 3 (lA ls i).name=false):(xP ls).Nodup:=by
 have key:∀n,n<=ls.length->(uO (ls.take n) []).Nodup:=by
  intro n
  induction n with
  | zero=>intro _;simp[uO]
  | succ n ih =>
    intro hn;rw[mY ls n (by omega),B7,uO,uO];split
    ·rename_i hk
     rw[List.nodup_append];refine⟨ih (by omega),by simp,fun a ha b hb=>?_⟩;rw[po.1 hb];intro e;subst e;have:=((Fd (ls.take n) []).2 (lA ls n).name).1 ha;rcases this with h1|h1
     ·simp at h1
     ·rw[h n (by omega) hk]at h1;exact absurd h1 (by decide)
    ·exact ih (by omega)
 have:=key ls.length (j1 _);rw[bm]at this;exact this
open Go.RowKit
theorem bK.mem:∀ {ls:List zE} {us:List vL},bK ls us->∀u∈us,∃x,LT x u
 | [],[],_,u,hu=>absurd hu (by simp)
 | x::xs,v::us,h,u,hu=>by
   rcases l3.1 hu with rfl|hu
   ·exact⟨x,h.1⟩
   ·exact bK.mem h.2 u hu
 | [],_::_,h,_,_=>absurd h id
 | _::_,[],h,_,_=>absurd h id
def uX(w:World)(g:Nat)(l:List Bool):Prop:=w.heap[g]? = some (.cells (gC l) 4 (0,0))
theorem uX.cell(h:uX w g l){k:Nat}(hk:k<l.length):w.cell? ⟨g,k,none⟩=some (.bool (l.getD k false)):=by
 simp only[World.cell?,show w.heap[g]? = _ from h];exact ZC hk
theorem uX.free(h:uX w g l)(k:Nat):w.frozen? ⟨g,k,none⟩=false:=by simp[World.frozen?,show w.heap[g]? = _ from h]
theorem uX.lt(h:uX w g l):g<w.heap.size:=by
 rcases pf g w.heap.size with h1|h1
 ·exact h1
 ·have h2:w.heap[g]? = _:=h;rw[pb h1]at h2;cases h2
theorem uX.set(h:uX w g l)(k:Nat)(b:Bool):uX (w.setCell ⟨g,k,none⟩ (.bool b)) g (l.set k b):=by
 unfold uX at h ⊢;rw[setCell_eq_setRow w g k _ _ _ _ h,lq w g (gC l) _ _ _ h];congr 2
 simp[gC,List.map_set]
theorem vY.drew{a b:World}(h:vY g a b):vY g a b.drew:=⟨h.os,h.tape,h.output,h.size,h.block⟩
theorem dJ:madeCells #[Value.bool false] n=gC (List.replicate n false):=by
 apply Array.ext
 ·simp[madeCells,gC]
 ·intro i h1 h2
  simp[madeCells,gC,Nat.mod_one]
def Dn(m:Nat->Nat->Bool)(i N k:Nat):List Bool:=(List.range N).map fun j=>decide (j<k)&&m i j
def yx(N g:Nat):Value:=.slice (some ⟨g,0,none⟩) N N
structure JB(B:Nat)(w:World)(v:Value)(gs:List Nat)(m:Nat->Nat->Bool)(N k:Nat):Prop where
 len:gs.length=k
 own:w.ownsRow B 166 1 v gs.length (gs.map (yx N))
 rows:∀j,j<k->uX w (gs.getD j 0) (Dn m j N N)
theorem cP:(Tryz.prog.info? 4).map (fun i=>(i.zero,i.size,i.bytes))=some (some (.bool false),1,1):=by kernel_rfl
theorem Bk{e:TypeId}{size:Nat}{n:Nat}{xs:List Value}(h:w.ownsRow B e size v n xs)(hb:Below w.heap.size w w'):w'.ownsRow B e size v n xs:=by
 refine⟨h.1,?_⟩;rcases h.2 with h1|⟨g,cap,yJ,h1,h2,h3,r⟩
 ·exact .inl h1
 ·refine .inr ⟨g,cap,yJ,h1,h2,?_,r⟩
  have zE9:g<w.heap.size:=by
   rcases pf g w.heap.size with h|h
   ·exact h
   ·rw[pb h]at h3;cases h3
  rw[hb.block g zE9];exact h3
theorem uX.below(h:uX w g l)(hb:Below w.heap.size w w'):uX w' g l:=by
 have hl:=h.lt;unfold uX at h ⊢;rw[hb.block g hl];exact h
theorem uX.grown{n:Nat}{xs:List Value}(h:uX w g l)(hl:w.ownsRow B 166 1 v n xs)(hg:w.grownBy w' v.ownBlock):uX w' g l:=by
 have zE9:=h.lt;unfold uX at h ⊢;rw[hg.block g zE9 ?_];· exact h
 intro hE;rcases hl.2 with ⟨k1,_⟩|⟨g',cap',cur',k1,_,k3,_⟩
 ·rw[k1]at hE;simp[Value.ownBlock]at hE
 ·rw[k1]at hE
  simp[Value.ownBlock]at hE;subst hE;rw[h]at k3;simp at k3
theorem JB.snoc{i:Nat}{v':Value}(h:JB B w v gs m N i)(hr:uX w g (Dn m i N N))(hg:w.grownBy w' v.ownBlock)(zEA:w'.ownsRow B 166 1 v' (gs.length+1) (gs.map (yx N)++[yx N g])):JB B w' v' (gs++[g]) m N (i+1):=by
 refine⟨by rw[tb,pj,h.len],by rw[tb,lj];exact zEA,fun j hj=>?_⟩;have hl:=h.len;rcases pf j i with h1|h1
 ·have e:(gs++[g]).getD j 0=gs.getD j 0:=by rw[List.getD,List.getD,pm (by omega)]
  rw[e];exact(h.rows j h1).grown h.own hg
 ·obtain rfl:j=i:=by omega
  have e:(gs++[g]).getD j 0=g:=by rw[List.getD,ma (by omega),hl];simp
  rw[e];exact hr.grown h.own hg
theorem aV.below{a:Option Addr}{zE6:List Bs}(h:aV w a zE6)(hb:Below w.heap.size w w'):aV w' a zE6 :=
 ⟨fun h0=>let ⟨g,e,p⟩:=h.blk h0;⟨g,e,fun i hi=>by rw[hb.cell (p:=⟨g,i,none⟩) (yO (p i hi))];exact p i hi⟩,h.few⟩
theorem JB.row(h:JB B w v gs m N N){x:Nat}(hx:x<N):∃gm cm,v=.slice (some ⟨gm,0,none⟩) N cm/\w.cell? ⟨gm,x,none⟩=some (.slice (some ⟨gs.getD x 0,0,none⟩) N N)/\gm<w.heap.size/\uX w (gs.getD x 0) (Dn m x N N):=by
 rcases h.own.2 with ⟨_,h2⟩|⟨g,cap,yJ,h1,_,h3,_,_,_,h7⟩
 ·have:=h.len;omega
 ·refine⟨g,cap,by rw[h1,h.len],?_,?_,h.rows x hx⟩
  ·refine xF h3 h7 ?_
   rw[List.getElem?_map];simp[List.getD,yx,show x<gs.length by rw[h.len];exact hx]
  ·rcases pf g w.heap.size with h9|h9
   ·exact h9
   ·rw[pb h9]at h3;cases h3
theorem JB.below{k:Nat}(h:JB B w v gs m N k)(hb:Below w.heap.size w w'):JB B w' v gs m N k :=
 ⟨h.len,Bk h.own hb,fun j hj=>(h.rows j hj).below hb⟩
theorem zB9{lv:Value}{ls:List LX}(h:XT w B lv ls)(hg:∀x∈ls,cW x.1)(hf:ls.length<=10000):∃a c,lv=.slice a ls.length c/\ls.length<=c/\kT w a ls:=by
 have hrows:∀x∈ls,eR w x:=fun x hx=>by
  refine⟨ZZ.of_rows (h.2 x hx),hg x hx,?_⟩;rcases(h.2 x hx).2.2 with ⟨_,h2⟩|⟨_,cap,_,_,_,_,h4,h5,_,_⟩
  ·rw[h2];exact tq _
  ·exact tr h4 h5
 rcases h.1.2 with ⟨h1,h2⟩|⟨gl,cap,yJ,h1,_,h3,h4,_,_,h7⟩
 ·exact⟨none,0,by rw[h1,h2],by omega,⟨fun h0=>by omega,hrows,hf⟩⟩
 ·exact⟨_,cap,h1,h4,⟨fun _=>⟨gl,yJ,rfl,h3,h7⟩,hrows,hf⟩⟩
theorem K8{ls:List zE}:∀i,mG ls n i=none->∀j,i<=j->j<i+n->qW ls j=false:=by
 induction n with
 | zero=>intro i _ j h1 h2;omega
 | succ n ih =>
   intro i h j h1 h2;rw[mG]at h;split at h
   ·cases h
   ·rename_i hm
    by_cases hj:j=i
    ·subst hj;simpa using hm
    ·exact ih (i+1) h j (by omega) (by omega)
theorem Cb{ls:List zE}:∀i,nT ls n i=none->∀j,i<=j->j<i+n->tT ls j=0:=by
 induction n with
 | zero=>intro i _ j h1 h2;omega
 | succ n ih =>
   intro i h j h1 h2;rw[nT]at h;split at h
   ·rename_i hm
    by_cases hj:j=i
    ·subst hj;exact hm
    ·exact ih (i+1) h j (by omega) (by omega)
   ·cases h
theorem Jt(k:Int)(xs ys:List zE):xI k (xs++ys)=xI k xs+xI k ys:=by
 induction xs with
 | nil=>simp[xI]
 | cons x r ih=>rw[l9,xI,ih,xI];omega
theorem BT{ls:List zE}(h:∀i,i<ls.length->qW ls i=false):xI 3 ls<=8:=by
 have key:∀n,n<=ls.length->xI 3 (ls.take n)<=8:=by
  intro n
  induction n with
  | zero=>intro _;simp[xI]
  | succ n ih =>
    intro hn;rw[mY ls n (by omega),Jt];have ih:=ih (by omega);by_cases hk:(lA ls n).kind=3
    ·have hm:=h n (by omega)
     unfold qW at hm;rw[ll,cd,hk]at hm;have hl:eY 3=8:=by decide
     rw[hl]at hm;simp only[xI,hk,if_true];omega
    ·simp only[xI,t7 hk];omega
 have:=key ls.length (j1 _)
 rwa [bm]at this
end Go.Proofs.YtnbpdffdnphbeabGreatDoor
