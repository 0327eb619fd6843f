import Derived.Test.YtnbpdffdnphbeabGreatDoorMState
set_option maxHeartbeats 2000000
namespace Go.Proofs.YtnbpdffdnphbeabGreatDoor
open Go.RowKit
variable{vs:List Int}{ls:List zE}{s:xQ}{x:zE}(ins cs:List Bs)
def aJ(ins cs:List Bs)(s:xQ):Ym:=⟨fun nm=>kV s.has (zJ cs nm),fun nm=>tK s.inputs (zJ ins nm)⟩
theorem zH7(s:xQ)(hs:List Bool)(x:zN):Bj (mH ins cs x) s hs=J2 (aJ ins cs s) hs x:=by
 unfold Bj J2 mH;simp only;by_cases h1:x.kind=1
 ·rw[tr h1,tr h1]
 rw[tj h1,tj h1];by_cases h2:x.kind=2
 ·rw[tr h2,tr h2]
 rw[tj h2,tj h2];by_cases h3:x.kind=3
 ·rw[tr h3,tr h3]
 rw[tj h3,tj h3];by_cases h4:x.kind=4
 ·rw[tr h4,tr h4]
 rw[tj h4,tj h4];by_cases h5:x.kind=5
 ·rw[tr h5,tr h5];unfold CG aJ;rw[tr h5]
 rw[tj h5,tj h5];by_cases h6:x.kind=6
 ·rw[tr h6,tr h6];unfold CG aJ;rw[tj h5,tr (.inl h6)]
 rw[tj h6,tj h6];by_cases h7:x.kind=7
 ·rw[tr h7,tr h7]
  have e1:CG ins cs x=zJ ins x.name:=by unfold CG;rw[tj h5,tr (.inr h7)]
  have e2:(if decide (x.other≠[])=true then tK s.inputs (zFJ ins x) else x.num)=(if x.other=[] then x.num else (aJ ins cs s).inp x.other):=by
   by_cases ho:x.other=[]
   ·simp[ho]
   ·simp only[ho,ne_eq,not_false_eq_true,decide_true,if_true,if_false];unfold zFJ aJ;rw[tj ho]
  unfold XT zAG;simp only;rw[e1,e2,show (aJ ins cs s).inp x.name=tK s.inputs (zJ ins x.name) from rfl];generalize tK s.inputs (zJ ins x.name)=p;generalize (if x.other=[] then x.num else (aJ ins cs s).inp x.other)=q;by_cases k1:p<q
  ·rw[tr k1,tr k1];rfl
  ·rw[tj k1,tj k1]
   by_cases k2:p=q
   ·rw[tj (by omega),tr k2];rfl
   ·rw[tr (by omega),tj k2];rfl
 ·rw[tj h7,tj h7]
theorem zHL(s:xQ)(N:List zN):∀hs,gF s (N.map (mH ins cs)) hs=Kk (aJ ins cs s) N hs:=by
 induction N with
 | nil=>intro hs;rfl
 | cons x r ih=>intro hs;rw[cq,gF,Kk,zH7,ih]
theorem fG(l:List Bs)(nm:Bs) : -1<=zJ l nm/\zJ l nm<l.length:=by
 have:=Z8 nm l 0;unfold zJ;omega
theorem QJ(a b:List Bs)(nm:Bs):zJ (a++b) nm=if 0<=zJ a nm then zJ a nm else if 0<=zJ b nm then a.length+zJ b nm else -1:=by
 have key:∀(a:List Bs) (i:Nat),vN nm (a++b) i=if 0<=vN nm a i then vN nm a i else vN nm b (i+a.length):=by
  intro a
  induction a with
  | nil=>intro i;simp[vN]
  | cons x r ih =>
    intro i;rw[my,vN,vN];by_cases h:x=nm
    ·rw[tr h,tr h,tr (by omega)]
    ·rw[tj h,tj h,ih (i+1)];simp only[tz];rw[show i+1+r.length=i+(r.length+1) by omega]
 have shift:∀(b:List Bs) (i:Nat),vN nm b i=if 0<=vN nm b 0 then i+vN nm b 0 else -1:=by
  intro b
  induction b with
  | nil=>intro i;simp[vN]
  | cons x r ih =>
    intro i;rw[vN,vN];by_cases h:x=nm
    ·rw[tr h,tr h];simp
    ·rw[tj h,tj h,ih (i+1),ih (0+1)]
     by_cases k:0<=vN nm r 0
     ·rw[tr k,tr k,tr (by omega)];omega
     ·rw[tj k,tj k];simp
 unfold zJ;rw[key a 0];by_cases h:0<=vN nm a 0
 ·rw[tr h,tr h]
 ·rw[tj h,tj h,shift b (0+a.length)];simp
structure RuOk(ins cs:List Bs)(x:zE):Prop where
 nodes:∀y∈x.nd,(y.kind=5->zJ ins y.name<0/\0<=zJ cs y.name)/\(y.kind=6->0<=zJ ins y.name)/\(y.kind=7->0<=zJ ins y.name/\(y.other≠[]->0<=zJ ins y.other))
 parts:∀p∈x.sum,p.name=[]\/0<=zJ ins p.name\/0<=zJ cs p.name
structure GC(ins cs:List Bs)(s:xQ)(vs:List Int):Prop where
 li:s.inputs.length=ins.length
 lh:s.has.length=cs.length
 lv:vs.length=ins.length+cs.length
 inp:∀i,i<ins.length->vs.getD i 0=s.inputs.getD i 0
 has:∀c,c<cs.length->decide (vs.getD (ins.length+c) 0=1)=s.has.getD c false
theorem GC.at_inp{ins cs:List Bs}(h:GC ins cs s vs){nm:Bs}(hn:0<=zJ ins nm):zBT vs (zJ (ins++cs) nm)/\zAS vs (zJ (ins++cs) nm)=tK s.inputs (zJ ins nm):=by
 have hb:=fG ins nm;have hl:=h.lv;rw[QJ,tr hn];refine⟨⟨hn,by omega⟩,?_⟩;unfold tK;rw[tr ⟨hn,by rw[h.li];exact hb.2⟩];exact h.inp _ (by omega)
theorem GC.at_con{ins cs:List Bs}(h:GC ins cs s vs){nm:Bs}(hn:zJ ins nm<0)(hc:0<=zJ cs nm):zJ (ins++cs) nm=ins.length+zJ cs nm/\zBT vs (zJ (ins++cs) nm)/\decide (zAS vs (zJ (ins++cs) nm)=1)=kV s.has (zJ cs nm):=by
 have hb:=fG cs nm;have hl:=h.lv;have e:zJ (ins++cs) nm=ins.length+zJ cs nm:=by rw[QJ,tj (by omega),tr hc]
 refine⟨e,?_,?_⟩
 ·rw[e];exact⟨by omega,by omega⟩
 ·unfold kV
  rw[ty hc,h.lh,ty hb.2,ld,ld,<-h.has _ (by omega),e];unfold zAS;rw[show ((ins.length:Int)+zJ cs nm).toNat=ins.length+(zJ cs nm).toNat by omega]
theorem GC.node{ins cs:List Bs}(h:GC ins cs s vs)(hx:RuOk ins cs x):∀y∈x.nd,zJL (ins++cs) vs (aJ ins cs s) y:=fun y hy=>by
 obtain⟨h5,h6,h7⟩:=hx.nodes y hy;refine⟨fun k=>?_,fun k=>h.at_inp (h6 k),fun k=>⟨(h.at_inp (h7 k).1).1,(h.at_inp (h7 k).1).2,fun ho=>h.at_inp ((h7 k).2 ho)⟩⟩;obtain⟨a,b⟩:=h5 k;exact(h.at_con a b).2
theorem all_map{α β:Type}(f:α->β)(p:β->Bool)(l:List α):(l.map f).all p=l.all fun x=>p (f x):=by
 induction l with
 | nil=>rfl
 | cons x r ih=>rw[cq,fa,fa,ih]
theorem G6{α:Type}{p q:α->Bool}{l:List α}(h:∀x∈l,p x=q x):l.all p=l.all q:=by
 induction l with
 | nil=>rfl
 | cons x r ih=>rw[fa,fa,h x (by simp),ih fun y hy=>h y (by simp[hy])]
def zIR(w:World)(b o:Nat)(G:List Bool):Prop:=∀k,k<64->w.cell? ⟨b,o+k,none⟩=some (.bool (G.getD k false))
theorem zIR.below{w w':World}{b o:Nat}{G:List Bool}(h:zIR w b o G)(hb:Below w.heap.size w w'):zIR w' b o G:=fun k hk=>by
 rw[hb.cell (p:=⟨b,o+k,none⟩) (zY (h k hk))];exact h k hk
def wR(G:List Bool)(a b:Int):Bool:=(decide (0<=a)&&decide (a<8))&&((decide (0<=b)&&decide (b<8))&&gA G a.toNat b.toNat)
theorem zIF(w:World)(g o:Nat)(G:List Bool)(a b:Int)(h:zIR w g o G) :
 Calls Tryz.prog 140 #[.pointer (some ⟨g,o,none⟩),.int .i64 a,.int .i64 b] w fun e w'=>e=.returned (.bool (wR G a b))/\w'=w:=by
 have HA:Hid (wR G a b=((decide (0<=a)&&decide (a<8))&&((decide (0<=b)&&decide (b<8))&&gA G a.toNat b.toNat))):=rfl;have HP:=zA (fun k w=>bN k w);generalize wR G a b=ans at *;by_cases ka:0<=a/\a<8
 ·by_cases kb:0<=b/\b<8
  ·obtain⟨na,rfl⟩:∃n:Nat,a=(n:Int):=⟨a.toNat,by omega⟩
   obtain⟨nb,rfl⟩:∃n:Nat,b=(n:Int):=⟨b.toNat,by omega⟩;have HA2:Hid (ans=gA G na nb):=by have:=HA.out;rw[ty ka.1,ty ka.2,ty kb.1,ty kb.2]at this;simpa[Hid] using this
   have hc:=h (na*8+nb) (by omega);rw[<-df]at hc;have HA3:Hid (ans=G.getD (na*8+nb) false):=HA2;have HP1:Hid (∀w:World,Calls Tryz.prog 158 #[.int .i64 (na:Int)] w fun e w'=>e=.returned (.bool true)/\w'=w):=fun w=>by have:=HP.out (na:Int) w;rw[ty ka.1,ty ka.2]at this;exact this
   have HP2:Hid (∀w:World,Calls Tryz.prog 158 #[.int .i64 (nb:Int)] w fun e w'=>e=.returned (.bool true)/\w'=w):=fun w=>by have:=HP.out (nb:Int) w;rw[ty kb.1,ty kb.2]at this;exact this
   have la:na<8:=by omega
   have lb:nb<8:=by omega
   clear HA HA2 HP h ka kb;generalize G.getD (na*8+nb) false=z at *
   go_enter Tryz.func140,Tryz.ntmps140
   go_wp2_with fail
   refine(HP1.out _).mono ?_;rintro e w' ⟨rfl,hw⟩;obtain rfl:=hw.symm;go_wp2_with fail
   refine(HP2.out _).mono ?_;rintro e w' ⟨rfl,hw⟩;obtain rfl:=hw.symm;go_wp2_with fail
   go_ret
   exact⟨zF HA3.out.symm,rfl⟩
  ·have hb:(decide (0<=b)&&decide (b<8))=false:=by
    rcases cx b 0 with h1|h1
    ·rw[tu (by omega)];rfl
    ·rw[tu (show ¬b<8 by omega)];simp
   have HA2:Hid (ans=false):=by have:=HA.out;rw[hb]at this;simpa[Hid] using this
   have HP1:Hid (∀w:World,Calls Tryz.prog 158 #[.int .i64 a] w fun e w'=>e=.returned (.bool true)/\w'=w):=fun w=>by have:=HP.out a w;rw[ty ka.1,ty ka.2]at this;exact this
   have HP2:Hid (∀w:World,Calls Tryz.prog 158 #[.int .i64 b] w fun e w'=>e=.returned (.bool false)/\w'=w):=fun w=>by have:=HP.out b w;rw[hb]at this;exact this
   clear HA HP h hb ka kb
   go_enter Tryz.func140,Tryz.ntmps140
   go_wp2_with fail
   refine(HP1.out _).mono ?_;rintro e w' ⟨rfl,hw⟩;obtain rfl:=hw.symm;go_wp2_with fail
   refine(HP2.out _).mono ?_;rintro e w' ⟨rfl,hw⟩;obtain rfl:=hw.symm;go_wp2_with fail
   go_ret
   exact⟨zF HA2.out.symm,rfl⟩
 ·have ha:(decide (0<=a)&&decide (a<8))=false:=by
   rcases cx a 0 with h1|h1
   ·rw[tu (by omega)];rfl
   ·rw[tu (show ¬a<8 by omega)];simp
  have HA2:Hid (ans=false):=by have:=HA.out;rw[ha]at this;simpa[Hid] using this
  have HP1:Hid (∀w:World,Calls Tryz.prog 158 #[.int .i64 a] w fun e w'=>e=.returned (.bool false)/\w'=w):=fun w=>by have:=HP.out a w;rw[ha]at this;exact this
  clear HA HP h ha ka
  go_enter Tryz.func140,Tryz.ntmps140
  go_wp2_with fail
  refine(HP1.out _).mono ?_;rintro e w' ⟨rfl,hw⟩;obtain rfl:=hw.symm;go_wp2_with fail
  go_ret
  exact⟨zF HA2.out.symm,rfl⟩
theorem sK(w:World)(b o:Nat)(G:List Bool)(x y:Int)(h:zIR w b (o+3) G) :
 Calls Tryz.prog 94 #[.pointer (some ⟨b,o,none⟩),.int .i64 x,.int .i64 y] w fun e w'=>e=.returned (.bool (wR G x y))/\w'=w:=by
 have HG:=zA (zIF w b (o+3) G x y h);clear h;generalize wR G x y=z at *
 go_enter Tryz.func94,Tryz.ntmps94
 go_wp2_with fail
 refine HG.out.mono ?_;rintro e w' ⟨rfl,hw⟩;obtain rfl:=hw.symm;go_wp2_with fail
 go_ret
 exact⟨rfl,rfl⟩
structure tH(ls:List zE):Prop where
 many:∀i,i<ls.length->jG ls i=false
 err:∀i,i<ls.length->lE ls i=0
 nam:kJ (jB (yY ls) ls gZ)=false
 ord:kJ (kE (uY ls) ls gZ)=false
theorem zFQ(h:(kF ls).1=0):tH ls:=by
 revert h
 unfold kF
 cases hm:lJ ls ls.length 0 with
 | some i=>intro h;exact absurd (show (3:Int)=0 from h) (by decide)
 | none =>
   have hmany:=fun i (hi:i<ls.length)=>Bt ls.length 0 hm i (p7 _) (by omega);simp only;unfold Xw
   cases he:rX ls ls.length 0 with
   | some i =>
     intro h;exfalso
     have h1:lE ls i=0:=h
     have:∀n i j,rX ls n i=some j->lE ls j≠0:=by
      intro n
      induction n with
      | zero=>intro i j h;simp[rX]at h
      | succ n ih=>intro i j h;rw[rX]at h;split at h
                   ·exact ih _ _ h
                   ·rename_i zJZ;obtain rfl:=du h;exact zJZ
     exact this _ _ _ he h1
   | none =>
     have herr:=fun i (hi:i<ls.length)=>Gk ls.length 0 he i (p7 _) (by omega);simp only;unfold YA;intro h
     cases hr:kJ (jB (yY ls) ls gZ) with
     | true=>rw[hr,tr rfl]at h;exact absurd (show (7:Int)=0 from h) (by decide)
     | false =>
       rw[hr,tj (by decide)]at h
       cases hs:kJ (kE (uY ls) ls gZ) with
       | true=>rw[hs,tr rfl]at h;exact absurd (show (7:Int)=0 from h) (by decide)
       | false=>exact⟨hmany,herr,hr,hs⟩
theorem tH.rules(h:tH ls):vB 3 ls<=8:=Gf h.many
theorem BA(ls:List zE):(yY ls).length<=vB 3 ls:=by have:=(FP ls [] (by simp)).2.2;simpa[yY] using this
theorem tH.heads(h:tH ls):(yY ls).length<=8:=p8 (BA ls) h.rules
theorem ji(l:List Bs)(nm:Bs):0<=zJ l nm ↔ nm∈l:=by
 have:=fJ nm l 0;unfold zJ;constructor
 ·intro h;exact Classical.not_not.1 fun hn=>by have:=this.2 hn;omega
 ·intro h;rcases cx (vN nm l 0) 0 with h1|h1
  ·exact absurd h (this.1 h1)
  ·exact h1
theorem uq(ls:List zE)(nm:Bs):nm∈qW ls ↔ (uP ls 1 nm=true\/uP ls 2 nm=true):=by
 rw[oG];simp only[pd,mw,uP,l8,Xa,mc,mj];constructor
 ·rintro⟨x,⟨h1,h2|h2⟩,h3⟩
  ·exact .inl ⟨x,h1,h2,h3⟩
  ·exact .inr ⟨x,h1,h2,h3⟩
 ·rintro(⟨x,h1,h2,h3⟩|⟨x,h1,h2,h3⟩)
  ·exact⟨x,⟨h1,.inl h2⟩,h3⟩
  ·exact⟨x,⟨h1,.inr h2⟩,h3⟩
theorem Bq(h:x∈ls):∃i,i<ls.length/\lA ls i=x:=by
 obtain⟨i,hi,rfl⟩:=List.getElem_of_mem h;exact⟨i,hi,by simp[lA,List.getD,hi]⟩
theorem tH.sums(h:tH ls)(hx:x∈ls)(hk:x.kind=3):x.sum.length<=4/\∀p∈x.sum,p.starred=true->p.num<=9:=by
 obtain⟨i,hi,rfl⟩:=Bq hx;have he:=h.many i hi;unfold jG YR tS at he;rw[ty hk,ld,cf,cf,cf,cf]at he;obtain⟨-,-,-,h1,h2⟩:=he;refine⟨by have:=of_decide_eq_false h1;omega,fun p hp hs=>?_⟩;have:=List.any_eq_false.1 h2 p hp;unfold qT at this;rw[hs]at this;simpa using this
structure Hear where
 has:Nat->Bool
 val:Nat->Int
 ap:Nat->Bool
 vd:Nat->Int
 st:Nat->Int
 av:Nat->Int
def h0:Hear:=⟨fun _=>false,fun _=>0,fun _=>false,fun _=>0,fun _=>0,fun _=>0⟩
def zBR(ls:List zE):List zE:=ls.filter fun x=>decide (x.kind=3)
theorem qs(ls:List zE):uY ls=(zBR ls).map zE.name:=by
 have key:∀(ls:List zE) acc,oC ls acc=acc++(ls.filter fun x=>decide (x.kind=3)).map zE.name:=by
  intro ls
  induction ls with
  | nil=>intro acc;simp[oC]
  | cons x r ih=>intro acc;rw[oC,ih];by_cases h:x.kind=3 <;> simp[h]
 unfold uY zBR;rw[key];simp
theorem Qq(ls:List zE):uT ins cs ls=(zBR ls).map (qM ins cs):=by
 unfold uT zBR;rw[DT];simp
theorem Xd(h:tH ls):(qW ls).Nodup:=by
 have key:∀n,n<=ls.length->(qW (ls.take n)).Nodup:=by
  intro n
  induction n with
  | zero=>intro _;simp[qW,yI,dZ]
  | succ n ih =>
    intro hn;have ih:=ih (by omega);rw[oG,fQ ls n (by omega),dy,lj];rw[oG]at ih;by_cases hk:(lA ls n).kind=1\/(lA ls n).kind=2
    ·rw[dn (by simpa using hk),List.filter_nil,List.nodup_append]
     refine⟨ih,by simp,fun a ha b hb=>?_⟩;simp only[cq,List.map_nil,pr]at hb;subst hb;intro e;subst e;have hm:=(uq (ls.take n) (lA ls n).name).1 (by rw[oG];exact ha);have he:=h.err n (by omega)
     have zK3:oH ls n=0:=by
      unfold lE at he;rcases hk with k|k
      ·rw[tr k]at he
       unfold wG at he;by_cases h0:oH ls n=0
       ·exact h0
       ·rw[tj h0]at he;exact he
      ·rw[tj (by omega),tr k]at he;exact he
     unfold oH at zK3;rcases hm with hm|hm
     ·rw[hm,Bool.true_or,tr rfl]at zK3;exact absurd zK3 (by decide)
     ·rw[hm,Bool.true_or,Bool.or_true,tr rfl]at zK3;exact absurd zK3 (by decide)
    ·rw[dm (by simpa using hk),List.filter_nil];simpa using ih
 have:=key ls.length (tg _)
 rwa [cd]at this
theorem Xm{α β:Type}(f:α->β)(l:List α)(j:Nat)(d:α)(d':β)(h:j<l.length):(l.map f).getD j d'=f (l.getD j d):=by simp[List.getD,h]
def GL(ls:List zE):List zE:=ls.filter fun x=>decide (x.kind=1\/x.kind=2)
theorem JJ(h:x∈GL ls):x.kind=1\/x.kind=2:=cg (mw.1 h).2
theorem Xh(ls:List zE):qW ls=(GL ls).map zE.name:=oG ls
theorem Xf(ls:List zE):yI ls=(GL ls).map mS:=by unfold yI;rw[Xe,bj];rfl
end Go.Proofs.YtnbpdffdnphbeabGreatDoor
