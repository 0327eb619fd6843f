import Derived.Test.YtnbpdffdnphbeaaGreatDoorMState
import Derived.Test.YtnbpdffdnphbeaaGreatDoorPRound
import Derived.Test.YtnbpdffdnphbeaaGreatDoorDAbove
import Derived.Test.YtnbpdffdnphbeaaGreatDoorDFacts
set_option maxHeartbeats 2000000
namespace Go.Proofs.YtnbpdffdnphbeaaGreatDoor
variable{cs ins:List Bs}{vs:List Int}{ls:List zF}{us:List zG}{s:vF}{x:zF}
def YH(ins cs:List Bs)(s:vF):x9:=⟨fun nm=>pI s.has (zH cs nm),fun nm=>mJ s.inputs (zH ins nm)⟩
theorem zG3(ins cs:List Bs)(s:vF)(hs:List Bool)(x:zX):Cs (lS ins cs x) s hs=QL (YH ins cs s) hs x:=by
 unfold Cs QL lS;simp only;by_cases h1:x.kind=1
 ·rw[tl h1,tl h1]
 rw[tg h1,tg h1];by_cases h2:x.kind=2
 ·rw[tl h2,tl h2]
 rw[tg h2,tg h2];by_cases h3:x.kind=3
 ·rw[tl h3,tl h3]
 rw[tg h3,tg h3];by_cases h4:x.kind=4
 ·rw[tl h4,tl h4]
 rw[tg h4,tg h4];by_cases h5:x.kind=5
 ·rw[tl h5,tl h5];unfold DC YH;rw[tl h5]
 rw[tg h5,tg h5];by_cases h6:x.kind=6
 ·rw[tl h6,tl h6];unfold DC YH;rw[tg h5,tl (.inl h6)]
 rw[tg h6,tg h6];by_cases h7:x.kind=7
 ·rw[tl h7,tl h7]
  have e1:DC ins cs x=zH ins x.name:=by unfold DC;rw[tg h5,tl (.inr h7)]
  have e2:(if decide (x.other≠[])=true then mJ s.inputs (zEO ins x) else x.num)=(if x.other=[] then x.num else (YH ins cs s).inp x.other):=by
   by_cases ho:x.other=[]
   ·simp[ho]
   ·simp only[ho,ne_eq,not_false_eq_true,fk,if_true,if_false];unfold zEO YH;rw[tg ho]
  unfold QP zv;simp only;rw[e1,e2,show (YH ins cs s).inp x.name=mJ s.inputs (zH ins x.name) from rfl];generalize mJ s.inputs (zH ins x.name)=p;generalize (if x.other=[] then x.num else (YH ins cs s).inp x.other)=q;by_cases k1:p<q
  ·rw[tl k1,tl k1];rfl
  ·rw[tg k1,tg k1]
   by_cases k2:p=q
   ·rw[tg (by omega),tl k2];rfl
   ·rw[tl (by omega),tg k2];rfl
 ·rw[tg h7,tg h7]
theorem zGJ(ins cs:List Bs)(s:vF)(N:List zX):∀hs,nI s (N.map (lS ins cs)) hs=KB (YH ins cs s) N hs:=by
 induction N with
 | nil=>intro hs;rfl
 | cons x r ih=>intro hs;rw[dm,nI,KB,zG3,ih]
theorem cP(l:List Bs)(nm:Bs) : -1<=zH l nm/\zH l nm<l.length:=by
 have:=Y0 nm l 0;unfold zH;omega
theorem dW(a b:List Bs)(nm:Bs):zH (a++b) nm=if 0<=zH a nm then zH a nm else if 0<=zH b nm then a.length+zH b nm else -1:=by
 have key:∀(a:List Bs) (i:Nat),uB nm (a++b) i=if 0<=uB nm a i then uB nm a i else uB nm b (i+a.length):=by
  intro a
  induction a with
  | nil=>intro i;simp[uB]
  | cons x r ih =>
    intro i;rw[bw,uB,uB];by_cases h:x=nm
    ·rw[tl h,tl h,tl (by omega)]
    ·rw[tg h,tg h,ih (i+1)];simp only[p7];rw[show i+1+r.length=i+(r.length+1) by omega]
 have shift:∀(b:List Bs) (i:Nat),uB nm b i=if 0<=uB nm b 0 then i+uB nm b 0 else -1:=by
  intro b
  induction b with
  | nil=>intro i;simp[uB]
  | cons x r ih =>
    intro i;rw[uB,uB];by_cases h:x=nm
    ·rw[tl h,tl h];simp
    ·rw[tg h,tg h,ih (i+1),ih (0+1)]
     by_cases k:0<=uB nm r 0
     ·rw[tl k,tl k,tl (by omega)];omega
     ·rw[tg k,tg k];simp
 unfold zH;rw[key a 0];by_cases h:0<=uB nm a 0
 ·rw[tl h,tl h]
 ·rw[tg h,tg h,shift b (0+a.length)];simp
structure zGW(ins cs:List Bs)(x:zF):Prop where
 nodes:∀y∈x.nd,(y.kind=5->zH ins y.name<0/\0<=zH cs y.name)/\(y.kind=6->0<=zH ins y.name)/\(y.kind=7->0<=zH ins y.name/\(y.other≠[]->0<=zH ins y.other))
 parts:∀p∈x.sum,p.name=[]\/0<=zH ins p.name\/0<=zH cs p.name
structure sX(ins cs:List Bs)(s:vF)(vs:List Int):Prop where
 li:s.inputs.length=ins.length
 lh:s.has.length=cs.length
 lv:vs.length=ins.length+cs.length
 inp:∀i,i<ins.length->vs.getD i 0=s.inputs.getD i 0
 has:∀c,c<cs.length->decide (vs.getD (ins.length+c) 0=1)=s.has.getD c false
theorem sX.at_inp(h:sX ins cs s vs){nm:Bs}(hn:0<=zH ins nm):CC vs (zH (ins++cs) nm)/\Xf vs (zH (ins++cs) nm)=mJ s.inputs (zH ins nm):=by
 have hb:=cP ins nm;have hl:=h.lv;rw[dW,tl hn];refine⟨⟨hn,by omega⟩,?_⟩;unfold mJ;rw[tl ⟨hn,by rw[h.li];exact hb.2⟩];exact h.inp _ (by omega)
theorem sX.at_con(h:sX ins cs s vs){nm:Bs}(hn:zH ins nm<0)(hc:0<=zH cs nm):zH (ins++cs) nm=ins.length+zH cs nm/\CC vs (zH (ins++cs) nm)/\decide (Xf vs (zH (ins++cs) nm)=1)=pI s.has (zH cs nm):=by
 have hb:=cP cs nm;have hl:=h.lv;have e:zH (ins++cs) nm=ins.length+zH cs nm:=by rw[dW,tg (by omega),tl hc]
 refine⟨e,?_,?_⟩
 ·rw[e];exact⟨by omega,by omega⟩
 ·unfold pI
  rw[tm hc,h.lh,tm hb.2,md,md,<-h.has _ (by omega),e];unfold Xf;rw[show ((ins.length:Int)+zH cs nm).toNat=ins.length+(zH cs nm).toNat by omega]
theorem sX.node(h:sX ins cs s vs)(hx:zGW ins cs x):∀y∈x.nd,Fm (ins++cs) vs (YH ins cs s) y:=fun y hy=>by
 obtain⟨h5,h6,h7⟩:=hx.nodes y hy;refine⟨fun k=>?_,fun k=>h.at_inp (h6 k),fun k=>⟨(h.at_inp (h7 k).1).1,(h.at_inp (h7 k).1).2,fun ho=>h.at_inp ((h7 k).2 ho)⟩⟩;obtain⟨a,b⟩:=h5 k;exact(h.at_con a b).2
theorem zA5{names:List Bs}{E:x9}{u:zG}{w:Nat}(h:Z2 x u w)(hN:∀y∈x.nd,Fm names vs E y):eB vs (vN names (u.length+1) (u.drop (w+1))) []/\bX vs (vN names (u.length+1) (u.drop (w+1)))=(eG E x.nd).getD x.root.toNat false:=by
 obtain⟨k,y,hg⟩:=h.gr;have hr:=(zFQ hg hN (u.length+1) (by rw[ty];omega)).2 [] [];rw[ce]at hr;refine⟨hr.1 trivial,?_⟩;unfold bX;rw[hr.2];simp[nB]
theorem qb(h:sX ins cs s vs){p:yZ}(hp:p.name=[]\/0<=zH ins p.name\/0<=zH cs p.name) :
 (decide ((ins.length:Int)<=(uG (ins++cs) p).a)&&(Xf vs (uG (ins++cs) p).a != 1))=(decide ((dO ins cs p).kind=3) && !pI s.has (dO ins cs p).place):=by
 have ha:p.name≠[]->(uG (ins++cs) p).a=zH (ins++cs) p.name:=fun zIH=>by unfold uG;rw[tg zIH];split <;> rfl
 show _=(decide (zG5 ins p=3) && !pI s.has (zG4 ins cs p));unfold zG5 zG4;by_cases h0:p.name=[]
 ·rw[tl h0,tl h0]
  have:(uG (ins++cs) p).a = -1:=by unfold uG;rw[tl h0]
  rw[this,th (by omega)];rfl
 ·rw[tg h0,tg h0,ha h0]
  by_cases h1:zH ins p.name<0
  ·rw[tl h1,tl h1]
   have hc:0<=zH cs p.name:=by rcases hp with h|h|h;exact absurd h h0;omega;exact h
   obtain⟨e1,e2,e3⟩:=h.at_con h1 hc;rw[<-e3,e1,tm (by omega)];simp only[md,fk];generalize Xf vs ((ins.length:Int)+zH cs p.name)=z;by_cases k:z=1
   ·subst k;rfl
   ·rw[th k];simpa using k
  ·rw[tg h1,tg h1,dW,tl (by omega),th (by have:=cP ins p.name;omega)];rfl
theorem Fi{α β:Type}(f:α->β)(p:β->Bool)(l:List α):(l.map f).all p=l.all fun x=>p (f x):=by
 induction l with
 | nil=>rfl
 | cons x r ih=>rw[dm,List.all_cons,List.all_cons,ih]
theorem JI{α:Type}{p q:α->Bool}{l:List α}(h:∀x∈l,p x=q x):l.all p=l.all q:=by
 induction l with
 | nil=>rfl
 | cons x r ih=>rw[List.all_cons,List.all_cons,h x (by simp),ih fun y hy=>h y (by simp[hy])]
theorem sS(h:sX ins cs s vs){u:zG}(hx:zGW ins cs x)(hL:LT x u)(hk:cA u 0=zR):Zw ins.length vs (dK (ins++cs) u)/\qR ins.length vs (dK (ins++cs) u)=jW (uR ins cs x) s:=by
 obtain⟨w,hr⟩:=hL.rule hk;have hw:=hr.wAt;have e:(u.drop 5).take (w-5)=(u.take w).drop 5:=by rw[List.drop_take]
 have hS:=hr.sums;rw[<-e]at hS
 have eP:(dK (ins++cs) u).parts=x.sum.map (uG (ins++cs)):=by
  show rE (ins++cs) ((u.drop 5).take (iZ u-5))=_;rw[hw];exact qd hS
 have eS:(dK (ins++cs) u).steps=vN (ins++cs) (u.length+1) (u.drop (w+1)):=by
  show vN (ins++cs) (u.length+1) (u.drop (iZ u+1))=_;rw[hw]
 obtain⟨g1,g2⟩:=zA5 hr (h.node hx);have hb:0<=x.root/\x.root<(x.nd.length:Int):=by obtain⟨k,y,hg⟩:=hr.gr;exact hg.bound
 constructor
 ·unfold Zw
  rw[eP,eS];refine⟨fun p hp hle=>?_,g1⟩;obtain⟨q,hq,rfl⟩:=ml.1 hp
  have zIH:q.name≠[]:=fun h0=>by
   have:(uG (ins++cs) q).a = -1:=by unfold uG;rw[tl h0]
   omega
  have ha:(uG (ins++cs) q).a=zH (ins++cs) q.name:=by unfold uG;rw[tg zIH];split <;> rfl
  rw[ha]at hle ⊢;have:=cP (ins++cs) q.name;rw[tq]at this;exact⟨by omega,by rw[h.lv];omega⟩
 ·unfold qR jW
  rw[eP,eS,g2]
  have e1:bO ins.length vs (x.sum.map (uG (ins++cs)))=mP s (uR ins cs x).sum:=by
   show _=mP s (x.sum.map (dO ins cs));unfold bO mP;rw[Fi,Fi];exact JI fun p hp=>by rw[qb h (hx.parts p hp)]
  have e2:pI (nI s (uR ins cs x).guard []) (uR ins cs x).root=(eG (YH ins cs s) x.nd).getD x.root.toNat false:=by
   show pI (nI s (x.nd.map (lS ins cs)) []) x.root=_;rw[zGJ];unfold pI;rw[tm hb.1,show KB (YH ins cs s) x.nd []=eG (YH ins cs s) x.nd from rfl,Xb,tm hb.2];rfl
  rw[e1,e2]
open Go.RowKit
def zHF(w:World)(b o:Nat)(G:List Bool):Prop:=∀k,k<64->w.cell? ⟨b,o+k,none⟩=some (.bool (G.getD k false))
theorem zHF.below{w w':World}{b o:Nat}{G:List Bool}(h:zHF w b o G)(hb:Below w.heap.size w w'):zHF w' b o G:=fun k hk=>by
 rw[hb.cell (p:=⟨b,o+k,none⟩) (zP (h k hk))];exact h k hk
def ZP(G:List Bool)(a b:Int):Bool:=(decide (0<=a)&&decide (a<8))&&((decide (0<=b)&&decide (b<8))&&gA G a.toNat b.toNat)
theorem zH2(w:World)(g o:Nat)(G:List Bool)(a b:Int)(h:zHF w g o G) :
 Calls Tryz.prog 187 #[.pointer (some ⟨g,o,none⟩),.int .i64 a,.int .i64 b] w fun e w'=>e=.returned (.bool (ZP G a b))/\w'=w:=by
 have HA:Hid (ZP G a b=((decide (0<=a)&&decide (a<8))&&((decide (0<=b)&&decide (b<8))&&gA G a.toNat b.toNat))):=rfl;have HP:=zA (fun k w=>dT k w);generalize ZP G a b=ans at *;by_cases ka:0<=a/\a<8
 ·by_cases kb:0<=b/\b<8
  ·obtain⟨na,rfl⟩:∃n:Nat,a=(n:Int):=⟨a.toNat,by omega⟩
   obtain⟨nb,rfl⟩:∃n:Nat,b=(n:Int):=⟨b.toNat,by omega⟩;have HA2:Hid (ans=gA G na nb):=by have:=HA.out;rw[tm ka.1,tm ka.2,tm kb.1,tm kb.2]at this;simpa[Hid] using this
   have hc:=h (na*8+nb) (by omega);rw[<-Nat.add_assoc]at hc;have HA3:Hid (ans=G.getD (na*8+nb) false):=HA2;have HP1:Hid (∀w:World,Calls Tryz.prog 224 #[.int .i64 (na:Int)] w fun e w'=>e=.returned (.bool true)/\w'=w):=fun w=>by have:=HP.out (na:Int) w;rw[tm ka.1,tm ka.2]at this;exact this
   have HP2:Hid (∀w:World,Calls Tryz.prog 224 #[.int .i64 (nb:Int)] w fun e w'=>e=.returned (.bool true)/\w'=w):=fun w=>by have:=HP.out (nb:Int) w;rw[tm kb.1,tm kb.2]at this;exact this
   have la:na<8:=by omega
   have lb:nb<8:=by omega
   clear HA HA2 HP h ka kb;generalize G.getD (na*8+nb) false=z at *
   go_enter Tryz.func187,Tryz.ntmps187
   go_wp2_with fail
   refine(HP1.out _).mono ?_;rintro e w' ⟨rfl,hw⟩;obtain rfl:=hw.symm;go_wp2_with fail
   refine(HP2.out _).mono ?_;rintro e w' ⟨rfl,hw⟩;obtain rfl:=hw.symm;go_wp2_with fail
   go_ret
   exact⟨zE HA3.out.symm,rfl⟩
  ·have hb:(decide (0<=b)&&decide (b<8))=false:=by
    rcases cr b 0 with h1|h1
    ·rw[th (by omega)];rfl
    ·rw[th (show ¬b<8 by omega)];simp
   have HA2:Hid (ans=false):=by have:=HA.out;rw[hb]at this;simpa[Hid] using this
   have HP1:Hid (∀w:World,Calls Tryz.prog 224 #[.int .i64 a] w fun e w'=>e=.returned (.bool true)/\w'=w):=fun w=>by have:=HP.out a w;rw[tm ka.1,tm ka.2]at this;exact this
   have HP2:Hid (∀w:World,Calls Tryz.prog 224 #[.int .i64 b] w fun e w'=>e=.returned (.bool false)/\w'=w):=fun w=>by have:=HP.out b w;rw[hb]at this;exact this
   clear HA HP h hb ka kb
   go_enter Tryz.func187,Tryz.ntmps187
   go_wp2_with fail
   refine(HP1.out _).mono ?_;rintro e w' ⟨rfl,hw⟩;obtain rfl:=hw.symm;go_wp2_with fail
   refine(HP2.out _).mono ?_;rintro e w' ⟨rfl,hw⟩;obtain rfl:=hw.symm;go_wp2_with fail
   go_ret
   exact⟨zE HA2.out.symm,rfl⟩
 ·have ha:(decide (0<=a)&&decide (a<8))=false:=by
   rcases cr a 0 with h1|h1
   ·rw[th (by omega)];rfl
   ·rw[th (show ¬a<8 by omega)];simp
  have HA2:Hid (ans=false):=by have:=HA.out;rw[ha]at this;simpa[Hid] using this
  have HP1:Hid (∀w:World,Calls Tryz.prog 224 #[.int .i64 a] w fun e w'=>e=.returned (.bool false)/\w'=w):=fun w=>by have:=HP.out a w;rw[ha]at this;exact this
  clear HA HP h ha ka
  go_enter Tryz.func187,Tryz.ntmps187
  go_wp2_with fail
  refine(HP1.out _).mono ?_;rintro e w' ⟨rfl,hw⟩;obtain rfl:=hw.symm;go_wp2_with fail
  go_ret
  exact⟨zE HA2.out.symm,rfl⟩
theorem eJ(w:World)(b o:Nat)(G:List Bool)(x y:Int)(h:zHF w b (o+3) G) :
 Calls Tryz.prog 121 #[.pointer (some ⟨b,o,none⟩),.int .i64 x,.int .i64 y] w fun e w'=>e=.returned (.bool (ZP G x y))/\w'=w:=by
 have HG:=zA (zH2 w b (o+3) G x y h);clear h;generalize ZP G x y=z at *
 go_enter Tryz.func121,Tryz.ntmps121
 go_wp2_with fail
 refine HG.out.mono ?_;rintro e w' ⟨rfl,hw⟩;obtain rfl:=hw.symm;go_wp2_with fail
 go_ret
 exact⟨rfl,rfl⟩
structure uO(ls:List zF):Prop where
 many:∀i,i<ls.length->mK ls i=false
 err:∀i,i<ls.length->pS ls i=0
 nam:jY (mA (zT ls) ls gZ)=false
 ord:jY (jI (xH ls) ls gZ)=false
theorem zI0(h:(kC ls).1=0):uO ls:=by
 revert h
 unfold kC
 cases hm:fX ls ls.length 0 with
 | some i=>intro h;exact absurd (show (3:Int)=0 from h) (by decide)
 | none =>
   have hmany:=fun i (hi:i<ls.length)=>XM ls.length 0 hm i (tr _) (by omega);simp only;unfold J6
   cases he:sO ls ls.length 0 with
   | some i =>
     intro h;exfalso
     have h1:pS ls i=0:=h
     have:∀n i j,sO ls n i=some j->pS ls j≠0:=by
      intro n
      induction n with
      | zero=>intro i j h;simp[sO]at h
      | succ n ih=>intro i j h;rw[sO]at h;split at h
                   ·exact ih _ _ h
                   ·rename_i zIH;obtain rfl:=co h;exact zIH
     exact this _ _ _ he h1
   | none =>
     have herr:=fun i (hi:i<ls.length)=>J7 ls.length 0 he i (tr _) (by omega);simp only;unfold Kg;intro h
     cases hr:jY (mA (zT ls) ls gZ) with
     | true=>rw[hr,tl rfl]at h;exact absurd (show (7:Int)=0 from h) (by decide)
     | false =>
       rw[hr,tg (by decide)]at h
       cases hs:jY (jI (xH ls) ls gZ) with
       | true=>rw[hs,tl rfl]at h;exact absurd (show (7:Int)=0 from h) (by decide)
       | false=>exact⟨hmany,herr,hr,hs⟩
theorem uO.rules(h:uO ls):qD 3 ls<=8:=J5 h.many
theorem CF(ls:List zF):(zT ls).length<=qD 3 ls:=by have:=(aK ls [] (by simp)).2.2;simpa[zT] using this
theorem uO.heads(h:uO ls):(zT ls).length<=8:=tx (CF ls) h.rules
theorem Ju(ls:List zF)(nm:Bs):nm∈zT ls ↔ jZ ls nm=true:=by
 have:=(aK ls [] (by simp)).2.1 nm;unfold zT jZ;simpa using this
theorem fM(l:List Bs)(nm:Bs):0<=zH l nm ↔ nm∈l:=by
 have:=aM nm l 0;unfold zH;constructor
 ·intro h;exact Classical.not_not.1 fun hn=>by have:=this.2 hn;omega
 ·intro h;rcases cr (uB nm l 0) 0 with h1|h1
  ·exact absurd h (this.1 h1)
  ·exact h1
theorem XJ(ls:List zF)(nm:Bs):nm∈xI ls ↔ (vR ls 1 nm=true\/vR ls 2 nm=true):=by
 rw[fL];simp only[ml,ma,vR,mj,Zo,tz,py];constructor
 ·rintro⟨x,⟨h1,h2|h2⟩,h3⟩
  ·exact .inl ⟨x,h1,h2,h3⟩
  ·exact .inr ⟨x,h1,h2,h3⟩
 ·rintro(⟨x,h1,h2,h3⟩|⟨x,h1,h2,h3⟩)
  ·exact⟨x,⟨h1,.inl h2⟩,h3⟩
  ·exact⟨x,⟨h1,.inr h2⟩,h3⟩
theorem XI(h:x∈ls):∃i,i<ls.length/\lA ls i=x:=by
 obtain⟨i,hi,rfl⟩:=f8 h;exact⟨i,hi,by simp[lA,List.getD,hi]⟩
theorem uO.apart(h:uO ls){nm:Bs}(h1:nm∈xI ls):jZ ls nm=false:=by
 rw[fL]at h1;obtain⟨x,hx,rfl⟩:=ml.1 h1;obtain⟨hm,hk⟩:=ma.1 hx;obtain⟨i,hi,rfl⟩:=XI hm;have he:=h.err i hi
 have zIK:lW ls i=0:=by
  unfold pS at he;rcases(bg hk:(lA ls i).kind=1\/(lA ls i).kind=2) with k|k
  ·rw[tl k]at he
   unfold iE at he;by_cases h0:lW ls i=0
   ·exact h0
   ·rw[tg h0]at he;exact he
  ·rw[tg (by omega),tl k]at he;exact he
 unfold lW at zIK
 cases hc:jZ ls (lA ls i).name with
 | false=>rfl
 | true=>rw[hc,dy,dy,tl rfl]at zIK;exact absurd zIK (by decide)
theorem uO.ruOk(h:uO ls)(hx:x∈ls)(hk:x.kind=3):zGW (xI ls) (zT ls) x:=by
 obtain⟨i,hi,rfl⟩:=XI hx;have he:=h.err i hi;unfold pS at he;rw[tg (by omega),tg (by omega),tl hk]at he;unfold bM at he
 have hb:(vR (ls.take i) 3 (lA ls i).name || ((lA ls i).sum.any (fun x => !kH ls x) || (lA ls i).nd.any (fun x => !vC ls x)))=false:=by
  cases hc:(vR (ls.take i) 3 (lA ls i).name || ((lA ls i).sum.any (fun x => !kH ls x) || (lA ls i).nd.any (fun x => !vC ls x))) with
  | false=>rfl
  | true=>rw[hc,tl rfl]at he;exact absurd he (by decide)
 rw[ld,ld]at hb;obtain⟨-,hp,hn⟩:=hb;have hn':∀y∈(lA ls i).nd,vC ls y=true:=fun y hy=>by have:=List.any_eq_false.1 hn y hy;simpa using this
 have hp':∀y∈(lA ls i).sum,kH ls y=true:=fun y hy=>by have:=List.any_eq_false.1 hp y hy;simpa using this
 have hin1:∀nm,vR ls 1 nm=true->0<=zH (xI ls) nm:=fun nm hh=>(fM _ _).2 ((XJ _ _).2 (.inl hh));have hin2:∀nm,vR ls 2 nm=true->0<=zH (xI ls) nm:=fun nm hh=>(fM _ _).2 ((XJ _ _).2 (.inr hh))
 have hco:∀nm,jZ ls nm=true->zH (xI ls) nm<0/\0<=zH (zT ls) nm:=fun nm hh=>by
  refine⟨?_,(fM _ _).2 ((Ju _ _).2 hh)⟩;rcases cr (zH (xI ls) nm) 0 with h1|h1
  ·exact h1
  ·have:=h.apart ((fM _ _).1 h1);rw[hh]at this;cases this
 refine⟨fun y hy=>?_,fun p hp2=>?_⟩
 ·have:=hn' y hy
  unfold vC at this;refine⟨fun k=>?_,fun k=>?_,fun k=>?_⟩
  ·rw[tl k]at this;exact hco _ this
  ·rw[tg (by omega),tl k]at this;exact hin2 _ this
  ·rw[tg (by omega),tg (by omega),tl k,tz,mz,py]at this
   exact⟨hin1 _ this.2,fun ho=>hin1 _ (this.1.resolve_left ho)⟩
 ·have:=hp' p hp2
  unfold kH Xr at this;rw[mz,mz,py]at this;rcases this with h1|h1|h1
  ·exact .inl h1
  ·exact .inr (.inl (hin1 _ h1))
  ·exact .inr (.inr (hco _ h1).2)
theorem uO.sums(h:uO ls)(hx:x∈ls)(hk:x.kind=3):x.sum.length<=4/\∀p∈x.sum,p.starred=true->p.num<=9:=by
 obtain⟨i,hi,rfl⟩:=XI hx;have he:=h.many i hi;unfold mK Jv pX at he;rw[tm hk,md,ld,ld,ld,ld]at he;obtain⟨-,-,-,h1,h2⟩:=he;refine⟨by have:=of_decide_eq_false h1;omega,fun p hp hs=>?_⟩;have:=List.any_eq_false.1 h2 p hp;unfold tD at this;rw[hs]at this;simpa using this
theorem uO.labs(h:uO ls):(xH ls).Nodup:=by
 refine XQ ls fun i hi hk=>?_;have he:=h.err i hi;unfold pS at he;rw[tg (by omega),tg (by omega),tl hk]at he;unfold bM at he
 cases hc:vR (ls.take i) 3 (lA ls i).name with
 | false=>rfl
 | true=>rw[hc,dq,tl rfl]at he;exact absurd he (by decide)
theorem G9(ls:List zF):(xH ls).length<=qD 3 ls:=by have:=(XR ls []).1;unfold xH;simp at this;omega
theorem Qx(hA:yP ls us)(h:uO ls){i k:Nat}(hi:i<8)(hk:k<8):Yc us i k=gA (xE (jI (xH ls) ls gZ)) i k:=by
 have hl:(jI (xH ls) ls gZ).length=64:=by rw[fG];exact vE
 have hn:=h.labs;have h8:(xH ls).length<=8:=tx (G9 ls) h.rules
 have hstp:∀a b,a<8->b<8->(Vb (jE us true (xH ls)) (xH ls).length a b ↔ gA (jI (xH ls) ls gZ) a b=true):=by
  intro a b ha hb;rw[V7 _ _ ha hb _ vE,CI,pm]
  have e1:ls.any (zEU (xH ls) a b)=(decide (a<(xH ls).length)&&(decide (b<(xH ls).length)&&ls.any (zH8 ((xH ls).getD a []) ((xH ls).getD b [])))):=by
   rw[<-aQ,<-aQ];congr 1
   funext x
   exact zET hn x
  rw[e1];unfold Vb jE rL rX;simp only;rw[<-bE hA (fun x u hx=>(D7 hx _ _).symm),tz,tz,pr,pr]
 unfold Yc;rw[ZL hA,ct,iL];have hc:=iT hl i k;constructor
 ·intro ht
  have ha:KI (xE (jI (xH ls) ls gZ)) i k:=hc.2 (ht.mono fun x y hxy=>by
   have zI6:x<(xH ls).length/\y<(xH ls).length:=⟨hxy.1,hxy.2.1⟩;exact⟨by omega,by omega,(hstp x y (by omega) (by omega)).1 hxy⟩)
  exact ha.2.2
 ·intro hg
  exact(hc.1 ⟨hi,hk,hg⟩).mono fun x y hxy=>(hstp x y hxy.1 hxy.2.1).2 hxy.2.2
structure Hear where
 has:Nat->Bool
 val:Nat->Int
 ap:Nat->Bool
 vd:Nat->Int
 st:Nat->Int
 av:Nat->Int
def h0:Hear:=⟨fun _=>false,fun _=>0,fun _=>false,fun _=>0,fun _=>0,fun _=>0⟩
def rO(ls:List zF):List zF:=ls.filter fun x=>decide (x.kind=3)
theorem jg(ls:List zF):xH ls=(rO ls).map zF.name:=by
 have key:∀(ls:List zF) acc,jG ls acc=acc++(ls.filter fun x=>decide (x.kind=3)).map zF.name:=by
  intro ls
  induction ls with
  | nil=>intro acc;simp[jG]
  | cons x r ih=>intro acc;rw[jG,ih];by_cases h:x.kind=3 <;> simp[h]
 unfold xH rO;rw[key];simp
theorem Jg(ins cs:List Bs)(ls:List zF):jN ins cs ls=(rO ls).map (uR ins cs):=by
 unfold jN rO;rw[FJ];simp
theorem zFS(ls:List zF):(rO ls).length=qD 3 ls:=by
 unfold rO
 induction ls with
 | nil=>rfl
 | cons x r ih=>rw[qD];by_cases h:x.kind=3 <;> simp[h,ih];omega
theorem Fd{i:Nat}(h:i<us.length):us.drop i=uA us i::us.drop (i+1):=by
 rw[pb h];simp[uA,List.getD,h]
theorem zDF(us:List zG):qC us=(us.filter fun u=>decide (cA u 0=xK\/cA u 0=xV)).map (tA · 1):=by
 have key:∀n i acc,i+n=us.length->XW us n i acc=acc++((us.drop i).filter fun u=>decide (cA u 0=xK\/cA u 0=xV)).map (tA · 1):=by
  intro n
  induction n with
  | zero=>intro i acc h;rw[tu (by omega)];simp[XW]
  | succ n ih =>
    intro i acc h;rw[XW,ih (i+1) _ (by omega),Fd (show i<us.length by omega)];by_cases hk:cA (uA us i) 0=xK\/cA (uA us i) 0=xV <;> simp[hk]
 unfold qC;rw[key us.length 0 [] (by omega)];simp
theorem un(names:List Bs)(us:List zG):vO names us=(us.filter fun u=>decide (cA u 0=zR)).map (dK names):=by
 have key:∀n i acc,i+n=us.length->oV names us n i acc=acc++((us.drop i).filter fun u=>decide (cA u 0=zR)).map (dK names):=by
  intro n
  induction n with
  | zero=>intro i acc h;rw[tu (by omega)];simp[oV]
  | succ n ih =>
    intro i acc h;rw[oV,ih (i+1) _ (by omega),Fd (show i<us.length by omega)];by_cases hk:cA (uA us i) 0=zR <;> simp[hk]
 unfold vO;rw[key us.length 0 [] (by omega)];simp
theorem Ue:∀ {ls:List zF} {us:List zG},yP ls us->(us.filter fun u=>decide (cA u 0=xK\/cA u 0=xV)).map (tA · 1)=(ls.filter fun x=>decide (x.kind=1\/x.kind=2)).map zF.name
 | [],[],_=>rfl
 | x::xs,u::us,h=>by
   have hk:(cA u 0=xK\/cA u 0=xV) ↔ (x.kind=1\/x.kind=2):=by rw[h.1.k1,h.1.k2]
   have ih:=Ue h.2;by_cases k:x.kind=1\/x.kind=2
   ·have k2:=hk.2 k
    rw[List.filter_cons_of_pos (by simpa using k2),List.filter_cons_of_pos (by simpa using k),dm,dm,ih];show tA u 1::_=_;rw[h.1.name]
   ·have k2:¬(cA u 0=xK\/cA u 0=xV):=fun e=>k (hk.1 e)
    rw[List.filter_cons_of_neg (by simpa using k2),List.filter_cons_of_neg (by simpa using k),ih]
 | [],_::_,h=>absurd h id
 | _::_,[],h=>absurd h id
theorem lD(hA:yP ls us):qC us=xI ls:=by rw[zDF,Ue hA,fL]
theorem Jh:∀ {ls:List zF} {us:List zG},yP ls us->(us.filter fun u=>decide (cA u 0=zR)).length=(rO ls).length/\∀r,r<(rO ls).length->LT ((rO ls).getD r Vc) ((us.filter fun u=>decide (cA u 0=zR)).getD r [])/\cA ((us.filter fun u=>decide (cA u 0=zR)).getD r []) 0=zR
 | [],[],_=>⟨rfl,fun r h=>absurd h (by simp[rO])⟩
 | x::xs,u::us,h=>by
   obtain⟨i1,i2⟩:=Jh h.2;unfold rO at *;by_cases k:x.kind=3
   ·have k2:=h.1.k3.1 k
    rw[List.filter_cons_of_pos (by simpa using k2),List.filter_cons_of_pos (by simpa using k)];refine⟨by simp[i1],fun r hr=>?_⟩
    cases r with
    | zero=>exact⟨h.1,k2⟩
    | succ r=>exact i2 r (by simpa using hr)
   ·have k2:¬cA u 0=zR:=fun e=>k (h.1.k3.2 e)
    rw[List.filter_cons_of_neg (by simpa using k2),List.filter_cons_of_neg (by simpa using k)];exact⟨i1,i2⟩
 | [],_::_,h=>absurd h id
 | _::_,[],h=>absurd h id
def QO:pU:=⟨[],0,[],[]⟩
theorem Kf(hA:yP ls us)(names:List Bs):(vO names us).length=(rO ls).length/\∀r,r<(rO ls).length->∃u,LT ((rO ls).getD r Vc) u/\cA u 0=zR/\(vO names us).getD r QO=dK names u:=by
 obtain⟨h1,h2⟩:=Jh hA;rw[un];refine⟨by simpa using h1,fun r hr=>⟨_,(h2 r hr).1,(h2 r hr).2,?_⟩⟩;simp[List.getD,show r<(us.filter fun u=>decide (cA u 0=zR)).length by omega]
theorem XX(h:uO ls):(xI ls).Nodup:=by
 have key:∀n,n<=ls.length->(xI (ls.take n)).Nodup:=by
  intro n
  induction n with
  | zero=>intro _;simp[xI,yG,nG]
  | succ n ih =>
    intro hn;have ih:=ih (by omega);rw[fL,pJ ls n (by omega),List.filter_append,List.map_append];rw[fL]at ih;by_cases hk:(lA ls n).kind=1\/(lA ls n).kind=2
    ·rw[List.filter_cons_of_pos (by simpa using hk),fd,List.nodup_append]
     refine⟨ih,by simp,fun a ha b hb=>?_⟩;simp only[dm,List.map_nil,pu]at hb;subst hb;intro e;subst e;have hm:=(XJ (ls.take n) (lA ls n).name).1 (by rw[fL];exact ha);have he:=h.err n (by omega)
     have zIK:lW ls n=0:=by
      unfold pS at he;rcases hk with k|k
      ·rw[tl k]at he
       unfold iE at he;by_cases h0:lW ls n=0
       ·exact h0
       ·rw[tg h0]at he;exact he
      ·rw[tg (by omega),tl k]at he;exact he
     unfold lW at zIK;rcases hm with hm|hm
     ·rw[hm,dq,tl rfl]at zIK;exact absurd zIK (by decide)
     ·rw[hm,dq,dy,tl rfl]at zIK;exact absurd zIK (by decide)
    ·rw[List.filter_cons_of_neg (by simpa using hk),fd];simpa using ih
 have:=key ls.length (t9 _)
 rwa [lj]at this
theorem Qd{α β:Type}(f:α->β)(l:List α)(j:Nat)(d:α)(d':β)(h:j<l.length):(l.map f).getD j d'=f (l.getD j d):=by simp[List.getD,h]
def DV(ls:List zF):List zF:=ls.filter fun x=>decide (x.kind=1\/x.kind=2)
theorem aJ(h:x∈DV ls):x.kind=1\/x.kind=2:=bg (ma.1 h).2
theorem XY(ls:List zF):xI ls=(DV ls).map zF.name:=fL ls
theorem Zq(ls:List zF):yG ls=(DV ls).map oZ:=by unfold yG;rw[Ug,bf];rfl
end Go.Proofs.YtnbpdffdnphbeaaGreatDoor
