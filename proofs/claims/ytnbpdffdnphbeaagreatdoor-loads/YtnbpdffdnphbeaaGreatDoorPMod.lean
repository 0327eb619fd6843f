import Derived.Test.YtnbpdffdnphbeaaGreatDoorMState
import Derived.Test.YtnbpdffdnphbeaaGreatDoorPRound
import Derived.Test.YtnbpdffdnphbeaaGreatDoorDAbove
import Derived.Test.YtnbpdffdnphbeaaGreatDoorDFacts
set_option maxHeartbeats 2000000
namespace Go.Proofs.YtnbpdffdnphbeaaGreatDoor
variable{cs ins:List Bs}{vs:List Int}{ls:List zF}{us:List zG}{s:vD}{x:zF}
def YD(ins cs:List Bs)(s:vD):x7:=⟨fun nm=>pF s.has (zH cs nm),fun nm=>mI s.inputs (zH ins nm)⟩
theorem zG8(ins cs:List Bs)(s:vD)(hs:List Bool)(x:zX):Cj (lR ins cs x) s hs=QF (YD ins cs s) hs x:=by
 unfold Cj QF lR;simp only;by_cases h1:x.kind=1
 ·rw[tj h1,tj h1]
 rw[tg h1,tg h1];by_cases h2:x.kind=2
 ·rw[tj h2,tj h2]
 rw[tg h2,tg h2];by_cases h3:x.kind=3
 ·rw[tj h3,tj h3]
 rw[tg h3,tg h3];by_cases h4:x.kind=4
 ·rw[tj h4,tj h4]
 rw[tg h4,tg h4];by_cases h5:x.kind=5
 ·rw[tj h5,tj h5];unfold D8 YD;rw[tj h5]
 rw[tg h5,tg h5];by_cases h6:x.kind=6
 ·rw[tj h6,tj h6];unfold D8 YD;rw[tg h5,tj (.inl h6)]
 rw[tg h6,tg h6];by_cases h7:x.kind=7
 ·rw[tj h7,tj h7]
  have e1:D8 ins cs x=zH ins x.name:=by unfold D8;rw[tg h5,tj (.inr h7)]
  have e2:(if decide (x.other≠[])=true then mI s.inputs (zEV ins x) else x.num)=(if x.other=[] then x.num else (YD ins cs s).inp x.other):=by
   by_cases ho:x.other=[]
   ·simp[ho]
   ·simp only[ho,ne_eq,not_false_eq_true,fo,if_true,if_false];unfold zEV YD;rw[tg ho]
  unfold QI zq;simp only;rw[e1,e2,show (YD ins cs s).inp x.name=mI s.inputs (zH ins x.name) from rfl];generalize mI s.inputs (zH ins x.name)=p;generalize (if x.other=[] then x.num else (YD ins cs s).inp x.other)=q;by_cases k1:p<q
  ·rw[tj k1,tj k1];rfl
  ·rw[tg k1,tg k1]
   by_cases k2:p=q
   ·rw[tg (by omega),tj k2];rfl
   ·rw[tj (by omega),tg k2];rfl
 ·rw[tg h7,tg h7]
theorem zGO(ins cs:List Bs)(s:vD)(N:List zX):∀hs,nF s (N.map (lR ins cs)) hs=K8 (YD ins cs s) N hs:=by
 induction N with
 | nil=>intro hs;rfl
 | cons x r ih=>intro hs;rw[dm,nF,K8,zG8,ih]
theorem cM(l:List Bs)(nm:Bs) : -1<=zH l nm/\zH l nm<l.length:=by
 have:=Yv nm l 0;unfold zH;omega
theorem dT(a b:List Bs)(nm:Bs):zH (a++b) nm=if 0<=zH a nm then zH a nm else if 0<=zH b nm then a.length+zH b nm else -1:=by
 have key:∀(a:List Bs) (i:Nat),vY nm (a++b) i=if 0<=vY nm a i then vY nm a i else vY nm b (i+a.length):=by
  intro a
  induction a with
  | nil=>intro i;simp[vY]
  | cons x r ih =>
    intro i;rw[bw,vY,vY];by_cases h:x=nm
    ·rw[tj h,tj h,tj (by omega)]
    ·rw[tg h,tg h,ih (i+1)];simp only[p7];rw[show i+1+r.length=i+(r.length+1) by omega]
 have shift:∀(b:List Bs) (i:Nat),vY nm b i=if 0<=vY nm b 0 then i+vY nm b 0 else -1:=by
  intro b
  induction b with
  | nil=>intro i;simp[vY]
  | cons x r ih =>
    intro i;rw[vY,vY];by_cases h:x=nm
    ·rw[tj h,tj h];simp
    ·rw[tg h,tg h,ih (i+1),ih (0+1)]
     by_cases k:0<=vY nm r 0
     ·rw[tj k,tj k,tj (by omega)];omega
     ·rw[tg k,tg k];simp
 unfold zH;rw[key a 0];by_cases h:0<=vY nm a 0
 ·rw[tj h,tj h]
 ·rw[tg h,tg h,shift b (0+a.length)];simp
structure zH0(ins cs:List Bs)(x:zF):Prop where
 nodes:∀y∈x.nd,(y.kind=5->zH ins y.name<0/\0<=zH cs y.name)/\(y.kind=6->0<=zH ins y.name)/\(y.kind=7->0<=zH ins y.name/\(y.other≠[]->0<=zH ins y.other))
 parts:∀p∈x.sum,p.name=[]\/0<=zH ins p.name\/0<=zH cs p.name
structure aY(ins cs:List Bs)(s:vD)(vs:List Int):Prop where
 li:s.inputs.length=ins.length
 lh:s.has.length=cs.length
 lv:vs.length=ins.length+cs.length
 inp:∀i,i<ins.length->vs.getD i 0=s.inputs.getD i 0
 has:∀c,c<cs.length->decide (vs.getD (ins.length+c) 0=1)=s.has.getD c false
theorem aY.at_inp(h:aY ins cs s vs){nm:Bs}(hn:0<=zH ins nm):C2 vs (zH (ins++cs) nm)/\YZ vs (zH (ins++cs) nm)=mI s.inputs (zH ins nm):=by
 have hb:=cM ins nm;have hl:=h.lv;rw[dT,tj hn];refine⟨⟨hn,by omega⟩,?_⟩;unfold mI;rw[tj ⟨hn,by rw[h.li];exact hb.2⟩];exact h.inp _ (by omega)
theorem aY.at_con(h:aY ins cs s vs){nm:Bs}(hn:zH ins nm<0)(hc:0<=zH cs nm):zH (ins++cs) nm=ins.length+zH cs nm/\C2 vs (zH (ins++cs) nm)/\decide (YZ vs (zH (ins++cs) nm)=1)=pF s.has (zH cs nm):=by
 have hb:=cM cs nm;have hl:=h.lv;have e:zH (ins++cs) nm=ins.length+zH cs nm:=by rw[dT,tg (by omega),tj hc]
 refine⟨e,?_,?_⟩
 ·rw[e];exact⟨by omega,by omega⟩
 ·unfold pF
  rw[tm hc,h.lh,tm hb.2,md,md,<-h.has _ (by omega),e];unfold YZ;rw[show ((ins.length:Int)+zH cs nm).toNat=ins.length+(zH cs nm).toNat by omega]
theorem aY.node(h:aY ins cs s vs)(hx:zH0 ins cs x):∀y∈x.nd,Fg (ins++cs) vs (YD ins cs s) y:=fun y hy=>by
 obtain⟨h5,h6,h7⟩:=hx.nodes y hy;refine⟨fun k=>?_,fun k=>h.at_inp (h6 k),fun k=>⟨(h.at_inp (h7 k).1).1,(h.at_inp (h7 k).1).2,fun ho=>h.at_inp ((h7 k).2 ho)⟩⟩;obtain⟨a,b⟩:=h5 k;exact(h.at_con a b).2
theorem zAA{names:List Bs}{E:x7}{u:zG}{w:Nat}(h:Z2 x u w)(hN:∀y∈x.nd,Fg names vs E y):eA vs (vM names (u.length+1) (u.drop (w+1))) []/\bV vs (vM names (u.length+1) (u.drop (w+1)))=(eE E x.nd).getD x.root.toNat false:=by
 obtain⟨k,y,hg⟩:=h.gr;have hr:=(zFW hg hN (u.length+1) (by rw[ty];omega)).2 [] [];rw[ce]at hr;refine⟨hr.1 trivial,?_⟩;unfold bV;rw[hr.2];simp[gX]
theorem qb(h:aY ins cs s vs){p:yX}(hp:p.name=[]\/0<=zH ins p.name\/0<=zH cs p.name) :
 (decide ((ins.length:Int)<=(uE (ins++cs) p).a)&&(YZ vs (uE (ins++cs) p).a != 1))=(decide ((dK ins cs p).kind=3) && !pF s.has (dK ins cs p).place):=by
 have ha:p.name≠[]->(uE (ins++cs) p).a=zH (ins++cs) p.name:=fun zIM=>by unfold uE;rw[tg zIM];split <;> rfl
 show _=(decide (zGA ins p=3) && !pF s.has (zG9 ins cs p));unfold zGA zG9;by_cases h0:p.name=[]
 ·rw[tj h0,tj h0]
  have:(uE (ins++cs) p).a = -1:=by unfold uE;rw[tj h0]
  rw[this,th (by omega)];rfl
 ·rw[tg h0,tg h0,ha h0]
  by_cases h1:zH ins p.name<0
  ·rw[tj h1,tj h1]
   have hc:0<=zH cs p.name:=by rcases hp with h|h|h;exact absurd h h0;omega;exact h
   obtain⟨e1,e2,e3⟩:=h.at_con h1 hc;rw[<-e3,e1,tm (by omega)];simp only[md,fo];generalize YZ vs ((ins.length:Int)+zH cs p.name)=z;by_cases k:z=1
   ·subst k;rfl
   ·rw[th k];simpa using k
  ·rw[tg h1,tg h1,dT,tj (by omega),th (by have:=cM ins p.name;omega)];rfl
theorem Fd{α β:Type}(f:α->β)(p:β->Bool)(l:List α):(l.map f).all p=l.all fun x=>p (f x):=by
 induction l with
 | nil=>rfl
 | cons x r ih=>rw[dm,List.all_cons,List.all_cons,ih]
theorem JB{α:Type}{p q:α->Bool}{l:List α}(h:∀x∈l,p x=q x):l.all p=l.all q:=by
 induction l with
 | nil=>rfl
 | cons x r ih=>rw[List.all_cons,List.all_cons,h x (by simp),ih fun y hy=>h y (by simp[hy])]
theorem Qm(h:aY ins cs s vs){u:zG}(hx:zH0 ins cs x)(hL:LT x u)(hk:cA u 0=zQ):Zw ins.length vs (fO (ins++cs) u)/\kB ins.length vs (fO (ins++cs) u)=tP (qA ins cs x) s:=by
 obtain⟨w,hr⟩:=hL.rule hk;have hw:=hr.wAt;have e:(u.drop 5).take (w-5)=(u.take w).drop 5:=by rw[List.drop_take]
 have hS:=hr.sums;rw[<-e]at hS
 have eP:(fO (ins++cs) u).parts=x.sum.map (uE (ins++cs)):=by
  show rD (ins++cs) ((u.drop 5).take (wC u-5))=_;rw[hw];exact qd hS
 have eS:(fO (ins++cs) u).steps=vM (ins++cs) (u.length+1) (u.drop (w+1)):=by
  show vM (ins++cs) (u.length+1) (u.drop (wC u+1))=_;rw[hw]
 obtain⟨g1,g2⟩:=zAA hr (h.node hx);have hb:0<=x.root/\x.root<(x.nd.length:Int):=by obtain⟨k,y,hg⟩:=hr.gr;exact hg.bound
 constructor
 ·unfold Zw
  rw[eP,eS];refine⟨fun p hp hle=>?_,g1⟩;obtain⟨q,hq,rfl⟩:=mn.1 hp
  have zIM:q.name≠[]:=fun h0=>by
   have:(uE (ins++cs) q).a = -1:=by unfold uE;rw[tj h0]
   omega
  have ha:(uE (ins++cs) q).a=zH (ins++cs) q.name:=by unfold uE;rw[tg zIM];split <;> rfl
  rw[ha]at hle ⊢;have:=cM (ins++cs) q.name;rw[tq]at this;exact⟨by omega,by rw[h.lv];omega⟩
 ·unfold kB tP
  rw[eP,eS,g2]
  have e1:bN ins.length vs (x.sum.map (uE (ins++cs)))=mN s (qA ins cs x).sum:=by
   show _=mN s (x.sum.map (dK ins cs));unfold bN mN;rw[Fd,Fd];exact JB fun p hp=>by rw[qb h (hx.parts p hp)]
  have e2:pF (nF s (qA ins cs x).guard []) (qA ins cs x).root=(eE (YD ins cs s) x.nd).getD x.root.toNat false:=by
   show pF (nF s (x.nd.map (lR ins cs)) []) x.root=_;rw[zGO];unfold pF;rw[tm hb.1,show K8 (YD ins cs s) x.nd []=eE (YD ins cs s) x.nd from rfl,YV,tm hb.2];rfl
  rw[e1,e2]
open Go.RowKit
def zHM(w:World)(b o:Nat)(G:List Bool):Prop:=∀k,k<64->w.cell? ⟨b,o+k,none⟩=some (.bool (G.getD k false))
theorem zHM.below{w w':World}{b o:Nat}{G:List Bool}(h:zHM w b o G)(hb:Below w.heap.size w w'):zHM w' b o G:=fun k hk=>by
 rw[hb.cell (p:=⟨b,o+k,none⟩) (zT (h k hk))];exact h k hk
def ZL(G:List Bool)(a b:Int):Bool:=(decide (0<=a)&&decide (a<8))&&((decide (0<=b)&&decide (b<8))&&gA G a.toNat b.toNat)
theorem zH9(w:World)(g o:Nat)(G:List Bool)(a b:Int)(h:zHM w g o G) :
 Calls Tryz.prog 187 #[.pointer (some ⟨g,o,none⟩),.int .i64 a,.int .i64 b] w fun e w'=>e=.returned (.bool (ZL G a b))/\w'=w:=by
 have HA:Hid (ZL G a b=((decide (0<=a)&&decide (a<8))&&((decide (0<=b)&&decide (b<8))&&gA G a.toNat b.toNat))):=rfl;have HP:=zA (fun k w=>dQ k w);generalize ZL G a b=ans at *;by_cases ka:0<=a/\a<8
 ·by_cases kb:0<=b/\b<8
  ·obtain⟨na,rfl⟩:∃n:Nat,a=(n:Int):=⟨a.toNat,by omega⟩
   obtain⟨nb,rfl⟩:∃n:Nat,b=(n:Int):=⟨b.toNat,by omega⟩;have HA2:Hid (ans=gA G na nb):=by have:=HA.out;rw[tm ka.1,tm ka.2,tm kb.1,tm kb.2]at this;simpa[Hid] using this
   have hc:=h (na*8+nb) (by omega);rw[<-Nat.add_assoc]at hc;have HA3:Hid (ans=G.getD (na*8+nb) false):=HA2;have HP1:Hid (∀w:World,Calls Tryz.prog 224 #[.int .i64 (na:Int)] w fun e w'=>e=.returned (.bool true)/\w'=w):=fun w=>by have:=HP.out (na:Int) w;rw[tm ka.1,tm ka.2]at this;exact this
   have HP2:Hid (∀w:World,Calls Tryz.prog 224 #[.int .i64 (nb:Int)] w fun e w'=>e=.returned (.bool true)/\w'=w):=fun w=>by have:=HP.out (nb:Int) w;rw[tm kb.1,tm kb.2]at this;exact this
   have la:na<8:=by omega
   have lb:nb<8:=by omega
   clear HA HA2 HP h ka kb;generalize G.getD (na*8+nb) false=z at *
   go_enter Tryz.func187,Tryz.ntmps187
   go_wp2_with fail
   refine(HP1.out _).mono ?_;rintro e w' ⟨rfl,hw⟩;obtain rfl:=hw.symm;go_wp2_with fail
   refine(HP2.out _).mono ?_;rintro e w' ⟨rfl,hw⟩;obtain rfl:=hw.symm;go_wp2_with fail
   go_ret
   exact⟨zE HA3.out.symm,rfl⟩
  ·have hb:(decide (0<=b)&&decide (b<8))=false:=by
    rcases cr b 0 with h1|h1
    ·rw[th (by omega)];rfl
    ·rw[th (show ¬b<8 by omega)];simp
   have HA2:Hid (ans=false):=by have:=HA.out;rw[hb]at this;simpa[Hid] using this
   have HP1:Hid (∀w:World,Calls Tryz.prog 224 #[.int .i64 a] w fun e w'=>e=.returned (.bool true)/\w'=w):=fun w=>by have:=HP.out a w;rw[tm ka.1,tm ka.2]at this;exact this
   have HP2:Hid (∀w:World,Calls Tryz.prog 224 #[.int .i64 b] w fun e w'=>e=.returned (.bool false)/\w'=w):=fun w=>by have:=HP.out b w;rw[hb]at this;exact this
   clear HA HP h hb ka kb
   go_enter Tryz.func187,Tryz.ntmps187
   go_wp2_with fail
   refine(HP1.out _).mono ?_;rintro e w' ⟨rfl,hw⟩;obtain rfl:=hw.symm;go_wp2_with fail
   refine(HP2.out _).mono ?_;rintro e w' ⟨rfl,hw⟩;obtain rfl:=hw.symm;go_wp2_with fail
   go_ret
   exact⟨zE HA2.out.symm,rfl⟩
 ·have ha:(decide (0<=a)&&decide (a<8))=false:=by
   rcases cr a 0 with h1|h1
   ·rw[th (by omega)];rfl
   ·rw[th (show ¬a<8 by omega)];simp
  have HA2:Hid (ans=false):=by have:=HA.out;rw[ha]at this;simpa[Hid] using this
  have HP1:Hid (∀w:World,Calls Tryz.prog 224 #[.int .i64 a] w fun e w'=>e=.returned (.bool false)/\w'=w):=fun w=>by have:=HP.out a w;rw[ha]at this;exact this
  clear HA HP h ha ka
  go_enter Tryz.func187,Tryz.ntmps187
  go_wp2_with fail
  refine(HP1.out _).mono ?_;rintro e w' ⟨rfl,hw⟩;obtain rfl:=hw.symm;go_wp2_with fail
  go_ret
  exact⟨zE HA2.out.symm,rfl⟩
theorem eI(w:World)(b o:Nat)(G:List Bool)(x y:Int)(h:zHM w b (o+3) G) :
 Calls Tryz.prog 121 #[.pointer (some ⟨b,o,none⟩),.int .i64 x,.int .i64 y] w fun e w'=>e=.returned (.bool (ZL G x y))/\w'=w:=by
 have HG:=zA (zH9 w b (o+3) G x y h);clear h;generalize ZL G x y=z at *
 go_enter Tryz.func121,Tryz.ntmps121
 go_wp2_with fail
 refine HG.out.mono ?_;rintro e w' ⟨rfl,hw⟩;obtain rfl:=hw.symm;go_wp2_with fail
 go_ret
 exact⟨rfl,rfl⟩
structure uL(ls:List zF):Prop where
 many:∀i,i<ls.length->mJ ls i=false
 err:∀i,i<ls.length->pP ls i=0
 nam:jW (pZ (zS ls) ls gZ)=false
 ord:jW (kZ (xH ls) ls gZ)=false
theorem zI5(h:(qL ls).1=0):uL ls:=by
 revert h
 unfold qL
 cases hm:fU ls ls.length 0 with
 | some i=>intro h;exact absurd (show (3:Int)=0 from h) (by decide)
 | none =>
   have hmany:=fun i (hi:i<ls.length)=>XG ls.length 0 hm i (tr _) (by omega);simp only;unfold Jz
   cases he:sL ls ls.length 0 with
   | some i =>
     intro h;exfalso
     have h1:pP ls i=0:=h
     have:∀n i j,sL ls n i=some j->pP ls j≠0:=by
      intro n
      induction n with
      | zero=>intro i j h;simp[sL]at h
      | succ n ih=>intro i j h;rw[sL]at h;split at h
                   ·exact ih _ _ h
                   ·rename_i zIM;obtain rfl:=co h;exact zIM
     exact this _ _ _ he h1
   | none =>
     have herr:=fun i (hi:i<ls.length)=>J0 ls.length 0 he i (tr _) (by omega);simp only;unfold Kd;intro h
     cases hr:jW (pZ (zS ls) ls gZ) with
     | true=>rw[hr,tj rfl]at h;exact absurd (show (7:Int)=0 from h) (by decide)
     | false =>
       rw[hr,tg (by decide)]at h
       cases hs:jW (kZ (xH ls) ls gZ) with
       | true=>rw[hs,tj rfl]at h;exact absurd (show (7:Int)=0 from h) (by decide)
       | false=>exact⟨hmany,herr,hr,hs⟩
theorem uL.rules(h:uL ls):uW 3 ls<=8:=Jy h.many
theorem C5(ls:List zF):(zS ls).length<=uW 3 ls:=by have:=(aK ls [] (by simp)).2.2;simpa[zS] using this
theorem uL.heads(h:uL ls):(zS ls).length<=8:=tx (C5 ls) h.rules
theorem Jm(ls:List zF)(nm:Bs):nm∈zS ls ↔ jX ls nm=true:=by
 have:=(aK ls [] (by simp)).2.1 nm;unfold zS jX;simpa using this
theorem fG(l:List Bs)(nm:Bs):0<=zH l nm ↔ nm∈l:=by
 have:=aN nm l 0;unfold zH;constructor
 ·intro h;exact Classical.not_not.1 fun hn=>by have:=this.2 hn;omega
 ·intro h;rcases cr (vY nm l 0) 0 with h1|h1
  ·exact absurd h (this.1 h1)
  ·exact h1
theorem XD(ls:List zF)(nm:Bs):nm∈xM ls ↔ (vP ls 1 nm=true\/vP ls 2 nm=true):=by
 rw[fF];simp only[mn,ma,vP,mj,Zn,tz,pw];constructor
 ·rintro⟨x,⟨h1,h2|h2⟩,h3⟩
  ·exact .inl ⟨x,h1,h2,h3⟩
  ·exact .inr ⟨x,h1,h2,h3⟩
 ·rintro(⟨x,h1,h2,h3⟩|⟨x,h1,h2,h3⟩)
  ·exact⟨x,⟨h1,.inl h2⟩,h3⟩
  ·exact⟨x,⟨h1,.inr h2⟩,h3⟩
theorem XC(h:x∈ls):∃i,i<ls.length/\lA ls i=x:=by
 obtain⟨i,hi,rfl⟩:=f9 h;exact⟨i,hi,by simp[lA,List.getD,hi]⟩
theorem uL.apart(h:uL ls){nm:Bs}(h1:nm∈xM ls):jX ls nm=false:=by
 rw[fF]at h1;obtain⟨x,hx,rfl⟩:=mn.1 h1;obtain⟨hm,hk⟩:=ma.1 hx;obtain⟨i,hi,rfl⟩:=XC hm;have he:=h.err i hi
 have zIR:lV ls i=0:=by
  unfold pP at he;rcases(bg hk:(lA ls i).kind=1\/(lA ls i).kind=2) with k|k
  ·rw[tj k]at he
   unfold iF at he;by_cases h0:lV ls i=0
   ·exact h0
   ·rw[tg h0]at he;exact he
  ·rw[tg (by omega),tj k]at he;exact he
 unfold lV at zIR
 cases hc:jX ls (lA ls i).name with
 | false=>rfl
 | true=>rw[hc,f8,f8,tj rfl]at zIR;exact absurd zIR (by decide)
theorem uL.ruOk(h:uL ls)(hx:x∈ls)(hk:x.kind=3):zH0 (xM ls) (zS ls) x:=by
 obtain⟨i,hi,rfl⟩:=XC hx;have he:=h.err i hi;unfold pP at he;rw[tg (by omega),tg (by omega),tj hk]at he;unfold bL at he
 have hb:(vP (ls.take i) 3 (lA ls i).name || ((lA ls i).sum.any (fun x => !kD ls x) || (lA ls i).nd.any (fun x => !vB ls x)))=false:=by
  cases hc:(vP (ls.take i) 3 (lA ls i).name || ((lA ls i).sum.any (fun x => !kD ls x) || (lA ls i).nd.any (fun x => !vB ls x))) with
  | false=>rfl
  | true=>rw[hc,tj rfl]at he;exact absurd he (by decide)
 rw[lj,lj]at hb;obtain⟨-,hp,hn⟩:=hb;have hn':∀y∈(lA ls i).nd,vB ls y=true:=fun y hy=>by have:=List.any_eq_false.1 hn y hy;simpa using this
 have hp':∀y∈(lA ls i).sum,kD ls y=true:=fun y hy=>by have:=List.any_eq_false.1 hp y hy;simpa using this
 have hin1:∀nm,vP ls 1 nm=true->0<=zH (xM ls) nm:=fun nm hh=>(fG _ _).2 ((XD _ _).2 (.inl hh));have hin2:∀nm,vP ls 2 nm=true->0<=zH (xM ls) nm:=fun nm hh=>(fG _ _).2 ((XD _ _).2 (.inr hh))
 have hco:∀nm,jX ls nm=true->zH (xM ls) nm<0/\0<=zH (zS ls) nm:=fun nm hh=>by
  refine⟨?_,(fG _ _).2 ((Jm _ _).2 hh)⟩;rcases cr (zH (xM ls) nm) 0 with h1|h1
  ·exact h1
  ·have:=h.apart ((fG _ _).1 h1);rw[hh]at this;cases this
 refine⟨fun y hy=>?_,fun p hp2=>?_⟩
 ·have:=hn' y hy
  unfold vB at this;refine⟨fun k=>?_,fun k=>?_,fun k=>?_⟩
  ·rw[tj k]at this;exact hco _ this
  ·rw[tg (by omega),tj k]at this;exact hin2 _ this
  ·rw[tg (by omega),tg (by omega),tj k,tz,mz,pw]at this
   exact⟨hin1 _ this.2,fun ho=>hin1 _ (this.1.resolve_left ho)⟩
 ·have:=hp' p hp2
  unfold kD Xk at this;rw[mz,mz,pw]at this;rcases this with h1|h1|h1
  ·exact .inl h1
  ·exact .inr (.inl (hin1 _ h1))
  ·exact .inr (.inr (hco _ h1).2)
theorem uL.sums(h:uL ls)(hx:x∈ls)(hk:x.kind=3):x.sum.length<=4/\∀p∈x.sum,p.starred=true->p.num<=9:=by
 obtain⟨i,hi,rfl⟩:=XC hx;have he:=h.many i hi;unfold mJ Jn pW at he;rw[tm hk,md,lj,lj,lj,lj]at he;obtain⟨-,-,-,h1,h2⟩:=he;refine⟨by have:=of_decide_eq_false h1;omega,fun p hp hs=>?_⟩;have:=List.any_eq_false.1 h2 p hp;unfold tC at this;rw[hs]at this;simpa using this
theorem uL.labs(h:uL ls):(xH ls).Nodup:=by
 refine XL ls fun i hi hk=>?_;have he:=h.err i hi;unfold pP at he;rw[tg (by omega),tg (by omega),tj hk]at he;unfold bL at he
 cases hc:vP (ls.take i) 3 (lA ls i).name with
 | false=>rfl
 | true=>rw[hc,dq,tj rfl]at he;exact absurd he (by decide)
theorem G5(ls:List zF):(xH ls).length<=uW 3 ls:=by have:=(XM ls []).1;unfold xH;simp at this;omega
theorem Qq(hA:yQ ls us)(h:uL ls){i k:Nat}(hi:i<8)(hk:k<8):ZY us i k=gA (xB (kZ (xH ls) ls gZ)) i k:=by
 have hl:(kZ (xH ls) ls gZ).length=64:=by rw[cH];exact xP
 have hn:=h.labs;have h8:(xH ls).length<=8:=tx (G5 ls) h.rules
 have hstp:∀a b,a<8->b<8->(KW (jG us true (xH ls)) (xH ls).length a b ↔ gA (kZ (xH ls) ls gZ) a b=true):=by
  intro a b ha hb;rw[V0 _ _ ha hb _ xP,C7,pm]
  have e1:ls.any (zF1 (xH ls) a b)=(decide (a<(xH ls).length)&&(decide (b<(xH ls).length)&&ls.any (zHF ((xH ls).getD a []) ((xH ls).getD b [])))):=by
   rw[<-aR,<-aR];congr 1
   funext x
   exact zF0 hn x
  rw[e1];unfold KW jG rL rW;simp only;rw[<-bD hA (fun x u hx=>(D2 hx _ _).symm),tz,tz,pr,pr]
 unfold ZY;rw[ZH hA,ct,iM];have hc:=iU hl i k;constructor
 ·intro ht
  have ha:KF (xB (kZ (xH ls) ls gZ)) i k:=hc.2 (ht.mono fun x y hxy=>by
   have zIB:x<(xH ls).length/\y<(xH ls).length:=⟨hxy.1,hxy.2.1⟩;exact⟨by omega,by omega,(hstp x y (by omega) (by omega)).1 hxy⟩)
  exact ha.2.2
 ·intro hg
  exact(hc.1 ⟨hi,hk,hg⟩).mono fun x y hxy=>(hstp x y hxy.1 hxy.2.1).2 hxy.2.2
structure Hear where
 has:Nat->Bool
 val:Nat->Int
 ap:Nat->Bool
 vd:Nat->Int
 st:Nat->Int
 av:Nat->Int
def h0:Hear:=⟨fun _=>false,fun _=>0,fun _=>false,fun _=>0,fun _=>0,fun _=>0⟩
def eW(ls:List zF):List zF:=ls.filter fun x=>decide (x.kind=3)
theorem jl(ls:List zF):xH ls=(eW ls).map zF.name:=by
 have key:∀(ls:List zF) acc,jI ls acc=acc++(ls.filter fun x=>decide (x.kind=3)).map zF.name:=by
  intro ls
  induction ls with
  | nil=>intro acc;simp[jI]
  | cons x r ih=>intro acc;rw[jI,ih];by_cases h:x.kind=3 <;> simp[h]
 unfold xH eW;rw[key];simp
theorem QY(ins cs:List Bs)(ls:List zF):kN ins cs ls=(eW ls).map (qA ins cs):=by
 unfold kN eW;rw[FE];simp
theorem zFY(ls:List zF):(eW ls).length=uW 3 ls:=by
 unfold eW
 induction ls with
 | nil=>rfl
 | cons x r ih=>rw[uW];by_cases h:x.kind=3 <;> simp[h,ih];omega
theorem DY{i:Nat}(h:i<us.length):us.drop i=uA us i::us.drop (i+1):=by
 rw[pb h];simp[uA,List.getD,h]
theorem zDK(us:List zG):tJ us=(us.filter fun u=>decide (cA u 0=xK\/cA u 0=xW)).map (tA · 1):=by
 have key:∀n i acc,i+n=us.length->XR us n i acc=acc++((us.drop i).filter fun u=>decide (cA u 0=xK\/cA u 0=xW)).map (tA · 1):=by
  intro n
  induction n with
  | zero=>intro i acc h;rw[tu (by omega)];simp[XR]
  | succ n ih =>
    intro i acc h;rw[XR,ih (i+1) _ (by omega),DY (show i<us.length by omega)];by_cases hk:cA (uA us i) 0=xK\/cA (uA us i) 0=xW <;> simp[hk]
 unfold tJ;rw[key us.length 0 [] (by omega)];simp
theorem ul(names:List Bs)(us:List zG):kT names us=(us.filter fun u=>decide (cA u 0=zQ)).map (fO names):=by
 have key:∀n i acc,i+n=us.length->oU names us n i acc=acc++((us.drop i).filter fun u=>decide (cA u 0=zQ)).map (fO names):=by
  intro n
  induction n with
  | zero=>intro i acc h;rw[tu (by omega)];simp[oU]
  | succ n ih =>
    intro i acc h;rw[oU,ih (i+1) _ (by omega),DY (show i<us.length by omega)];by_cases hk:cA (uA us i) 0=zQ <;> simp[hk]
 unfold kT;rw[key us.length 0 [] (by omega)];simp
theorem VY:∀ {ls:List zF} {us:List zG},yQ ls us->(us.filter fun u=>decide (cA u 0=xK\/cA u 0=xW)).map (tA · 1)=(ls.filter fun x=>decide (x.kind=1\/x.kind=2)).map zF.name
 | [],[],_=>rfl
 | x::xs,u::us,h=>by
   have hk:(cA u 0=xK\/cA u 0=xW) ↔ (x.kind=1\/x.kind=2):=by rw[h.1.k1,h.1.k2]
   have ih:=VY h.2;by_cases k:x.kind=1\/x.kind=2
   ·have k2:=hk.2 k
    rw[List.filter_cons_of_pos (by simpa using k2),List.filter_cons_of_pos (by simpa using k),dm,dm,ih];show tA u 1::_=_;rw[h.1.name]
   ·have k2:¬(cA u 0=xK\/cA u 0=xW):=fun e=>k (hk.1 e)
    rw[List.filter_cons_of_neg (by simpa using k2),List.filter_cons_of_neg (by simpa using k),ih]
 | [],_::_,h=>absurd h id
 | _::_,[],h=>absurd h id
theorem dS(hA:yQ ls us):tJ us=xM ls:=by rw[zDK,VY hA,fF]
theorem QZ:∀ {ls:List zF} {us:List zG},yQ ls us->(us.filter fun u=>decide (cA u 0=zQ)).length=(eW ls).length/\∀r,r<(eW ls).length->LT ((eW ls).getD r UU) ((us.filter fun u=>decide (cA u 0=zQ)).getD r [])/\cA ((us.filter fun u=>decide (cA u 0=zQ)).getD r []) 0=zQ
 | [],[],_=>⟨rfl,fun r h=>absurd h (by simp[eW])⟩
 | x::xs,u::us,h=>by
   obtain⟨i1,i2⟩:=QZ h.2;unfold eW at *;by_cases k:x.kind=3
   ·have k2:=h.1.k3.1 k
    rw[List.filter_cons_of_pos (by simpa using k2),List.filter_cons_of_pos (by simpa using k)];refine⟨by simp[i1],fun r hr=>?_⟩
    cases r with
    | zero=>exact⟨h.1,k2⟩
    | succ r=>exact i2 r (by simpa using hr)
   ·have k2:¬cA u 0=zQ:=fun e=>k (h.1.k3.2 e)
    rw[List.filter_cons_of_neg (by simpa using k2),List.filter_cons_of_neg (by simpa using k)];exact⟨i1,i2⟩
 | [],_::_,h=>absurd h id
 | _::_,[],h=>absurd h id
def zGS:pT:=⟨[],0,[],[]⟩
theorem B4(hA:yQ ls us)(names:List Bs):(kT names us).length=(eW ls).length/\∀r,r<(eW ls).length->∃u,LT ((eW ls).getD r UU) u/\cA u 0=zQ/\(kT names us).getD r zGS=fO names u:=by
 obtain⟨h1,h2⟩:=QZ hA;rw[ul];refine⟨by simpa using h1,fun r hr=>⟨_,(h2 r hr).1,(h2 r hr).2,?_⟩⟩;simp[List.getD,show r<(us.filter fun u=>decide (cA u 0=zQ)).length by omega]
theorem XS(h:uL ls):(xM ls).Nodup:=by
 have key:∀n,n<=ls.length->(xM (ls.take n)).Nodup:=by
  intro n
  induction n with
  | zero=>intro _;simp[xM,yM,nC]
  | succ n ih =>
    intro hn;have ih:=ih (by omega);rw[fF,pG ls n (by omega),List.filter_append,List.map_append];rw[fF]at ih;by_cases hk:(lA ls n).kind=1\/(lA ls n).kind=2
    ·rw[List.filter_cons_of_pos (by simpa using hk),fe,List.nodup_append]
     refine⟨ih,by simp,fun a ha b hb=>?_⟩;simp only[dm,List.map_nil,pu]at hb;subst hb;intro e;subst e;have hm:=(XD (ls.take n) (lA ls n).name).1 (by rw[fF];exact ha);have he:=h.err n (by omega)
     have zIR:lV ls n=0:=by
      unfold pP at he;rcases hk with k|k
      ·rw[tj k]at he
       unfold iF at he;by_cases h0:lV ls n=0
       ·exact h0
       ·rw[tg h0]at he;exact he
      ·rw[tg (by omega),tj k]at he;exact he
     unfold lV at zIR;rcases hm with hm|hm
     ·rw[hm,dq,tj rfl]at zIR;exact absurd zIR (by decide)
     ·rw[hm,dq,f8,tj rfl]at zIR;exact absurd zIR (by decide)
    ·rw[List.filter_cons_of_neg (by simpa using hk),fe];simpa using ih
 have:=key ls.length (t9 _)
 rwa [lp]at this
theorem XY{α β:Type}(f:α->β)(l:List α)(j:Nat)(d:α)(d':β)(h:j<l.length):(l.map f).getD j d'=f (l.getD j d):=by simp[List.getD,h]
def DQ(ls:List zF):List zF:=ls.filter fun x=>decide (x.kind=1\/x.kind=2)
theorem aJ(h:x∈DQ ls):x.kind=1\/x.kind=2:=bg (ma.1 h).2
theorem XT(ls:List zF):xM ls=(DQ ls).map zF.name:=fF ls
theorem Zp(ls:List zF):yM ls=(DQ ls).map oY:=by unfold yM;rw[Ua,bf];rfl
end Go.Proofs.YtnbpdffdnphbeaaGreatDoor
