import Derived.Test.YtnbpdffdnphbeaaGreatDoorMState
import Derived.Test.YtnbpdffdnphbeaaGreatDoorPRound
import Derived.Test.YtnbpdffdnphbeaaGreatDoorDAbove
import Derived.Test.YtnbpdffdnphbeaaGreatDoorDFacts
set_option maxHeartbeats 2000000
namespace Go.Proofs.YtnbpdffdnphbeaaGreatDoor
def Yu(ins cs:List Bs)(s:vQ):G7:=⟨fun nm=>cI s.has (zM cs nm),fun nm=>jU s.inputs (zM ins nm)⟩
theorem zDT(ins cs:List Bs)(s:vQ)(hs:List Bool)(x:yB):Bn (bY ins cs x) s hs=Qo (Yu ins cs s) hs x:=by
 unfold Bn Qo bY;simp only;by_cases h1:x.kind=1
 ·rw[if_pos h1,if_pos h1]
 rw[if_neg h1,if_neg h1];by_cases h2:x.kind=2
 ·rw[if_pos h2,if_pos h2]
 rw[if_neg h2,if_neg h2];by_cases h3:x.kind=3
 ·rw[if_pos h3,if_pos h3]
 rw[if_neg h3,if_neg h3];by_cases h4:x.kind=4
 ·rw[if_pos h4,if_pos h4]
 rw[if_neg h4,if_neg h4];by_cases h5:x.kind=5
 ·rw[if_pos h5,if_pos h5];unfold je Yu;rw[if_pos h5]
 rw[if_neg h5,if_neg h5];by_cases h6:x.kind=6
 ·rw[if_pos h6,if_pos h6];unfold je Yu;rw[if_neg h5,if_pos (.inl h6)]
 rw[if_neg h6,if_neg h6];by_cases h7:x.kind=7
 ·rw[if_pos h7,if_pos h7]
  have e1:je ins cs x=zM ins x.name:=by unfold je;rw[if_neg h5,if_pos (.inr h7)]
  have e2:(if decide (x.other≠[])=true then jU s.inputs (zF5 ins x) else x.num)=(if x.other=[] then x.num else (Yu ins cs s).inp x.other):=by
   by_cases ho:x.other=[]
   ·simp[ho]
   ·simp only[ho,ne_eq,not_false_eq_true,decide_true,if_true,if_false];unfold zF5 Yu;rw[if_neg ho]
  unfold Ca Gh;simp only;rw[e1,e2,show (Yu ins cs s).inp x.name=jU s.inputs (zM ins x.name) from rfl];generalize jU s.inputs (zM ins x.name)=p;generalize (if x.other=[] then x.num else (Yu ins cs s).inp x.other)=q;by_cases k1:p<q
  ·rw[if_pos k1,if_pos k1];rfl
  ·rw[if_neg k1,if_neg k1]
   by_cases k2:p=q
   ·rw[if_neg (by omega),if_pos k2];rfl
   ·rw[if_pos (by omega),if_neg k2];rfl
 ·rw[if_neg h7,if_neg h7]
theorem zEA(ins cs:List Bs)(s:vQ)(N:List yB):∀hs,nW s (N.map (bY ins cs)) hs=JQ (Yu ins cs s) N hs:=by
 induction N with
 | nil=>intro hs;rfl
 | cons x r ih=>intro hs;rw[List.map_cons,nW,JQ,zDT,ih]
theorem mC(l:List Bs)(nm:Bs) : -1<=zM l nm/\zM l nm<l.length:=by
 have:=sZ nm l 0;unfold zM;omega
theorem bT(a b:List Bs)(nm:Bs):zM (a++b) nm=if 0<=zM a nm then zM a nm else if 0<=zM b nm then a.length+zM b nm else -1:=by
 have key:∀(a:List Bs) (i:Nat),vW nm (a++b) i=if 0<=vW nm a i then vW nm a i else vW nm b (i+a.length):=by
  intro a
  induction a with
  | nil=>intro i;simp[vW]
  | cons x r ih =>
    intro i;rw[List.cons_append,vW,vW];by_cases h:x=nm
    ·rw[if_pos h,if_pos h,if_pos (by omega)]
    ·rw[if_neg h,if_neg h,ih (i+1)];simp only[List.length_cons];rw[show i+1+r.length=i+(r.length+1) by omega]
 have shift:∀(b:List Bs) (i:Nat),vW nm b i=if 0<=vW nm b 0 then i+vW nm b 0 else -1:=by
  intro b
  induction b with
  | nil=>intro i;simp[vW]
  | cons x r ih =>
    intro i;rw[vW,vW];by_cases h:x=nm
    ·rw[if_pos h,if_pos h];simp
    ·rw[if_neg h,if_neg h,ih (i+1),ih (0+1)]
     by_cases k:0<=vW nm r 0
     ·rw[if_pos k,if_pos k,if_pos (by omega)];omega
     ·rw[if_neg k,if_neg k];simp
 unfold zM;rw[key a 0];by_cases h:0<=vW nm a 0
 ·rw[if_pos h,if_pos h]
 ·rw[if_neg h,if_neg h,shift b (0+a.length)];simp
structure zET(ins cs:List Bs)(x:zH):Prop where
 nodes:∀y∈x.nd,(y.kind=5->zM ins y.name<0/\0<=zM cs y.name)/\(y.kind=6->0<=zM ins y.name)/\(y.kind=7->0<=zM ins y.name/\(y.other≠[]->0<=zM ins y.other))
 parts:∀p∈x.sum,p.name=[]\/0<=zM ins p.name\/0<=zM cs p.name
structure Qv(ins cs:List Bs)(s:vQ)(vs:List Int):Prop where
 li:s.inputs.length=ins.length
 lh:s.has.length=cs.length
 lv:vs.length=ins.length+cs.length
 inp:∀i,i<ins.length->vs.getD i 0=s.inputs.getD i 0
 has:∀c,c<cs.length->decide (vs.getD (ins.length+c) 0=1)=s.has.getD c false
theorem Qv.at_inp{ins cs:List Bs}{s:vQ}{vs:List Int}(h:Qv ins cs s vs){nm:Bs}(hn:0<=zM ins nm):Vo vs (zM (ins++cs) nm)/\Yi vs (zM (ins++cs) nm)=jU s.inputs (zM ins nm):=by
 have hb:=mC ins nm;have hl:=h.lv;rw[bT,if_pos hn];refine⟨⟨hn,by omega⟩,?_⟩;unfold jU;rw[if_pos ⟨hn,by rw[h.li];exact hb.2⟩];exact h.inp _ (by omega)
theorem Qv.at_con{ins cs:List Bs}{s:vQ}{vs:List Int}(h:Qv ins cs s vs){nm:Bs}(hn:zM ins nm<0)(hc:0<=zM cs nm):zM (ins++cs) nm=ins.length+zM cs nm/\Vo vs (zM (ins++cs) nm)/\decide (Yi vs (zM (ins++cs) nm)=1)=cI s.has (zM cs nm):=by
 have hb:=mC cs nm;have hl:=h.lv;have e:zM (ins++cs) nm=ins.length+zM cs nm:=by rw[bT,if_neg (by omega),if_pos hc]
 refine⟨e,?_,?_⟩
 ·rw[e];exact⟨by omega,by omega⟩
 ·unfold cI
  rw[decide_eq_true hc,h.lh,decide_eq_true hb.2,Bool.true_and,Bool.true_and,<-h.has _ (by omega),e];unfold Yi;rw[show ((ins.length:Int)+zM cs nm).toNat=ins.length+(zM cs nm).toNat by omega]
theorem Qv.node{ins cs:List Bs}{s:vQ}{vs:List Int}(h:Qv ins cs s vs){x:zH}(hx:zET ins cs x):∀y∈x.nd,Dh (ins++cs) vs (Yu ins cs s) y:=fun y hy=>by
 obtain⟨h5,h6,h7⟩:=hx.nodes y hy;refine⟨fun k=>?_,fun k=>h.at_inp (h6 k),fun k=>⟨(h.at_inp (h7 k).1).1,(h.at_inp (h7 k).1).2,fun ho=>h.at_inp ((h7 k).2 ho)⟩⟩;obtain⟨a,b⟩:=h5 k;exact(h.at_con a b).2
theorem uo{names:List Bs}{vs:List Int}{E:G7}{x:zH}{u:zJ}{w:Nat}(h:Zm x u w)(hN:∀y∈x.nd,Dh names vs E y):eK vs (uG names (u.length+1) (u.drop (w+1))) []/\nE vs (uG names (u.length+1) (u.drop (w+1)))=(eQ E x.nd).getD x.root.toNat false:=by
 obtain⟨k,y,hg⟩:=h.gr;have hr:=(zDL hg hN (u.length+1) (by rw[List.length_drop];omega)).2 [] [];rw[List.append_nil]at hr;refine⟨hr.1 trivial,?_⟩;unfold nE;rw[hr.2];simp[eB]
theorem yc{ins cs:List Bs}{s:vQ}{vs:List Int}(h:Qv ins cs s vs){p:xC}(hp:p.name=[]\/0<=zM ins p.name\/0<=zM cs p.name) :
 (decide ((ins.length:Int)<=(vB (ins++cs) p).a)&&(Yi vs (vB (ins++cs) p).a != 1))=(decide ((uQ ins cs p).kind=3) && !cI s.has (uQ ins cs p).place):=by
 have ha:p.name≠[]->(vB (ins++cs) p).a=zM (ins++cs) p.name:=fun zG7=>by unfold vB;rw[if_neg zG7];split <;> rfl
 show _=(decide (Uk ins p=3) && !cI s.has (jd ins cs p));unfold Uk jd;by_cases h0:p.name=[]
 ·rw[if_pos h0,if_pos h0]
  have:(vB (ins++cs) p).a = -1:=by unfold vB;rw[if_pos h0]
  rw[this,decide_eq_false (by omega)];rfl
 ·rw[if_neg h0,if_neg h0,ha h0]
  by_cases h1:zM ins p.name<0
  ·rw[if_pos h1,if_pos h1]
   have hc:0<=zM cs p.name:=by rcases hp with h|h|h;exact absurd h h0;omega;exact h
   obtain⟨e1,e2,e3⟩:=h.at_con h1 hc;rw[<-e3,e1,decide_eq_true (by omega)];simp only[Bool.true_and,decide_true];generalize Yi vs ((ins.length:Int)+zM cs p.name)=z;by_cases k:z=1
   ·subst k;rfl
   ·rw[decide_eq_false k];simpa using k
  ·rw[if_neg h1,if_neg h1,bT,if_pos (by omega),decide_eq_false (by have:=mC ins p.name;omega)];rfl
theorem Df{α β:Type}(f:α->β)(p:β->Bool)(l:List α):(l.map f).all p=l.all fun x=>p (f x):=by
 induction l with
 | nil=>rfl
 | cons x r ih=>rw[List.map_cons,List.all_cons,List.all_cons,ih]
theorem Ji{α:Type}{p q:α->Bool}{l:List α}(h:∀x∈l,p x=q x):l.all p=l.all q:=by
 induction l with
 | nil=>rfl
 | cons x r ih=>rw[List.all_cons,List.all_cons,h x (by simp),ih fun y hy=>h y (by simp[hy])]
theorem VN{ins cs:List Bs}{s:vQ}{vs:List Int}(h:Qv ins cs s vs){x:zH}{u:zJ}(hx:zET ins cs x)(hL:LT x u)(hk:cA u 0=zW):VO ins.length vs (wF (ins++cs) u)/\ZH ins.length vs (wF (ins++cs) u)=XT (tK ins cs x) s:=by
 obtain⟨w,hr⟩:=hL.rule hk;have hw:=hr.wAt;have e:(u.drop 5).take (w-5)=(u.take w).drop 5:=by rw[List.drop_take]
 have hS:=hr.sums;rw[<-e]at hS
 have eP:(wF (ins++cs) u).parts=x.sum.map (vB (ins++cs)):=by
  show oJ (ins++cs) ((u.drop 5).take (iW u-5))=_;rw[hw];exact KB hS
 have eS:(wF (ins++cs) u).steps=uG (ins++cs) (u.length+1) (u.drop (w+1)):=by
  show uG (ins++cs) (u.length+1) (u.drop (iW u+1))=_;rw[hw]
 obtain⟨g1,g2⟩:=uo hr (h.node hx);have hb:0<=x.root/\x.root<(x.nd.length:Int):=by obtain⟨k,y,hg⟩:=hr.gr;exact hg.bound
 constructor
 ·unfold VO
  rw[eP,eS];refine⟨fun p hp hle=>?_,g1⟩;obtain⟨q,hq,rfl⟩:=List.mem_map.1 hp
  have zG7:q.name≠[]:=fun h0=>by
   have:(vB (ins++cs) q).a = -1:=by unfold vB;rw[if_pos h0]
   omega
  have ha:(vB (ins++cs) q).a=zM (ins++cs) q.name:=by unfold vB;rw[if_neg zG7];split <;> rfl
  rw[ha]at hle ⊢;have:=mC (ins++cs) q.name;rw[List.length_append]at this;exact⟨by omega,by rw[h.lv];omega⟩
 ·unfold ZH XT
  rw[eP,eS,g2]
  have e1:fE ins.length vs (x.sum.map (vB (ins++cs)))=mK s (tK ins cs x).sum:=by
   show _=mK s (x.sum.map (uQ ins cs));unfold fE mK;rw[Df,Df];exact Ji fun p hp=>by rw[yc h (hx.parts p hp)]
  have e2:cI (nW s (tK ins cs x).guard []) (tK ins cs x).root=(eQ (Yu ins cs s) x.nd).getD x.root.toNat false:=by
   show cI (nW s (x.nd.map (bY ins cs)) []) x.root=_;rw[zEA];unfold cI;rw[decide_eq_true hb.1,show JQ (Yu ins cs s) x.nd []=eQ (Yu ins cs s) x.nd from rfl,YC,decide_eq_true hb.2];rfl
  rw[e1,e2]
structure zCB(ins cs:List Bs)(s:vQ)(vs:List Int):Prop where
 li:s.inputs.length=ins.length
 lh:s.values.length=cs.length
 lv:vs.length=ins.length+cs.length
 inp:∀i,i<ins.length->vs.getD i 0=s.inputs.getD i 0
 val:∀c,c<cs.length->vs.getD (ins.length+c) 0=s.values.getD c 0
theorem KA{ins cs:List Bs}{s:vQ}{vs:List Int}(h:zCB ins cs s vs){p:xC}(hp:p.name=[]\/0<=zM ins p.name\/0<=zM cs p.name) :
 Xd vs (vB (ins++cs) p)=gB s (uQ ins cs p)/\(0<=(vB (ins++cs) p).a->Vo vs (vB (ins++cs) p).a):=by
 have hl:=h.lv
 have hn:Qg p.minus*Uj p=(uQ ins cs p).num:=by
  show _=if p.minus then -Uj p else Uj p;cases p.minus
  ·simp[Qg]
  ·simp[Qg]
 have hd:vB (ins++cs) p=⟨if p.name=[] then -1 else zM (ins++cs) p.name,(uQ ins cs p).num⟩:=by
  rw[<-hn];unfold vB Uj;by_cases h0:p.name=[]
  ·rw[if_pos h0,if_pos h0,if_pos h0]
  ·rw[if_neg h0,if_neg h0,if_neg h0]
   cases p.starred <;> simp
 have hpm:gB s (uQ ins cs p)=if Uk ins p=1 then (uQ ins cs p).num else if Uk ins p=2 then (uQ ins cs p).num*jU s.inputs (jd ins cs p) else if Uk ins p=3 then (uQ ins cs p).num*jU s.values (jd ins cs p) else 0:=rfl;rw[hd,hpm];generalize (uQ ins cs p).num=n at *;unfold Xd Uk jd;simp only;by_cases h0:p.name=[]
 ·rw[if_pos h0,if_pos (by decide),if_pos h0,if_pos rfl];exact⟨rfl,fun h=>absurd h (by decide)⟩
 ·rw[if_neg h0,if_neg h0,if_neg h0]
  by_cases h1:zM ins p.name<0
  ·have hc:0<=zM cs p.name:=by rcases hp with h|h|h;exact absurd h h0;omega;exact h
   have hb:=mC cs p.name;have e:zM (ins++cs) p.name=ins.length+zM cs p.name:=by rw[bT,if_neg (by omega),if_pos hc]
   rw[e,if_neg (by omega),if_pos h1,if_pos h1,if_neg (by decide),if_neg (by decide),if_pos rfl];refine⟨?_,fun _=>⟨by omega,by omega⟩⟩;unfold Yi jU;rw[if_pos ⟨hc,by rw[h.lh];exact hb.2⟩,<-h.val _ (by omega),show ((ins.length:Int)+zM cs p.name).toNat=ins.length+(zM cs p.name).toNat by omega]
  ·have hb:=mC ins p.name
   have e:zM (ins++cs) p.name=zM ins p.name:=by rw[bT,if_pos (by omega)]
   rw[e,if_neg h1,if_neg h1,if_neg h1,if_neg (by decide),if_pos rfl];refine⟨?_,fun _=>⟨by omega,by omega⟩⟩;unfold Yi jU;rw[if_pos ⟨by omega,by rw[h.li];exact hb.2⟩,<-h.inp _ (by omega)]
theorem GV{ins cs:List Bs}{s:vQ}{vs:List Int}(h:zCB ins cs s vs)(S:List xC)(hp:∀p∈S,p.name=[]\/0<=zM ins p.name\/0<=zM cs p.name):eA vs (S.map (vB (ins++cs)))=Yl s (S.map (uQ ins cs)):=by
 have key:∀(S:List xC),(∀p∈S,p.name=[]\/0<=zM ins p.name\/0<=zM cs p.name)->∀n,Ye vs (S.map (vB (ins++cs))) n=dD s (S.map (uQ ins cs)) n:=by
  intro S
  induction S with
  | nil=>intro _ n;rfl
  | cons p r ih=>intro hp n;rw[List.map_cons,List.map_cons,Ye,dD,(KA h (hp p (by simp))).1,ih fun q hq=>hp q (by simp[hq])]
 exact key S hp 0
theorem Q7{names:List Bs}{x:zH}{u:zJ}(hL:LT x u)(hk:cA u 0=zW):(wF names u).parts=x.sum.map (vB names):=by
 obtain⟨w,hr⟩:=hL.rule hk;have hS:=hr.sums;rw[<-show (u.drop 5).take (w-5)=(u.take w).drop 5 by rw[List.drop_take]]at hS;show oJ names ((u.drop 5).take (iW u-5))=_;rw[hr.wAt];exact KB hS
open Go.RowKit
def zD3(w:World)(b o:Nat)(G:List Bool):Prop:=∀k,k<64->w.cell? ⟨b,o+k,none⟩=some (.bool (G.getD k false))
theorem zD3.below{w w':World}{b o:Nat}{G:List Bool}(h:zD3 w b o G)(hb:Below w.heap.size w w'):zD3 w' b o G:=fun k hk=>by
 rw[hb.cell (p:=⟨b,o+k,none⟩) (yT (h k hk))];exact h k hk
def XE(G:List Bool)(a b:Int):Bool:=(decide (0<=a)&&decide (a<8))&&((decide (0<=b)&&decide (b<8))&&gA G a.toNat b.toNat)
theorem zF0(w:World)(g o:Nat)(G:List Bool)(a b:Int)(h:zD3 w g o G) :
 Calls Tryz.prog 187 #[.pointer (some ⟨g,o,none⟩),.int .i64 a,.int .i64 b] w fun e w'=>e=.returned (.bool (XE G a b))/\w'=w:=by
 have HA:Hid (XE G a b=((decide (0<=a)&&decide (a<8))&&((decide (0<=b)&&decide (b<8))&&gA G a.toNat b.toNat))):=rfl;have HP:=zA (fun k w=>dS k w);generalize XE G a b=ans at *;by_cases ka:0<=a/\a<8
 ·by_cases kb:0<=b/\b<8
  ·obtain⟨na,rfl⟩:∃n:Nat,a=(n:Int):=⟨a.toNat,by omega⟩
   obtain⟨nb,rfl⟩:∃n:Nat,b=(n:Int):=⟨b.toNat,by omega⟩;have HA2:Hid (ans=gA G na nb):=by have:=HA.out;rw[decide_eq_true ka.1,decide_eq_true ka.2,decide_eq_true kb.1,decide_eq_true kb.2]at this;simpa[Hid] using this
   have hc:=h (na*8+nb) (by omega);rw[<-Nat.add_assoc]at hc;have HA3:Hid (ans=G.getD (na*8+nb) false):=HA2;have HP1:Hid (∀w:World,Calls Tryz.prog 224 #[.int .i64 (na:Int)] w fun e w'=>e=.returned (.bool true)/\w'=w):=fun w=>by have:=HP.out (na:Int) w;rw[decide_eq_true ka.1,decide_eq_true ka.2]at this;exact this
   have HP2:Hid (∀w:World,Calls Tryz.prog 224 #[.int .i64 (nb:Int)] w fun e w'=>e=.returned (.bool true)/\w'=w):=fun w=>by have:=HP.out (nb:Int) w;rw[decide_eq_true kb.1,decide_eq_true kb.2]at this;exact this
   have la:na<8:=by omega
   have lb:nb<8:=by omega
   clear HA HA2 HP h ka kb;generalize G.getD (na*8+nb) false=z at *
   go_enter Tryz.func187,Tryz.ntmps187
   go_wp2_with fail
   refine(HP1.out _).mono ?_;rintro e w' ⟨rfl,hw⟩;obtain rfl:=hw.symm;go_wp2_with fail
   refine(HP2.out _).mono ?_;rintro e w' ⟨rfl,hw⟩;obtain rfl:=hw.symm;go_wp2_with fail
   go_ret
   exact⟨zE HA3.out.symm,rfl⟩
  ·have hb:(decide (0<=b)&&decide (b<8))=false:=by
    rcases Int.lt_or_le b 0 with h1|h1
    ·rw[decide_eq_false (by omega)];rfl
    ·rw[decide_eq_false (show ¬b<8 by omega)];simp
   have HA2:Hid (ans=false):=by have:=HA.out;rw[hb]at this;simpa[Hid] using this
   have HP1:Hid (∀w:World,Calls Tryz.prog 224 #[.int .i64 a] w fun e w'=>e=.returned (.bool true)/\w'=w):=fun w=>by have:=HP.out a w;rw[decide_eq_true ka.1,decide_eq_true ka.2]at this;exact this
   have HP2:Hid (∀w:World,Calls Tryz.prog 224 #[.int .i64 b] w fun e w'=>e=.returned (.bool false)/\w'=w):=fun w=>by have:=HP.out b w;rw[hb]at this;exact this
   clear HA HP h hb ka kb
   go_enter Tryz.func187,Tryz.ntmps187
   go_wp2_with fail
   refine(HP1.out _).mono ?_;rintro e w' ⟨rfl,hw⟩;obtain rfl:=hw.symm;go_wp2_with fail
   refine(HP2.out _).mono ?_;rintro e w' ⟨rfl,hw⟩;obtain rfl:=hw.symm;go_wp2_with fail
   go_ret
   exact⟨zE HA2.out.symm,rfl⟩
 ·have ha:(decide (0<=a)&&decide (a<8))=false:=by
   rcases Int.lt_or_le a 0 with h1|h1
   ·rw[decide_eq_false (by omega)];rfl
   ·rw[decide_eq_false (show ¬a<8 by omega)];simp
  have HA2:Hid (ans=false):=by have:=HA.out;rw[ha]at this;simpa[Hid] using this
  have HP1:Hid (∀w:World,Calls Tryz.prog 224 #[.int .i64 a] w fun e w'=>e=.returned (.bool false)/\w'=w):=fun w=>by have:=HP.out a w;rw[ha]at this;exact this
  clear HA HP h ha ka
  go_enter Tryz.func187,Tryz.ntmps187
  go_wp2_with fail
  refine(HP1.out _).mono ?_;rintro e w' ⟨rfl,hw⟩;obtain rfl:=hw.symm;go_wp2_with fail
  go_ret
  exact⟨zE HA2.out.symm,rfl⟩
theorem Qu(w:World)(b o:Nat)(G:List Bool)(x y:Int)(h:zD3 w b (o+3) G) :
 Calls Tryz.prog 121 #[.pointer (some ⟨b,o,none⟩),.int .i64 x,.int .i64 y] w fun e w'=>e=.returned (.bool (XE G x y))/\w'=w:=by
 have HG:=zA (zF0 w b (o+3) G x y h);clear h;generalize XE G x y=z at *
 go_enter Tryz.func121,Tryz.ntmps121
 go_wp2_with fail
 refine HG.out.mono ?_;rintro e w' ⟨rfl,hw⟩;obtain rfl:=hw.symm;go_wp2_with fail
 go_ret
 exact⟨rfl,rfl⟩
structure vU(ls:List zH):Prop where
 many:∀i,i<ls.length->lL ls i=false
 err:∀i,i<ls.length->pU ls i=0
 nam:kY (kE (zI ls) ls gZ)=false
 ord:kY (qG (xA ls) ls gZ)=false
theorem zFR{ls:List zH}(h:(qP ls).1=0):vU ls:=by
 revert h
 unfold qP
 cases hm:gE ls ls.length 0 with
 | some i=>intro h;exact absurd (show (3:Int)=0 from h) (by decide)
 | none =>
   have hmany:=fun i (hi:i<ls.length)=>Xx ls.length 0 hm i (Nat.zero_le _) (by omega);simp only;unfold Ja
   cases he:aC ls ls.length 0 with
   | some i =>
     intro h;exfalso
     have h1:pU ls i=0:=h
     have:∀n i j,aC ls n i=some j->pU ls j≠0:=by
      intro n
      induction n with
      | zero=>intro i j h;simp[aC]at h
      | succ n ih=>intro i j h;rw[aC]at h;split at h
                   ·exact ih _ _ h
                   ·rename_i zG7;obtain rfl:=Option.some.inj h;exact zG7
     exact this _ _ _ he h1
   | none =>
     have herr:=fun i (hi:i<ls.length)=>Jb ls.length 0 he i (Nat.zero_le _) (by omega);simp only;unfold J0;intro h
     cases hr:kY (kE (zI ls) ls gZ) with
     | true=>rw[hr,if_pos rfl]at h;exact absurd (show (7:Int)=0 from h) (by decide)
     | false =>
       rw[hr,if_neg (by decide)]at h
       cases hs:kY (qG (xA ls) ls gZ) with
       | true=>rw[hs,if_pos rfl]at h;exact absurd (show (7:Int)=0 from h) (by decide)
       | false=>exact⟨hmany,herr,hr,hs⟩
theorem vU.rules{ls:List zH}(h:vU ls):kO 3 ls<=8:=QZ h.many
theorem XD(ls:List zH):(zI ls).length<=kO 3 ls:=by have:=(dU ls [] (by simp)).2.2;simpa[zI] using this
theorem vU.heads{ls:List zH}(h:vU ls):(zI ls).length<=8:=Nat.le_trans (XD ls) h.rules
theorem QM(ls:List zH)(nm:Bs):nm∈zI ls ↔ jZ ls nm=true:=by
 have:=(dU ls [] (by simp)).2.1 nm;unfold zI jZ;simpa using this
theorem fJ(l:List Bs)(nm:Bs):0<=zM l nm ↔ nm∈l:=by
 have:=aV nm l 0;unfold zM;constructor
 ·intro h;exact Classical.not_not.1 fun hn=>by have:=this.2 hn;omega
 ·intro h;rcases Int.lt_or_le (vW nm l 0) 0 with h1|h1
  ·exact absurd h (this.1 h1)
  ·exact h1
theorem Xv(ls:List zH)(nm:Bs):nm∈zU ls ↔ (uJ ls 1 nm=true\/uJ ls 2 nm=true):=by
 rw[fI];simp only[List.mem_map,List.mem_filter,uJ,List.any_eq_true,iU,Bool.and_eq_true,decide_eq_true_eq];constructor
 ·rintro⟨x,⟨h1,h2|h2⟩,h3⟩
  ·exact .inl ⟨x,h1,h2,h3⟩
  ·exact .inr ⟨x,h1,h2,h3⟩
 ·rintro(⟨x,h1,h2,h3⟩|⟨x,h1,h2,h3⟩)
  ·exact⟨x,⟨h1,.inl h2⟩,h3⟩
  ·exact⟨x,⟨h1,.inr h2⟩,h3⟩
theorem JD{ls:List zH}{x:zH}(h:x∈ls):∃i,i<ls.length/\lA ls i=x:=by
 obtain⟨i,hi,rfl⟩:=List.getElem_of_mem h;exact⟨i,hi,by simp[lA,List.getD,hi]⟩
theorem vU.apart{ls:List zH}(h:vU ls){nm:Bs}(h1:nm∈zU ls):jZ ls nm=false:=by
 rw[fI]at h1;obtain⟨x,hx,rfl⟩:=List.mem_map.1 h1;obtain⟨hm,hk⟩:=List.mem_filter.1 hx;obtain⟨i,hi,rfl⟩:=JD hm;have he:=h.err i hi
 have zGA:bA ls i=0:=by
  unfold pU at he;rcases(of_decide_eq_true hk:(lA ls i).kind=1\/(lA ls i).kind=2) with k|k
  ·rw[if_pos k]at he
   unfold wQ at he;by_cases h0:bA ls i=0
   ·exact h0
   ·rw[if_neg h0]at he;exact he
  ·rw[if_neg (by omega),if_pos k]at he;exact he
 unfold bA at zGA
 cases hc:jZ ls (lA ls i).name with
 | false=>rfl
 | true=>rw[hc,Bool.or_true,Bool.or_true,if_pos rfl]at zGA;exact absurd zGA (by decide)
theorem vU.ruOk{ls:List zH}(h:vU ls){x:zH}(hx:x∈ls)(hk:x.kind=3):zET (zU ls) (zI ls) x:=by
 obtain⟨i,hi,rfl⟩:=JD hx;have he:=h.err i hi;unfold pU at he;rw[if_neg (by omega),if_neg (by omega),if_pos hk]at he;unfold cC at he
 have hb:(uJ (ls.take i) 3 (lA ls i).name || ((lA ls i).sum.any (fun x => !kQ ls x) || (lA ls i).nd.any (fun x => !uM ls x)))=false:=by
  cases hc:(uJ (ls.take i) 3 (lA ls i).name || ((lA ls i).sum.any (fun x => !kQ ls x) || (lA ls i).nd.any (fun x => !uM ls x))) with
  | false=>rfl
  | true=>rw[hc,if_pos rfl]at he;exact absurd he (by decide)
 rw[Bool.or_eq_false_iff,Bool.or_eq_false_iff]at hb;obtain⟨-,hp,hn⟩:=hb;have hn':∀y∈(lA ls i).nd,uM ls y=true:=fun y hy=>by have:=List.any_eq_false.1 hn y hy;simpa using this
 have hp':∀y∈(lA ls i).sum,kQ ls y=true:=fun y hy=>by have:=List.any_eq_false.1 hp y hy;simpa using this
 have hin1:∀nm,uJ ls 1 nm=true->0<=zM (zU ls) nm:=fun nm hh=>(fJ _ _).2 ((Xv _ _).2 (.inl hh));have hin2:∀nm,uJ ls 2 nm=true->0<=zM (zU ls) nm:=fun nm hh=>(fJ _ _).2 ((Xv _ _).2 (.inr hh))
 have hco:∀nm,jZ ls nm=true->zM (zU ls) nm<0/\0<=zM (zI ls) nm:=fun nm hh=>by
  refine⟨?_,(fJ _ _).2 ((QM _ _).2 hh)⟩;rcases Int.lt_or_le (zM (zU ls) nm) 0 with h1|h1
  ·exact h1
  ·have:=h.apart ((fJ _ _).1 h1);rw[hh]at this;cases this
 refine⟨fun y hy=>?_,fun p hp2=>?_⟩
 ·have:=hn' y hy
  unfold uM at this;refine⟨fun k=>?_,fun k=>?_,fun k=>?_⟩
  ·rw[if_pos k]at this;exact hco _ this
  ·rw[if_neg (by omega),if_pos k]at this;exact hin2 _ this
  ·rw[if_neg (by omega),if_neg (by omega),if_pos k,Bool.and_eq_true,Bool.or_eq_true,decide_eq_true_eq]at this
   exact⟨hin1 _ this.2,fun ho=>hin1 _ (this.1.resolve_left ho)⟩
 ·have:=hp' p hp2
  unfold kQ YM at this;rw[Bool.or_eq_true,Bool.or_eq_true,decide_eq_true_eq]at this;rcases this with h1|h1|h1
  ·exact .inl h1
  ·exact .inr (.inl (hin1 _ h1))
  ·exact .inr (.inr (hco _ h1).2)
theorem vU.sums{ls:List zH}(h:vU ls){x:zH}(hx:x∈ls)(hk:x.kind=3):x.sum.length<=4/\∀p∈x.sum,p.starred=true->p.num<=9:=by
 obtain⟨i,hi,rfl⟩:=JD hx;have he:=h.many i hi;unfold lL QN pP at he;rw[decide_eq_true hk,Bool.true_and,Bool.or_eq_false_iff,Bool.or_eq_false_iff,Bool.or_eq_false_iff,Bool.or_eq_false_iff]at he;obtain⟨-,-,-,h1,h2⟩:=he;refine⟨by have:=of_decide_eq_false h1;omega,fun p hp hs=>?_⟩;have:=List.any_eq_false.1 h2 p hp;unfold jT at this;rw[hs]at this;simpa using this
theorem zB1{ls:List zH}{us:List zJ}(hA:yY ls us)(h:vU ls){a:Nat}(ha:a<(zI ls).length):fU (kE (zI ls) ls gZ) a<(zI ls).length:=by
 have h8:=h.heads;have hl:(kE (zI ls) ls gZ).length=64:=by rw[nT];exact xP
 have harr:=fun {a b:Nat} (hh:Qs (kE (zI ls) ls gZ) a b)=>Gt hA hh;have hr:=h.nam;generalize kE (zI ls) ls gZ=G at *;generalize (zI ls).length=H at *;obtain⟨H,rfl⟩:∃k,H=k+1:=⟨H-1,by omega⟩
 have top:∀a,a<8->oE G (H+1) a<=H:=by
  intro a ha8;have hle:=QP G (H+1) a;rcases Nat.lt_or_ge (oE G (H+1) a) (H+1) with h1|h1
  ·omega
  ·exfalso
   obtain⟨x,-,hx8,hx⟩:=KQ G (H+1) a ha8 (by omega)
   have zGA:∀i,i<=H+1->x i<H+1:=fun i hi=>by
    rcases Nat.eq_zero_or_pos i with h0|h0
    ·subst h0;exact(harr (hx 0 (by omega))).1
    ·have:=(harr (hx (i-1) (by omega))).2.1
     rwa [show i-1+1=i by omega]at this
   obtain⟨i,j,h1,h2,h3⟩:=Kr (H+1) x zGA;have ht:=VH hx (j-i-1) i (by omega);rw[show i+(j-i-1)+1=j by omega,<-h3]at ht;have:kY G=true:=(Zx hl).2 ⟨x i,hx8 i (by omega),ht⟩;rw[hr]at this;cases this
 have still:∀d a,a<8->oE G (H+1+d) a=oE G H a:=by
  intro d
  induction d with
  | zero=>intro a ha8;exact(Xz G H a (top a ha8)).symm
  | succ d ih =>
    intro a ha8;rw[show H+1+(d+1)=(H+1+d)+1 by omega,oE];have e:eC (gA G a) (oE G (H+1+d)) 8 0 0=eC (gA G a) (oE G H) 8 0 0:=KL 8 0 0 fun z _ hz=>⟨rfl,fun _=>ih z (by omega)⟩;rw[e];exact(Xz G H a (top a ha8)).symm
 unfold fU;rcases Nat.lt_or_ge 7 (H+1) with h1|h1
 ·have:=QP G 7 a;omega
 ·have:=still (7-(H+1)) a (by omega)
  rw[show H+1+(7-(H+1))=7 by omega]at this;rw[this];have:=QP G H a;omega
theorem vU.labs{ls:List zH}(h:vU ls):(xA ls).Nodup:=by
 refine X1 ls fun i hi hk=>?_;have he:=h.err i hi;unfold pU at he;rw[if_neg (by omega),if_neg (by omega),if_pos hk]at he;unfold cC at he
 cases hc:uJ (ls.take i) 3 (lA ls i).name with
 | false=>rfl
 | true=>rw[hc,Bool.true_or,if_pos rfl]at he;exact absurd he (by decide)
theorem Ft(ls:List zH):(xA ls).length<=kO 3 ls:=by have:=(X2 ls []).1;unfold xA;simp at this;omega
theorem XW{ls:List zH}{us:List zJ}(hA:yY ls us)(h:vU ls){i k:Nat}(hi:i<8)(hk:k<8):Yx us i k=gA (yZ (qG (xA ls) ls gZ)) i k:=by
 have hl:(qG (xA ls) ls gZ).length=64:=by rw[lK];exact xP
 have hn:=h.labs;have h8:(xA ls).length<=8:=Nat.le_trans (Ft ls) h.rules
 have hstp:∀a b,a<8->b<8->(Kl (kW us true (xA ls)) (xA ls).length a b ↔ gA (qG (xA ls) ls gZ) a b=true):=by
  intro a b ha hb;rw[Xh _ _ ha hb _ xP,ZA,Bool.false_or]
  have e1:ls.any (zCW (xA ls) a b)=(decide (a<(xA ls).length)&&(decide (b<(xA ls).length)&&ls.any (zDO ((xA ls).getD a []) ((xA ls).getD b [])))):=by
   rw[<-gU,<-gU];congr 1
   funext x
   exact qw hn x
  rw[e1];unfold Kl kW nO sJ;simp only;rw[<-mE hA (fun x u hx=>(CB hx _ _).symm),Bool.and_eq_true,Bool.and_eq_true,decide_eq_true_iff,decide_eq_true_iff]
 unfold Yx;rw[Z4 hA,Bool.eq_iff_iff,iK];have hc:=oV hl i k;constructor
 ·intro ht
  have ha:Qs (yZ (qG (xA ls) ls gZ)) i k:=hc.2 (ht.mono fun x y hxy=>by
   have zFY:x<(xA ls).length/\y<(xA ls).length:=⟨hxy.1,hxy.2.1⟩;exact⟨by omega,by omega,(hstp x y (by omega) (by omega)).1 hxy⟩)
  exact ha.2.2
 ·intro hg
  exact(hc.1 ⟨hi,hk,hg⟩).mono fun x y hxy=>(hstp x y hxy.1 hxy.2.1).2 hxy.2.2
structure mG where
 n:Nat
 head:Nat->Nat
 abv:Nat->Nat->Bool
 app:Nat->(Nat->Bool)->Bool
 sum:Nat->(Nat->Int)->Int
 lev:Nat->Nat
 nm:Nat->Nat->Prop
 happ:∀r f g,r<n->(∀c,nm r c->f c=g c)->app r f=app r g
 hsum:∀r f g,r<n->(∀c,nm r c->f c=g c)->sum r f=sum r g
 hlev:∀r c,r<n->nm r c->lev c<lev (head r)
 habv:∀k r,k<n->r<n->abv k r=true->head k=head r
def jA(A:mG)(on:Nat->Bool)(r:Nat):Bool:=(List.range A.n).any fun k=>on k&&A.abv k r
def iX(A:mG)(on:Nat->Bool)(r:Nat):Int:=if on r then (if jA A on r then 1 else 2) else 0
def vL(A:mG)(on:Nat->Bool)(c:Nat):List Nat:=(List.range A.n).filter fun r=>decide (A.head r=c)&&(on r && !jA A on r)
def kM:List Nat->Int
 | []=>0
 | [_]=>1
 | _=>2
def iY(f:Nat->Int):List Nat->Int
 | [r]=>f r
 | _=>0
def Za(A:mG)(on:Nat->Bool)(c:Nat):Int:=kM (vL A on c)
def zCO(A:mG)(has:Nat->Bool):Nat->Bool:=fun c=>decide (Za A (fun r=>A.app r has) c=1)
def QJ(A:mG)(has:Nat->Bool)(val:Nat->Int):Nat->Int:=fun c=>iY (fun r=>A.sum r val) (vL A (fun r=>A.app r has) c)
def jO(A:mG):Nat->Nat->Bool
 | 0=>fun _=>false
 | k+1=>zCO A (jO A k)
def kU(A:mG):Nat->Nat->Int
 | 0=>fun _=>0
 | k+1=>QJ A (jO A k) (kU A k)
def ZX(A:mG)(k:Nat)(r:Nat):Bool:=A.app r (jO A k)
theorem iN(A:mG){f g:Nat->Bool}{r:Nat}(hr:r<A.n)(h:∀k,k<A.n->A.head k=A.head r->f k=g k):jA A f r=jA A g r:=by
 unfold jA;rw[Bool.eq_iff_iff];simp only[List.any_eq_true,List.mem_range,Bool.and_eq_true];constructor
 ·rintro⟨k,h1,h2,h3⟩;exact⟨k,h1,(h k h1 (A.habv k r h1 hr h3)) ▸ h2,h3⟩
 ·rintro⟨k,h1,h2,h3⟩;exact⟨k,h1,(h k h1 (A.habv k r h1 hr h3)).symm ▸ h2,h3⟩
theorem rY(A:mG){f g:Nat->Bool}{c:Nat}(h:∀k,k<A.n->A.head k=c->f k=g k):vL A f c=vL A g c:=by
 unfold vL;apply List.filter_congr
 intro r hr;rw[List.mem_range]at hr;by_cases hc:A.head r=c
 ·rw[h r hr hc,iN A hr (fun k hk e=>h k hk (e.trans hc))]
 ·simp[hc]
theorem Uw(A:mG){f g:Nat->Bool}{r:Nat}(hr:r<A.n)(h:∀k,k<A.n->A.head k=A.head r->f k=g k):iX A f r=iX A g r:=by
 unfold iX;rw[h r hr rfl,iN A hr h]
theorem aN(A:mG){f:Nat->Bool}{c r:Nat}(h:r∈vL A f c):r<A.n/\A.head r=c/\f r=true/\jA A f r=false:=by
 unfold vL at h;simpa[List.mem_filter] using h
theorem oF{f g:Nat->Int}{l:List Nat}(h:∀r∈l,f r=g r):iY f l=iY g l:=by
 match l with
 | []=>rfl
 | [r]=>exact h r (by simp)
 | _::_::_=>rfl
theorem fY(A:mG):∀k c j,A.lev c<k->k<=j->jO A j c=jO A k c/\kU A j c=kU A k c:=by
 intro k
 induction k with
 | zero=>intro c j h;omega
 | succ k ih =>
   intro c j hc hj;obtain⟨j,rfl⟩:∃i,j=i+1:=⟨j-1,by omega⟩
   have hon:∀r,r<A.n->A.head r=c->A.app r (jO A j)=A.app r (jO A k):=fun r hr e=>A.happ r _ _ hr fun c' hn=>by
    have:=A.hlev r c' hr hn;rw[e]at this;exact(ih c' j (by omega) (by omega)).1
   have hs:vL A (fun r=>A.app r (jO A j)) c=vL A (fun r=>A.app r (jO A k)) c:=rY A hon;constructor
   ·show decide (kM (vL A (fun r=>A.app r (jO A j)) c)=1)=decide (kM (vL A (fun r=>A.app r (jO A k)) c)=1)
    rw[hs]
   ·simp only[kU,QJ]
    rw[hs];refine oF fun r hr=>?_;obtain⟨h1,h2,_,_⟩:=aN A hr
    exact A.hsum r _ _ h1 fun c' hn=>by
     have:=A.hlev r c' h1 hn;rw[h2]at this;exact(ih c' j (by omega) (by omega)).2
theorem QH(A:mG){r k j:Nat}(hr:r<A.n)(hk:A.lev (A.head r)<=k)(hj:k<=j):ZX A j r=ZX A k r :=
 A.happ r _ _ hr fun c hn=>by
  have:=A.hlev r c hr hn;exact(fY A k c j (by omega) hj).1
structure uF where
 has:Nat->Bool
 val:Nat->Int
 ap:Nat->Bool
 vd:Nat->Int
 st:Nat->Int
 av:Nat->Int
def h0:uF:=⟨fun _=>false,fun _=>0,fun _=>false,fun _=>0,fun _=>0,fun _=>0⟩
def uP(A:mG)(c:Nat)(s:uF):uF :=
 let ap':=fun r=>if A.head r=c then A.app r s.has else s.ap r
 let l:=vL A ap' c
 { has:=fun x=>if x=c then (if l.length=1 then true else s.has x) else s.has x
   val:=fun x=>if x=c then (if l.length=1 then iY (fun r=>A.sum r s.val) l else s.val x) else s.val x
   ap:=ap'
   vd:=fun r=>if A.head r=c then (if ap' r then (if jA A ap' r then 1 else 2) else s.vd r) else s.vd r
   st:=fun x=>if x=c then (if l.length=0 then s.st x else kM l) else s.st x
   av:=fun x=>if x=c then (if l.length=1 then iY (fun r=>A.sum r s.val) l else s.av x) else s.av x }
structure tJ(A:mG)(S:Nat->Prop)(s:uF):Prop where
 has:∀c,(S c->s.has c=jO A (A.lev c+1) c)/\(¬S c->s.has c=false)
 val:∀c,(S c->s.val c=kU A (A.lev c+1) c)/\(¬S c->s.val c=0)
 ap:∀r,r<A.n->(S (A.head r)->s.ap r=ZX A (A.lev (A.head r)) r)/\(¬S (A.head r)->s.ap r=false)
 vd:∀r,r<A.n->(S (A.head r)->s.vd r=iX A (ZX A (A.lev (A.head r))) r)/\(¬S (A.head r)->s.vd r=0)
 st:∀c,(S c->s.st c=Za A (ZX A (A.lev c)) c)/\(¬S c->s.st c=0)
 av:∀c,(S c->s.av c=kU A (A.lev c+1) c)/\(¬S c->s.av c=0)
theorem zCR(A:mG):tJ A (fun _=>False) h0:=by
 constructor <;> intros <;> exact⟨fun h=>h.elim,fun _=>rfl⟩
theorem aR{l:List Nat}:kM l=1 ↔ l.length=1:=by
 match l with
 | []=>simp[kM]
 | [r]=>simp[kM]
 | _::_::_=>simp[kM]
theorem YH{f:Nat->Int}{l:List Nat}(h:l.length≠1):iY f l=0:=by
 match l with
 | []=>rfl
 | [r]=>simp at h
 | _::_::_=>rfl
theorem Q4(A:mG){S:Nat->Prop}{s:uF}(h:tJ A S s){c:Nat}(hc:¬S c)(hl:∀c',A.lev c'<A.lev c->(∃r,r<A.n/\A.nm r c')->S c'):tJ A (fun x=>S x\/x=c) (uP A c s):=by
 have happ:∀r,r<A.n->A.head r=c->A.app r s.has=ZX A (A.lev c) r:=fun r hr e=>A.happ r _ _ hr fun c' hn=>by
  have h1:=A.hlev r c' hr hn;rw[e]at h1;rw[(h.has c').1 (hl c' h1 ⟨r,hr,hn⟩)];exact(fY A (A.lev c'+1) c' (A.lev c) (by omega) (by omega)).1.symm
 have hsum:∀r,r<A.n->A.head r=c->A.sum r s.val=A.sum r (kU A (A.lev c)):=fun r hr e=>A.hsum r _ _ hr fun c' hn=>by
  have h1:=A.hlev r c' hr hn;rw[e]at h1;rw[(h.val c').1 (hl c' h1 ⟨r,hr,hn⟩)];exact(fY A (A.lev c'+1) c' (A.lev c) (by omega) (by omega)).2.symm
 have hs:vL A (fun r=>if A.head r=c then A.app r s.has else s.ap r) c=vL A (ZX A (A.lev c)) c:=rY A fun k hk e=>by simp only[e,if_true];exact happ k hk e
 have hb:∀r,r<A.n->A.head r=c->jA A (fun r=>if A.head r=c then A.app r s.has else s.ap r) r=jA A (ZX A (A.lev c)) r:=fun r hr e=>iN A hr fun k hk e2=>by simp only[e2.trans e,if_true];exact happ k hk (e2.trans e)
 have hv:iY (fun r=>A.sum r s.val) (vL A (ZX A (A.lev c)) c)=kU A (A.lev c+1) c:=by
  simp only[kU,QJ]
  exact oF fun r hr=>by
   obtain⟨h1,h2,_,_⟩:=aN A hr;exact hsum r h1 h2
 have hh:jO A (A.lev c+1) c=decide ((vL A (ZX A (A.lev c)) c).length=1):=by
  simp only[jO,zCO,Za];exact decide_eq_decide.2 aR
 have hx:∀c',c'≠c->((S c'\/c'=c) ↔ S c'):=fun c' zG7=>⟨fun h=>h.resolve_right zG7,.inl⟩;constructor
 ·intro x
  simp only[uP];by_cases e:x=c
  ·subst e
   refine⟨fun _=>?_,fun hn=>absurd (.inr rfl) hn⟩;rw[if_pos rfl,hs,hh];by_cases k:(vL A (ZX A (A.lev x)) x).length=1
   ·rw[if_pos k,decide_eq_true k]
   ·rw[if_neg k,decide_eq_false k];exact(h.has x).2 hc
  ·rw[if_neg e,hx x e];exact h.has x
 ·intro x
  simp only[uP];by_cases e:x=c
  ·subst e
   refine⟨fun _=>?_,fun hn=>absurd (.inr rfl) hn⟩;rw[if_pos rfl,hs,<-hv];by_cases k:(vL A (ZX A (A.lev x)) x).length=1
   ·rw[if_pos k]
   ·rw[if_neg k,YH k];exact(h.val x).2 hc
  ·rw[if_neg e,hx x e];exact h.val x
 ·intro r hr
  simp only[uP];by_cases e:A.head r=c
  ·rw[if_pos e]
   refine⟨fun _=>?_,fun hn=>absurd (.inr e) hn⟩;rw[happ r hr e,e]
  ·rw[if_neg e,hx _ e];exact h.ap r hr
 ·intro r hr
  simp only[uP];by_cases e:A.head r=c
  ·refine⟨fun _=>?_,fun hn=>absurd (Or.inr e) hn⟩
   have h9:(if A.head r=c then A.app r s.has else s.ap r)=ZX A (A.lev c) r:=by rw[if_pos e,happ r hr e]
   rw[hb r hr e,if_pos e,show A.lev (A.head r)=A.lev c by rw[e]];unfold iX;by_cases k:ZX A (A.lev c) r=true
   ·rw[if_pos k,if_pos (h9.trans k)]
   ·rw[if_neg k,if_neg (fun x=>k (h9.symm.trans x))];exact(h.vd r hr).2 (by rw[e];exact hc)
  ·rw[if_neg e,hx _ e];exact h.vd r hr
 ·intro x
  simp only[uP];by_cases e:x=c
  ·subst e
   refine⟨fun _=>?_,fun hn=>absurd (.inr rfl) hn⟩;rw[if_pos rfl,hs];unfold Za;by_cases k:(vL A (ZX A (A.lev x)) x).length=0
   ·rw[if_pos k,List.eq_nil_of_length_eq_zero k,(h.st x).2 hc];rfl
   ·rw[if_neg k]
  ·rw[if_neg e,hx x e];exact h.st x
 ·intro x
  simp only[uP];by_cases e:x=c
  ·subst e
   refine⟨fun _=>?_,fun hn=>absurd (.inr rfl) hn⟩;rw[if_pos rfl,hs,<-hv];by_cases k:(vL A (ZX A (A.lev x)) x).length=1
   ·rw[if_pos k]
   ·rw[if_neg k,YH k];exact(h.av x).2 hc
  ·rw[if_neg e,hx x e];exact h.av x
def cW(A:mG)(H l:Nat):Nat->Nat->uF->uF
 | 0,_,s=>s
 | f+1,i,s=>cW A H l f (i+1) (if A.lev i=l then uP A i s else s)
def uC(A:mG)(H:Nat):Nat->Nat->uF->uF
 | 0,_,s=>s
 | f+1,l,s=>uC A H f (l+1) (cW A H l H 0 s)
theorem tJ.same{A:mG}{S T:Nat->Prop}{s:uF}(h:tJ A S s)(e:∀x,S x ↔ T x):tJ A T s:=by
 obtain rfl:S=T:=funext fun x=>propext (e x);exact h
theorem ve(A:mG)(H l:Nat)(hn:∀r c,r<A.n->A.nm r c->c<H):∀f i s,i+f=H->tJ A (fun x=>x<H/\(A.lev x<l\/A.lev x=l/\x<i)) s->tJ A (fun x=>x<H/\A.lev x<l+1) (cW A H l f i s):=by
 intro f
 induction f with
 | zero=>intro i s hi h;exact h.same fun x=>by constructor <;> intro hx <;> omega
 | succ f ih =>
   intro i s hi h;rw[cW];refine ih (i+1) _ (by omega) ?_;by_cases e:A.lev i=l
   ·rw[if_pos e]
    refine(Q4 A h (c:=i) (by omega) ?_).same fun x=>?_
    ·rintro c' hc ⟨r,hr,hnm⟩
     exact⟨hn r c' hr hnm,.inl (by omega)⟩
    ·constructor
     ·rintro(h1|h1)
      ·omega
      ·subst h1;exact⟨by omega,.inr ⟨e,by omega⟩⟩
     ·rintro⟨h1,h2⟩
      by_cases k:x=i
      ·exact .inr k
      ·exact .inl ⟨h1,by omega⟩
   ·rw[if_neg e]
    refine h.same fun x=>?_;constructor
    ·intro hx;omega
    ·rintro⟨h1,h2⟩
     refine⟨h1,?_⟩;rcases h2 with h2|⟨h2,h3⟩
     ·exact .inl h2
     ·refine .inr ⟨h2,?_⟩
      rcases Nat.lt_or_ge x i with h4|h4
      ·exact h4
      ·obtain rfl:x=i:=by omega
       exact absurd h2 e
theorem Fr(A:mG)(H:Nat)(hn:∀r c,r<A.n->A.nm r c->c<H):∀f l s,l+f=H->tJ A (fun x=>x<H/\A.lev x<l) s->tJ A (fun x=>x<H/\A.lev x<H) (uC A H f l s):=by
 intro f
 induction f with
 | zero=>intro l s hl h;exact h.same fun x=>by constructor <;> intro hx <;> omega
 | succ f ih =>
   intro l s hl h;rw[uC];refine ih (l+1) _ (by omega) ?_;exact ve A H l hn H 0 s (by omega) (h.same fun x=>by constructor <;> intro hx <;> omega)
theorem FB(A:mG)(H:Nat)(hn:∀r c,r<A.n->A.nm r c->c<H)(hl:∀c,c<H->A.lev c<H)(hh:∀r,r<A.n->A.head r<H)(n:Nat)(hN:n+1=H) :
 (∀r,r<A.n->(uC A H H 0 h0).vd r=iX A (ZX A n) r)/\(∀c,c<H->(uC A H H 0 h0).st c=Za A (ZX A n) c/\(uC A H H 0 h0).av c=kU A H c):=by
 have h:=Fr A H hn H 0 h0 (by omega) ((zCR A).same fun x=>⟨False.elim,fun hx=>by omega⟩);generalize uC A H H 0 h0=s at *;constructor
 ·intro r hr
  have h1:=hl _ (hh r hr);rw[(h.vd r hr).1 ⟨hh r hr,h1⟩];exact Uw A hr fun k hk e=>(QH A hk (show A.lev (A.head k)<=A.lev (A.head r) by rw[e];omega) (show A.lev (A.head r)<=n by omega)).symm
 ·intro c hc
  have h1:=hl c hc;rw[(h.st c).1 ⟨hc,h1⟩,(h.av c).1 ⟨hc,h1⟩];constructor
  ·unfold Za
   rw[rY A fun k hk e=>(QH A hk (show A.lev (A.head k)<=A.lev c by rw[e];omega) (show A.lev c<=n by omega)).symm]
  ·exact(fY A (A.lev c+1) c H (by omega) (by omega)).2.symm
def jP:Nat->Int
 | 0=>9999
 | k+1=>36*jP k
theorem fC:∀k,9999<=jP k:=by
 intro k
 induction k with
 | zero=>exact Int.le_refl _
 | succ k ih=>rw[jP];omega
theorem zx:∀k,k<=8->jP k<=28208277964652544:=by
 intro k hk;have:k=0\/k=1\/k=2\/k=3\/k=4\/k=5\/k=6\/k=7\/k=8:=by omega
 rcases this with rfl|rfl|rfl|rfl|rfl|rfl|rfl|rfl|rfl <;> decide
theorem Uv(A:mG)(hs:∀r (f:Nat->Int) (B:Int),r<A.n->9999<=B->(∀c,-B<=f c/\f c<=B) -> -(36*B)<=A.sum r f/\A.sum r f<=36*B):∀k c,-(jP k)<=kU A k c/\kU A k c<=jP k:=by
 intro k
 induction k with
 | zero=>intro c;show -(9999:Int)<=0/\(0:Int)<=9999;exact⟨by decide,by decide⟩
 | succ k ih =>
   intro c;have hk:=fC k;rw[kU,QJ,jP];generalize hl:vL A (fun r=>A.app r (jO A k)) c=l
   match l,hl with
   | [],_=>exact⟨by show -(36*jP k)<=0;omega,by show (0:Int)<=36*jP k;omega⟩
   | [r],hl =>
     have hr:=(aN A (show r∈vL A (fun r=>A.app r (jO A k)) c by rw[hl];simp)).1;exact hs r (kU A k) (jP k) hr hk ih
   | _::_::_,_=>exact⟨by show -(36*jP k)<=0;omega,by show (0:Int)<=36*jP k;omega⟩
def tR(ls:List zH):List zH:=ls.filter fun x=>decide (x.kind=3)
theorem X3(ls:List zH):xA ls=(tR ls).map zH.name:=by
 have key:∀(ls:List zH) acc,kZ ls acc=acc++(ls.filter fun x=>decide (x.kind=3)).map zH.name:=by
  intro ls
  induction ls with
  | nil=>intro acc;simp[kZ]
  | cons x r ih=>intro acc;rw[kZ,ih];by_cases h:x.kind=3 <;> simp[h]
 unfold xA tR;rw[key];simp
theorem Q6(ins cs:List Bs)(ls:List zH):pQ ins cs ls=(tR ls).map (tK ins cs):=by
 unfold pQ tR;rw[D3];simp
theorem eY{ls:List zH}{x:zH}(h:x∈tR ls):x∈ls/\x.kind=3:=by
 have:=List.mem_filter.1 h;exact⟨this.1,by simpa using this.2⟩
theorem YZ(ls:List zH):(tR ls).length=kO 3 ls:=by
 unfold tR
 induction ls with
 | nil=>rfl
 | cons x r ih=>rw[kO];by_cases h:x.kind=3 <;> simp[h,ih];omega
theorem Xa{ls:List zH}{r:Nat}(h:r<(tR ls).length):(tR ls).getD r rQ∈tR ls:=by simp[List.getD,h]
theorem CT(H:Nat)(f:Nat->Bool)(a:Int):cI ((List.range H).map f) a=(decide (0<=a)&&(decide (a<H)&&f a.toNat)):=by
 unfold cI;by_cases h0:0<=a
 ·by_cases h1:a<H
  ·rw[decide_eq_true h0,decide_eq_true h1]
   simp only[List.length_map,List.length_range,decide_eq_true h1,Bool.true_and];simp[List.getD,show a.toNat<H by omega]
  ·rw[decide_eq_false h1]
   simp only[List.length_map,List.length_range,decide_eq_false h1,Bool.false_and]
 ·rw[decide_eq_false h0];rfl
theorem KH(H:Nat)(f:Nat->Int)(a:Int):jU ((List.range H).map f) a=if 0<=a/\a<H then f a.toNat else 0:=by
 unfold jU;simp only[List.length_map,List.length_range];by_cases h:0<=a/\a<H
 ·rw[if_pos h,if_pos h];simp[List.getD,show a.toNat<H by omega]
 ·rw[if_neg h,if_neg h]
def zFK(r:rK)(c:Nat):Prop:=(∃p∈r.sum,p.kind=3/\p.place=(c:Int))\/∃y∈r.guard,y.kind=5/\y.place=(c:Int)
theorem XS(r:rK)(H:Nat)(inp v v':List Int)(f g:Nat->Bool)(h:∀c,zFK r c->f c=g c):XT r ⟨inp,(List.range H).map f,v⟩=XT r ⟨inp,(List.range H).map g,v'⟩:=by
 have hT:∀a:Int,(∀c:Nat,a=(c:Int)->zFK r c)->cI ((List.range H).map f) a=cI ((List.range H).map g) a:=fun a ha=>by
  rw[CT,CT];by_cases h0:0<=a
  ·rw[h a.toNat (ha a.toNat (by omega))]
  ·rw[decide_eq_false h0];rfl
 have h1:mK ⟨inp,(List.range H).map f,v⟩ r.sum=mK ⟨inp,(List.range H).map g,v'⟩ r.sum:=by
  unfold mK
  exact Ji fun p hp=>by
   by_cases k:p.kind=3
   ·rw[hT p.place fun c e=>.inl ⟨p,hp,k,e⟩]
   ·rw[decide_eq_false k];rfl
 have h2:∀(N:List lD) hs,(∀y∈N,y∈r.guard)->nW ⟨inp,(List.range H).map f,v⟩ N hs=nW ⟨inp,(List.range H).map g,v'⟩ N hs:=by
  intro N
  induction N with
  | nil=>intro hs _;rfl
  | cons y t ih =>
    intro hs hy;rw[nW,nW]
    have e:Bn y ⟨inp,(List.range H).map f,v⟩ hs=Bn y ⟨inp,(List.range H).map g,v'⟩ hs:=by
     unfold Bn;by_cases k:y.kind=5
     ·simp only[k]
      exact hT y.place fun c e=>.inr ⟨y,hy y (by simp),k,e⟩
     ·simp only[k,if_false];rfl
    rw[e];exact ih _ fun z hz=>hy z (by simp[hz])
 unfold XT;rw[h1,h2 r.guard [] fun y hy=>hy]
theorem YN(r:rK)(H:Nat)(inp:List Int)(v v':List Bool)(f g:Nat->Int)(h:∀c,zFK r c->f c=g c):Yl ⟨inp,v,(List.range H).map f⟩ r.sum=Yl ⟨inp,v',(List.range H).map g⟩ r.sum:=by
 have key:∀(l:List cS) n,(∀p∈l,p∈r.sum)->dD ⟨inp,v,(List.range H).map f⟩ l n=dD ⟨inp,v',(List.range H).map g⟩ l n:=by
  intro l
  induction l with
  | nil=>intro n _;rfl
  | cons p t ih =>
    intro n hp;rw[dD,dD]
    have e:gB ⟨inp,v,(List.range H).map f⟩ p=gB ⟨inp,v',(List.range H).map g⟩ p:=by
     unfold gB;by_cases k:p.kind=3
     ·simp only[k]
      rw[KH,KH];by_cases h0:0<=p.place/\p.place<H
      ·rw[if_pos h0,if_pos h0,h p.place.toNat (.inl ⟨p,hp p (by simp),k,by omega⟩)]
      ·rw[if_neg h0,if_neg h0]
     ·simp only[k,if_false]
    rw[e];exact ih _ fun z hz=>hp z (by simp[hz])
 exact key r.sum 0 fun p hp=>hp
theorem K4{ls:List zH}(h:vU ls){x:zH}(hx:x∈ls)(hk:x.kind=3){a:Nat}(ha:a<(xA ls).length)(e:x.name=(xA ls).getD a []):(tR ls).getD a rQ=x:=by
 have hx2:x∈tR ls:=List.mem_filter.2 ⟨hx,by simpa using hk⟩;obtain⟨b,hb,rfl⟩:=List.getElem_of_mem hx2;have hl:(xA ls).length=(tR ls).length:=by rw[X3];simp
 have e2:(xA ls).getD b []=(xA ls).getD a []:=by
  rw[<-e,X3];simp[List.getD,hb]
 have:=Bd h.labs (show b<_ by omega) ha e2;subst this;simp[List.getD,hb]
theorem Ck{ls:List zH}(h:vU ls){i k:Nat}(hg:gA (yZ (qG (xA ls) ls gZ)) i k=true)(hi:i<8)(hk:k<8):((tR ls).getD i rQ).conc=((tR ls).getD k rQ).conc:=by
 have hl:(qG (xA ls) ls gZ).length=64:=by rw[lK];exact xP
 refine(oV hl i k).1 ⟨hi,hk,hg⟩ (fun a b=>((tR ls).getD a rQ).conc=((tR ls).getD b rQ).conc) (fun a b hab=>?_) (fun _ _ _ h1 h2=>h1.trans h2);obtain⟨ha8,hb8,hgg⟩:=hab;rw[Xh _ _ ha8 hb8 _ xP,ZA,Bool.false_or]at hgg;obtain⟨x,hx,hxo⟩:=List.any_eq_true.1 hgg;rw[qw h.labs x,Bool.and_eq_true,Bool.and_eq_true,decide_eq_true_eq,decide_eq_true_eq]at hxo;obtain⟨ha,hb,hov⟩:=hxo;unfold zDO at hov;simp only[Bool.and_eq_true,decide_eq_true_eq]at hov;obtain⟨hk4,hn1,hn2⟩:=hov;obtain⟨j,hj,rfl⟩:=JD hx;have he:=h.err j hj;unfold pU at he;rw[if_neg (by omega),if_neg (by omega),if_neg (by omega),if_pos hk4]at he;unfold mO at he;by_cases h1:vP ls (lA ls j).name=ls.length\/vP ls (lA ls j).lower=ls.length
 ·rw[if_pos h1]at he;exact absurd he (by decide)
 ·rw[if_neg h1]at he
  have zFY:vP ls (lA ls j).name<ls.length/\vP ls (lA ls j).lower<ls.length:=by
   have a1:=Zh ls (lA ls j).name;have a2:=Zh ls (lA ls j).lower;omega
  have hc:(lA ls (vP ls (lA ls j).name)).conc=(lA ls (vP ls (lA ls j).lower)).conc:=by
   rcases Classical.em ((lA ls j).name=(lA ls j).lower\/(lA ls (vP ls (lA ls j).name)).conc≠(lA ls (vP ls (lA ls j).lower)).conc) with h2|h2
   ·rw[if_pos h2]at he;exact absurd he (by decide)
   ·exact Classical.not_not.1 fun hn=>h2 (.inr hn)
  have hit:∀nm,vP ls nm<ls.length->lA ls (vP ls nm)∈ls/\(lA ls (vP ls nm)).kind=3/\(lA ls (vP ls nm)).name=nm:=fun nm zFY=>by
   have:=ZC (iU 3 nm) ls 0 (by unfold vP at zFY;omega);rw[Nat.sub_zero]at this;have h3:iU 3 nm (lA ls (vP ls nm))=true:=this;unfold iU at h3;simp only[Bool.and_eq_true,decide_eq_true_eq]at h3;exact⟨by unfold lA;simp[List.getD,zFY],h3.1,h3.2⟩
  obtain⟨p1,p2,p3⟩:=hit _ zFY.1;obtain⟨q1,q2,q3⟩:=hit _ zFY.2;rw[K4 h p1 p2 ha (by rw[p3];exact hn1),K4 h q1 q2 hb (by rw[q3];exact hn2)];exact hc
def Zf(ls:List zH)(r:Nat):Nat:=(zM (zI ls) ((tR ls).getD r rQ).conc).toNat
theorem bP{ls:List zH}{r:Nat}(h:r<(tR ls).length):zM (zI ls) ((tR ls).getD r rQ).conc=(Zf ls r:Int)/\Zf ls r<(zI ls).length:=by
 have hm:=eY (Xa h);have h1:0<=zM (zI ls) ((tR ls).getD r rQ).conc:=(fJ _ _).2 ((QM _ _).2 (List.any_eq_true.2 ⟨_,hm.1,by unfold Qr;rw[decide_eq_true hm.2];simp⟩));have h2:=mC (zI ls) ((tR ls).getD r rQ).conc;unfold Zf;omega
def Z2(ls:List zH)(r:Nat):rK:=tK (zU ls) (zI ls) ((tR ls).getD r rQ)
theorem Bf{ls:List zH}(h:vU ls){r c:Nat}(hr:r<(tR ls).length)(hn:zFK (Z2 ls r) c):c<(zI ls).length/\fU (kE (zI ls) ls gZ) c<fU (kE (zI ls) ls gZ) (Zf ls r):=by
 have h8:=h.heads;obtain⟨hm,hk⟩:=eY (Xa hr);obtain⟨hf,zFY⟩:=bP hr;have hl:(kE (zI ls) ls gZ).length=64:=by rw[nT];exact xP
 have hc:(((tR ls).getD r rQ).sum.any (fun y=>decide (zM (zI ls) y.name=(c:Int))) || ((tR ls).getD r rQ).nd.any (fun y=>decide (y.kind=5)&&decide (zM (zI ls) y.name=(c:Int))))=true/\c<(zI ls).length:=by
  rcases hn with ⟨p,hp,k,e⟩|⟨y,hy,k,e⟩
  ·obtain⟨q,hq,rfl⟩:=List.mem_map.1 hp
   have hq3:Uk (zU ls) q=3:=k;have hqp:jd (zU ls) (zI ls) q=(c:Int):=e;unfold Uk at hq3;unfold jd at hqp;by_cases h0:q.name=[]
   ·rw[if_pos h0]at hq3;exact absurd hq3 (by decide)
   ·rw[if_neg h0]at hq3 hqp
    by_cases h1:zM (zU ls) q.name<0
    ·rw[if_pos h1]at hqp
     exact⟨by rw[Bool.or_eq_true];exact .inl (List.any_eq_true.2 ⟨q,hq,by simpa using hqp⟩),by have:=mC (zI ls) q.name;omega⟩
    ·rw[if_neg h1]at hq3;exact absurd hq3 (by decide)
  ·obtain⟨q,hq,rfl⟩:=List.mem_map.1 hy
   have hq5:q.kind=5:=k;have hqp:je (zU ls) (zI ls) q=(c:Int):=e;unfold je at hqp;rw[if_pos hq5]at hqp;exact⟨by rw[Bool.or_eq_true];exact .inr (List.any_eq_true.2 ⟨q,hq,by simp[hq5,hqp]⟩),by have:=mC (zI ls) q.name;omega⟩
 refine⟨hc.2,vf hl h.nam (by omega) (by omega) ?_⟩;rw[Xt _ _ (by omega) (by omega) _ xP,ZA,Bool.false_or];exact List.any_eq_true.2 ⟨_,hm,by unfold qx;rw[hk,hf,hc.1];simp⟩
def xE(ls:List zH)(inp:List Int)(h:vU ls):mG where
 n:=(tR ls).length
 head:=Zf ls
 abv:=gA (yZ (qG (xA ls) ls gZ))
 app:=fun r f=>XT (Z2 ls r) ⟨inp,(List.range (zI ls).length).map f,[]⟩
 sum:=fun r f=>Yl ⟨inp,[],(List.range (zI ls).length).map f⟩ (Z2 ls r).sum
 lev:=fU (kE (zI ls) ls gZ)
 nm:=fun r=>zFK (Z2 ls r)
 happ:=fun r f g _ hfg=>XS (Z2 ls r) _ inp [] [] f g hfg
 hsum:=fun r f g _ hfg=>YN (Z2 ls r) _ inp [] [] f g hfg
 hlev:=fun r c hr hn=>(Bf h hr hn).2
 habv:=fun k r hk hr hg=>by
  have h8:(tR ls).length<=8:=by rw[YZ];exact h.rules
  unfold Zf;rw[Ck h hg (by omega) (by omega)]
theorem Jk(ls:List zH)(inp:List Int)(h:vU ls)(a b:Nat):(xE ls inp h).abv a b=gA (yZ (qG (xA ls) ls gZ)) a b:=by simp only[xE]
theorem JV{us:List zJ}{i:Nat}(h:i<us.length):us.drop i=uA us i::us.drop (i+1):=by
 rw[List.drop_eq_getElem_cons h];simp[uA,List.getD,h]
theorem zB7(us:List zJ):Yt us=(us.filter fun u=>decide (cA u 0=vE\/cA u 0=xB)).map (tA · 1):=by
 have key:∀n i acc,i+n=us.length->X9 us n i acc=acc++((us.drop i).filter fun u=>decide (cA u 0=vE\/cA u 0=xB)).map (tA · 1):=by
  intro n
  induction n with
  | zero=>intro i acc h;rw[List.drop_eq_nil_of_le (by omega)];simp[X9]
  | succ n ih =>
    intro i acc h;rw[X9,ih (i+1) _ (by omega),JV (show i<us.length by omega)];by_cases hk:cA (uA us i) 0=vE\/cA (uA us i) 0=xB <;> simp[hk]
 unfold Yt;rw[key us.length 0 [] (by omega)];simp
theorem zm(names:List Bs)(us:List zJ):jE names us=(us.filter fun u=>decide (cA u 0=zW)).map (wF names):=by
 have key:∀n i acc,i+n=us.length->oZ names us n i acc=acc++((us.drop i).filter fun u=>decide (cA u 0=zW)).map (wF names):=by
  intro n
  induction n with
  | zero=>intro i acc h;rw[List.drop_eq_nil_of_le (by omega)];simp[oZ]
  | succ n ih =>
    intro i acc h;rw[oZ,ih (i+1) _ (by omega),JV (show i<us.length by omega)];by_cases hk:cA (uA us i) 0=zW <;> simp[hk]
 unfold jE;rw[key us.length 0 [] (by omega)];simp
theorem Vk:∀ {ls:List zH} {us:List zJ},yY ls us->(us.filter fun u=>decide (cA u 0=vE\/cA u 0=xB)).map (tA · 1)=(ls.filter fun x=>decide (x.kind=1\/x.kind=2)).map zH.name
 | [],[],_=>rfl
 | x::xs,u::us,h=>by
   have hk:(cA u 0=vE\/cA u 0=xB) ↔ (x.kind=1\/x.kind=2):=by rw[h.1.k1,h.1.k2]
   have ih:=Vk h.2;by_cases k:x.kind=1\/x.kind=2
   ·have k2:=hk.2 k
    rw[List.filter_cons_of_pos (by simpa using k2),List.filter_cons_of_pos (by simpa using k),List.map_cons,List.map_cons,ih];show tA u 1::_=_;rw[h.1.name]
   ·have k2:¬(cA u 0=vE\/cA u 0=xB):=fun e=>k (hk.1 e)
    rw[List.filter_cons_of_neg (by simpa using k2),List.filter_cons_of_neg (by simpa using k),ih]
 | [],_::_,h=>absurd h id
 | _::_,[],h=>absurd h id
theorem Fz{ls:List zH}{us:List zJ}(hA:yY ls us):Yt us=zU ls:=by rw[zB7,Vk hA,fI]
theorem Q8:∀ {ls:List zH} {us:List zJ},yY ls us->(us.filter fun u=>decide (cA u 0=zW)).length=(tR ls).length/\∀r,r<(tR ls).length->LT ((tR ls).getD r rQ) ((us.filter fun u=>decide (cA u 0=zW)).getD r [])/\cA ((us.filter fun u=>decide (cA u 0=zW)).getD r []) 0=zW
 | [],[],_=>⟨rfl,fun r h=>absurd h (by simp[tR])⟩
 | x::xs,u::us,h=>by
   obtain⟨i1,i2⟩:=Q8 h.2;unfold tR at *;by_cases k:x.kind=3
   ·have k2:=h.1.k3.1 k
    rw[List.filter_cons_of_pos (by simpa using k2),List.filter_cons_of_pos (by simpa using k)];refine⟨by simp[i1],fun r hr=>?_⟩
    cases r with
    | zero=>exact⟨h.1,k2⟩
    | succ r=>exact i2 r (by simpa using hr)
   ·have k2:¬cA u 0=zW:=fun e=>k (h.1.k3.2 e)
    rw[List.filter_cons_of_neg (by simpa using k2),List.filter_cons_of_neg (by simpa using k)];exact⟨i1,i2⟩
 | [],_::_,h=>absurd h id
 | _::_,[],h=>absurd h id
def Um:rL:=⟨[],0,[],[]⟩
theorem Zv{ls:List zH}{us:List zJ}(hA:yY ls us)(names:List Bs):(jE names us).length=(tR ls).length/\∀r,r<(tR ls).length->∃u,LT ((tR ls).getD r rQ) u/\cA u 0=zW/\(jE names us).getD r Um=wF names u:=by
 obtain⟨h1,h2⟩:=Q8 hA;rw[zm];refine⟨by simpa using h1,fun r hr=>⟨_,(h2 r hr).1,(h2 r hr).2,?_⟩⟩;simp[List.getD,show r<(us.filter fun u=>decide (cA u 0=zW)).length by omega]
def tH(pl:Nat->Int)(j:Nat):Nat->Nat
 | 0=>0
 | m+1=>tH pl j m+(if pl m=(j:Int) then 1 else 0)
def Qf(pl:Nat->Int)(m:Nat):Nat->Nat
 | 0=>0
 | n+1=>Qf pl m n+tH pl n m
def zCQ(pl:Nat->Int)(n:Nat):Nat->Nat
 | 0=>0
 | m+1=>zCQ pl n m+(if 0<=pl m/\pl m<n then 1 else 0)
theorem GX(pl:Nat->Int)(m:Nat):∀n,Qf pl m n=zCQ pl n m:=by
 induction m with
 | zero =>
   intro n
   induction n with
   | zero=>rfl
   | succ n ih=>rw[Qf,ih];rfl
 | succ m ih =>
   have key:∀n,Qf pl (m+1) n=Qf pl m n+(if 0<=pl m/\pl m<n then 1 else 0):=by
    intro n
    induction n with
    | zero=>simp[Qf]
    | succ n ihn =>
      rw[Qf,Qf,ihn,tH];by_cases h:pl m=(n:Int)
      ·rw[if_neg (by omega),if_pos h,if_pos (by omega)];omega
      ·rw[if_neg h]
       by_cases h2:0<=pl m/\pl m<n
       ·rw[if_pos h2,if_pos (by omega)];omega
       ·rw[if_neg h2,if_neg (by omega)];omega
   intro n;rw[key n,ih n,zCQ]
theorem Cz(pl:Nat->Int)(m:Nat):∀n,(∀j,j<n->tH pl j m=1)->Qf pl m n=n:=by
 intro n
 induction n with
 | zero=>intro _;rfl
 | succ n ih=>intro h;rw[Qf,ih (fun j hj=>h j (by omega)),h n (by omega)]
theorem zFO(pl:Nat->Int)(n:Nat):∀m,zCQ pl n m<=m:=by
 intro m
 induction m with
 | zero=>exact Nat.le_refl _
 | succ m ih=>rw[zCQ];split <;> omega
theorem ul(pl:Nat->Int)(n:Nat):∀m,zCQ pl n m=m ↔ ∀i,i<m->0<=pl i/\pl i<n:=by
 intro m
 induction m with
 | zero=>simp[zCQ]
 | succ m ih =>
   rw[zCQ];have:=zFO pl n m;constructor
   ·intro h i hi
    split at h
    ·rename_i hc
     rcases Nat.lt_or_ge i m with h1|h1
     ·exact ih.1 (by omega) i h1
     ·obtain rfl:i=m:=by omega
      exact hc
    ·omega
   ·intro h
    rw[if_pos (h m (by omega)),ih.2 fun i hi=>h i (by omega)]
theorem FM(pl:Nat->Int)(m n:Nat)(hp:∀i,i<m->pl i<n)(fit:Nat->Prop):((∀i,i<m->0<=pl i/\fit i)/\∀j,j<n->tH pl j m=1) ↔ ((∀j,j<n->tH pl j m=1/\∀i,i<m->pl i=(j:Int)->fit i)/\m=n):=by
 constructor
 ·rintro⟨h1,h2⟩
  refine⟨fun j hj=>⟨h2 j hj,fun i hi _=>(h1 i hi).2⟩,?_⟩;have:=Cz pl m n h2;rw[GX,(ul pl n m).2 fun i hi=>⟨(h1 i hi).1,hp i hi⟩]at this;exact this
 ·rintro⟨h1,rfl⟩
  have h2:∀j,j<m->tH pl j m=1:=fun j hj=>(h1 j hj).1;refine⟨fun i hi=>?_,h2⟩;have:=Cz pl m m h2;rw[GX]at this;have h3:=(ul pl m m).1 this i hi;refine⟨h3.1,(h1 (pl i).toNat (by omega)).2 i hi (by omega)⟩
theorem XO(pl:Nat->Int)(j:Nat){m m':Nat}(h:m<=m'):tH pl j m<=tH pl j m':=by
 induction m' with
 | zero=>obtain rfl:m=0:=by omega
         exact Nat.le_refl _
 | succ k ih =>
   rcases Nat.lt_or_ge m (k+1) with h1|h1
   ·rw[tH];have:=ih (by omega);omega
   ·obtain rfl:m=k+1:=by omega
    exact Nat.le_refl _
def VM(t:PT)(i:Nat):Bool :=
 if i%4=0 then decide (t.k=2) else if i%4=1 then decide (t.k=4)&&decide (t.s=[61])
 else if i%4=2 then decide (t.k=3) || rR t else decide (t.k=4)&&decide (t.s=[59])
def oC(P:List PT):Nat->Nat->Bool
 | 0,_=>false
 | n+1,i=>if i%4=0/\(yO P i).k=0 then true else VM (yO P i) i&&oC P n (i+1)
def fM(P:List PT):Bool:=oC P P.length 0
def pI(P:List PT)(I:List yU):Nat->Nat->List Int × List Bool->Option (List Int × List Bool)
 | 0,_,st=>some st
 | n+1,i,st =>
   if i*4+4<P.length then
    (if zM (I.map yU.name) (qZ (yO P (i*4)) (yO P (i*4+2))).name<0 then none
     else if st.2.getD (zM (I.map yU.name) (qZ (yO P (i*4)) (yO P (i*4+2))).name).toNat false=true then none
     else if lS (qZ (yO P (i*4)) (yO P (i*4+2))) (I.getD (zM (I.map yU.name) (qZ (yO P (i*4)) (yO P (i*4+2))).name).toNat ZZ)=false then none
     else pI P I n (i+1) (st.1.set (zM (I.map yU.name) (qZ (yO P (i*4)) (yO P (i*4+2))).name).toNat (qZ (yO P (i*4)) (yO P (i*4+2))).value,st.2.set (zM (I.map yU.name) (qZ (yO P (i*4)) (yO P (i*4+2))).name).toNat true))
   else some st
def yM(I:List yU)(f:Bs):List Int × Int :=
 if 300<f.length then ([],1)
 else if fM (lW f)=false then ([],2)
 else match pI (lW f) I (lW f).length 0 (List.replicate I.length 0,List.replicate I.length false) with
  | none=>([],10)
  | some st=>if st.2.all id then (st.1,0) else ([],10)
theorem Zj(f:Bs){i:Nat}(h:i<(zP f 0).length):yO (lW f) i=⟨vH (tA (zP f 0) i),tA (zP f 0) i,pC (tA (zP f 0) i),((zP f 0).getD i (0,[])).1⟩:=nG h
theorem V8(f:Bs):(yO (lW f) (zP f 0).length).k=0:=(CS (ts:=zP f 0) (len:=f.length) (Nat.le_refl _)).2 rfl
theorem zC0(f:Bs){i:Nat}(h:i<(zP f 0).length):VM (yO (lW f) i) i=mJ (zP f 0) i:=by
 rw[Zj f h];unfold VM mJ
 have e1:∀t:Bs,t∈jf->(decide (vH (tA (zP f 0) i)=4)&&decide (tA (zP f 0) i=t))=decide (cA (zP f 0) i=t):=fun t ht=>by
  have:=Cb (s:=tA (zP f 0) i) ht;rw[Bool.eq_iff_iff,Bool.and_eq_true,decide_eq_true_eq,decide_eq_true_eq,decide_eq_true_eq];exact this
 have e2:decide (vH (tA (zP f 0) i)=2)=decide (cA (zP f 0) i=yP):=decide_eq_decide.2 (VE _);have e3:decide (vH (tA (zP f 0) i)=3)=decide (cA (zP f 0) i=zV):=decide_eq_decide.2 (mM _)
 have e4:xR rS (tA (zP f 0) i)=(decide (tA (zP f 0) i=[121,101,115]) || decide (tA (zP f 0) i=[110,111])):=by
  rw[dW,show cT rS (rS.length+1) 0 0=[[121,101,115],[110,111]] by decide];simp only[List.mem_cons,List.not_mem_nil,or_false];rw[Bool.decide_or]
 simp only[rR];rw[e1 [61] (by decide),e1 [59] (by decide),e2,e3,e4]
theorem qv(f:Bs):fM (lW f)=qJ (zP f 0):=by
 have hl:=bX f
 have key:∀n i,i+n=(zP f 0).length->oC (lW f) (n+1) i=jR (zP f 0) n i:=by
  intro n
  induction n with
  | zero =>
    intro i hi;obtain rfl:i=(zP f 0).length:=by omega
    rw[oC,jR,V8];by_cases h4:(zP f 0).length%4=0
    ·rw[if_pos ⟨h4,rfl⟩,decide_eq_true h4]
    ·rw[if_neg (fun h=>h4 h.1),decide_eq_false h4,oC,Bool.and_false]
  | succ n ih =>
    intro i hi;rw[oC,jR];have hk:(yO (lW f) i).k≠0:=by rw[Zj f (by omega)];exact ya _
    rw[if_neg (fun h=>hk h.2),zC0 f (by omega),ih (i+1) (by omega)]
 unfold fM qJ;rw[hl];exact key _ 0 (by omega)
def eE(f:Bs)(i:Nat):Jn:=qZ (yO (lW f) (i*4)) (yO (lW f) (i*4+2))
def jB(I:List yU)(f:Bs)(i:Nat):Int:=zM (I.map yU.name) (eE f i).name
def JS(I:List yU)(f:Bs)(i:Nat):Prop:=lS (eE f i) (I.getD (jB I f i).toNat ZZ)=true
theorem lJ{α:Type}(l:List α)(i j:Nat)(x d:α)(hi:i<l.length):(l.set i x).getD j d=if j=i then x else l.getD j d:=by
 unfold List.getD;rw[List.getElem?_set];by_cases h:i=j
 ·subst h;simp[hi]
 ·rw[if_neg h,if_neg (fun e=>h e.symm)]
structure Kd(I:List yU)(f:Bs)(i:Nat)(st:List Int × List Bool):Prop where
 l1:st.1.length=I.length
 l2:st.2.length=I.length
 giv:∀j,j<I.length->(st.2.getD j false=true ↔ tH (jB I f) j i=1)/\tH (jB I f) j i<=1
 val:∀(k j:Nat),k<i->jB I f k=(j:Int)->st.1.getD j 0=(eE f k).value
 ok:∀k,k<i->0<=jB I f k/\JS I f k
theorem zy(I:List yU)(f:Bs)(i:Nat):jB I f i<I.length:=by have:=mC (I.map yU.name) (eE f i).name;unfold jB;simpa using this.2
def Jr(I:List yU)(f:Bs)(m:Nat):Prop:=(∀k,k<m->0<=jB I f k/\JS I f k)/\∀j,j<I.length->tH (jB I f) j m=1
theorem zr(I:List yU)(f:Bs)(m:Nat)(hm:(zP f 0).length=4*m):∀n i st,m+1<=n+i->i<=m->Kd I f i st ->
 (∃st',pI (lW f) I n i st=some st'/\Kd I f m st')\/(pI (lW f) I n i st=none/\¬Jr I f m):=by
 have hl:=bX f;intro n
 induction n with
 | zero=>intro i st h1 h2;omega
 | succ n ih =>
   intro i st h1 h2 zGD;rw[pI];by_cases zFY:i<m
   ·rw[if_pos (by omega)]
    have hpl:=zy I f i;by_cases k1:jB I f i<0
    ·refine .inr ⟨if_pos k1,fun hh=>?_⟩
     have:=(hh.1 i zFY).1;omega
    ·by_cases k2:st.2.getD (jB I f i).toNat false=true
     ·refine .inr ⟨(if_neg k1).trans (if_pos k2),fun hh=>?_⟩
      have h3:=((zGD.giv (jB I f i).toNat (by omega)).1).1 k2;have h4:=hh.2 (jB I f i).toNat (by omega);have h5:tH (jB I f) (jB I f i).toNat (i+1)<=tH (jB I f) (jB I f i).toNat m:=XO _ _ (by omega);rw[tH,if_pos (by omega)]at h5;omega
     ·by_cases k3:lS (eE f i) (I.getD (jB I f i).toNat ZZ)=false
      ·refine .inr ⟨(if_neg k1).trans ((if_neg k2).trans (if_pos k3)),fun hh=>?_⟩
       have:=(hh.1 i zFY).2;unfold JS at this;rw[k3]at this;cases this
      ·have hc0:tH (jB I f) (jB I f i).toNat i=0:=by
        have a:=zGD.giv (jB I f i).toNat (by omega);have b:¬tH (jB I f) (jB I f i).toNat i=1:=fun e=>k2 (a.1.2 e);have:=a.2;omega
       have hnext:Kd I f (i+1) (st.1.set (jB I f i).toNat (eE f i).value,st.2.set (jB I f i).toNat true):=by
        refine⟨by simp[zGD.l1],by simp[zGD.l2],fun j hj=>?_,fun k j hk hkj=>?_,fun k hk=>?_⟩
        ·have h9:=zGD.giv j hj
         simp only;rw[lJ _ _ _ _ _ (by rw[zGD.l2];omega),tH];by_cases e:j=(jB I f i).toNat
         ·rw[if_pos e,if_pos (by omega),e,hc0];simp
         ·rw[if_neg e,if_neg (by omega)];exact h9
        ·simp only
         rw[lJ _ _ _ _ _ (by rw[zGD.l1];omega)];rcases Nat.lt_or_ge k i with h7|h7
         ·by_cases e:j=(jB I f i).toNat
          ·exfalso
           have:1<=tH (jB I f) j i:=by
            have h8:tH (jB I f) j (k+1)<=tH (jB I f) j i:=XO _ _ (by omega);rw[tH,if_pos hkj]at h8;omega
           rw[e]at this;omega
          ·rw[if_neg e];exact zGD.val k j h7 hkj
         ·obtain rfl:k=i:=by omega
          rw[if_pos (by omega)]
        ·rcases Nat.lt_or_ge k i with h7|h7
         ·exact zGD.ok k h7
         ·obtain rfl:k=i:=by omega
          exact⟨by omega,by unfold JS;cases hx:lS (eE f k) (I.getD (jB I f k).toNat ZZ) with|true=>rfl|false=>exact absurd hx k3⟩
       have:=ih (i+1) _ (by omega) (by omega) hnext;rcases this with ⟨st',e1,e2⟩|⟨e1,e2⟩
       ·exact .inl ⟨st',(if_neg k1).trans ((if_neg k2).trans ((if_neg k3).trans e1)),e2⟩
       ·exact .inr ⟨(if_neg k1).trans ((if_neg k2).trans ((if_neg k3).trans e1)),e2⟩
   ·obtain rfl:i=m:=by omega
    rw[if_neg (by omega)];exact .inl ⟨st,rfl,zGD⟩
theorem zEP(l:List Bool):l.all id=true ↔ ∀j,j<l.length->l.getD j false=true:=by
 rw[List.all_eq_true];constructor
 ·intro h j hj;have:=h (l.getD j false) (by simp[List.getD,hj]);simpa using this
 ·intro h x hx
  obtain⟨j,hj,rfl⟩:=List.getElem_of_mem hx;have:=h j hj;simpa[List.getD,hj] using this
theorem zs(I:List yU)(f:Bs)(m:Nat)(hm:(zP f 0).length=4*m) :
 (Jr I f m->∃L,(match pI (lW f) I (lW f).length 0 (List.replicate I.length 0,List.replicate I.length false) with|none=>(([],10):List Int × Int)|some st=>if st.2.all id then (st.1,0) else ([],10))=(L,0)/\L.length=I.length/\∀(k j:Nat),k<m->jB I f k=(j:Int)->L.getD j 0=(eE f k).value) /\
 (¬Jr I f m->(match pI (lW f) I (lW f).length 0 (List.replicate I.length 0,List.replicate I.length false) with|none=>(([],10):List Int × Int)|some st=>if st.2.all id then (st.1,0) else ([],10))=([],10)):=by
 have hl:=bX f
 have h0:Kd I f 0 (List.replicate I.length 0,List.replicate I.length false):=by
  refine⟨by simp,by simp,fun j hj=>?_,fun k j hk=>by omega,fun k hk=>by omega⟩;simp[tH,List.getD,hj]
 rcases zr I f m hm (lW f).length 0 _ (by omega) (Nat.zero_le _) h0 with ⟨st,e1,e2⟩|⟨e1,e2⟩
 ·rw[e1]
  simp only
  have hall:st.2.all id=true ↔ ∀j,j<I.length->tH (jB I f) j m=1:=by
   rw[zEP,e2.l2];exact⟨fun h j hj=>(e2.giv j hj).1.1 (h j hj),fun h j hj=>(e2.giv j hj).1.2 (h j hj)⟩
  constructor
  ·intro hg
   rw[if_pos (hall.2 hg.2)];exact⟨st.1,rfl,e2.l1,e2.val⟩
  ·intro hg
   rw[if_neg (fun h=>hg ⟨e2.ok,hall.1 h⟩)]
 ·rw[e1]
  exact⟨fun hg=>absurd hg e2,fun _=>rfl⟩
theorem QU:∀ {ls:List zH} {us:List zJ},yY ls us->(us.filter fun u=>decide (cA u 0=vE\/cA u 0=xB)).length=(ls.filter fun x=>decide (x.kind=1\/x.kind=2)).length/\∀j,j<(ls.filter fun x=>decide (x.kind=1\/x.kind=2)).length->LT ((ls.filter fun x=>decide (x.kind=1\/x.kind=2)).getD j rQ) ((us.filter fun u=>decide (cA u 0=vE\/cA u 0=xB)).getD j [])
 | [],[],_=>⟨rfl,fun r h=>absurd h (by simp)⟩
 | x::xs,u::us,h=>by
   obtain⟨i1,i2⟩:=QU h.2;have hk:(cA u 0=vE\/cA u 0=xB) ↔ (x.kind=1\/x.kind=2):=by rw[h.1.k1,h.1.k2]
   by_cases k:x.kind=1\/x.kind=2
   ·have k2:=hk.2 k
    rw[List.filter_cons_of_pos (by simpa using k2),List.filter_cons_of_pos (by simpa using k)];refine⟨by rw[List.length_cons,List.length_cons,i1],fun r hr=>?_⟩
    cases r with
    | zero=>exact h.1
    | succ r=>exact i2 r (by simpa using hr)
   ·have k2:¬(cA u 0=vE\/cA u 0=xB):=fun e=>k (hk.1 e)
    rw[List.filter_cons_of_neg (by simpa using k2),List.filter_cons_of_neg (by simpa using k)];exact⟨i1,i2⟩
 | [],_::_,h=>absurd h id
 | _::_,[],h=>absurd h id
def aB(ts:zJ):List zJ->List Int->Option (List Int)
 | [],acc=>some acc
 | u::r,acc=>if (qI ts u).1=1/\(qI ts u).2.2=true then aB ts r (acc++[(qI ts u).2.1]) else none
theorem FN(us:List zJ)(ts:zJ):∀n i acc,i+n=us.length->jN us ts n i acc=aB ts ((us.drop i).filter fun u=>decide (cA u 0=vE\/cA u 0=xB)) acc:=by
 intro n
 induction n with
 | zero=>intro i acc h;rw[List.drop_eq_nil_of_le (by omega)];rfl
 | succ n ih =>
   intro i acc h;rw[jN,JV (show i<us.length by omega)];by_cases hk:cA (uA us i) 0=vE\/cA (uA us i) 0=xB
   ·rw[if_pos hk,List.filter_cons_of_pos (by simpa using hk),aB,ih (i+1) _ (by omega)]
   ·rw[if_neg hk,List.filter_cons_of_neg (by simpa using hk),ih (i+1) _ (by omega)]
theorem FO(ts:zJ)(U:List zJ):∀acc,((∀u∈U,(qI ts u).1=1/\(qI ts u).2.2=true)->aB ts U acc=some (acc++U.map fun u=>(qI ts u).2.1))/\((¬ ∀u∈U,(qI ts u).1=1/\(qI ts u).2.2=true)->aB ts U acc=none):=by
 induction U with
 | nil=>intro acc;exact⟨fun _=>by simp[aB],fun h=>absurd (fun u hu=>by simp at hu) h⟩
 | cons u r ih =>
   intro acc;rw[aB];by_cases hu:(qI ts u).1=1/\(qI ts u).2.2=true
   ·rw[if_pos hu]
    obtain⟨a,b⟩:=ih (acc++[(qI ts u).2.1]);constructor
    ·intro h;rw[a fun v hv=>h v (by simp[hv])];simp
    ·intro h;exact b fun h2=>h fun v hv=>by rcases List.mem_cons.1 hv with rfl|hv;exact hu;exact h2 v hv
   ·rw[if_neg hu]
    exact⟨fun h=>absurd (h u (by simp)) hu,fun _=>rfl⟩
def U3(ts line:zJ)(i:Nat):Int:=if cA line 0=xB then (if tA ts (i*4+2)=B6 then 1 else 0) else xH 0 (tA ts (i*4+2))
def U4(ts line:zJ)(i:Nat):Bool:=if cA line 0=xB then decide (cA ts (i*4+2)=yP) else decide (cA ts (i*4+2)=zV)&&(decide (xH 0 (tA line 2)<=xH 0 (tA ts (i*4+2)))&&decide (xH 0 (tA ts (i*4+2))<=xH 0 (tA line 4)))
theorem Dr(ts line:zJ)(i:Nat)(st:Nat × Int × Bool):nN ts line (i*4) st=if tA ts (i*4)=tA line 1 then (st.1+1,U3 ts line i,st.2.2&&U4 ts line i) else st:=by
 unfold nN U3 U4;by_cases h:tA ts (i*4)=tA line 1
 ·rw[if_pos h,if_pos h];split <;> rfl
 ·rw[if_neg h,if_neg h]
structure Ka(ts line:zJ)(pl:Nat->Int)(j:Nat)(k:Nat)(st:Nat × Int × Bool):Prop where
 cnt:st.1=tH pl j k
 val:∀i,i<k->pl i=(j:Int)->tH pl j k=1->st.2.1=U3 ts line i
 ok:st.2.2=true ↔ ∀i,i<k->pl i=(j:Int)->U4 ts line i=true
theorem GM(ts line:zJ)(pl:Nat->Int)(j m:Nat)(hm:ts.length=4*m)(hn:∀i,i<m->(tA ts (i*4)=tA line 1 ↔ pl i=(j:Int))):∀n k st,m<n+k->k<=m->Ka ts line pl j k st->Ka ts line pl j m (eI ts line n (k*4) st):=by
 intro n
 induction n with
 | zero=>intro k st h1 h2;omega
 | succ n ih =>
   intro k st h1 h2 zGD;rw[eI];by_cases hk:k<m
   ·rw[if_pos (by omega),show k*4+4=(k+1)*4 by omega]
    refine ih (k+1) _ (by omega) (by omega) ?_;rw[Dr];by_cases e:pl k=(j:Int)
    ·rw[if_pos ((hn k hk).2 e)]
     refine⟨?_,fun i hi hp hc=>?_,?_⟩
     ·show st.1+1=_;rw[tH,if_pos e,zGD.cnt]
     ·show U3 ts line k=_
      rcases Nat.lt_or_ge i k with h7|h7
      ·exfalso
       have h8:tH pl j (i+1)<=tH pl j k:=XO _ _ (by omega);rw[tH,if_pos hp]at h8;rw[tH,if_pos e]at hc;omega
      ·obtain rfl:i=k:=by omega
       rfl
     ·show (st.2.2&&U4 ts line k)=true ↔ _
      rw[Bool.and_eq_true,zGD.ok];constructor
      ·rintro⟨a,b⟩ i hi hp
       rcases Nat.lt_or_ge i k with h7|h7
       ·exact a i h7 hp
       ·obtain rfl:i=k:=by omega
        exact b
      ·intro h;exact⟨fun i hi hp=>h i (by omega) hp,h k (by omega) e⟩
    ·rw[if_neg (fun h=>e ((hn k hk).1 h))]
     refine⟨?_,fun i hi hp hc=>?_,?_⟩
     ·rw[tH,if_neg e];exact zGD.cnt
     ·rw[tH,if_neg e]at hc
      rcases Nat.lt_or_ge i k with h7|h7
      ·exact zGD.val i h7 hp hc
      ·obtain rfl:i=k:=by omega
       exact absurd hp e
     ·rw[zGD.ok]
      constructor
      ·intro a i hi hp
       rcases Nat.lt_or_ge i k with h7|h7
       ·exact a i h7 hp
       ·obtain rfl:i=k:=by omega
        exact absurd hp e
      ·intro h i hi hp;exact h i (by omega) hp
   ·obtain rfl:k=m:=by omega
    rw[if_neg (by omega)];exact zGD
theorem GN(ts line:zJ)(pl:Nat->Int)(j m:Nat)(hm:ts.length=4*m)(hn:∀i,i<m->(tA ts (i*4)=tA line 1 ↔ pl i=(j:Int))):Ka ts line pl j m (qI ts line):=by
 have:=GM ts line pl j m hm hn (ts.length+1) 0 (0,0,true) (by omega) (Nat.zero_le _) ⟨rfl,fun i hi=>by omega,⟨fun _ i hi=>by omega,fun _=>rfl⟩⟩
 rwa [Nat.zero_mul]at this
theorem BA{ls:List zH}(h:vU ls):(zU ls).Nodup:=by
 have key:∀n,n<=ls.length->(zU (ls.take n)).Nodup:=by
  intro n
  induction n with
  | zero=>intro _;simp[zU,yJ,fH]
  | succ n ih =>
    intro hn;have ih:=ih (by omega);rw[fI,lI ls n (by omega),List.filter_append,List.map_append];rw[fI]at ih;by_cases hk:(lA ls n).kind=1\/(lA ls n).kind=2
    ·rw[List.filter_cons_of_pos (by simpa using hk),List.filter_nil,List.nodup_append]
     refine⟨ih,by simp,fun a ha b hb=>?_⟩;simp only[List.map_cons,List.map_nil,List.mem_singleton]at hb;subst hb;intro e;subst e;have hm:=(Xv (ls.take n) (lA ls n).name).1 (by rw[fI];exact ha);have he:=h.err n (by omega)
     have zGA:bA ls n=0:=by
      unfold pU at he;rcases hk with k|k
      ·rw[if_pos k]at he
       unfold wQ at he;by_cases h0:bA ls n=0
       ·exact h0
       ·rw[if_neg h0]at he;exact he
      ·rw[if_neg (by omega),if_pos k]at he;exact he
     unfold bA at zGA;rcases hm with hm|hm
     ·rw[hm,Bool.true_or,if_pos rfl]at zGA;exact absurd zGA (by decide)
     ·rw[hm,Bool.true_or,Bool.or_true,if_pos rfl]at zGA;exact absurd zGA (by decide)
    ·rw[List.filter_cons_of_neg (by simpa using hk),List.filter_nil];simpa using ih
 have:=key ls.length (Nat.le_refl _)
 rwa [List.take_length]at this
theorem sS{α β:Type}(f:α->β)(l:List α)(j:Nat)(d:α)(d':β)(h:j<l.length):(l.map f).getD j d'=f (l.getD j d):=by simp[List.getD,h]
theorem JR{α:Type}(l:List α)(j:Nat)(d:α)(h:j<l.length):l[j]=l.getD j d:=by simp[List.getD,h]
def um(ls:List zH):List zH:=ls.filter fun x=>decide (x.kind=1\/x.kind=2)
def Ul(us:List zJ):List zJ:=us.filter fun u=>decide (cA u 0=vE\/cA u 0=xB)
theorem zE7{ls:List zH}{us:List zJ}(hA:yY ls us):(Ul us).length=(um ls).length/\∀j,j<(um ls).length->LT ((um ls).getD j rQ) ((Ul us).getD j []):=QU hA
theorem zBA{ls:List zH}{x:zH}(h:x∈um ls):x.kind=1\/x.kind=2:=of_decide_eq_true (List.mem_filter.1 h).2
theorem XA(ls:List zH):zU ls=(um ls).map zH.name:=fI ls
theorem ua(ls:List zH):yJ ls=(um ls).map gJ:=by unfold yJ;rw[Vl,List.nil_append];rfl
theorem Gj{ls:List zH}{us:List zJ}(hA:yY ls us)(h:vU ls)(f:Bs):dB us (zU ls).length f=yM (yJ ls) f/\((yM (yJ ls) f).2=0->(yM (yJ ls) f).1.length=(zU ls).length):=by
 unfold dB yM;rw[qv];by_cases h3:300<f.length
 ·rw[if_pos h3,if_pos h3];exact⟨rfl,fun h=>absurd h (by decide)⟩
 rw[if_neg h3,if_neg h3];by_cases hs:qJ (zP f 0)=false
 ·rw[if_pos hs,if_pos hs];exact⟨rfl,fun h=>absurd h (by decide)⟩
 rw[if_neg hs,if_neg hs];have hs:qJ (zP f 0)=true:=by cases hx:qJ (zP f 0) with|true=>rfl|false=>exact absurd hx hs
 have hshape:=fun i (hi:i<(zP f 0).length)=>Q3 hs i (Nat.zero_le _) (by omega)
 have h4:(zP f 0).length%4=0:=by
  have key:∀(ts:zJ) n i,jR ts n i=true->ts.length%4=0:=by
   intro ts n
   induction n with
   | zero=>intro i h;simpa[jR] using h
   | succ n ih=>intro i h;rw[jR,Bool.and_eq_true]at h;exact ih _ h.2
  exact key _ _ _ hs
 obtain⟨m,hm⟩:∃m,(zP f 0).length=4*m:=⟨(zP f 0).length/4,by omega⟩;have hlI:(yJ ls).length=(zU ls).length:=by unfold zU;simp
 have hIeq:=ua ls;obtain⟨al1,al2⟩:=zE7 hA;have hlU:(Ul us).length=(zU ls).length:=by rw[al1,XA];simp
 have hnd:=BA h;obtain⟨r1,r2⟩:=zs (yJ ls) f m hm
 have hname:∀i,i<m->(eE f i).name=tA (zP f 0) (i*4):=fun i hi=>by
  unfold eE qZ;rw[Zj f (show i*4<_ by omega)];split <;> rfl
 have hinp:∀j,j<(zU ls).length->Ka (zP f 0) ((Ul us).getD j []) (jB (yJ ls) f) j m (qI (zP f 0) ((Ul us).getD j [])) /\
  (∀i,i<m->jB (yJ ls) f i=(j:Int)->(U4 (zP f 0) ((Ul us).getD j []) i=true ↔ JS (yJ ls) f i)/\(JS (yJ ls) f i->U3 (zP f 0) ((Ul us).getD j []) i=(eE f i).value)):=fun j hj=>by
  have hl2:(um ls).length=(zU ls).length:=by rw[XA];simp
  have hL:=al2 j (by omega);have hIj:(yJ ls).getD j ZZ=gJ ((um ls).getD j rQ):=by rw[hIeq];exact sS gJ _ j rQ ZZ (by omega)
  have hk:=zBA (mB rQ (show j<(um ls).length by omega));have hnm:(zU ls).getD j []=((um ls).getD j rQ).name:=by rw[XA];exact sS zH.name _ j rQ [] (by omega)
  generalize (um ls).getD j rQ=x at *;generalize (Ul us).getD j []=u at *
  have hpl:∀i,i<m->(tA (zP f 0) (i*4)=tA u 1 ↔ jB (yJ ls) f i=(j:Int)):=fun i hi=>by
   have:=sY hnd (eE f i).name j;have e:jB (yJ ls) f i=zM (zU ls) (eE f i).name:=rfl;rw[e,this,hname i hi,hL.name,hnm];exact⟨fun h=>⟨hj,h.symm⟩,fun h=>h.2.symm⟩
  refine⟨GN _ _ _ _ _ hm hpl,fun i hi hp=>?_⟩;have hc2:=hshape (i*4+2) (by omega);unfold mJ at hc2;rw[if_neg (by omega),if_neg (by omega),if_pos (by omega),Bool.or_eq_true,Bool.and_eq_true,decide_eq_true_eq,decide_eq_true_eq]at hc2;have hfit:JS (yJ ls) f i ↔ lS (eE f i) (gJ x)=true:=by unfold JS;rw[hp,Int.toNat_natCast,hIj]
  have hfc:eE f i=if cA (zP f 0) (i*4+2)=zV then ⟨tA (zP f 0) (i*4),true,xH 0 (tA (zP f 0) (i*4+2))⟩ else ⟨tA (zP f 0) (i*4),false,if tA (zP f 0) (i*4+2)=[121,101,115] then 1 else 0⟩:=by
   unfold eE qZ;rw[Zj f (show i*4<_ by omega),Zj f (show i*4+2<_ by omega)];simp only;by_cases hn:cA (zP f 0) (i*4+2)=zV
   ·rw[if_pos ((mM _).2 hn),if_pos hn,K8 hn]
   ·rw[if_neg (fun e=>hn ((mM _).1 e)),if_neg hn]
  have zG7:yP≠zV:=by decide
  rw[hfit];rcases hL.kind with ⟨k1,c0,_,_,_,v1,v2⟩|⟨k2,c0⟩|⟨k4,_⟩|⟨k3,_⟩
  ·have hf:¬cA u 0=xB:=by rw[c0];decide
   have zGA:gJ x=⟨x.name,false,x.low,x.high⟩:=by unfold gJ;rw[if_pos k1]
   unfold U4 U3;rw[if_neg hf,if_neg hf,zGA,v1,v2];by_cases hn:cA (zP f 0) (i*4+2)=zV
   ·rw[hfc,if_pos hn]
    refine⟨?_,fun _=>rfl⟩;unfold lS;simp[hn]
   ·rw[hfc,if_neg hn]
    unfold lS;simp[hn]
  ·have zGA:gJ x=⟨x.name,true,0,0⟩:=by unfold gJ;rw[if_neg (by omega)]
   unfold U4 U3;rw[if_pos c0,if_pos c0,zGA];rcases hc2 with hn|⟨hn,-⟩
   ·rw[hfc,if_pos hn,hn]
    unfold lS;simp[zG7.symm]
   ·rw[hfc,if_neg (by rw[hn];exact zG7),hn]
    unfold lS B6;simp
  ·omega
  ·omega
 have hiff:Jr (yJ ls) f m ↔ ((∀u∈(Ul us),(qI (zP f 0) u).1=1/\(qI (zP f 0) u).2.2=true)/\4*(zU ls).length=(zP f 0).length):=by
  unfold Jr;rw[FM (jB (yJ ls) f) m (yJ ls).length (fun i _=>zy _ _ _) (JS (yJ ls) f),hlI,hm];constructor
  ·rintro⟨a,b⟩
   refine⟨fun u hu=>?_,by omega⟩;obtain⟨j,hj,rfl⟩:=List.getElem_of_mem hu;have e:=JR (Ul us) j [] hj;rw[e];obtain⟨t1,t2⟩:=hinp j (by omega);obtain⟨a1,a2⟩:=a j (by omega);exact⟨by rw[t1.cnt];exact a1,t1.ok.2 fun i hi hp=>((t2 i hi hp).1).2 (a2 i hi hp)⟩
  ·rintro⟨a,b⟩
   refine⟨fun j hj=>?_,by omega⟩;obtain⟨t1,t2⟩:=hinp j hj;obtain⟨a1,a2⟩:=a _ (mB [] (show j<(Ul us).length by omega));exact⟨by rw[<-t1.cnt];exact a1,fun i hi hp=>((t2 i hi hp).1).1 (t1.ok.1 a2 i hi hp)⟩
 have hF:jN us (zP f 0) us.length 0 []=aB (zP f 0) (Ul us) []:=by
  have:=FN us (zP f 0) us.length 0 [] (by omega)
  rwa [List.drop_zero]at this
 obtain⟨f1,f2⟩:=FO (zP f 0) (Ul us) [];by_cases hg:Jr (yJ ls) f m
 ·obtain⟨L,e1,e2,e3⟩:=r1 hg
  obtain⟨g1,g2⟩:=hiff.1 hg;rw[hF,f1 g1];simp only[List.nil_append];rw[if_pos g2,e1];refine⟨?_,fun _=>by rw[e2,hlI]⟩;congr 1
  refine V3 (by rw[e2,hlI];simpa using hlU) fun j hj=>?_;have hj2:j<(zU ls).length:=by rw[List.length_map]at hj;omega
  have e4:((Ul us).map fun u=>(qI (zP f 0) u).2.1).getD j 0=(qI (zP f 0) ((Ul us).getD j [])).2.1:=sS _ _ j [] 0 (by omega);rw[e4];obtain⟨t1,t2⟩:=hinp j hj2;have hc:=hg.2 j (by omega)
  obtain⟨i,hi,hp⟩:∃i,i<m/\jB (yJ ls) f i=(j:Int):=by
   have key:∀n,tH (jB (yJ ls) f) j n=1->∃i,i<n/\jB (yJ ls) f i=(j:Int):=by
    intro n
    induction n with
    | zero=>intro h;simp[tH]at h
    | succ n ih =>
      intro h;by_cases e:jB (yJ ls) f n=(j:Int)
      ·exact⟨n,by omega,e⟩
      ·rw[tH,if_neg e]at h
       obtain⟨i,hi,hp⟩:=ih h;exact⟨i,by omega,hp⟩
   exact key m hc
  rw[t1.val i hi hp hc,(t2 i hi hp).2 (hg.1 i hi).2,e3 i j hi hp]
 ·rw[r2 hg]
  refine⟨?_,fun h=>absurd h (by decide)⟩;rw[hF];rcases Classical.em (∀u∈(Ul us),(qI (zP f 0) u).1=1/\(qI (zP f 0) u).2.2=true) with g1|g1
  ·rw[f1 g1]
   simp only;rw[if_neg (fun g2=>hg (hiff.2 ⟨g1,g2⟩))]
  ·rw[f2 g1]
def zAD(ins N:Nat)(rs:List rL)(W:pJ)(r:Nat):Bool:=ZH ins (mZ ins N W) (rs.getD r Um)
def tM(n:Nat)(abv:Nat->Nat->Bool)(on:Nat->Bool)(r:Nat):Bool:=(List.range n).any fun k=>on k&&abv k r
def rW(n:Nat)(abv:Nat->Nat->Bool)(on:Nat->Bool)(r:Nat):Int:=if on r then (if tM n abv on r then 1 else 2) else 0
def bG(n:Nat)(abv:Nat->Nat->Bool)(on:Nat->Bool)(hd:Nat->Int)(h i:Nat):List Nat:=(List.range i).filter fun r=>decide (hd r=(h:Int))&&(on r && !tM n abv on r)
structure aZ(ins N:Nat)(rs:List rL)(abv:Nat->Nat->Bool)(W W':pJ):Prop where
 lr:W'.rules.length=rs.length
 lk:W'.kinds.length=N
 lv:W'.vals.length=N
 r:∀j,j<rs.length->W'.rules.getD j 0=rW rs.length abv (zAD ins N rs W) j
 k:∀h,h<N->W'.kinds.getD h 0=kM (bG rs.length abv (zAD ins N rs W) (fun r=>(rs.getD r Um).head) h rs.length)
 v:∀h,h<N->W'.vals.getD h 0=if h<ins then W.vals.getD h 0 else iY (fun r=>eA W.vals (rs.getD r Um).parts) (bG rs.length abv (zAD ins N rs W) (fun r=>(rs.getD r Um).head) h rs.length)
structure ZM(A:mG)(ins H:Nat)(inp:List Int)(k:Nat)(W:pJ):Prop where
 lk:W.kinds.length=ins+H
 lv:W.vals.length=ins+H
 inp:∀i,i<ins->W.vals.getD i 0=inp.getD i 0
 has:∀c,c<H->decide (W.kinds.getD (ins+c) 0=1)=jO A k c
 val:∀c,c<H->W.vals.getD (ins+c) 0=kU A k c
theorem Fj{ls:List zH}{us:List zJ}(hA:yY ls us)(h:vU ls)(inp:List Int)(zGA:inp.length=(zU ls).length){k:Nat}{W W':pJ}
 (hW:ZM (xE ls inp h) (zU ls).length (zI ls).length inp k W)
 (hN:aZ (zU ls).length ((zU ls).length+(zI ls).length) (jE (zU ls++zI ls) us) (Yx us) W W') :
 ZM (xE ls inp h) (zU ls).length (zI ls).length inp (k+1) W' /\
 (∀r,r<(tR ls).length->W'.rules.getD r 0=iX (xE ls inp h) (ZX (xE ls inp h) k) r) /\
 (∀c,c<(zI ls).length->W'.kinds.getD ((zU ls).length+c) 0=Za (xE ls inp h) (ZX (xE ls inp h) k) c):=by
 obtain⟨zG4,hat⟩:=Zv hA (zU ls++zI ls);have h8:(tR ls).length<=8:=by rw[YZ];exact h.rules
 have hbl:∀i,i<(zU ls).length+(zI ls).length->(mZ (zU ls).length ((zU ls).length+(zI ls).length) W).getD i 0=Yv (zU ls).length W i:=fun i hi=>by
  unfold mZ;simp[List.getD,hi]
 have hR:Qv (zU ls) (zI ls) ⟨inp,(List.range (zI ls).length).map (jO (xE ls inp h) k),[]⟩ (mZ (zU ls).length ((zU ls).length+(zI ls).length) W):=by
  refine⟨zGA,by simp,by simp[mZ],fun i hi=>?_,fun c hc=>?_⟩
  ·rw[hbl i (by omega)];unfold Yv;rw[if_pos hi];exact hW.inp i hi
  ·rw[hbl _ (by omega)];unfold Yv;rw[if_neg (by omega)]
   have e:((List.range (zI ls).length).map (jO (xE ls inp h) k)).getD c false=jO (xE ls inp h) k c:=by simp[List.getD,hc]
   show _=((List.range (zI ls).length).map (jO (xE ls inp h) k)).getD c false;rw[e,<-hW.has c hc];by_cases k1:W.kinds.getD ((zU ls).length+c) 0=1
   ·rw[if_pos k1,decide_eq_true k1];rfl
   ·rw[if_neg k1,decide_eq_false k1];rfl
 have hS:zCB (zU ls) (zI ls) ⟨inp,[],(List.range (zI ls).length).map (kU (xE ls inp h) k)⟩ W.vals:=by
  refine⟨zGA,by simp,hW.lv,hW.inp,fun c hc=>?_⟩;have e:((List.range (zI ls).length).map (kU (xE ls inp h) k)).getD c 0=kU (xE ls inp h) k c:=by simp[List.getD,hc]
  show _=((List.range (zI ls).length).map (kU (xE ls inp h) k)).getD c 0;rw[e];exact hW.val c hc
 have hon:∀r,r<(tR ls).length->zAD (zU ls).length ((zU ls).length+(zI ls).length) (jE (zU ls++zI ls) us) W r=ZX (xE ls inp h) k r:=fun r hr=>by
  obtain⟨u,h1,h2,h3⟩:=hat r hr;have hm:=eY (Xa hr);unfold zAD;rw[h3];exact(VN hR (h.ruOk hm.1 hm.2) h1 h2).2
 have hsum:∀r,r<(tR ls).length->eA W.vals ((jE (zU ls++zI ls) us).getD r Um).parts=(xE ls inp h).sum r (kU (xE ls inp h) k):=fun r hr=>by
  obtain⟨u,h1,h2,h3⟩:=hat r hr;have hm:=eY (Xa hr);rw[h3,Q7 h1 h2];exact GV hS _ (h.ruOk hm.1 hm.2).parts
 have hhead:∀r,r<(tR ls).length->((jE (zU ls++zI ls) us).getD r Um).head=((zU ls).length+Zf ls r:Nat):=fun r hr=>by
  obtain⟨u,h1,h2,h3⟩:=hat r hr;have hm:=eY (Xa hr);obtain⟨w,hru⟩:=h1.rule h2;rw[h3];show zM (zU ls++zI ls) (tA u 3)=_;obtain⟨e1,e2⟩:=bP hr;rw[hru.conc,bT]
  have hap:zM (zU ls) ((tR ls).getD r rQ).conc<0:=by
   rcases Int.lt_or_le (zM (zU ls) ((tR ls).getD r rQ).conc) 0 with h4|h4
   ·exact h4
   ·have:=h.apart ((fJ _ _).1 h4)
    have h5:jZ ls ((tR ls).getD r rQ).conc=true:=List.any_eq_true.2 ⟨_,hm.1,by unfold Qr;rw[decide_eq_true hm.2];simp⟩;rw[h5]at this;cases this
  rw[if_neg (by omega),e1,if_pos (by omega)];omega
 have hbeat:∀r,r<(tR ls).length->tM (tR ls).length (Yx us) (zAD (zU ls).length ((zU ls).length+(zI ls).length) (jE (zU ls++zI ls) us) W) r=jA (xE ls inp h) (ZX (xE ls inp h) k) r:=fun r hr=>by
  have ea:∀a b,(xE ls inp h).abv a b=gA (yZ (qG (xA ls) ls gZ)) a b:=Jk ls inp h;unfold tM jA;show (List.range (tR ls).length).any _=(List.range (tR ls).length).any _;rw[Bool.eq_iff_iff,List.any_eq_true,List.any_eq_true];constructor
  ·rintro⟨j,hj,e⟩
   have hj2:=List.mem_range.1 hj;refine⟨j,hj,?_⟩;rw[hon j hj2,XW hA h (by omega) (by omega),<-ea]at e;exact e
  ·rintro⟨j,hj,e⟩
   have hj2:=List.mem_range.1 hj;refine⟨j,hj,?_⟩;rw[hon j hj2,XW hA h (by omega) (by omega),<-ea];exact e
 have hsel:∀c,c<(zI ls).length->bG (tR ls).length (Yx us) (zAD (zU ls).length ((zU ls).length+(zI ls).length) (jE (zU ls++zI ls) us) W) (fun r=>((jE (zU ls++zI ls) us).getD r Um).head) ((zU ls).length+c) (tR ls).length=vL (xE ls inp h) (ZX (xE ls inp h) k) c:=fun c hc=>by
  unfold bG vL;show (List.range (tR ls).length).filter _=(List.range (tR ls).length).filter _;apply List.filter_congr
  intro r hr;have hr2:=List.mem_range.1 hr;rw[hbeat r hr2,hon r hr2];show (decide (((jE (zU ls++zI ls) us).getD r Um).head=(((zU ls).length+c:Nat):Int))&&_)=_;rw[hhead r hr2];congr 1
  show _=decide (Zf ls r=c);by_cases e:Zf ls r=c
  ·rw[decide_eq_true e,decide_eq_true (by rw[e])]
  ·rw[decide_eq_false e,decide_eq_false (by omega)]
 have hr':=hN.r;have hk':=hN.k;have hv':=hN.v;rw[zG4]at hr' hk' hv'
 have hkind:∀c,c<(zI ls).length->W'.kinds.getD ((zU ls).length+c) 0=Za (xE ls inp h) (ZX (xE ls inp h) k) c:=fun c hc=>by
  rw[hk' _ (by omega),hsel c hc];rfl
 refine⟨⟨hN.lk,hN.lv,fun i hi=>?_,fun c hc=>?_,fun c hc=>?_⟩,fun r hr=>?_,hkind⟩
 ·rw[hv' i (by omega),if_pos hi];exact hW.inp i hi
 ·rw[hkind c hc];rfl
 ·rw[hv' _ (by omega),if_neg (by omega),hsel c hc]
  show _=QJ _ (jO _ k) (kU _ k) c;unfold QJ;refine oF fun r hr=>?_;have hr2:r<(tR ls).length:=(aN _ hr).1;exact hsum r hr2
 ·rw[hr' r hr]
  unfold rW iX;rw[hon r hr,hbeat r hr]
theorem Yh{n:Nat}{abv:Nat->Nat->Bool}{f g:Nat->Bool}(h:∀k,k<n->f k=g k)(r:Nat):tM n abv f r=tM n abv g r:=by
 unfold tM;rw[Bool.eq_iff_iff,List.any_eq_true,List.any_eq_true];constructor
 ·rintro⟨k,hk,e⟩;exact⟨k,hk,by rw[<-h k (List.mem_range.1 hk)];exact e⟩
 ·rintro⟨k,hk,e⟩;exact⟨k,hk,by rw[h k (List.mem_range.1 hk)];exact e⟩
theorem Kq{n:Nat}{abv:Nat->Nat->Bool}{f g:Nat->Bool}(h:∀k,k<n->f k=g k){r:Nat}(hr:r<n):rW n abv f r=rW n abv g r:=by
 unfold rW;rw[h r hr,Yh h r]
theorem YS{n:Nat}{abv:Nat->Nat->Bool}{f g:Nat->Bool}{hd hd':Nat->Int}(h:∀k,k<n->f k=g k)(hh:∀k,k<n->hd k=hd' k)(c:Nat):bG n abv f hd c n=bG n abv g hd' c n:=by
 unfold bG;apply List.filter_congr
 intro r hr;have hr2:=List.mem_range.1 hr;rw[h r hr2,hh r hr2,Yh h r]
theorem zDK{n:Nat}{abv:Nat->Nat->Bool}{f:Nat->Bool}{hd:Nat->Int}{c r:Nat}(h:r∈bG n abv f hd c n):r<n:=List.mem_range.1 (List.mem_filter.1 h).1
def QR(f:Nat->Int)(l:List Nat):Int:=match l.getLast? with|some r=>f r|none=>0
theorem B3(f:Nat->Int)(l:List Nat)(r:Nat):QR f (l++[r])=f r:=by unfold QR;rw[List.getLast?_append];simp
theorem vh(f:Nat->Int)(l:List Nat)(h:kM l=1):QR f l=iY f l:=by
 have:=aR.1 h
 match l,this with
 | [r],_=>rfl
theorem GK(f:Nat->Int)(l:List Nat)(h:kM l≠1):iY f l=0:=YH fun e=>h (aR.2 e)
theorem Fu(l:List Nat)(r:Nat):kM (l++[r])=if kM l<2 then kM l+1 else kM l:=by
 match l with
 | []=>rfl
 | [a]=>rfl
 | a::b::t=>simp[kM]
theorem X5(l:List Nat):0<=kM l/\kM l<=2:=by
 match l with
 | []=>simp[kM]
 | [a]=>simp[kM]
 | a::b::t=>simp[kM]
theorem YR(n:Nat)(abv:Nat->Nat->Bool)(on:Nat->Bool)(hd:Nat->Int)(h i:Nat):bG n abv on hd h (i+1)=bG n abv on hd h i++(if (decide (hd i=(h:Int))&&(on i && !tM n abv on i))=true then [i] else []):=by
 unfold bG;rw[List.range_succ,List.filter_append];congr 1
 rw[List.filter_cons,List.filter_nil]
structure Uo(m N ins:Nat)(abv:Nat->Nat->Bool)(on:Nat->Bool)(hd:Nat->Int)(sm:Nat->Int)(W0:List Int)(i:Nat)(R K V:List Int):Prop where
 r:∀j,j<m->R.getD j 0=if j<i then rW m abv on j else 0
 k:∀h,h<N->K.getD h 0=kM (bG m abv on hd h i)
 v:∀h,h<N->V.getD h 0=if h<ins then W0.getD h 0 else QR sm (bG m abv on hd h i)
theorem Uo.zero{m N ins:Nat}{abv:Nat->Nat->Bool}{on:Nat->Bool}{hd sm:Nat->Int}{W0:List Int}(hW:W0.length=N)(zGA:ins<=N):Uo m N ins abv on hd sm W0 0 (List.replicate m 0) (List.replicate N 0) (W0.take ins++List.replicate (N-ins) 0):=by
 refine⟨fun j hj=>?_,fun h hh=>?_,fun h hh=>?_⟩
 ·simp[List.getD,hj]
 ·simp[List.getD,hh,bG,kM]
 ·by_cases k:h<ins
  ·rw[if_pos k,List.getD,List.getElem?_append_left (by simp;omega),List.getElem?_take,if_pos k];rfl
  ·rw[if_neg k,List.getD,List.getElem?_append_right (by simp;omega),List.getElem?_replicate,show QR sm (bG m abv on hd h 0)=0 from rfl]
   split <;> rfl
theorem Uo.off{m N ins:Nat}{abv:Nat->Nat->Bool}{on:Nat->Bool}{hd sm:Nat->Int}{W0:List Int}{i:Nat}{R K V:List Int}(h:Uo m N ins abv on hd sm W0 i R K V)(ho:on i=false):Uo m N ins abv on hd sm W0 (i+1) R K V:=by
 have e:∀x,bG m abv on hd x (i+1)=bG m abv on hd x i:=fun x=>by rw[YR,ho];simp
 refine⟨fun j hj=>?_,fun x hx=>by rw[e];exact h.k x hx,fun x hx=>by rw[e];exact h.v x hx⟩;rw[h.r j hj];by_cases k:j<i
 ·rw[if_pos k,if_pos (by omega)]
 ·rw[if_neg k]
  by_cases k2:j=i
  ·subst k2;rw[if_pos (by omega)];unfold rW;rw[ho];simp
  ·rw[if_neg (by omega)]
theorem Uo.beat{m N ins:Nat}{abv:Nat->Nat->Bool}{on:Nat->Bool}{hd sm:Nat->Int}{W0:List Int}{i:Nat}{R K V:List Int}(h:Uo m N ins abv on hd sm W0 i R K V)(hi:i<m)(hR:R.length=m)(ho:on i=true)(hb:tM m abv on i=true):Uo m N ins abv on hd sm W0 (i+1) (R.set i 1) K V:=by
 have e:∀x,bG m abv on hd x (i+1)=bG m abv on hd x i:=fun x=>by rw[YR,hb];simp
 refine⟨fun j hj=>?_,fun x hx=>by rw[e];exact h.k x hx,fun x hx=>by rw[e];exact h.v x hx⟩;rw[lJ _ _ _ _ _ (by omega)];by_cases k2:j=i
 ·subst k2;rw[if_pos rfl,if_pos (by omega)];unfold rW;rw[ho,hb];rfl
 ·rw[if_neg k2,h.r j hj]
  by_cases k:j<i
  ·rw[if_pos k,if_pos (by omega)]
  ·rw[if_neg k,if_neg (by omega)]
theorem Uo.stand{m N ins:Nat}{abv:Nat->Nat->Bool}{on:Nat->Bool}{hd sm:Nat->Int}{W0:List Int}{i:Nat}{R K V:List Int}(h:Uo m N ins abv on hd sm W0 i R K V)(hi:i<m)(hR:R.length=m)(hK:K.length=N)(hV:V.length=N)(ho:on i=true)(hb:tM m abv on i=false){c:Nat}(hc:hd i=(c:Int))(hc1:ins<=c)(hc2:c<N):Uo m N ins abv on hd sm W0 (i+1) (R.set i 2) (K.set c (if K.getD c 0<2 then K.getD c 0+1 else K.getD c 0)) (V.set c (sm i)):=by
 have e:∀x,bG m abv on hd x (i+1)=bG m abv on hd x i++(if x=c then [i] else []):=fun x=>by
  rw[YR,ho,hb,hc];by_cases k:x=c
  ·subst k;simp
  ·rw[if_neg k,if_neg (by simp;omega)]
 refine⟨fun j hj=>?_,fun x hx=>?_,fun x hx=>?_⟩
 ·rw[lJ _ _ _ _ _ (by omega)]
  by_cases k2:j=i
  ·subst k2;rw[if_pos rfl,if_pos (by omega)];unfold rW;rw[ho,hb];rfl
  ·rw[if_neg k2,h.r j hj]
   by_cases k:j<i
   ·rw[if_pos k,if_pos (by omega)]
   ·rw[if_neg k,if_neg (by omega)]
 ·rw[lJ _ _ _ _ _ (by omega),e]
  by_cases k:x=c
  ·subst k;rw[if_pos rfl,if_pos rfl,Fu,h.k x hx]
  ·rw[if_neg k,if_neg k,List.append_nil];exact h.k x hx
 ·rw[lJ _ _ _ _ _ (by omega),e]
  by_cases k:x=c
  ·subst k;rw[if_pos rfl,if_pos rfl,B3,if_neg (by omega)]
  ·rw[if_neg k,if_neg k,List.append_nil];exact h.v x hx
structure kr(m N ins:Nat)(abv:Nat->Nat->Bool)(on:Nat->Bool)(hd:Nat->Int)(sm:Nat->Int)(W0:List Int)(t:Nat)(V:List Int):Prop where
 v:∀h,h<N->V.getD h 0=if h<ins then W0.getD h 0 else if h<t then iY sm (bG m abv on hd h m) else QR sm (bG m abv on hd h m)
theorem kr.start{m N ins:Nat}{abv:Nat->Nat->Bool}{on:Nat->Bool}{hd sm:Nat->Int}{W0:List Int}{R K V:List Int}(h:Uo m N ins abv on hd sm W0 m R K V):kr m N ins abv on hd sm W0 ins V:=⟨fun x hx=>by
 rw[h.v x hx];by_cases k:x<ins
 ·rw[if_pos k,if_pos k]
 ·rw[if_neg k,if_neg k,if_neg k]⟩
theorem kr.keep{m N ins:Nat}{abv:Nat->Nat->Bool}{on:Nat->Bool}{hd sm:Nat->Int}{W0:List Int}{t:Nat}{V:List Int}(h:kr m N ins abv on hd sm W0 t V)(hk:kM (bG m abv on hd t m)=1):kr m N ins abv on hd sm W0 (t+1) V:=⟨fun x hx=>by
 rw[h.v x hx];by_cases k:x<ins
 ·rw[if_pos k,if_pos k]
 ·rw[if_neg k,if_neg k]
  by_cases k2:x<t
  ·rw[if_pos k2,if_pos (by omega)]
  ·rw[if_neg k2]
   by_cases k3:x=t
   ·subst k3;rw[if_pos (by omega)];exact vh sm _ hk
   ·rw[if_neg (by omega)]⟩
theorem kr.wipe{m N ins:Nat}{abv:Nat->Nat->Bool}{on:Nat->Bool}{hd sm:Nat->Int}{W0:List Int}{t:Nat}{V:List Int}(h:kr m N ins abv on hd sm W0 t V)(ht:t<N)(hi:ins<=t)(hV:V.length=N)(hk:kM (bG m abv on hd t m)≠1):kr m N ins abv on hd sm W0 (t+1) (V.set t 0):=⟨fun x hx=>by
 rw[lJ _ _ _ _ _ (by omega)];by_cases k3:x=t
 ·subst k3;rw[if_pos rfl,if_neg (by omega),if_pos (by omega),GK sm _ hk]
 ·rw[if_neg k3,h.v x hx]
  by_cases k:x<ins
  ·rw[if_pos k,if_pos k]
  ·rw[if_neg k,if_neg k]
   by_cases k2:x<t
   ·rw[if_pos k2,if_pos (by omega)]
   ·rw[if_neg k2,if_neg (by omega)]⟩
theorem Gm(abv:Nat->Nat->Bool)(on:Nat->Bool)(r k:Nat):tM (k+1) abv on r=(tM k abv on r || (on k&&abv k r)):=by
 unfold tM;rw[List.range_succ,List.any_append];simp
theorem QL{a b B:Int}(ha : -9<=a/\a<=9)(hb : -B<=b/\b<=B) : -(9*B)<=a*b/\a*b<=9*B:=by
 have h:a = -9\/a = -8\/a = -7\/a = -6\/a = -5\/a = -4\/a = -3\/a = -2\/a = -1\/a=0\/a=1\/a=2\/a=3\/a=4\/a=5\/a=6\/a=7\/a=8\/a=9:=by omega
 rcases h with rfl|rfl|rfl|rfl|rfl|rfl|rfl|rfl|rfl|rfl|rfl|rfl|rfl|rfl|rfl|rfl|rfl|rfl|rfl <;> omega
theorem Xl{l:List Int}{B:Int}(hB:0<=B)(h:∀i,-B<=l.getD i 0/\l.getD i 0<=B)(a:Int) : -B<=jU l a/\jU l a<=B:=by
 unfold jU;split
 ·exact h _
 ·omega
def G2(p:cS):Prop:=(p.kind=1 -> -9999<=p.num/\p.num<=9999)/\(p.kind=2\/p.kind=3 -> -9<=p.num/\p.num<=9)
theorem ZU{s:vQ}{B:Int}(hB:9999<=B)(hi:∀i,-B<=s.inputs.getD i 0/\s.inputs.getD i 0<=B)(hv:∀i,-B<=s.values.getD i 0/\s.values.getD i 0<=B){p:cS}(hp:G2 p) : -(9*B)<=gB s p/\gB s p<=9*B:=by
 unfold gB;by_cases k1:p.kind=1
 ·rw[if_pos k1];have:=hp.1 k1;omega
 ·rw[if_neg k1]
  by_cases k2:p.kind=2
  ·rw[if_pos k2];exact QL (hp.2 (.inl k2)) (Xl (by omega) hi _)
  ·rw[if_neg k2]
   by_cases k3:p.kind=3
   ·rw[if_pos k3];exact QL (hp.2 (.inr k3)) (Xl (by omega) hv _)
   ·rw[if_neg k3];omega
theorem Kx{s:vQ}{B:Int}(hB:9999<=B)(hi:∀i,-B<=s.inputs.getD i 0/\s.inputs.getD i 0<=B)(hv:∀i,-B<=s.values.getD i 0/\s.values.getD i 0<=B)(l:List cS):(∀p∈l,G2 p)->∀n m:Int,-m<=n/\n<=m -> -(m+l.length*(9*B))<=dD s l n/\dD s l n<=m+l.length*(9*B):=by
 induction l with
 | nil=>intro _ n m h;rw[dD];simp;exact h
 | cons p r ih =>
   intro hp n m h;rw[dD];have h1:=ZU hB hi hv (hp p (by simp));have h2:=ih (fun q hq=>hp q (by simp[hq])) (n+gB s p) (m+9*B) (by omega);simp only[List.length_cons];have e:((r.length+1:Nat):Int)*(9*B)=(r.length:Int)*(9*B)+9*B:=by rw[Int.natCast_add,Int.add_mul];simp
   rw[e];omega
theorem yx(ins cs:List Bs){x:xC}(hn:0<=x.num/\x.num<=9999)(hs:x.starred=true->x.num<=9):G2 (uQ ins cs x):=by
 have hk:(uQ ins cs x).kind=Uk ins x:=rfl;have hm:(uQ ins cs x).num=if x.minus then -Uj x else Uj x:=rfl;by_cases h0:x.name=[]
 ·have h1:Uk ins x=1:=by unfold Uk;rw[if_pos h0]
  have h2:Uj x=x.num:=by unfold Uj;rw[if_pos h0]
  refine⟨fun _=>?_,fun h=>?_⟩
  ·rw[hm,h2];split <;> omega
  ·rw[hk,h1]at h;omega
 ·have h1:Uk ins x≠1:=by unfold Uk;rw[if_neg h0];split <;> decide
  have h2:0<=Uj x/\Uj x<=9:=by
   unfold Uj;rw[if_neg h0];by_cases h3:x.starred=true
   ·rw[if_pos h3];exact⟨hn.1,hs h3⟩
   ·rw[if_neg h3];decide
  refine⟨fun h=>absurd (hk ▸ h) h1,fun _=>?_⟩;rw[hm];split <;> omega
theorem U1{s:vQ}{B:Int}(hB:9999<=B)(hi:∀i,-B<=s.inputs.getD i 0/\s.inputs.getD i 0<=B)(hv:∀i,-B<=s.values.getD i 0/\s.values.getD i 0<=B)(l:List cS)(hl:l.length<=4)(hp:∀p∈l,G2 p) : -(36*B)<=Yl s l/\Yl s l<=36*B:=by
 have h:=Kx hB hi hv l hp 0 0 (by omega);have e:(l.length:Int)*(9*B)<=4*(9*B):=Int.mul_le_mul_of_nonneg_right (by omega) (by omega);unfold Yl;omega
structure Zl(ls:List zH)(inp:List Int):Prop where
 num:∀x∈ls,x.kind=3->∀p∈x.sum,0<=p.num/\p.num<=9999
 inp:∀i,-9999<=inp.getD i 0/\inp.getD i 0<=9999
theorem Br{ls:List zH}{inp:List Int}(h:vU ls)(hs:Zl ls inp){r:Nat}(hr:r<(tR ls).length):(Z2 ls r).sum.length<=4/\∀p∈(Z2 ls r).sum,G2 p:=by
 obtain⟨hm,hk⟩:=eY (Xa hr);obtain⟨h4,h9⟩:=h.sums hm hk;refine⟨by show (((tR ls).getD r rQ).sum.map _).length<=4;rw[List.length_map];exact h4,fun p hp=>?_⟩;obtain⟨q,hq,rfl⟩:=List.mem_map.1 hp;exact yx _ _ (hs.num _ hm hk q hq) (h9 q hq)
theorem ZR{H:Nat}{f:Nat->Int}{B:Int}(hB:0<=B)(h:∀c,-B<=f c/\f c<=B)(i:Nat) : -B<=((List.range H).map f).getD i 0/\((List.range H).map f).getD i 0<=B:=by
 by_cases hi:i<H
 ·simp[List.getD,hi];exact h i
 ·simp[List.getD,hi];omega
theorem Gz{ls:List zH}{inp:List Int}(h:vU ls)(hs:Zl ls inp)(r:Nat)(f:Nat->Int)(B:Int)(hr:r<(xE ls inp h).n)(hB:9999<=B)(hf:∀c,-B<=f c/\f c<=B) : -(36*B)<=(xE ls inp h).sum r f/\(xE ls inp h).sum r f<=36*B:=by
 obtain⟨h1,h2⟩:=Br h hs hr;exact U1 (s:=⟨inp,[],(List.range (zI ls).length).map f⟩) hB (fun i=>by have:=hs.inp i;show -B<=inp.getD i 0/\inp.getD i 0<=B;omega) (fun i=>ZR (by omega) hf i) _ h1 h2
theorem XV{ls:List zH}{inp:List Int}(h:vU ls)(hs:Zl ls inp)(k c:Nat) : -(jP k)<=kU (xE ls inp h) k c/\kU (xE ls inp h) k c<=jP k:=Uv _ (Gz h hs) k c
theorem QC{s:vQ}{B:Int}(hB:9999<=B)(h9:9*B<=tO)(hi:∀i,-B<=s.inputs.getD i 0/\s.inputs.getD i 0<=B)(hv:∀i,-B<=s.values.getD i 0/\s.values.getD i 0<=B){l:List cS}(hl:l.length<=4)(hp:∀p∈l,G2 p):Zu s l:=⟨hl,fun p hq=>by
 have:=ZU hB hi hv (hp p hq);omega⟩
def ZL(x:yU):Prop:=0<=x.low/\x.high<=9999
theorem u9(ls:List zH):∀acc,(∀x∈acc,ZL x)->(∀x∈ls,gW x)->∀x∈fH ls acc,ZL x:=by
 induction ls with
 | nil=>intro acc h _;exact h
 | cons y r ih =>
   intro acc h hg;rw[fH];refine ih _ ?_ (fun x hx=>hg x (by simp[hx]));split
   ·intro x hx
    rcases List.mem_append.1 hx with hx|hx
    ·exact h x hx
    ·rw[List.mem_singleton.1 hx]
     have gy:=hg y (by simp);unfold gJ ZL;split
     ·exact⟨gy.lo0,gy.hi1⟩
     ·exact⟨Int.le_refl _,show (0:Int)<=9999 by decide⟩
   ·exact h
theorem zB8{ls:List zH}(hg:∀x∈ls,gW x)(i:Nat):ZL ((yJ ls).getD i ZZ):=by
 have h:=u9 ls [] (by simp) hg;by_cases hi:i<(yJ ls).length
 ·have:(yJ ls).getD i ZZ∈yJ ls:=by rw[List.getD_eq_getElem?_getD,List.getElem?_eq_getElem hi];exact List.getElem_mem hi
  exact h _ this
 ·rw[List.getD_eq_getElem?_getD,List.getElem?_eq_none (by omega)]
  exact⟨Int.le_refl _,show (0:Int)<=9999 by decide⟩
def zES(l:List Int):Prop:=∀j,0<=l.getD j 0/\l.getD j 0<=9999
theorem zES.set{l:List Int}(h:zES l)(i:Nat){x:Int}(hx:0<=x/\x<=9999):zES (l.set i x):=fun j=>by
 simp only[List.getD,List.getElem?_set];by_cases e:i=j
 ·rw[if_pos e]
  by_cases hl:i<l.length
  ·rw[if_pos hl];exact hx
  ·rw[if_neg hl];exact⟨Int.le_refl _,show (0:Int)<=9999 by decide⟩
 ·rw[if_neg e];exact h j
theorem BP{f:Jn}{x:yU}(hx:ZL x)(hf:f.isNum=false->f.value=0\/f.value=1)(h:lS f x=true):0<=f.value/\f.value<=9999:=by
 unfold lS at h;obtain⟨h1,h2⟩:=hx;split at h
 ·have:=hf (by simpa using h)
  omega
 ·simp only[Bool.and_eq_true,decide_eq_true_eq]at h
  omega
theorem FR(n v:PT):(qZ n v).isNum=false->(qZ n v).value=0\/(qZ n v).value=1:=by
 unfold qZ;split
 ·intro h;exact absurd h (by simp)
 ·intro _
  show (if v.s=[121,101,115] then (1:Int) else 0)=0\/(if v.s=[121,101,115] then (1:Int) else 0)=1;split
  ·exact .inr rfl
  ·exact .inl rfl
theorem K6(P:List PT)(I:List yU)(hI:∀i,ZL (I.getD i ZZ)):∀n i st st',zES st.1->pI P I n i st=some st'->zES st'.1:=by
 intro n
 induction n with
 | zero=>intro i st st' h e;rw[pI]at e;rw[<-Option.some.inj e];exact h
 | succ n ih =>
   intro i st st' h e;rw[pI]at e;split at e
   ·split at e
    ·cases e
    ·split at e
     ·cases e
     ·split at e
      ·cases e
      ·rename_i hft
       have hft':lS (qZ (yO P (i*4)) (yO P (i*4+2))) (I.getD (zM (I.map yU.name) (qZ (yO P (i*4)) (yO P (i*4+2))).name).toNat ZZ)=true:=by
        cases hz:lS (qZ (yO P (i*4)) (yO P (i*4+2))) (I.getD (zM (I.map yU.name) (qZ (yO P (i*4)) (yO P (i*4+2))).name).toNat ZZ) with
        | true=>rfl
        | false=>exact absurd hz hft
       exact ih _ _ _ (h.set _ (BP (hI _) (FR _ _) hft')) e
   ·rw[<-Option.some.inj e];exact h
theorem XP{ls:List zH}(hg:∀x∈ls,gW x)(f:Bs):Zl ls (yM (yJ ls) f).1:=by
 refine⟨fun x hx _ p hp=>?_,fun i=>?_⟩
 ·obtain⟨j,hj,rfl⟩:=List.getElem_of_mem hp
  have:=(hg x hx).sums j hj;unfold ZO at this;rw[List.getD_eq_getElem?_getD,List.getElem?_eq_getElem hj]at this;exact this
 ·have key:zES (yM (yJ ls) f).1:=by
   have h0:zES []:=fun j=>⟨Int.le_refl _,show (0:Int)<=9999 by decide⟩;unfold yM;split
   ·exact h0
   ·split
    ·exact h0
    ·split
     ·exact h0
     ·rename_i st zGD
      split
      ·refine K6 _ _ (zB8 hg) _ _ _ _ ?_ zGD
       intro j;simp only[List.getD,List.getElem?_replicate];split <;> exact⟨Int.le_refl _,show (0:Int)<=9999 by decide⟩
      ·exact h0
  have:=key i;omega
structure fQ(A:mG)(ins H:Nat)(inp:List Int)(k:Nat)(W:pJ):Prop where
 ok:ZM A ins H inp k W
 lr:W.rules.length=A.n
 r:∀j,0<k->j<A.n->W.rules.getD j 0=iX A (ZX A (k-1)) j
 k:∀c,0<k->c<H->W.kinds.getD (ins+c) 0=Za A (ZX A (k-1)) c
theorem Fe(A:mG)(ins H:Nat)(inp:List Int)(hi:inp.length=ins):fQ A ins H inp 0 ⟨List.replicate A.n 0,List.replicate (ins+H) 0,inp++List.replicate H 0⟩:=by
 refine⟨⟨by simp,by simp[hi],fun i h=>?_,fun c hc=>?_,fun c hc=>?_⟩,by simp,fun _ h=>absurd h (Nat.lt_irrefl 0),fun _ h=>absurd h (Nat.lt_irrefl 0)⟩
 ·show (inp++List.replicate H 0).getD i 0=_
  rw[List.getD,List.getElem?_append_left (by omega)];rfl
 ·show decide ((List.replicate (ins+H) (0:Int)).getD (ins+c) 0=1)=false
  rw[List.getD,List.getElem?_replicate,if_pos (by omega)];rfl
 ·show (inp++List.replicate H 0).getD (ins+c) 0=0
  rw[List.getD,List.getElem?_append_right (by omega),List.getElem?_replicate];split <;> rfl
theorem Ff{ls:List zH}{us:List zJ}(hA:yY ls us)(h:vU ls)(inp:List Int)(zGA:inp.length=(zU ls).length){k:Nat}{W W':pJ}(hW:fQ (xE ls inp h) (zU ls).length (zI ls).length inp k W)
 (hN:aZ (zU ls).length ((zU ls).length+(zI ls).length) (jE (zU ls++zI ls) us) (Yx us) W W'):fQ (xE ls inp h) (zU ls).length (zI ls).length inp (k+1) W':=by
 obtain⟨h1,h2,h3⟩:=Fj hA h inp zGA hW.ok hN;refine⟨h1,?_,fun j _ hj=>h2 j hj,fun c _ hc=>h3 c hc⟩;rw[hN.lr,(Zv hA _).1];rfl
theorem xj{ls:List zH}{us:List zJ}(hA:yY ls us)(h:vU ls)(inp:List Int){W:pJ}(hW:fQ (xE ls inp h) (zU ls).length (zI ls).length inp (zI ls).length W) :
 (∀r,r<(tR ls).length->W.rules.getD r 0=(uC (xE ls inp h) (zI ls).length (zI ls).length 0 h0).vd r)/\(∀c,c<(zI ls).length->W.kinds.getD ((zU ls).length+c) 0=(uC (xE ls inp h) (zI ls).length (zI ls).length 0 h0).st c/\W.vals.getD ((zU ls).length+c) 0=(uC (xE ls inp h) (zI ls).length (zI ls).length 0 h0).av c):=by
 rcases Nat.eq_zero_or_pos (zI ls).length with h0' | hp
 ·refine⟨fun r hr=>?_,fun c hc=>by omega⟩
  have:=(bP hr).2;omega
 ·obtain⟨n,hn⟩:∃n,n+1=(zI ls).length:=⟨(zI ls).length-1,by omega⟩
  obtain⟨e1,e2⟩:=FB (xE ls inp h) (zI ls).length (fun r c hr hm=>(Bf h hr hm).1) (fun c hc=>zB1 hA h hc) (fun r hr=>(bP hr).2) n hn;have hk:(zI ls).length-1=n:=by omega
  refine⟨fun r hr=>?_,fun c hc=>⟨?_,?_⟩⟩
  ·rw[e1 r hr,hW.r r hp hr,hk]
  ·rw[(e2 c hc).1,hW.k c hp hc,hk]
  ·rw[(e2 c hc).2];exact hW.ok.val c hc
theorem Fh{ls:List zH}(h:vU ls)(inp:List Int)(zGA:inp.length=(zU ls).length){k:Nat}{W:pJ}(hW:ZM (xE ls inp h) (zU ls).length (zI ls).length inp k W) :
 Qv (zU ls) (zI ls) ⟨inp,(List.range (zI ls).length).map (jO (xE ls inp h) k),[]⟩ (mZ (zU ls).length ((zU ls).length+(zI ls).length) W):=by
 have hbl:∀i,i<(zU ls).length+(zI ls).length->(mZ (zU ls).length ((zU ls).length+(zI ls).length) W).getD i 0=Yv (zU ls).length W i:=fun i hi=>by
  unfold mZ;simp[List.getD,hi]
 refine⟨zGA,by simp,by simp[mZ],fun i hi=>?_,fun c hc=>?_⟩
 ·rw[hbl i (by omega)];unfold Yv;rw[if_pos hi];exact hW.inp i hi
 ·rw[hbl _ (by omega)];unfold Yv;rw[if_neg (by omega)]
  have e:((List.range (zI ls).length).map (jO (xE ls inp h) k)).getD c false=jO (xE ls inp h) k c:=by simp[List.getD,hc]
  show _=((List.range (zI ls).length).map (jO (xE ls inp h) k)).getD c false;rw[e,<-hW.has c hc];by_cases k1:W.kinds.getD ((zU ls).length+c) 0=1
  ·rw[if_pos k1,decide_eq_true k1];rfl
  ·rw[if_neg k1,decide_eq_false k1];rfl
theorem Fg{ls:List zH}(h:vU ls)(inp:List Int)(zGA:inp.length=(zU ls).length){k:Nat}{W:pJ}(hW:ZM (xE ls inp h) (zU ls).length (zI ls).length inp k W) :
 zCB (zU ls) (zI ls) ⟨inp,[],(List.range (zI ls).length).map (kU (xE ls inp h) k)⟩ W.vals:=by
 refine⟨zGA,by simp,hW.lv,hW.inp,fun c hc=>?_⟩;have e:((List.range (zI ls).length).map (kU (xE ls inp h) k)).getD c 0=kU (xE ls inp h) k c:=by simp[List.getD,hc]
 show _=((List.range (zI ls).length).map (kU (xE ls inp h) k)).getD c 0;rw[e];exact hW.val c hc
structure zD4(ins N:Nat)(W:pJ)(x:rL):Prop where
 app:VO ins (mZ ins N W) x
 sum:U0 W.vals x.parts
 head:(ins:Int)<=x.head/\x.head<N
theorem xq{ls:List zH}{us:List zJ}(hA:yY ls us)(h:vU ls)(inp:List Int)(zGA:inp.length=(zU ls).length)(hs:Zl ls inp){k:Nat}(hk:k<=8){W:pJ}(hW:ZM (xE ls inp h) (zU ls).length (zI ls).length inp k W) :
 ∀x∈jE (zU ls++zI ls) us,zD4 (zU ls).length ((zU ls).length+(zI ls).length) W x:=by
 obtain⟨zG4,hat⟩:=Zv hA (zU ls++zI ls);intro x hx;obtain⟨r,hr,rfl⟩:=List.getElem_of_mem hx;rw[zG4]at hr;obtain⟨u,h1,h2,h3⟩:=hat r hr
 have h4:(jE (zU ls++zI ls) us)[r]=wF (zU ls++zI ls) u:=by
  rw[<-h3];simp[List.getD,zG4,hr]
 have hm:=eY (Xa hr);have hro:=h.ruOk hm.1 hm.2;rw[h4];refine⟨(VN (Fh h inp zGA hW) hro h1 h2).1,?_,?_⟩
 ·rw[Q7 h1 h2]
  obtain⟨p1,p2⟩:=Br h hs hr;have hB:=fC k;have hB2:=zx k hk;have hM:Zu ⟨inp,[],(List.range (zI ls).length).map (kU (xE ls inp h) k)⟩ (Z2 ls r).sum:=QC hB (by unfold tO;omega) (fun i=>by have:=hs.inp i;show -(jP k)<=inp.getD i 0/\inp.getD i 0<=jP k;omega) (fun i=>ZR (by omega) (fun c=>XV h hs k c) i) p1 p2;refine⟨by rw[List.length_map];exact(h.sums hm.1 hm.2).1,fun p hp=>?_⟩;obtain⟨q,hq,rfl⟩:=List.mem_map.1 hp;obtain⟨e1,e2⟩:=KA (Fg h inp zGA hW) (hro.parts q hq);refine⟨e2,?_⟩;rw[e1];exact hM.2 _ (List.mem_map.2 ⟨q,hq,rfl⟩)
 ·obtain⟨w,hru⟩:=h1.rule h2
  show ((zU ls).length:Int)<=zM (zU ls++zI ls) (tA u 3)/\zM (zU ls++zI ls) (tA u 3)<_;obtain⟨e1,e2⟩:=bP hr;rw[hru.conc,bT]
  have hap:zM (zU ls) ((tR ls).getD r rQ).conc<0:=by
   rcases Int.lt_or_le (zM (zU ls) ((tR ls).getD r rQ).conc) 0 with h4|h4
   ·exact h4
   ·have:=h.apart ((fJ _ _).1 h4)
    have h5:jZ ls ((tR ls).getD r rQ).conc=true:=List.any_eq_true.2 ⟨_,hm.1,by unfold Qr;rw[decide_eq_true hm.2];simp⟩;rw[h5]at this;cases this
  rw[if_neg (by omega),e1,if_pos (by omega)];omega
def Ui(F:List zH)(f:Bs):Nat:=if (yM (yJ F) f).2=0 then (zI F).length else 0
def lbF(F:List zH)(r:Nat):Bs:=((tR F).getD r rQ).name
def rE(F:List zH)(f:Bs)(hc:vU F):uF:=uC (xE F (yM (yJ F) f).1 hc) (zI F).length (zI F).length 0 h0
theorem D7{ls:List zH}{us:List zJ}(hA:yY ls us)(names:List Bs){r:Nat}(hr:r<(tR ls).length):((jE names us).getD r Um).label=lbF ls r:=by
 obtain⟨u,h1,h2,h3⟩:=(Zv hA names).2 r hr;rw[h3];show tA u 1=_;exact h1.name
end Go.Proofs.YtnbpdffdnphbeaaGreatDoor
