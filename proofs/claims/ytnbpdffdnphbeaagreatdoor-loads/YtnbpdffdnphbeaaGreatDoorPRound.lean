import Derived.Test.YtnbpdffdnphbeaaGreatDoorRgLinks
import Derived.Test.YtnbpdffdnphbeaaGreatDoorStCheck
set_option maxHeartbeats 1000000
namespace Go.Proofs.YtnbpdffdnphbeaaGreatDoor
open Go.RowKit
def zAL(ls:List zF):List (Bs × Nat):=(List.range (zS ls).length).map fun i=>((zS ls).getD i [],XK (pZ (zS ls) ls gZ) i)
theorem j7(S:List Nat)(hd:List Bs):∀i acc,i+hd.length<=8->aU S hd i acc=acc++(List.range hd.length).map (fun j=>(hd.getD j [],S.getD (i+j) 0)):=by
 induction hd with
 | nil=>intro i acc _;simp[aU]
 | cons n r ih =>
   intro i acc h;simp only[p7]at h;rw[aU,tj (by omega),ih (i+1) _ (by omega),p7,List.range_succ_eq_map,dm,List.map_map,mq];congr 1
   simp only[List.singleton_append,List.getD_cons_zero,pq,List.cons.injEq,true_and];refine List.map_congr_left (fun j _=>?_);simp only[Function.comp,Nat.succ_eq_add_one,List.getD_cons_succ];rw[show i+1+j=i+(j+1) by omega]
theorem j6(ls:List zF)(h8:(zS ls).length<=8)(hr:jW (pZ (zS ls) ls gZ)=false):uY ls=zAL ls:=by
 unfold uY zAL;rw[j7 _ _ 0 [] (by omega),bf];refine List.map_congr_left (fun j hj=>?_);have hj8:j<8:=by have:=db.1 hj;omega
 rw[l8,Cv (by rw[Zd];exact xP) hr j hj8]
theorem DF(L:List (Bs × Nat)):∀i,i<L.length->(Ys L)[i*2]? = some (.string ⟨(L.getD i ([],0)).1.toArray⟩)/\(Ys L)[i*2+1]? = some (.int .i64 (((L.getD i ([],0)).2:Nat):Int)):=by
 induction L with
 | nil=>intro i h;simp at h
 | cons x r ih =>
   intro i h;have e:Ys (x::r)=.string ⟨x.1.toArray⟩::.int .i64 (x.2:Nat)::Ys r:=by simp[Ys]
   rw[e]
   cases i with
   | zero=>simp[List.getD]
   | succ i =>
     have:=ih i (by simpa using h);rw[show (i+1)*2=i*2+1+1 by omega];simp only[cw,List.getD_cons_succ];exact this
structure PrV(w:World)(a:Option Addr)(L:List (Bs × Nat)):Prop where
 blk:0<L.length->∃g,a=some ⟨g,0,none⟩/\∀i,i<L.length->w.cell? ⟨g,i*2,none⟩=some (.string ⟨(L.getD i ([],0)).1.toArray⟩)/\w.cell? ⟨g,i*2+1,none⟩=some (.int .i64 (((L.getD i ([],0)).2:Nat):Int))
 few:L.length<=10000
theorem PrV.keepB{w w':World}{B:Nat}{a:Option Addr}{L:List (Bs × Nat)}(h:PrV w a L)(hb:Below B w w')(hB:w.heap.size<=B):PrV w' a L :=
 ⟨fun h0=>let ⟨g,e,p⟩:=h.blk h0;⟨g,e,fun j hj=>⟨by rw[hb.cell (p:=⟨g,j*2,none⟩) (ti (vU (p j hj).1) hB)];exact(p j hj).1,by rw[hb.cell (p:=⟨g,j*2+1,none⟩) (ti (vU (p j hj).1) hB)];exact(p j hj).2⟩⟩,h.few⟩
theorem zEM(l:Bs)(w:World)(k p:Int)(hC:Calls Tryz.prog 39 #[.string ⟨l.toArray⟩] w fun e w'=>e=.returned (.tuple #[.int .i64 k,.int .i64 p])/\Below w.heap.size w w') :
 Calls Tryz.prog 27 #[.string ⟨l.toArray⟩,.bool false] w fun e w'=>e=.returned (.int .i64 k)/\Below w.heap.size w w':=by
 have HC:=zA hC;clear hC;by_cases hk:k=0
 ·subst hk
  go_enter Tryz.func27,Tryz.ntmps27
  go_wp2_with fail
  refine HC.out.mono ?_;rintro e w1 ⟨rfl,hb⟩;have HB:=zA hb;clear hb;go_wp2_with fail
  go_ret
  exact⟨rfl,HB.out⟩
 ·have b0:(k != 0)=true:=by simpa using hk
  clear hk
  go_enter Tryz.func27,Tryz.ntmps27
  go_wp2_with fail
  refine HC.out.mono ?_;rintro e w1 ⟨rfl,hb⟩;have HB:=zA hb;clear hb;go_wp2_with fail
  go_ret
  exact⟨rfl,HB.out⟩
structure Q4(w:World)(b:Nat)(L:List (Bs × Nat)):Prop where
 on:w.cell? ⟨b,0,none⟩=some (.bool true)
 lev:∃a c,w.cell? ⟨b,2,none⟩=some (.slice a L.length c)/\PrV w a L
theorem Q4.below{w w':World}{b:Nat}{L:List (Bs × Nat)}(h:Q4 w b L)(hb:Below w.heap.size w w'):Q4 w' b L:=by
 obtain⟨a,c,h1,h2⟩:=h.lev;exact⟨by rw[hb.cell (p:=⟨b,0,none⟩) (vU h.on)];exact h.on,a,c,by rw[hb.cell (p:=⟨b,2,none⟩) (vU h.on)];exact h1,h2.keepB hb (t9 _)⟩
def Qz(l:Bs)(w w':World)(e:Ending):Prop:=∃pv,e=.returned (.tuple #[pv,.int .i64 (jV l).1])/\Below w.heap.size w w'/\((jV l).1≠0->pv=.pointer none)/\((jV l).1=0->∃b,pv=.pointer (some ⟨b,0,none⟩)/\Q4 w' b (uY (yZ l).1))
theorem D5(k:Int)(w:World):Calls Tryz.prog 16 #[.int .i64 k] w fun e w'=>e=.returned (.int .i64 k)/\w'=w:=by
 go_enter Tryz.func16,Tryz.ntmps16
 go_wp2_with fail
 go_ret
 exact⟨rfl,rfl⟩
theorem je(l:Bs)(w:World)(hL:Calls Tryz.prog 26 #[.string ⟨l.toArray⟩,.bool false] w fun e w'=>Qz l w w' e)(hR:∀w',Below w.heap.size w w'->Calls Tryz.prog 27 #[.string ⟨l.toArray⟩,.bool false] w' fun e w''=>e=.returned (.int .i64 (jV l).1)/\Below w'.heap.size w' w'') :
 Calls Tryz.prog 10 #[.string ⟨l.toArray⟩,.bool false] w fun e w'=>∃pv,e=.returned (.tuple #[pv,.bool true])/\Below w.heap.size w w'/\((jV l).1≠0->pv=.pointer none)/\((jV l).1=0->∃b,pv=.pointer (some ⟨b,0,none⟩)/\Q4 w' b (uY (yZ l).1)):=by
 have HL:=zA hL;have HR:=zA hR;clear hL hR;by_cases hk:(jV l).1=0
 ·have HL2:Hid (∀e w',Qz l w w' e->∃b,e=.returned (.tuple #[.pointer (some ⟨b,0,none⟩),.int .i64 0])/\Below w.heap.size w w'/\Q4 w' b (uY (yZ l).1)):=fun e w' ⟨pv,h1,h2,_,h4⟩=>by
   obtain⟨b,rfl,h5⟩:=h4 hk;rw[hk]at h1;exact⟨b,h1,h2,h5⟩
  rw[hk]at HR;have HK:=zA hk;clear hk
  go_enter Tryz.func10,Tryz.ntmps10
  go_wp2_with fail
  refine HL.out.mono ?_;rintro e w1 hli;obtain⟨b,rfl,hb1,hbv⟩:=HL2.out _ _ hli;have HB1:=zA hb1;have HBv:=zA hbv;clear hli hb1 hbv;go_wp2_with fail
  refine(HR.out w1 HB1.out).mono ?_;rintro e w2 ⟨rfl,hb2⟩;have HB2:Hid (Below w.heap.size w w2):=HB1.out.trans (hb2.mono HB1.out.size);have HBv2:=zA (HBv.out.below hb2);clear hb2;go_wp2_with fail
  refine(D5 0 w2).mono ?_;rintro e w3 ⟨rfl,hw⟩;obtain rfl:=hw.symm;go_wp2_with fail
  go_ret2
  exact⟨_,rfl,HB2.out,fun h=>absurd HK.out h,fun _=>⟨b,rfl,HBv2.out⟩⟩
 ·have HL2:Hid (∀e w',Qz l w w' e->e=.returned (.tuple #[.pointer none,.int .i64 (jV l).1])/\Below w.heap.size w w'):=fun e w' ⟨pv,h1,h2,h3,_⟩=>by
   rw[h3 hk]at h1;exact⟨h1,h2⟩
  have HK:=zA hk;generalize hkk:(jV l).1=k at *;have b0:(k != 0)=true:=by simpa using hk
  clear hk hkk
  go_enter Tryz.func10,Tryz.ntmps10
  go_wp2_with fail
  refine HL.out.mono ?_;rintro e w1 hli;obtain⟨rfl,hb1⟩:=HL2.out _ _ hli;have HB1:=zA hb1;clear hli hb1;go_wp2_with fail
  refine(HR.out w1 HB1.out).mono ?_;rintro e w2 ⟨rfl,hb2⟩;have HB2:Hid (Below w.heap.size w w2):=HB1.out.trans (hb2.mono HB1.out.size);clear hb2;go_wp2_with fail
  refine(D5 k w2).mono ?_;rintro e w3 ⟨rfl,hw⟩;obtain rfl:=hw.symm;go_wp2_with fail
  go_ret2
  exact⟨_,rfl,HB2.out,fun _=>rfl,fun h=>absurd h HK.out⟩
end Go.Proofs.YtnbpdffdnphbeaaGreatDoor
