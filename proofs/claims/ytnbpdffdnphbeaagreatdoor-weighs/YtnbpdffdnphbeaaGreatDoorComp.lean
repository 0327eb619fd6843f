import Derived.Test.YtnbpdffdnphbeaaGreatDoorPars
set_option maxHeartbeats 1000000
namespace Go.Proofs.YtnbpdffdnphbeaaGreatDoor
open Go.RowKit
def kS:List Bs:=[[60],[60,61],[61],[33,61],[62,61],[62]]
def vS(P:List PT)(s:St):Bs × St :=
 match kS.contains (yP P s.1).s with
 | true=>match (zC P (yP P s.1).s s).1 with
   | true=>((yP P s.1).s,(zC P (yP P s.1).s s).2)
   | false=>([],(zC P (yP P s.1).s s).2)
 | false=>([],s)
theorem oT(w:World)(R g cap:Nat)(P:List PT)(s:St)(h:vO w R g cap P s) :
 Calls Tryz.prog 261 #[.pointer (some ⟨R,0,none⟩)] w fun e w'=>e=.returned (.string ⟨(vS P s).1.toArray⟩)/\vO w' R g cap P (vS P s).2/\zB w.heap.size R w w':=by
 obtain⟨c0,c1,_⟩:=h.cells;obtain⟨_,t1,_,_⟩:=h.tok s.1 h.at';have i1:(0:Int)<=(s.1:Int):=by omega
 have i2:(s.1:Int)<(P.length:Int):=by have:=h.at';omega
 have HC:=zA h;have HP:Hid (vS P s=match kS.contains (yP P s.1).s with|true=>(match (zC P (yP P s.1).s s).1 with|true=>((yP P s.1).s,(zC P (yP P s.1).s s).2)|false=>([],(zC P (yP P s.1).s s).2))|false=>([],s)):=rfl;generalize (yP P s.1).s=x at *;generalize vS P s=F at *;clear h;by_cases c0':x=[60]
 ·subst c0'
  have hP:=HP.out;rw[show kS.contains [60]=true from by decide]at hP;have HP2:=zA hP;clear HP hP
  go_enter Tryz.func261,Tryz.ntmps261
  go_wp2_with fail
  go_region_held3 (fun w'=>w'.cell? ⟨R,0,none⟩=some (.slice (some ⟨g,0,none⟩) P.length cap)/\w'.cell? ⟨R,1,none⟩=some (.int .i64 s.1)/\w'.cell? ⟨g,s.1*4+1,none⟩=some (.string ⟨[60].toArray⟩)) (go_keep) (fail)
  go_wp2_with fail
  refine(vM R g cap P _ s [60] (yK.drew HC.out)).mono ?_;rintro e w1 ⟨rfl,hc1,hk1⟩;have HC1:=zA hc1;have HK1:Hid (zB w.heap.size R w w1):=zB.step (zB.drew (zB.refl _ _ _)) hk1;clear hc1 hk1;cases hs:(zC P [60] s).1
  ·have hP:=HP2.out
   simp only[hs]at hP;have HP3:=zA hP;clear HP2 hP hs;go_wp2_with fail
   go_ret
   exact⟨yW (by rw[HP3.out]),by rw[HP3.out];exact HC1.out,HK1.out⟩
  ·have hP:=HP2.out
   simp only[hs]at hP;have HP3:=zA hP;clear HP2 hP hs;go_wp2_with fail
   go_ret
   exact⟨yW (by rw[HP3.out]),by rw[HP3.out];exact HC1.out,HK1.out⟩
 by_cases c1':x=[60,61]
 ·subst c1'
  have hP:=HP.out;rw[show kS.contains [60,61]=true from by decide]at hP;have HP2:=zA hP;clear HP hP
  go_enter Tryz.func261,Tryz.ntmps261
  go_wp2_with fail
  go_region_held3 (fun w'=>w'.cell? ⟨R,0,none⟩=some (.slice (some ⟨g,0,none⟩) P.length cap)/\w'.cell? ⟨R,1,none⟩=some (.int .i64 s.1)/\w'.cell? ⟨g,s.1*4+1,none⟩=some (.string ⟨[60,61].toArray⟩)) (go_keep) (fail)
  go_wp2_with fail
  refine(vM R g cap P _ s [60,61] (yK.drew HC.out)).mono ?_;rintro e w1 ⟨rfl,hc1,hk1⟩;have HC1:=zA hc1;have HK1:Hid (zB w.heap.size R w w1):=zB.step (zB.drew (zB.refl _ _ _)) hk1;clear hc1 hk1;cases hs:(zC P [60,61] s).1
  ·have hP:=HP2.out
   simp only[hs]at hP;have HP3:=zA hP;clear HP2 hP hs;go_wp2_with fail
   go_ret
   exact⟨yW (by rw[HP3.out]),by rw[HP3.out];exact HC1.out,HK1.out⟩
  ·have hP:=HP2.out
   simp only[hs]at hP;have HP3:=zA hP;clear HP2 hP hs;go_wp2_with fail
   go_ret
   exact⟨yW (by rw[HP3.out]),by rw[HP3.out];exact HC1.out,HK1.out⟩
 by_cases c2':x=[61]
 ·subst c2'
  have hP:=HP.out;rw[show kS.contains [61]=true from by decide]at hP;have HP2:=zA hP;clear HP hP
  go_enter Tryz.func261,Tryz.ntmps261
  go_wp2_with fail
  go_region_held3 (fun w'=>w'.cell? ⟨R,0,none⟩=some (.slice (some ⟨g,0,none⟩) P.length cap)/\w'.cell? ⟨R,1,none⟩=some (.int .i64 s.1)/\w'.cell? ⟨g,s.1*4+1,none⟩=some (.string ⟨[61].toArray⟩)) (go_keep) (fail)
  go_wp2_with fail
  refine(vM R g cap P _ s [61] (yK.drew HC.out)).mono ?_;rintro e w1 ⟨rfl,hc1,hk1⟩;have HC1:=zA hc1;have HK1:Hid (zB w.heap.size R w w1):=zB.step (zB.drew (zB.refl _ _ _)) hk1;clear hc1 hk1;cases hs:(zC P [61] s).1
  ·have hP:=HP2.out
   simp only[hs]at hP;have HP3:=zA hP;clear HP2 hP hs;go_wp2_with fail
   go_ret
   exact⟨yW (by rw[HP3.out]),by rw[HP3.out];exact HC1.out,HK1.out⟩
  ·have hP:=HP2.out
   simp only[hs]at hP;have HP3:=zA hP;clear HP2 hP hs;go_wp2_with fail
   go_ret
   exact⟨yW (by rw[HP3.out]),by rw[HP3.out];exact HC1.out,HK1.out⟩
 by_cases c3':x=[33,61]
 ·subst c3'
  have hP:=HP.out;rw[show kS.contains [33,61]=true from by decide]at hP;have HP2:=zA hP;clear HP hP
  go_enter Tryz.func261,Tryz.ntmps261
  go_wp2_with fail
  go_region_held3 (fun w'=>w'.cell? ⟨R,0,none⟩=some (.slice (some ⟨g,0,none⟩) P.length cap)/\w'.cell? ⟨R,1,none⟩=some (.int .i64 s.1)/\w'.cell? ⟨g,s.1*4+1,none⟩=some (.string ⟨[33,61].toArray⟩)) (go_keep) (fail)
  go_wp2_with fail
  refine(vM R g cap P _ s [33,61] (yK.drew HC.out)).mono ?_;rintro e w1 ⟨rfl,hc1,hk1⟩;have HC1:=zA hc1;have HK1:Hid (zB w.heap.size R w w1):=zB.step (zB.drew (zB.refl _ _ _)) hk1;clear hc1 hk1;cases hs:(zC P [33,61] s).1
  ·have hP:=HP2.out
   simp only[hs]at hP;have HP3:=zA hP;clear HP2 hP hs;go_wp2_with fail
   go_ret
   exact⟨yW (by rw[HP3.out]),by rw[HP3.out];exact HC1.out,HK1.out⟩
  ·have hP:=HP2.out
   simp only[hs]at hP;have HP3:=zA hP;clear HP2 hP hs;go_wp2_with fail
   go_ret
   exact⟨yW (by rw[HP3.out]),by rw[HP3.out];exact HC1.out,HK1.out⟩
 by_cases c4':x=[62,61]
 ·subst c4'
  have hP:=HP.out;rw[show kS.contains [62,61]=true from by decide]at hP;have HP2:=zA hP;clear HP hP
  go_enter Tryz.func261,Tryz.ntmps261
  go_wp2_with fail
  go_region_held3 (fun w'=>w'.cell? ⟨R,0,none⟩=some (.slice (some ⟨g,0,none⟩) P.length cap)/\w'.cell? ⟨R,1,none⟩=some (.int .i64 s.1)/\w'.cell? ⟨g,s.1*4+1,none⟩=some (.string ⟨[62,61].toArray⟩)) (go_keep) (fail)
  go_wp2_with fail
  refine(vM R g cap P _ s [62,61] (yK.drew HC.out)).mono ?_;rintro e w1 ⟨rfl,hc1,hk1⟩;have HC1:=zA hc1;have HK1:Hid (zB w.heap.size R w w1):=zB.step (zB.drew (zB.refl _ _ _)) hk1;clear hc1 hk1;cases hs:(zC P [62,61] s).1
  ·have hP:=HP2.out
   simp only[hs]at hP;have HP3:=zA hP;clear HP2 hP hs;go_wp2_with fail
   go_ret
   exact⟨yW (by rw[HP3.out]),by rw[HP3.out];exact HC1.out,HK1.out⟩
  ·have hP:=HP2.out
   simp only[hs]at hP;have HP3:=zA hP;clear HP2 hP hs;go_wp2_with fail
   go_ret
   exact⟨yW (by rw[HP3.out]),by rw[HP3.out];exact HC1.out,HK1.out⟩
 by_cases c5':x=[62]
 ·subst c5'
  have hP:=HP.out;rw[show kS.contains [62]=true from by decide]at hP;have HP2:=zA hP;clear HP hP
  go_enter Tryz.func261,Tryz.ntmps261
  go_wp2_with fail
  go_region_held3 (fun w'=>w'.cell? ⟨R,0,none⟩=some (.slice (some ⟨g,0,none⟩) P.length cap)/\w'.cell? ⟨R,1,none⟩=some (.int .i64 s.1)/\w'.cell? ⟨g,s.1*4+1,none⟩=some (.string ⟨[62].toArray⟩)) (go_keep) (fail)
  go_wp2_with fail
  refine(vM R g cap P _ s [62] (yK.drew HC.out)).mono ?_;rintro e w1 ⟨rfl,hc1,hk1⟩;have HC1:=zA hc1;have HK1:Hid (zB w.heap.size R w w1):=zB.step (zB.drew (zB.refl _ _ _)) hk1;clear hc1 hk1;cases hs:(zC P [62] s).1
  ·have hP:=HP2.out
   simp only[hs]at hP;have HP3:=zA hP;clear HP2 hP hs;go_wp2_with fail
   go_ret
   exact⟨yW (by rw[HP3.out]),by rw[HP3.out];exact HC1.out,HK1.out⟩
  ·have hP:=HP2.out
   simp only[hs]at hP;have HP3:=zA hP;clear HP2 hP hs;go_wp2_with fail
   go_ret
   exact⟨yW (by rw[HP3.out]),by rw[HP3.out];exact HC1.out,HK1.out⟩
 have hP:=HP.out;rw[show kS.contains x=false from by simp[kS,c0',c1',c2',c3',c4',c5']]at hP;have HP2:Hid (F=([],s)):=hP;clear HP hP;have b0:(x==[60])=false:=by simpa using c0'
 have b1:(x==[60,61])=false:=by simpa using c1'
 have b2:(x==[61])=false:=by simpa using c2'
 have b3:(x==[33,61])=false:=by simpa using c3'
 have b4:(x==[62,61])=false:=by simpa using c4'
 have b5:(x==[62])=false:=by simpa using c5'
 clear c0' c1' c2' c3' c4' c5'
 go_enter Tryz.func261,Tryz.ntmps261
 go_wp2_with fail
 go_region_held3 (fun w'=>w'.cell? ⟨R,0,none⟩=some (.slice (some ⟨g,0,none⟩) P.length cap)/\w'.cell? ⟨R,1,none⟩=some (.int .i64 s.1)/\w'.cell? ⟨g,s.1*4+1,none⟩=some (.string ⟨x.toArray⟩)) (go_keep) (fail)
 go_wp2_with fail
 go_ret
 exact⟨yW (by rw[HP2.out]),by rw[HP2.out];exact yK.drew HC.out,zB.drew (zB.refl _ _ _)⟩
theorem zS(w:World)(o:Obj):(w.alloc o).heap[w.heap.size]? = some o:=heap_alloc_new w o
theorem zQ{w:World}{o x:Obj}{k:Nat}(h:w.heap[k]? = some x):(w.alloc o).heap[k]? = some x:=by
 have hk:k<w.heap.size:=by
  rcases Nat.lt_or_ge k w.heap.size with h1|h1
  ·exact h1
  ·rw[Array.getElem?_eq_none h1]at h;cases h
 rw[Below.heap_alloc _ _ _ hk];exact h
theorem yI{w:World}{x:Obj}{k:Nat}(h:w.heap[k]? = some x):w.drew.heap[k]? = some x:=h
theorem xD{w:World}{x:Obj}{k b o:Nat}{u:Value}(h:w.heap[k]? = some x)(zG8:k≠b):(w.setCell ⟨b,o,none⟩ u).heap[k]? = some x:=by
 rw[Below.heap_setCell _ _ _ _ zG8];exact h
theorem yC{W w1:World}{x:Obj}{k R:Nat}(h:W.heap[k]? = some x)(hk:zB W.heap.size R W w1)(zG8:k≠R):w1.heap[k]? = some x:=by
 have zFZ:k<W.heap.size:=by
  rcases Nat.lt_or_ge k W.heap.size with h1|h1
  ·exact h1
  ·rw[Array.getElem?_eq_none h1]at h;cases h
 rw[hk.block k zFZ zG8];exact h
structure yB where
 kind:Int
 left:Int
 right:Int
 name:Bs
 mark:Bs
 other:Bs
 num:Int
def jH(x:yB):Value:=.agg #[.int .i64 x.kind,.int .i64 x.left,.int .i64 x.right,.string ⟨x.name.toArray⟩,.string ⟨x.mark.toArray⟩,.string ⟨x.other.toArray⟩,.int .i64 x.num]
def vF(P:List PT)(s:St):yB × St :=
 match (zC P [97,108,119,97,121,115] s).1 with
 | true=>(⟨4,0,0,[],[],[],0⟩,(zC P [97,108,119,97,121,115] s).2)
 | false =>
   match (zC P [104,97,115] (zC P [97,108,119,97,121,115] s).2).1 with
   | true=>(⟨5,0,0,(zN P (zC P [104,97,115] (zC P [97,108,119,97,121,115] s).2).2).1,[],[],0⟩,(zN P (zC P [104,97,115] (zC P [97,108,119,97,121,115] s).2).2).2)
   | false =>
     match (vS P (zN P (zC P [104,97,115] (zC P [97,108,119,97,121,115] s).2).2).2).1.isEmpty with
     | true=>(⟨6,0,0,(zN P (zC P [104,97,115] (zC P [97,108,119,97,121,115] s).2).2).1,[],[],0⟩,(vS P (zN P (zC P [104,97,115] (zC P [97,108,119,97,121,115] s).2).2).2).2)
     | false =>
       match isNum P (vS P (zN P (zC P [104,97,115] (zC P [97,108,119,97,121,115] s).2).2).2).2 with
       | true=>(⟨7,0,0,(zN P (zC P [104,97,115] (zC P [97,108,119,97,121,115] s).2).2).1,(vS P (zN P (zC P [104,97,115] (zC P [97,108,119,97,121,115] s).2).2).2).1,[],(yR P (vS P (zN P (zC P [104,97,115] (zC P [97,108,119,97,121,115] s).2).2).2).2).1⟩,(yR P (vS P (zN P (zC P [104,97,115] (zC P [97,108,119,97,121,115] s).2).2).2).2).2)
       | false=>(⟨7,0,0,(zN P (zC P [104,97,115] (zC P [97,108,119,97,121,115] s).2).2).1,(vS P (zN P (zC P [104,97,115] (zC P [97,108,119,97,121,115] s).2).2).2).1,(zN P (vS P (zN P (zC P [104,97,115] (zC P [97,108,119,97,121,115] s).2).2).2).2).1,0⟩,(zN P (vS P (zN P (zC P [104,97,115] (zC P [97,108,119,97,121,115] s).2).2).2).2).2)
theorem zDH(w:World)(R g cap:Nat)(P:List PT)(s:St)(h:vO w R g cap P s)(h1:(zC P [97,108,119,97,121,115] s).1=true) :
 Calls Tryz.prog 260 #[.pointer (some ⟨R,0,none⟩)] w fun e w'=>e=.returned (jH (vF P s).1)/\vO w' R g cap P (vF P s).2/\zB w.heap.size R w w':=by
 have hR:=h.rlt;have hg:=h.glt;have n0:w.heap.size≠R:=by omega
 have m0:w.heap.size≠g:=by omega
 have HC0:=zA h;have HP:Hid (vF P s=(⟨4,0,0,[],[],[],0⟩,(zC P [97,108,119,97,121,115] s).2)):=by unfold Hid vF;simp only[h1]
 have H1:=zA h1;clear h h1
 go_enter Tryz.func260,Tryz.ntmps260
 go_wp2_with fail
 refine(vM R g cap P _ s [97,108,119,97,121,115] (by repeat (with_reducible first|exact HC0.out|refine yK.alloc ?_ _|refine yK.drew ?_|refine yK.set ?_ (by first|exact n0) (by first|exact m0)))).mono ?_;rintro e w1 ⟨rfl,hc1,hk1⟩;rw[H1.out];have HC1:=zA hc1;have HT1:Hid (zB w.heap.size R w w1):=zB.step (by repeat (with_reducible first|exact zB.refl _ _ _|refine zB.new ?_|refine zB.drew ?_|refine zB.set ?_ (by first|exact Nat.le_refl _|exact Nat.le_add_right _ _))) hk1;have q1_0:=fun o=>hk1.cell (p:=⟨w.heap.size,o,none⟩) (by simp;try omega) n0;have r1_0:=fun o=>hk1.frozen (p:=⟨w.heap.size,o,none⟩) (by simp;try omega) n0;have z1_0:w.heap.size<w1.heap.size:=Nat.lt_of_lt_of_le (by simp;try omega) hk1.size;have b1:w1.heap[w.heap.size]? = some (.cells #[.int .i64 0,.int .i64 0,.int .i64 0,.string ⟨#[]⟩,.string ⟨#[]⟩,.string ⟨#[]⟩,.int .i64 0] 304 (0,0)):=yC (by repeat (with_reducible first|exact zS _ _|refine zQ ?_|refine yI ?_|refine xD ?_ (by first|fail|fail))) hk1 n0;clear hc1 hk1;go_wp2_with fail
 have cz1:=fun j=>cell_of_row _ _ j _ _ _ b1;refine bodyPost_ret (v:=jH ⟨4,0,0,[],[],[],0⟩) (by simp (maxDischargeDepth:=8) [results,Tryz.results260,go_sem,jH,cz1]) rfl ⟨by rw[HP.out],by rw[HP.out];exact(by repeat (with_reducible first|exact HC1.out|refine yK.alloc ?_ _|refine yK.drew ?_|refine yK.set ?_ (by first|exact n0) (by first|exact m0))),(by repeat (with_reducible first|exact HT1.out|refine zB.new ?_|refine zB.drew ?_|refine zB.set ?_ (by first|exact Nat.le_refl _|exact Nat.le_add_right _ _)))⟩
theorem zDG(w:World)(R g cap:Nat)(P:List PT)(s:St)(h:vO w R g cap P s)(h1:(zC P [97,108,119,97,121,115] s).1=false)(h2:(zC P [104,97,115] (zC P [97,108,119,97,121,115] s).2).1=true) :
 Calls Tryz.prog 260 #[.pointer (some ⟨R,0,none⟩)] w fun e w'=>e=.returned (jH (vF P s).1)/\vO w' R g cap P (vF P s).2/\zB w.heap.size R w w':=by
 have hR:=h.rlt;have hg:=h.glt;have n0:w.heap.size≠R:=by omega
 have m0:w.heap.size≠g:=by omega
 have HC0:=zA h;have HP:Hid (vF P s=(⟨5,0,0,(zN P (zC P [104,97,115] (zC P [97,108,119,97,121,115] s).2).2).1,[],[],0⟩,(zN P (zC P [104,97,115] (zC P [97,108,119,97,121,115] s).2).2).2)):=by unfold Hid vF;simp only[h1,h2]
 have H1:=zA h1;have H2:=zA h2;clear h h1 h2
 go_enter Tryz.func260,Tryz.ntmps260
 go_wp2_with fail
 refine(vM R g cap P _ s [97,108,119,97,121,115] (by repeat (with_reducible first|exact HC0.out|refine yK.alloc ?_ _|refine yK.drew ?_|refine yK.set ?_ (by first|exact n0) (by first|exact m0)))).mono ?_;rintro e w1 ⟨rfl,hc1,hk1⟩;rw[H1.out];have HC1:=zA hc1;have HT1:Hid (zB w.heap.size R w w1):=zB.step (by repeat (with_reducible first|exact zB.refl _ _ _|refine zB.new ?_|refine zB.drew ?_|refine zB.set ?_ (by first|exact Nat.le_refl _|exact Nat.le_add_right _ _))) hk1;have q1_0:=fun o=>hk1.cell (p:=⟨w.heap.size,o,none⟩) (by simp;try omega) n0;have r1_0:=fun o=>hk1.frozen (p:=⟨w.heap.size,o,none⟩) (by simp;try omega) n0;have z1_0:w.heap.size<w1.heap.size:=Nat.lt_of_lt_of_le (by simp;try omega) hk1.size;have b1:w1.heap[w.heap.size]? = some (.cells #[.int .i64 0,.int .i64 0,.int .i64 0,.string ⟨#[]⟩,.string ⟨#[]⟩,.string ⟨#[]⟩,.int .i64 0] 304 (0,0)):=yC (by repeat (with_reducible first|exact zS _ _|refine zQ ?_|refine yI ?_|refine xD ?_ (by first|fail|fail))) hk1 n0;clear hc1 hk1;go_wp2_with fail
 refine(vM R g cap P _ (zC P [97,108,119,97,121,115] s).2 [104,97,115] (by repeat (with_reducible first|exact HC1.out|refine yK.alloc ?_ _|refine yK.drew ?_|refine yK.set ?_ (by first|exact n0) (by first|exact m0)))).mono ?_;rintro e w2 ⟨rfl,hc2,hk2⟩;rw[H2.out];have HC2:=zA hc2;have HT2:Hid (zB w.heap.size R w w2):=zB.step (by repeat (with_reducible first|exact HT1.out|refine zB.new ?_|refine zB.drew ?_|refine zB.set ?_ (by first|exact Nat.le_refl _|exact Nat.le_add_right _ _))) hk2;have q2_0:=fun o=>hk2.cell (p:=⟨w.heap.size,o,none⟩) (by repeat (with_reducible first|exact z1_0|exact zD _ _|refine zK ?_|refine zL ?_|refine zG ?_)) n0;have r2_0:=fun o=>hk2.frozen (p:=⟨w.heap.size,o,none⟩) (by repeat (with_reducible first|exact z1_0|exact zD _ _|refine zK ?_|refine zL ?_|refine zG ?_)) n0;have z2_0:w.heap.size<w2.heap.size:=Nat.lt_of_lt_of_le (by repeat (with_reducible first|exact z1_0|exact zD _ _|refine zK ?_|refine zL ?_|refine zG ?_)) hk2.size;have b2:w2.heap[w.heap.size]? = some (.cells #[.int .i64 0,.int .i64 0,.int .i64 0,.string ⟨#[]⟩,.string ⟨#[]⟩,.string ⟨#[]⟩,.int .i64 0] 304 (0,0)):=yC (by repeat (with_reducible first|exact b1|refine zQ ?_|refine yI ?_|refine xD ?_ (by first|fail|fail))) hk2 n0;clear hc2 hk2;go_wp2_with fail
 refine(bL R g cap P _ (zC P [104,97,115] (zC P [97,108,119,97,121,115] s).2).2 (by repeat (with_reducible first|exact HC2.out|refine yK.alloc ?_ _|refine yK.drew ?_|refine yK.set ?_ (by first|exact n0) (by first|exact m0)))).mono ?_;rintro e w3 ⟨rfl,hc3,hk3⟩;have HC3:=zA hc3;have HT3:Hid (zB w.heap.size R w w3):=zB.step (by repeat (with_reducible first|exact HT2.out|refine zB.new ?_|refine zB.drew ?_|refine zB.set ?_ (by first|exact Nat.le_refl _|exact Nat.le_add_right _ _))) hk3;have q3_0:=fun o=>hk3.cell (p:=⟨w.heap.size,o,none⟩) (by repeat (with_reducible first|exact z2_0|exact zD _ _|refine zK ?_|refine zL ?_|refine zG ?_)) n0;have r3_0:=fun o=>hk3.frozen (p:=⟨w.heap.size,o,none⟩) (by repeat (with_reducible first|exact z2_0|exact zD _ _|refine zK ?_|refine zL ?_|refine zG ?_)) n0;have z3_0:w.heap.size<w3.heap.size:=Nat.lt_of_lt_of_le (by repeat (with_reducible first|exact z2_0|exact zD _ _|refine zK ?_|refine zL ?_|refine zG ?_)) hk3.size;have b3:w3.heap[w.heap.size]? = some (.cells #[.int .i64 0,.int .i64 0,.int .i64 0,.string ⟨#[]⟩,.string ⟨#[]⟩,.string ⟨#[]⟩,.int .i64 0] 304 (0,0)):=yC (by repeat (with_reducible first|exact b2|refine zQ ?_|refine yI ?_|refine xD ?_ (by first|fail|fail))) hk3 n0;clear hc3 hk3;go_wp2_with fail
 have cz3:=fun j=>cell_of_row _ _ j _ _ _ b3;refine bodyPost_ret (v:=jH ⟨5,0,0,(zN P (zC P [104,97,115] (zC P [97,108,119,97,121,115] s).2).2).1,[],[],0⟩) (by simp (maxDischargeDepth:=8) [results,Tryz.results260,go_sem,jH,cz3]) rfl ⟨by rw[HP.out],by rw[HP.out];exact(by repeat (with_reducible first|exact HC3.out|refine yK.alloc ?_ _|refine yK.drew ?_|refine yK.set ?_ (by first|exact n0) (by first|exact m0))),(by repeat (with_reducible first|exact HT3.out|refine zB.new ?_|refine zB.drew ?_|refine zB.set ?_ (by first|exact Nat.le_refl _|exact Nat.le_add_right _ _)))⟩
theorem zDF(w:World)(R g cap:Nat)(P:List PT)(s:St)(h:vO w R g cap P s)(h1:(zC P [97,108,119,97,121,115] s).1=false)(h2:(zC P [104,97,115] (zC P [97,108,119,97,121,115] s).2).1=false)(h3:(vS P (zN P (zC P [104,97,115] (zC P [97,108,119,97,121,115] s).2).2).2).1.isEmpty=true) :
 Calls Tryz.prog 260 #[.pointer (some ⟨R,0,none⟩)] w fun e w'=>e=.returned (jH (vF P s).1)/\vO w' R g cap P (vF P s).2/\zB w.heap.size R w w':=by
 have hR:=h.rlt;have hg:=h.glt;have n0:w.heap.size≠R:=by omega
 have m0:w.heap.size≠g:=by omega
 have HC0:=zA h;have HP:Hid (vF P s=(⟨6,0,0,(zN P (zC P [104,97,115] (zC P [97,108,119,97,121,115] s).2).2).1,[],[],0⟩,(vS P (zN P (zC P [104,97,115] (zC P [97,108,119,97,121,115] s).2).2).2).2)):=by unfold Hid vF;simp only[h1,h2,h3]
 have H1:=zA h1;have H2:=zA h2;have H3:=zA h3;clear h h1 h2 h3;have h3':=H3.out
 go_enter Tryz.func260,Tryz.ntmps260
 go_wp2_with fail
 refine(vM R g cap P _ s [97,108,119,97,121,115] (by repeat (with_reducible first|exact HC0.out|refine yK.alloc ?_ _|refine yK.drew ?_|refine yK.set ?_ (by first|exact n0) (by first|exact m0)))).mono ?_;rintro e w1 ⟨rfl,hc1,hk1⟩;rw[H1.out];have HC1:=zA hc1;have HT1:Hid (zB w.heap.size R w w1):=zB.step (by repeat (with_reducible first|exact zB.refl _ _ _|refine zB.new ?_|refine zB.drew ?_|refine zB.set ?_ (by first|exact Nat.le_refl _|exact Nat.le_add_right _ _))) hk1;have q1_0:=fun o=>hk1.cell (p:=⟨w.heap.size,o,none⟩) (by simp;try omega) n0;have r1_0:=fun o=>hk1.frozen (p:=⟨w.heap.size,o,none⟩) (by simp;try omega) n0;have z1_0:w.heap.size<w1.heap.size:=Nat.lt_of_lt_of_le (by simp;try omega) hk1.size;have b1:w1.heap[w.heap.size]? = some (.cells #[.int .i64 0,.int .i64 0,.int .i64 0,.string ⟨#[]⟩,.string ⟨#[]⟩,.string ⟨#[]⟩,.int .i64 0] 304 (0,0)):=yC (by repeat (with_reducible first|exact zS _ _|refine zQ ?_|refine yI ?_|refine xD ?_ (by first|fail|fail))) hk1 n0;clear hc1 hk1;go_wp2_with fail
 refine(vM R g cap P _ (zC P [97,108,119,97,121,115] s).2 [104,97,115] (by repeat (with_reducible first|exact HC1.out|refine yK.alloc ?_ _|refine yK.drew ?_|refine yK.set ?_ (by first|exact n0) (by first|exact m0)))).mono ?_;rintro e w2 ⟨rfl,hc2,hk2⟩;rw[H2.out];have HC2:=zA hc2;have HT2:Hid (zB w.heap.size R w w2):=zB.step (by repeat (with_reducible first|exact HT1.out|refine zB.new ?_|refine zB.drew ?_|refine zB.set ?_ (by first|exact Nat.le_refl _|exact Nat.le_add_right _ _))) hk2;have q2_0:=fun o=>hk2.cell (p:=⟨w.heap.size,o,none⟩) (by repeat (with_reducible first|exact z1_0|exact zD _ _|refine zK ?_|refine zL ?_|refine zG ?_)) n0;have r2_0:=fun o=>hk2.frozen (p:=⟨w.heap.size,o,none⟩) (by repeat (with_reducible first|exact z1_0|exact zD _ _|refine zK ?_|refine zL ?_|refine zG ?_)) n0;have z2_0:w.heap.size<w2.heap.size:=Nat.lt_of_lt_of_le (by repeat (with_reducible first|exact z1_0|exact zD _ _|refine zK ?_|refine zL ?_|refine zG ?_)) hk2.size;have b2:w2.heap[w.heap.size]? = some (.cells #[.int .i64 0,.int .i64 0,.int .i64 0,.string ⟨#[]⟩,.string ⟨#[]⟩,.string ⟨#[]⟩,.int .i64 0] 304 (0,0)):=yC (by repeat (with_reducible first|exact b1|refine zQ ?_|refine yI ?_|refine xD ?_ (by first|fail|fail))) hk2 n0;clear hc2 hk2;have nx:w2.heap.size≠R:=by have h1:=HT2.out.size;omega
 have mx:w2.heap.size≠g:=by have h1:=HT2.out.size;omega
 have lx:w.heap.size<=w2.heap.size:=HT2.out.size;have dx:w2.heap.size≠w.heap.size:=Nat.ne_of_gt z2_0;have fx:w.heap.size≠w2.heap.size:=Nat.ne_of_lt z2_0;have z2_x:True:=trivial;go_wp2_with fail
 refine(bL R g cap P _ (zC P [104,97,115] (zC P [97,108,119,97,121,115] s).2).2 (by repeat (with_reducible first|exact HC2.out|refine yK.alloc ?_ _|refine yK.drew ?_|refine yK.set ?_ (by first|exact n0|exact nx) (by first|exact m0|exact mx)))).mono ?_;rintro e w3 ⟨rfl,hc3,hk3⟩;have HC3:=zA hc3;have HT3:Hid (zB w.heap.size R w w3):=zB.step (by repeat (with_reducible first|exact HT2.out|refine zB.new ?_|refine zB.drew ?_|refine zB.set ?_ (by first|exact Nat.le_refl _|exact Nat.le_add_right _ _|exact lx))) hk3;have q3_0:=fun o=>hk3.cell (p:=⟨w.heap.size,o,none⟩) (by repeat (with_reducible first|exact z2_0|exact zD _ _|refine zK ?_|refine zL ?_|refine zG ?_)) n0;have r3_0:=fun o=>hk3.frozen (p:=⟨w.heap.size,o,none⟩) (by repeat (with_reducible first|exact z2_0|exact zD _ _|refine zK ?_|refine zL ?_|refine zG ?_)) n0;have z3_0:w.heap.size<w3.heap.size:=Nat.lt_of_lt_of_le (by repeat (with_reducible first|exact z2_0|exact zD _ _|refine zK ?_|refine zL ?_|refine zG ?_)) hk3.size;have q3_x:=fun o=>hk3.cell (p:=⟨w2.heap.size,o,none⟩) (by repeat (with_reducible first|exact z2_x|exact zD _ _|refine zK ?_|refine zL ?_|refine zG ?_)) nx;have r3_x:=fun o=>hk3.frozen (p:=⟨w2.heap.size,o,none⟩) (by repeat (with_reducible first|exact z2_x|exact zD _ _|refine zK ?_|refine zL ?_|refine zG ?_)) nx;have z3_x:w2.heap.size<w3.heap.size:=Nat.lt_of_lt_of_le (by repeat (with_reducible first|exact z2_x|exact zD _ _|refine zK ?_|refine zL ?_|refine zG ?_)) hk3.size;have b3:w3.heap[w.heap.size]? = some (.cells #[.int .i64 0,.int .i64 0,.int .i64 0,.string ⟨#[]⟩,.string ⟨#[]⟩,.string ⟨#[]⟩,.int .i64 0] 304 (0,0)):=yC (by repeat (with_reducible first|exact b2|refine zQ ?_|refine yI ?_|refine xD ?_ (by first|exact fx|fail))) hk3 n0;clear hc3 hk3;go_wp2_with fail
 refine(oT _ R g cap P (zN P (zC P [104,97,115] (zC P [97,108,119,97,121,115] s).2).2).2 (by repeat (with_reducible first|exact HC3.out|refine yK.alloc ?_ _|refine yK.drew ?_|refine yK.set ?_ (by first|exact n0|exact nx) (by first|exact m0|exact mx)))).mono ?_;rintro e w4 ⟨rfl,hc4,hk4⟩;have HC4:=zA hc4;have HT4:Hid (zB w.heap.size R w w4):=zB.step (by repeat (with_reducible first|exact HT3.out|refine zB.new ?_|refine zB.drew ?_|refine zB.set ?_ (by first|exact Nat.le_refl _|exact Nat.le_add_right _ _|exact lx))) hk4;have q4_0:=fun o=>hk4.cell (p:=⟨w.heap.size,o,none⟩) (by repeat (with_reducible first|exact z3_0|exact zD _ _|refine zK ?_|refine zL ?_|refine zG ?_)) n0;have r4_0:=fun o=>hk4.frozen (p:=⟨w.heap.size,o,none⟩) (by repeat (with_reducible first|exact z3_0|exact zD _ _|refine zK ?_|refine zL ?_|refine zG ?_)) n0;have z4_0:w.heap.size<w4.heap.size:=Nat.lt_of_lt_of_le (by repeat (with_reducible first|exact z3_0|exact zD _ _|refine zK ?_|refine zL ?_|refine zG ?_)) hk4.size;have q4_x:=fun o=>hk4.cell (p:=⟨w2.heap.size,o,none⟩) (by repeat (with_reducible first|exact z3_x|exact zD _ _|refine zK ?_|refine zL ?_|refine zG ?_)) nx;have r4_x:=fun o=>hk4.frozen (p:=⟨w2.heap.size,o,none⟩) (by repeat (with_reducible first|exact z3_x|exact zD _ _|refine zK ?_|refine zL ?_|refine zG ?_)) nx;have z4_x:w2.heap.size<w4.heap.size:=Nat.lt_of_lt_of_le (by repeat (with_reducible first|exact z3_x|exact zD _ _|refine zK ?_|refine zL ?_|refine zG ?_)) hk4.size;have b4:w4.heap[w.heap.size]? = some (.cells #[.int .i64 0,.int .i64 0,.int .i64 0,.string ⟨#[]⟩,.string ⟨#[]⟩,.string ⟨#[]⟩,.int .i64 0] 304 (0,0)):=yC (by repeat (with_reducible first|exact b3|refine zQ ?_|refine yI ?_|refine xD ?_ (by first|exact fx|fail))) hk4 n0;clear hc4 hk4;go_wp2_with fail
 have cz4:=fun j=>cell_of_row _ _ j _ _ _ b4;refine bodyPost_ret (v:=jH ⟨6,0,0,(zN P (zC P [104,97,115] (zC P [97,108,119,97,121,115] s).2).2).1,[],[],0⟩) (by simp (maxDischargeDepth:=8) [results,Tryz.results260,go_sem,jH,cz4]) rfl ⟨by rw[HP.out],by rw[HP.out];exact(by repeat (with_reducible first|exact HC4.out|refine yK.alloc ?_ _|refine yK.drew ?_|refine yK.set ?_ (by first|exact n0|exact nx) (by first|exact m0|exact mx))),(by repeat (with_reducible first|exact HT4.out|refine zB.new ?_|refine zB.drew ?_|refine zB.set ?_ (by first|exact Nat.le_refl _|exact Nat.le_add_right _ _|exact lx)))⟩
theorem zDE(w:World)(R g cap:Nat)(P:List PT)(s:St)(h:vO w R g cap P s)(h1:(zC P [97,108,119,97,121,115] s).1=false)(h2:(zC P [104,97,115] (zC P [97,108,119,97,121,115] s).2).1=false)(h3:(vS P (zN P (zC P [104,97,115] (zC P [97,108,119,97,121,115] s).2).2).2).1.isEmpty=false)(h4:isNum P (vS P (zN P (zC P [104,97,115] (zC P [97,108,119,97,121,115] s).2).2).2).2=true) :
 Calls Tryz.prog 260 #[.pointer (some ⟨R,0,none⟩)] w fun e w'=>e=.returned (jH (vF P s).1)/\vO w' R g cap P (vF P s).2/\zB w.heap.size R w w':=by
 have hR:=h.rlt;have hg:=h.glt;have n0:w.heap.size≠R:=by omega
 have m0:w.heap.size≠g:=by omega
 have HC0:=zA h;have HP:Hid (vF P s=(⟨7,0,0,(zN P (zC P [104,97,115] (zC P [97,108,119,97,121,115] s).2).2).1,(vS P (zN P (zC P [104,97,115] (zC P [97,108,119,97,121,115] s).2).2).2).1,[],(yR P (vS P (zN P (zC P [104,97,115] (zC P [97,108,119,97,121,115] s).2).2).2).2).1⟩,(yR P (vS P (zN P (zC P [104,97,115] (zC P [97,108,119,97,121,115] s).2).2).2).2).2)):=by unfold Hid vF;simp only[h1,h2,h3,h4]
 have H1:=zA h1;have H2:=zA h2;have H3:=zA h3;have H4:=zA h4;clear h h1 h2 h3 h4;have h3':=H3.out
 go_enter Tryz.func260,Tryz.ntmps260
 go_wp2_with fail
 refine(vM R g cap P _ s [97,108,119,97,121,115] (by repeat (with_reducible first|exact HC0.out|refine yK.alloc ?_ _|refine yK.drew ?_|refine yK.set ?_ (by first|exact n0) (by first|exact m0)))).mono ?_;rintro e w1 ⟨rfl,hc1,hk1⟩;rw[H1.out];have HC1:=zA hc1;have HT1:Hid (zB w.heap.size R w w1):=zB.step (by repeat (with_reducible first|exact zB.refl _ _ _|refine zB.new ?_|refine zB.drew ?_|refine zB.set ?_ (by first|exact Nat.le_refl _|exact Nat.le_add_right _ _))) hk1;have q1_0:=fun o=>hk1.cell (p:=⟨w.heap.size,o,none⟩) (by simp;try omega) n0;have r1_0:=fun o=>hk1.frozen (p:=⟨w.heap.size,o,none⟩) (by simp;try omega) n0;have z1_0:w.heap.size<w1.heap.size:=Nat.lt_of_lt_of_le (by simp;try omega) hk1.size;have b1:w1.heap[w.heap.size]? = some (.cells #[.int .i64 0,.int .i64 0,.int .i64 0,.string ⟨#[]⟩,.string ⟨#[]⟩,.string ⟨#[]⟩,.int .i64 0] 304 (0,0)):=yC (by repeat (with_reducible first|exact zS _ _|refine zQ ?_|refine yI ?_|refine xD ?_ (by first|fail|fail))) hk1 n0;clear hc1 hk1;go_wp2_with fail
 refine(vM R g cap P _ (zC P [97,108,119,97,121,115] s).2 [104,97,115] (by repeat (with_reducible first|exact HC1.out|refine yK.alloc ?_ _|refine yK.drew ?_|refine yK.set ?_ (by first|exact n0) (by first|exact m0)))).mono ?_;rintro e w2 ⟨rfl,hc2,hk2⟩;rw[H2.out];have HC2:=zA hc2;have HT2:Hid (zB w.heap.size R w w2):=zB.step (by repeat (with_reducible first|exact HT1.out|refine zB.new ?_|refine zB.drew ?_|refine zB.set ?_ (by first|exact Nat.le_refl _|exact Nat.le_add_right _ _))) hk2;have q2_0:=fun o=>hk2.cell (p:=⟨w.heap.size,o,none⟩) (by repeat (with_reducible first|exact z1_0|exact zD _ _|refine zK ?_|refine zL ?_|refine zG ?_)) n0;have r2_0:=fun o=>hk2.frozen (p:=⟨w.heap.size,o,none⟩) (by repeat (with_reducible first|exact z1_0|exact zD _ _|refine zK ?_|refine zL ?_|refine zG ?_)) n0;have z2_0:w.heap.size<w2.heap.size:=Nat.lt_of_lt_of_le (by repeat (with_reducible first|exact z1_0|exact zD _ _|refine zK ?_|refine zL ?_|refine zG ?_)) hk2.size;have b2:w2.heap[w.heap.size]? = some (.cells #[.int .i64 0,.int .i64 0,.int .i64 0,.string ⟨#[]⟩,.string ⟨#[]⟩,.string ⟨#[]⟩,.int .i64 0] 304 (0,0)):=yC (by repeat (with_reducible first|exact b1|refine zQ ?_|refine yI ?_|refine xD ?_ (by first|fail|fail))) hk2 n0;clear hc2 hk2;have nx:w2.heap.size≠R:=by have h1:=HT2.out.size;omega
 have mx:w2.heap.size≠g:=by have h1:=HT2.out.size;omega
 have lx:w.heap.size<=w2.heap.size:=HT2.out.size;have dx:w2.heap.size≠w.heap.size:=Nat.ne_of_gt z2_0;have fx:w.heap.size≠w2.heap.size:=Nat.ne_of_lt z2_0;have z2_x:True:=trivial;go_wp2_with fail
 refine(bL R g cap P _ (zC P [104,97,115] (zC P [97,108,119,97,121,115] s).2).2 (by repeat (with_reducible first|exact HC2.out|refine yK.alloc ?_ _|refine yK.drew ?_|refine yK.set ?_ (by first|exact n0|exact nx) (by first|exact m0|exact mx)))).mono ?_;rintro e w3 ⟨rfl,hc3,hk3⟩;have HC3:=zA hc3;have HT3:Hid (zB w.heap.size R w w3):=zB.step (by repeat (with_reducible first|exact HT2.out|refine zB.new ?_|refine zB.drew ?_|refine zB.set ?_ (by first|exact Nat.le_refl _|exact Nat.le_add_right _ _|exact lx))) hk3;have q3_0:=fun o=>hk3.cell (p:=⟨w.heap.size,o,none⟩) (by repeat (with_reducible first|exact z2_0|exact zD _ _|refine zK ?_|refine zL ?_|refine zG ?_)) n0;have r3_0:=fun o=>hk3.frozen (p:=⟨w.heap.size,o,none⟩) (by repeat (with_reducible first|exact z2_0|exact zD _ _|refine zK ?_|refine zL ?_|refine zG ?_)) n0;have z3_0:w.heap.size<w3.heap.size:=Nat.lt_of_lt_of_le (by repeat (with_reducible first|exact z2_0|exact zD _ _|refine zK ?_|refine zL ?_|refine zG ?_)) hk3.size;have q3_x:=fun o=>hk3.cell (p:=⟨w2.heap.size,o,none⟩) (by repeat (with_reducible first|exact z2_x|exact zD _ _|refine zK ?_|refine zL ?_|refine zG ?_)) nx;have r3_x:=fun o=>hk3.frozen (p:=⟨w2.heap.size,o,none⟩) (by repeat (with_reducible first|exact z2_x|exact zD _ _|refine zK ?_|refine zL ?_|refine zG ?_)) nx;have z3_x:w2.heap.size<w3.heap.size:=Nat.lt_of_lt_of_le (by repeat (with_reducible first|exact z2_x|exact zD _ _|refine zK ?_|refine zL ?_|refine zG ?_)) hk3.size;have b3:w3.heap[w.heap.size]? = some (.cells #[.int .i64 0,.int .i64 0,.int .i64 0,.string ⟨#[]⟩,.string ⟨#[]⟩,.string ⟨#[]⟩,.int .i64 0] 304 (0,0)):=yC (by repeat (with_reducible first|exact b2|refine zQ ?_|refine yI ?_|refine xD ?_ (by first|exact fx|fail))) hk3 n0;clear hc3 hk3;go_wp2_with fail
 refine(oT _ R g cap P (zN P (zC P [104,97,115] (zC P [97,108,119,97,121,115] s).2).2).2 (by repeat (with_reducible first|exact HC3.out|refine yK.alloc ?_ _|refine yK.drew ?_|refine yK.set ?_ (by first|exact n0|exact nx) (by first|exact m0|exact mx)))).mono ?_;rintro e w4 ⟨rfl,hc4,hk4⟩;have HC4:=zA hc4;have HT4:Hid (zB w.heap.size R w w4):=zB.step (by repeat (with_reducible first|exact HT3.out|refine zB.new ?_|refine zB.drew ?_|refine zB.set ?_ (by first|exact Nat.le_refl _|exact Nat.le_add_right _ _|exact lx))) hk4;have q4_0:=fun o=>hk4.cell (p:=⟨w.heap.size,o,none⟩) (by repeat (with_reducible first|exact z3_0|exact zD _ _|refine zK ?_|refine zL ?_|refine zG ?_)) n0;have r4_0:=fun o=>hk4.frozen (p:=⟨w.heap.size,o,none⟩) (by repeat (with_reducible first|exact z3_0|exact zD _ _|refine zK ?_|refine zL ?_|refine zG ?_)) n0;have z4_0:w.heap.size<w4.heap.size:=Nat.lt_of_lt_of_le (by repeat (with_reducible first|exact z3_0|exact zD _ _|refine zK ?_|refine zL ?_|refine zG ?_)) hk4.size;have q4_x:=fun o=>hk4.cell (p:=⟨w2.heap.size,o,none⟩) (by repeat (with_reducible first|exact z3_x|exact zD _ _|refine zK ?_|refine zL ?_|refine zG ?_)) nx;have r4_x:=fun o=>hk4.frozen (p:=⟨w2.heap.size,o,none⟩) (by repeat (with_reducible first|exact z3_x|exact zD _ _|refine zK ?_|refine zL ?_|refine zG ?_)) nx;have z4_x:w2.heap.size<w4.heap.size:=Nat.lt_of_lt_of_le (by repeat (with_reducible first|exact z3_x|exact zD _ _|refine zK ?_|refine zL ?_|refine zG ?_)) hk4.size;have b4:w4.heap[w.heap.size]? = some (.cells #[.int .i64 0,.int .i64 0,.int .i64 0,.string ⟨#[]⟩,.string ⟨#[]⟩,.string ⟨#[]⟩,.int .i64 0] 304 (0,0)):=yC (by repeat (with_reducible first|exact b3|refine zQ ?_|refine yI ?_|refine xD ?_ (by first|exact fx|fail))) hk4 n0;clear hc4 hk4;go_wp2_with fail
 refine(iF R g cap P _ (vS P (zN P (zC P [104,97,115] (zC P [97,108,119,97,121,115] s).2).2).2).2 3 (by repeat (with_reducible first|exact HC4.out|refine yK.alloc ?_ _|refine yK.drew ?_|refine yK.set ?_ (by first|exact n0|exact nx) (by first|exact m0|exact mx)))).mono ?_;rintro e w5 ⟨rfl,hc5,hk5⟩;rw[show ((yP P (vS P (zN P (zC P [104,97,115] (zC P [97,108,119,97,121,115] s).2).2).2).2.1).k==3)=true from H4.out];have HC5:=zA hc5;have HT5:Hid (zB w.heap.size R w w5):=zB.step (by repeat (with_reducible first|exact HT4.out|refine zB.new ?_|refine zB.drew ?_|refine zB.set ?_ (by first|exact Nat.le_refl _|exact Nat.le_add_right _ _|exact lx))) hk5;have q5_0:=fun o=>hk5.cell (p:=⟨w.heap.size,o,none⟩) (by repeat (with_reducible first|exact z4_0|exact zD _ _|refine zK ?_|refine zL ?_|refine zG ?_)) n0;have r5_0:=fun o=>hk5.frozen (p:=⟨w.heap.size,o,none⟩) (by repeat (with_reducible first|exact z4_0|exact zD _ _|refine zK ?_|refine zL ?_|refine zG ?_)) n0;have z5_0:w.heap.size<w5.heap.size:=Nat.lt_of_lt_of_le (by repeat (with_reducible first|exact z4_0|exact zD _ _|refine zK ?_|refine zL ?_|refine zG ?_)) hk5.size;have q5_x:=fun o=>hk5.cell (p:=⟨w2.heap.size,o,none⟩) (by repeat (with_reducible first|exact z4_x|exact zD _ _|refine zK ?_|refine zL ?_|refine zG ?_)) nx;have r5_x:=fun o=>hk5.frozen (p:=⟨w2.heap.size,o,none⟩) (by repeat (with_reducible first|exact z4_x|exact zD _ _|refine zK ?_|refine zL ?_|refine zG ?_)) nx;have z5_x:w2.heap.size<w5.heap.size:=Nat.lt_of_lt_of_le (by repeat (with_reducible first|exact z4_x|exact zD _ _|refine zK ?_|refine zL ?_|refine zG ?_)) hk5.size;have b5:w5.heap[w.heap.size]? = some (.cells #[.int .i64 0,.int .i64 0,.int .i64 0,.string ⟨#[]⟩,.string ⟨#[]⟩,.string ⟨#[]⟩,.int .i64 0] 304 (0,0)):=yC (by repeat (with_reducible first|exact b4|refine zQ ?_|refine yI ?_|refine xD ?_ (by first|exact fx|fail))) hk5 n0;clear hc5 hk5;go_wp2_with fail
 refine(sI R g cap P _ (vS P (zN P (zC P [104,97,115] (zC P [97,108,119,97,121,115] s).2).2).2).2 (by repeat (with_reducible first|exact HC5.out|refine yK.alloc ?_ _|refine yK.drew ?_|refine yK.set ?_ (by first|exact n0|exact nx) (by first|exact m0|exact mx)))).mono ?_;rintro e w6 ⟨rfl,hc6,hk6⟩;have HC6:=zA hc6;have HT6:Hid (zB w.heap.size R w w6):=zB.step (by repeat (with_reducible first|exact HT5.out|refine zB.new ?_|refine zB.drew ?_|refine zB.set ?_ (by first|exact Nat.le_refl _|exact Nat.le_add_right _ _|exact lx))) hk6;have q6_0:=fun o=>hk6.cell (p:=⟨w.heap.size,o,none⟩) (by repeat (with_reducible first|exact z5_0|exact zD _ _|refine zK ?_|refine zL ?_|refine zG ?_)) n0;have r6_0:=fun o=>hk6.frozen (p:=⟨w.heap.size,o,none⟩) (by repeat (with_reducible first|exact z5_0|exact zD _ _|refine zK ?_|refine zL ?_|refine zG ?_)) n0;have z6_0:w.heap.size<w6.heap.size:=Nat.lt_of_lt_of_le (by repeat (with_reducible first|exact z5_0|exact zD _ _|refine zK ?_|refine zL ?_|refine zG ?_)) hk6.size;have q6_x:=fun o=>hk6.cell (p:=⟨w2.heap.size,o,none⟩) (by repeat (with_reducible first|exact z5_x|exact zD _ _|refine zK ?_|refine zL ?_|refine zG ?_)) nx;have r6_x:=fun o=>hk6.frozen (p:=⟨w2.heap.size,o,none⟩) (by repeat (with_reducible first|exact z5_x|exact zD _ _|refine zK ?_|refine zL ?_|refine zG ?_)) nx;have z6_x:w2.heap.size<w6.heap.size:=Nat.lt_of_lt_of_le (by repeat (with_reducible first|exact z5_x|exact zD _ _|refine zK ?_|refine zL ?_|refine zG ?_)) hk6.size;have b6:w6.heap[w.heap.size]? = some (.cells #[.int .i64 0,.int .i64 0,.int .i64 0,.string ⟨#[]⟩,.string ⟨#[]⟩,.string ⟨#[]⟩,.int .i64 0] 304 (0,0)):=yC (by repeat (with_reducible first|exact b5|refine zQ ?_|refine yI ?_|refine xD ?_ (by first|exact fx|fail))) hk6 n0;clear hc6 hk6;go_wp2_with fail
 have cz6:=fun j=>cell_of_row _ _ j _ _ _ b6;refine bodyPost_ret (v:=jH ⟨7,0,0,(zN P (zC P [104,97,115] (zC P [97,108,119,97,121,115] s).2).2).1,(vS P (zN P (zC P [104,97,115] (zC P [97,108,119,97,121,115] s).2).2).2).1,[],(yR P (vS P (zN P (zC P [104,97,115] (zC P [97,108,119,97,121,115] s).2).2).2).2).1⟩) (by simp (maxDischargeDepth:=8) [results,Tryz.results260,go_sem,jH,cz6]) rfl ⟨by rw[HP.out],by rw[HP.out];exact(by repeat (with_reducible first|exact HC6.out|refine yK.alloc ?_ _|refine yK.drew ?_|refine yK.set ?_ (by first|exact n0|exact nx) (by first|exact m0|exact mx))),(by repeat (with_reducible first|exact HT6.out|refine zB.new ?_|refine zB.drew ?_|refine zB.set ?_ (by first|exact Nat.le_refl _|exact Nat.le_add_right _ _|exact lx)))⟩
theorem zDD(w:World)(R g cap:Nat)(P:List PT)(s:St)(h:vO w R g cap P s)(h1:(zC P [97,108,119,97,121,115] s).1=false)(h2:(zC P [104,97,115] (zC P [97,108,119,97,121,115] s).2).1=false)(h3:(vS P (zN P (zC P [104,97,115] (zC P [97,108,119,97,121,115] s).2).2).2).1.isEmpty=false)(h4:isNum P (vS P (zN P (zC P [104,97,115] (zC P [97,108,119,97,121,115] s).2).2).2).2=false) :
 Calls Tryz.prog 260 #[.pointer (some ⟨R,0,none⟩)] w fun e w'=>e=.returned (jH (vF P s).1)/\vO w' R g cap P (vF P s).2/\zB w.heap.size R w w':=by
 have hR:=h.rlt;have hg:=h.glt;have n0:w.heap.size≠R:=by omega
 have m0:w.heap.size≠g:=by omega
 have HC0:=zA h;have HP:Hid (vF P s=(⟨7,0,0,(zN P (zC P [104,97,115] (zC P [97,108,119,97,121,115] s).2).2).1,(vS P (zN P (zC P [104,97,115] (zC P [97,108,119,97,121,115] s).2).2).2).1,(zN P (vS P (zN P (zC P [104,97,115] (zC P [97,108,119,97,121,115] s).2).2).2).2).1,0⟩,(zN P (vS P (zN P (zC P [104,97,115] (zC P [97,108,119,97,121,115] s).2).2).2).2).2)):=by unfold Hid vF;simp only[h1,h2,h3,h4]
 have H1:=zA h1;have H2:=zA h2;have H3:=zA h3;have H4:=zA h4;clear h h1 h2 h3 h4;have h3':=H3.out
 go_enter Tryz.func260,Tryz.ntmps260
 go_wp2_with fail
 refine(vM R g cap P _ s [97,108,119,97,121,115] (by repeat (with_reducible first|exact HC0.out|refine yK.alloc ?_ _|refine yK.drew ?_|refine yK.set ?_ (by first|exact n0) (by first|exact m0)))).mono ?_;rintro e w1 ⟨rfl,hc1,hk1⟩;rw[H1.out];have HC1:=zA hc1;have HT1:Hid (zB w.heap.size R w w1):=zB.step (by repeat (with_reducible first|exact zB.refl _ _ _|refine zB.new ?_|refine zB.drew ?_|refine zB.set ?_ (by first|exact Nat.le_refl _|exact Nat.le_add_right _ _))) hk1;have q1_0:=fun o=>hk1.cell (p:=⟨w.heap.size,o,none⟩) (by simp;try omega) n0;have r1_0:=fun o=>hk1.frozen (p:=⟨w.heap.size,o,none⟩) (by simp;try omega) n0;have z1_0:w.heap.size<w1.heap.size:=Nat.lt_of_lt_of_le (by simp;try omega) hk1.size;have b1:w1.heap[w.heap.size]? = some (.cells #[.int .i64 0,.int .i64 0,.int .i64 0,.string ⟨#[]⟩,.string ⟨#[]⟩,.string ⟨#[]⟩,.int .i64 0] 304 (0,0)):=yC (by repeat (with_reducible first|exact zS _ _|refine zQ ?_|refine yI ?_|refine xD ?_ (by first|fail|fail))) hk1 n0;clear hc1 hk1;go_wp2_with fail
 refine(vM R g cap P _ (zC P [97,108,119,97,121,115] s).2 [104,97,115] (by repeat (with_reducible first|exact HC1.out|refine yK.alloc ?_ _|refine yK.drew ?_|refine yK.set ?_ (by first|exact n0) (by first|exact m0)))).mono ?_;rintro e w2 ⟨rfl,hc2,hk2⟩;rw[H2.out];have HC2:=zA hc2;have HT2:Hid (zB w.heap.size R w w2):=zB.step (by repeat (with_reducible first|exact HT1.out|refine zB.new ?_|refine zB.drew ?_|refine zB.set ?_ (by first|exact Nat.le_refl _|exact Nat.le_add_right _ _))) hk2;have q2_0:=fun o=>hk2.cell (p:=⟨w.heap.size,o,none⟩) (by repeat (with_reducible first|exact z1_0|exact zD _ _|refine zK ?_|refine zL ?_|refine zG ?_)) n0;have r2_0:=fun o=>hk2.frozen (p:=⟨w.heap.size,o,none⟩) (by repeat (with_reducible first|exact z1_0|exact zD _ _|refine zK ?_|refine zL ?_|refine zG ?_)) n0;have z2_0:w.heap.size<w2.heap.size:=Nat.lt_of_lt_of_le (by repeat (with_reducible first|exact z1_0|exact zD _ _|refine zK ?_|refine zL ?_|refine zG ?_)) hk2.size;have b2:w2.heap[w.heap.size]? = some (.cells #[.int .i64 0,.int .i64 0,.int .i64 0,.string ⟨#[]⟩,.string ⟨#[]⟩,.string ⟨#[]⟩,.int .i64 0] 304 (0,0)):=yC (by repeat (with_reducible first|exact b1|refine zQ ?_|refine yI ?_|refine xD ?_ (by first|fail|fail))) hk2 n0;clear hc2 hk2;have nx:w2.heap.size≠R:=by have h1:=HT2.out.size;omega
 have mx:w2.heap.size≠g:=by have h1:=HT2.out.size;omega
 have lx:w.heap.size<=w2.heap.size:=HT2.out.size;have dx:w2.heap.size≠w.heap.size:=Nat.ne_of_gt z2_0;have fx:w.heap.size≠w2.heap.size:=Nat.ne_of_lt z2_0;have z2_x:True:=trivial;go_wp2_with fail
 refine(bL R g cap P _ (zC P [104,97,115] (zC P [97,108,119,97,121,115] s).2).2 (by repeat (with_reducible first|exact HC2.out|refine yK.alloc ?_ _|refine yK.drew ?_|refine yK.set ?_ (by first|exact n0|exact nx) (by first|exact m0|exact mx)))).mono ?_;rintro e w3 ⟨rfl,hc3,hk3⟩;have HC3:=zA hc3;have HT3:Hid (zB w.heap.size R w w3):=zB.step (by repeat (with_reducible first|exact HT2.out|refine zB.new ?_|refine zB.drew ?_|refine zB.set ?_ (by first|exact Nat.le_refl _|exact Nat.le_add_right _ _|exact lx))) hk3;have q3_0:=fun o=>hk3.cell (p:=⟨w.heap.size,o,none⟩) (by repeat (with_reducible first|exact z2_0|exact zD _ _|refine zK ?_|refine zL ?_|refine zG ?_)) n0;have r3_0:=fun o=>hk3.frozen (p:=⟨w.heap.size,o,none⟩) (by repeat (with_reducible first|exact z2_0|exact zD _ _|refine zK ?_|refine zL ?_|refine zG ?_)) n0;have z3_0:w.heap.size<w3.heap.size:=Nat.lt_of_lt_of_le (by repeat (with_reducible first|exact z2_0|exact zD _ _|refine zK ?_|refine zL ?_|refine zG ?_)) hk3.size;have q3_x:=fun o=>hk3.cell (p:=⟨w2.heap.size,o,none⟩) (by repeat (with_reducible first|exact z2_x|exact zD _ _|refine zK ?_|refine zL ?_|refine zG ?_)) nx;have r3_x:=fun o=>hk3.frozen (p:=⟨w2.heap.size,o,none⟩) (by repeat (with_reducible first|exact z2_x|exact zD _ _|refine zK ?_|refine zL ?_|refine zG ?_)) nx;have z3_x:w2.heap.size<w3.heap.size:=Nat.lt_of_lt_of_le (by repeat (with_reducible first|exact z2_x|exact zD _ _|refine zK ?_|refine zL ?_|refine zG ?_)) hk3.size;have b3:w3.heap[w.heap.size]? = some (.cells #[.int .i64 0,.int .i64 0,.int .i64 0,.string ⟨#[]⟩,.string ⟨#[]⟩,.string ⟨#[]⟩,.int .i64 0] 304 (0,0)):=yC (by repeat (with_reducible first|exact b2|refine zQ ?_|refine yI ?_|refine xD ?_ (by first|exact fx|fail))) hk3 n0;clear hc3 hk3;go_wp2_with fail
 refine(oT _ R g cap P (zN P (zC P [104,97,115] (zC P [97,108,119,97,121,115] s).2).2).2 (by repeat (with_reducible first|exact HC3.out|refine yK.alloc ?_ _|refine yK.drew ?_|refine yK.set ?_ (by first|exact n0|exact nx) (by first|exact m0|exact mx)))).mono ?_;rintro e w4 ⟨rfl,hc4,hk4⟩;have HC4:=zA hc4;have HT4:Hid (zB w.heap.size R w w4):=zB.step (by repeat (with_reducible first|exact HT3.out|refine zB.new ?_|refine zB.drew ?_|refine zB.set ?_ (by first|exact Nat.le_refl _|exact Nat.le_add_right _ _|exact lx))) hk4;have q4_0:=fun o=>hk4.cell (p:=⟨w.heap.size,o,none⟩) (by repeat (with_reducible first|exact z3_0|exact zD _ _|refine zK ?_|refine zL ?_|refine zG ?_)) n0;have r4_0:=fun o=>hk4.frozen (p:=⟨w.heap.size,o,none⟩) (by repeat (with_reducible first|exact z3_0|exact zD _ _|refine zK ?_|refine zL ?_|refine zG ?_)) n0;have z4_0:w.heap.size<w4.heap.size:=Nat.lt_of_lt_of_le (by repeat (with_reducible first|exact z3_0|exact zD _ _|refine zK ?_|refine zL ?_|refine zG ?_)) hk4.size;have q4_x:=fun o=>hk4.cell (p:=⟨w2.heap.size,o,none⟩) (by repeat (with_reducible first|exact z3_x|exact zD _ _|refine zK ?_|refine zL ?_|refine zG ?_)) nx;have r4_x:=fun o=>hk4.frozen (p:=⟨w2.heap.size,o,none⟩) (by repeat (with_reducible first|exact z3_x|exact zD _ _|refine zK ?_|refine zL ?_|refine zG ?_)) nx;have z4_x:w2.heap.size<w4.heap.size:=Nat.lt_of_lt_of_le (by repeat (with_reducible first|exact z3_x|exact zD _ _|refine zK ?_|refine zL ?_|refine zG ?_)) hk4.size;have b4:w4.heap[w.heap.size]? = some (.cells #[.int .i64 0,.int .i64 0,.int .i64 0,.string ⟨#[]⟩,.string ⟨#[]⟩,.string ⟨#[]⟩,.int .i64 0] 304 (0,0)):=yC (by repeat (with_reducible first|exact b3|refine zQ ?_|refine yI ?_|refine xD ?_ (by first|exact fx|fail))) hk4 n0;clear hc4 hk4;go_wp2_with fail
 refine(iF R g cap P _ (vS P (zN P (zC P [104,97,115] (zC P [97,108,119,97,121,115] s).2).2).2).2 3 (by repeat (with_reducible first|exact HC4.out|refine yK.alloc ?_ _|refine yK.drew ?_|refine yK.set ?_ (by first|exact n0|exact nx) (by first|exact m0|exact mx)))).mono ?_;rintro e w5 ⟨rfl,hc5,hk5⟩;rw[show ((yP P (vS P (zN P (zC P [104,97,115] (zC P [97,108,119,97,121,115] s).2).2).2).2.1).k==3)=false from H4.out];have HC5:=zA hc5;have HT5:Hid (zB w.heap.size R w w5):=zB.step (by repeat (with_reducible first|exact HT4.out|refine zB.new ?_|refine zB.drew ?_|refine zB.set ?_ (by first|exact Nat.le_refl _|exact Nat.le_add_right _ _|exact lx))) hk5;have q5_0:=fun o=>hk5.cell (p:=⟨w.heap.size,o,none⟩) (by repeat (with_reducible first|exact z4_0|exact zD _ _|refine zK ?_|refine zL ?_|refine zG ?_)) n0;have r5_0:=fun o=>hk5.frozen (p:=⟨w.heap.size,o,none⟩) (by repeat (with_reducible first|exact z4_0|exact zD _ _|refine zK ?_|refine zL ?_|refine zG ?_)) n0;have z5_0:w.heap.size<w5.heap.size:=Nat.lt_of_lt_of_le (by repeat (with_reducible first|exact z4_0|exact zD _ _|refine zK ?_|refine zL ?_|refine zG ?_)) hk5.size;have q5_x:=fun o=>hk5.cell (p:=⟨w2.heap.size,o,none⟩) (by repeat (with_reducible first|exact z4_x|exact zD _ _|refine zK ?_|refine zL ?_|refine zG ?_)) nx;have r5_x:=fun o=>hk5.frozen (p:=⟨w2.heap.size,o,none⟩) (by repeat (with_reducible first|exact z4_x|exact zD _ _|refine zK ?_|refine zL ?_|refine zG ?_)) nx;have z5_x:w2.heap.size<w5.heap.size:=Nat.lt_of_lt_of_le (by repeat (with_reducible first|exact z4_x|exact zD _ _|refine zK ?_|refine zL ?_|refine zG ?_)) hk5.size;have b5:w5.heap[w.heap.size]? = some (.cells #[.int .i64 0,.int .i64 0,.int .i64 0,.string ⟨#[]⟩,.string ⟨#[]⟩,.string ⟨#[]⟩,.int .i64 0] 304 (0,0)):=yC (by repeat (with_reducible first|exact b4|refine zQ ?_|refine yI ?_|refine xD ?_ (by first|exact fx|fail))) hk5 n0;clear hc5 hk5;go_wp2_with fail
 refine(bL R g cap P _ (vS P (zN P (zC P [104,97,115] (zC P [97,108,119,97,121,115] s).2).2).2).2 (by repeat (with_reducible first|exact HC5.out|refine yK.alloc ?_ _|refine yK.drew ?_|refine yK.set ?_ (by first|exact n0|exact nx) (by first|exact m0|exact mx)))).mono ?_;rintro e w6 ⟨rfl,hc6,hk6⟩;have HC6:=zA hc6;have HT6:Hid (zB w.heap.size R w w6):=zB.step (by repeat (with_reducible first|exact HT5.out|refine zB.new ?_|refine zB.drew ?_|refine zB.set ?_ (by first|exact Nat.le_refl _|exact Nat.le_add_right _ _|exact lx))) hk6;have q6_0:=fun o=>hk6.cell (p:=⟨w.heap.size,o,none⟩) (by repeat (with_reducible first|exact z5_0|exact zD _ _|refine zK ?_|refine zL ?_|refine zG ?_)) n0;have r6_0:=fun o=>hk6.frozen (p:=⟨w.heap.size,o,none⟩) (by repeat (with_reducible first|exact z5_0|exact zD _ _|refine zK ?_|refine zL ?_|refine zG ?_)) n0;have z6_0:w.heap.size<w6.heap.size:=Nat.lt_of_lt_of_le (by repeat (with_reducible first|exact z5_0|exact zD _ _|refine zK ?_|refine zL ?_|refine zG ?_)) hk6.size;have q6_x:=fun o=>hk6.cell (p:=⟨w2.heap.size,o,none⟩) (by repeat (with_reducible first|exact z5_x|exact zD _ _|refine zK ?_|refine zL ?_|refine zG ?_)) nx;have r6_x:=fun o=>hk6.frozen (p:=⟨w2.heap.size,o,none⟩) (by repeat (with_reducible first|exact z5_x|exact zD _ _|refine zK ?_|refine zL ?_|refine zG ?_)) nx;have z6_x:w2.heap.size<w6.heap.size:=Nat.lt_of_lt_of_le (by repeat (with_reducible first|exact z5_x|exact zD _ _|refine zK ?_|refine zL ?_|refine zG ?_)) hk6.size;have b6:w6.heap[w.heap.size]? = some (.cells #[.int .i64 0,.int .i64 0,.int .i64 0,.string ⟨#[]⟩,.string ⟨#[]⟩,.string ⟨#[]⟩,.int .i64 0] 304 (0,0)):=yC (by repeat (with_reducible first|exact b5|refine zQ ?_|refine yI ?_|refine xD ?_ (by first|exact fx|fail))) hk6 n0;clear hc6 hk6;go_wp2_with fail
 have cz6:=fun j=>cell_of_row _ _ j _ _ _ b6;refine bodyPost_ret (v:=jH ⟨7,0,0,(zN P (zC P [104,97,115] (zC P [97,108,119,97,121,115] s).2).2).1,(vS P (zN P (zC P [104,97,115] (zC P [97,108,119,97,121,115] s).2).2).2).1,(zN P (vS P (zN P (zC P [104,97,115] (zC P [97,108,119,97,121,115] s).2).2).2).2).1,0⟩) (by simp (maxDischargeDepth:=8) [results,Tryz.results260,go_sem,jH,cz6]) rfl ⟨by rw[HP.out],by rw[HP.out];exact(by repeat (with_reducible first|exact HC6.out|refine yK.alloc ?_ _|refine yK.drew ?_|refine yK.set ?_ (by first|exact n0|exact nx) (by first|exact m0|exact mx))),(by repeat (with_reducible first|exact HT6.out|refine zB.new ?_|refine zB.drew ?_|refine zB.set ?_ (by first|exact Nat.le_refl _|exact Nat.le_add_right _ _|exact lx)))⟩
theorem GW(w:World)(R g cap:Nat)(P:List PT)(s:St)(h:vO w R g cap P s) :
 Calls Tryz.prog 260 #[.pointer (some ⟨R,0,none⟩)] w fun e w'=>e=.returned (jH (vF P s).1)/\vO w' R g cap P (vF P s).2/\zB w.heap.size R w w':=by
 cases h1:(zC P [97,108,119,97,121,115] s).1
 ·cases h2:(zC P [104,97,115] (zC P [97,108,119,97,121,115] s).2).1
  ·cases h3:(vS P (zN P (zC P [104,97,115] (zC P [97,108,119,97,121,115] s).2).2).2).1.isEmpty
   ·cases h4:isNum P (vS P (zN P (zC P [104,97,115] (zC P [97,108,119,97,121,115] s).2).2).2).2
    ·exact zDD w R g cap P s h h1 h2 h3 h4
    ·exact zDE w R g cap P s h h1 h2 h3 h4
   ·exact zDF w R g cap P s h h1 h2 h3
  ·exact zDG w R g cap P s h h1 h2
 ·exact zDH w R g cap P s h h1
end Go.Proofs.YtnbpdffdnphbeaaGreatDoor
