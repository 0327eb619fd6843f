import Derived.Test.YtnbpdffdnphbeabGreatDoorPars
import Derived.Deep.RegionLaw
set_option maxHeartbeats 1000000
namespace Go.Proofs.YtnbpdffdnphbeabGreatDoor
open Go.RowKit
variable{dep tests root:Int}{k G R:Nat}{x:Obj}{v:Value}{w1 w' w:World}
def eD:List Bs:=[[60],[60,61],[61],[33,61],[62,61],[62]]
def vQ(P:List PT)(s:St):Bs × St :=
 match eD.contains (yK P s.1).s with
 | true=>match (zD P (yK P s.1).s s).1 with
   | true=>((yK P s.1).s,(zD P (yK P s.1).s s).2)
   | false=>([],(zD P (yK P s.1).s s).2)
 | false=>([],s)
theorem nL(w:World)(R g cap:Nat)(P:List PT)(s:St)(h:xX w R g cap P s) :
 Calls Tryz.prog 192 #[.pointer (some ⟨R,0,none⟩)] w fun e w'=>e=.returned (.string ⟨(vQ P s).1.toArray⟩)/\xX w' R g cap P (vQ P s).2/\zC w.heap.size R w w':=by
 obtain⟨c0,c1,_⟩:=h.cells;obtain⟨_,t1,_,_⟩:=h.tok s.1 h.at';have i1:(0:Int)<=(s.1:Int):=by omega
 have i2:(s.1:Int)<(P.length:Int):=by have:=h.at';omega
 have HC:=zA h;have HP:Hid (vQ P s=match eD.contains (yK P s.1).s with|true=>(match (zD P (yK P s.1).s s).1 with|true=>((yK P s.1).s,(zD P (yK P s.1).s s).2)|false=>([],(zD P (yK P s.1).s s).2))|false=>([],s)):=rfl;generalize (yK P s.1).s=x at *;generalize vQ P s=F at *;clear h;by_cases c0':x=[60]
 ·subst c0'
  have hP:=HP.out;rw[show eD.contains [60]=true from by decide]at hP;have HP2:=zA hP;clear HP hP
  go_enter Tryz.func192,Tryz.ntmps192
  go_wp2_with fail
  go_region_held3 (fun w'=>w'.cell? ⟨R,0,none⟩=some (.slice (some ⟨g,0,none⟩) P.length cap)/\w'.cell? ⟨R,1,none⟩=some (.int .i64 s.1)/\w'.cell? ⟨g,s.1*4+1,none⟩=some (.string ⟨[60].toArray⟩)) (go_keep) (fail)
  go_wp2_with fail
  refine(xU R g cap P _ s [60] (yE.drew HC.out)).mono ?_;rintro e w1 ⟨rfl,hc1,hk1⟩;have HC1:=zA hc1;have HK1:Hid (zC w.heap.size R w w1):=zC.step (zC.drew (zC.refl _ _ _)) hk1;clear hc1 hk1;cases hs:(zD P [60] s).1
  ·have hP:=HP2.out
   simp only[hs]at hP;have HP3:=zA hP;clear HP2 hP hs;go_wp2_with fail
   go_ret
   exact⟨jX (by rw[HP3.out]),by rw[HP3.out];exact HC1.out,HK1.out⟩
  ·have hP:=HP2.out
   simp only[hs]at hP;have HP3:=zA hP;clear HP2 hP hs;go_wp2_with fail
   go_ret
   exact⟨jX (by rw[HP3.out]),by rw[HP3.out];exact HC1.out,HK1.out⟩
 by_cases c1':x=[60,61]
 ·subst c1'
  have hP:=HP.out;rw[show eD.contains [60,61]=true from by decide]at hP;have HP2:=zA hP;clear HP hP
  go_enter Tryz.func192,Tryz.ntmps192
  go_wp2_with fail
  go_region_held3 (fun w'=>w'.cell? ⟨R,0,none⟩=some (.slice (some ⟨g,0,none⟩) P.length cap)/\w'.cell? ⟨R,1,none⟩=some (.int .i64 s.1)/\w'.cell? ⟨g,s.1*4+1,none⟩=some (.string ⟨[60,61].toArray⟩)) (go_keep) (fail)
  go_wp2_with fail
  refine(xU R g cap P _ s [60,61] (yE.drew HC.out)).mono ?_;rintro e w1 ⟨rfl,hc1,hk1⟩;have HC1:=zA hc1;have HK1:Hid (zC w.heap.size R w w1):=zC.step (zC.drew (zC.refl _ _ _)) hk1;clear hc1 hk1;cases hs:(zD P [60,61] s).1
  ·have hP:=HP2.out
   simp only[hs]at hP;have HP3:=zA hP;clear HP2 hP hs;go_wp2_with fail
   go_ret
   exact⟨jX (by rw[HP3.out]),by rw[HP3.out];exact HC1.out,HK1.out⟩
  ·have hP:=HP2.out
   simp only[hs]at hP;have HP3:=zA hP;clear HP2 hP hs;go_wp2_with fail
   go_ret
   exact⟨jX (by rw[HP3.out]),by rw[HP3.out];exact HC1.out,HK1.out⟩
 by_cases c2':x=[61]
 ·subst c2'
  have hP:=HP.out;rw[show eD.contains [61]=true from by decide]at hP;have HP2:=zA hP;clear HP hP
  go_enter Tryz.func192,Tryz.ntmps192
  go_wp2_with fail
  go_region_held3 (fun w'=>w'.cell? ⟨R,0,none⟩=some (.slice (some ⟨g,0,none⟩) P.length cap)/\w'.cell? ⟨R,1,none⟩=some (.int .i64 s.1)/\w'.cell? ⟨g,s.1*4+1,none⟩=some (.string ⟨[61].toArray⟩)) (go_keep) (fail)
  go_wp2_with fail
  refine(xU R g cap P _ s [61] (yE.drew HC.out)).mono ?_;rintro e w1 ⟨rfl,hc1,hk1⟩;have HC1:=zA hc1;have HK1:Hid (zC w.heap.size R w w1):=zC.step (zC.drew (zC.refl _ _ _)) hk1;clear hc1 hk1;cases hs:(zD P [61] s).1
  ·have hP:=HP2.out
   simp only[hs]at hP;have HP3:=zA hP;clear HP2 hP hs;go_wp2_with fail
   go_ret
   exact⟨jX (by rw[HP3.out]),by rw[HP3.out];exact HC1.out,HK1.out⟩
  ·have hP:=HP2.out
   simp only[hs]at hP;have HP3:=zA hP;clear HP2 hP hs;go_wp2_with fail
   go_ret
   exact⟨jX (by rw[HP3.out]),by rw[HP3.out];exact HC1.out,HK1.out⟩
 by_cases c3':x=[33,61]
 ·subst c3'
  have hP:=HP.out;rw[show eD.contains [33,61]=true from by decide]at hP;have HP2:=zA hP;clear HP hP
  go_enter Tryz.func192,Tryz.ntmps192
  go_wp2_with fail
  go_region_held3 (fun w'=>w'.cell? ⟨R,0,none⟩=some (.slice (some ⟨g,0,none⟩) P.length cap)/\w'.cell? ⟨R,1,none⟩=some (.int .i64 s.1)/\w'.cell? ⟨g,s.1*4+1,none⟩=some (.string ⟨[33,61].toArray⟩)) (go_keep) (fail)
  go_wp2_with fail
  refine(xU R g cap P _ s [33,61] (yE.drew HC.out)).mono ?_;rintro e w1 ⟨rfl,hc1,hk1⟩;have HC1:=zA hc1;have HK1:Hid (zC w.heap.size R w w1):=zC.step (zC.drew (zC.refl _ _ _)) hk1;clear hc1 hk1;cases hs:(zD P [33,61] s).1
  ·have hP:=HP2.out
   simp only[hs]at hP;have HP3:=zA hP;clear HP2 hP hs;go_wp2_with fail
   go_ret
   exact⟨jX (by rw[HP3.out]),by rw[HP3.out];exact HC1.out,HK1.out⟩
  ·have hP:=HP2.out
   simp only[hs]at hP;have HP3:=zA hP;clear HP2 hP hs;go_wp2_with fail
   go_ret
   exact⟨jX (by rw[HP3.out]),by rw[HP3.out];exact HC1.out,HK1.out⟩
 by_cases c4':x=[62,61]
 ·subst c4'
  have hP:=HP.out;rw[show eD.contains [62,61]=true from by decide]at hP;have HP2:=zA hP;clear HP hP
  go_enter Tryz.func192,Tryz.ntmps192
  go_wp2_with fail
  go_region_held3 (fun w'=>w'.cell? ⟨R,0,none⟩=some (.slice (some ⟨g,0,none⟩) P.length cap)/\w'.cell? ⟨R,1,none⟩=some (.int .i64 s.1)/\w'.cell? ⟨g,s.1*4+1,none⟩=some (.string ⟨[62,61].toArray⟩)) (go_keep) (fail)
  go_wp2_with fail
  refine(xU R g cap P _ s [62,61] (yE.drew HC.out)).mono ?_;rintro e w1 ⟨rfl,hc1,hk1⟩;have HC1:=zA hc1;have HK1:Hid (zC w.heap.size R w w1):=zC.step (zC.drew (zC.refl _ _ _)) hk1;clear hc1 hk1;cases hs:(zD P [62,61] s).1
  ·have hP:=HP2.out
   simp only[hs]at hP;have HP3:=zA hP;clear HP2 hP hs;go_wp2_with fail
   go_ret
   exact⟨jX (by rw[HP3.out]),by rw[HP3.out];exact HC1.out,HK1.out⟩
  ·have hP:=HP2.out
   simp only[hs]at hP;have HP3:=zA hP;clear HP2 hP hs;go_wp2_with fail
   go_ret
   exact⟨jX (by rw[HP3.out]),by rw[HP3.out];exact HC1.out,HK1.out⟩
 by_cases c5':x=[62]
 ·subst c5'
  have hP:=HP.out;rw[show eD.contains [62]=true from by decide]at hP;have HP2:=zA hP;clear HP hP
  go_enter Tryz.func192,Tryz.ntmps192
  go_wp2_with fail
  go_region_held3 (fun w'=>w'.cell? ⟨R,0,none⟩=some (.slice (some ⟨g,0,none⟩) P.length cap)/\w'.cell? ⟨R,1,none⟩=some (.int .i64 s.1)/\w'.cell? ⟨g,s.1*4+1,none⟩=some (.string ⟨[62].toArray⟩)) (go_keep) (fail)
  go_wp2_with fail
  refine(xU R g cap P _ s [62] (yE.drew HC.out)).mono ?_;rintro e w1 ⟨rfl,hc1,hk1⟩;have HC1:=zA hc1;have HK1:Hid (zC w.heap.size R w w1):=zC.step (zC.drew (zC.refl _ _ _)) hk1;clear hc1 hk1;cases hs:(zD P [62] s).1
  ·have hP:=HP2.out
   simp only[hs]at hP;have HP3:=zA hP;clear HP2 hP hs;go_wp2_with fail
   go_ret
   exact⟨jX (by rw[HP3.out]),by rw[HP3.out];exact HC1.out,HK1.out⟩
  ·have hP:=HP2.out
   simp only[hs]at hP;have HP3:=zA hP;clear HP2 hP hs;go_wp2_with fail
   go_ret
   exact⟨jX (by rw[HP3.out]),by rw[HP3.out];exact HC1.out,HK1.out⟩
 have hP:=HP.out;rw[show eD.contains x=false from by simp[eD,c0',c1',c2',c3',c4',c5']]at hP;have HP2:Hid (F=([],s)):=hP;clear HP hP;have b0:(x==[60])=false:=by simpa using c0'
 have b1:(x==[60,61])=false:=by simpa using c1'
 have b2:(x==[61])=false:=by simpa using c2'
 have b3:(x==[33,61])=false:=by simpa using c3'
 have b4:(x==[62,61])=false:=by simpa using c4'
 have b5:(x==[62])=false:=by simpa using c5'
 clear c0' c1' c2' c3' c4' c5'
 go_enter Tryz.func192,Tryz.ntmps192
 go_wp2_with fail
 go_region_held3 (fun w'=>w'.cell? ⟨R,0,none⟩=some (.slice (some ⟨g,0,none⟩) P.length cap)/\w'.cell? ⟨R,1,none⟩=some (.int .i64 s.1)/\w'.cell? ⟨g,s.1*4+1,none⟩=some (.string ⟨x.toArray⟩)) (go_keep) (fail)
 go_wp2_with fail
 go_ret
 exact⟨jX (by rw[HP2.out]),by rw[HP2.out];exact yE.drew HC.out,zC.drew (zC.refl _ _ _)⟩
theorem zG(w:World)(o:Obj):(w.alloc o).heap[w.heap.size]? = some o:=heap_alloc_new w o
theorem zS{o:Obj}(h:w.heap[k]? = some x):(w.alloc o).heap[k]? = some x:=by
 have hk:k<w.heap.size:=by
  rcases md k w.heap.size with h1|h1
  ·exact h1
  ·rw[mc h1]at h;cases h
 rw[li _ _ _ hk];exact h
theorem tU(h:w.heap[k]? = some x):w.drew.heap[k]? = some x:=h
theorem qO{b o:Nat}{u:Value}(h:w.heap[k]? = some x)(zL4:k≠b):(w.setCell ⟨b,o,none⟩ u).heap[k]? = some x:=by
 rw[lk _ _ _ _ zL4];exact h
theorem zY{W:World}(h:W.heap[k]? = some x)(hk:zC W.heap.size R W w1)(zL4:k≠R):w1.heap[k]? = some x:=by
 have zKZ:k<W.heap.size:=by
  rcases md k W.heap.size with h1|h1
  ·exact h1
  ·rw[mc h1]at h;cases h
 rw[hk.block k zKZ zL4];exact h
structure zT where
 kind:Int
 left:Int
 right:Int
 name:Bs
 mark:Bs
 other:Bs
 num:Int
def kO(x:zT):Value:=.agg #[.int .i64 x.kind,.int .i64 x.left,.int .i64 x.right,.string ⟨x.name.toArray⟩,.string ⟨x.mark.toArray⟩,.string ⟨x.other.toArray⟩,.int .i64 x.num]
def vU(P:List PT)(s:St):zT × St :=
 match (zD P [97,108,119,97,121,115] s).1 with
 | true=>(⟨4,0,0,[],[],[],0⟩,(zD P [97,108,119,97,121,115] s).2)
 | false =>
   match (zD P [104,97,115] (zD P [97,108,119,97,121,115] s).2).1 with
   | true=>(⟨5,0,0,(zI P (zD P [104,97,115] (zD P [97,108,119,97,121,115] s).2).2).1,[],[],0⟩,(zI P (zD P [104,97,115] (zD P [97,108,119,97,121,115] s).2).2).2)
   | false =>
     match (vQ P (zI P (zD P [104,97,115] (zD P [97,108,119,97,121,115] s).2).2).2).1.isEmpty with
     | true=>(⟨6,0,0,(zI P (zD P [104,97,115] (zD P [97,108,119,97,121,115] s).2).2).1,[],[],0⟩,(vQ P (zI P (zD P [104,97,115] (zD P [97,108,119,97,121,115] s).2).2).2).2)
     | false =>
       match isNum P (vQ P (zI P (zD P [104,97,115] (zD P [97,108,119,97,121,115] s).2).2).2).2 with
       | true=>(⟨7,0,0,(zI P (zD P [104,97,115] (zD P [97,108,119,97,121,115] s).2).2).1,(vQ P (zI P (zD P [104,97,115] (zD P [97,108,119,97,121,115] s).2).2).2).1,[],(yG P (vQ P (zI P (zD P [104,97,115] (zD P [97,108,119,97,121,115] s).2).2).2).2).1⟩,(yG P (vQ P (zI P (zD P [104,97,115] (zD P [97,108,119,97,121,115] s).2).2).2).2).2)
       | false=>(⟨7,0,0,(zI P (zD P [104,97,115] (zD P [97,108,119,97,121,115] s).2).2).1,(vQ P (zI P (zD P [104,97,115] (zD P [97,108,119,97,121,115] s).2).2).2).1,(zI P (vQ P (zI P (zD P [104,97,115] (zD P [97,108,119,97,121,115] s).2).2).2).2).1,0⟩,(zI P (vQ P (zI P (zD P [104,97,115] (zD P [97,108,119,97,121,115] s).2).2).2).2).2)
theorem zHF(w:World)(R g cap:Nat)(P:List PT)(s:St)(h:xX w R g cap P s)(h1:(zD P [97,108,119,97,121,115] s).1=true) :
 Calls Tryz.prog 191 #[.pointer (some ⟨R,0,none⟩)] w fun e w'=>e=.returned (kO (vU P s).1)/\xX w' R g cap P (vU P s).2/\zC w.heap.size R w w':=by
 have hR:=h.rlt;have hg:=h.glt;have n0:w.heap.size≠R:=by omega
 have m0:w.heap.size≠g:=by omega
 have HC0:=zA h;have HP:Hid (vU P s=(⟨4,0,0,[],[],[],0⟩,(zD P [97,108,119,97,121,115] s).2)):=by unfold Hid vU;simp only[h1]
 have H1:=zA h1;clear h h1
 go_enter Tryz.func191,Tryz.ntmps191
 go_wp2_with fail
 refine(xU R g cap P _ s [97,108,119,97,121,115] (yE.alloc HC0.out _)).mono ?_;rintro e w1 ⟨rfl,hc1,hk1⟩;rw[H1.out];have HC1:=zA hc1;have HT1:Hid (zC w.heap.size R w w1):=zC.step (zC.new (zC.refl _ _ _)) hk1;have q1_0:=fun o=>hk1.cell (p:=⟨w.heap.size,o,none⟩) (by simp;try omega) n0;have r1_0:=fun o=>hk1.frozen (p:=⟨w.heap.size,o,none⟩) (by simp;try omega) n0;have z1_0:w.heap.size<w1.heap.size:=tj (by simp;try omega) hk1.size;have b1:w1.heap[w.heap.size]? = some (.cells #[.int .i64 0,.int .i64 0,.int .i64 0,.string ⟨#[]⟩,.string ⟨#[]⟩,.string ⟨#[]⟩,.int .i64 0] 238 (0,0)):=zY (zG _ _) hk1 n0;clear hc1 hk1;go_wp2_with fail
 have cz1:=fun j=>fd _ _ j _ _ _ b1;refine pe (v:=kO ⟨4,0,0,[],[],[],0⟩) (by simp (maxDischargeDepth:=8) [results,Tryz.results191,go_sem,kO,cz1]) rfl ⟨by rw[HP.out],by rw[HP.out];exact(yE.set (yE.set (yE.set (yE.set (yE.set (yE.set (yE.set HC1.out n0 m0) n0 m0) n0 m0) n0 m0) n0 m0) n0 m0) n0 m0),(zC.set (zC.set (zC.set (zC.set (zC.set (zC.set (zC.set HT1.out (j1 _)) (j1 _)) (j1 _)) (j1 _)) (j1 _)) (j1 _)) (j1 _))⟩
theorem zHE(w:World)(R g cap:Nat)(P:List PT)(s:St)(h:xX w R g cap P s)(h1:(zD P [97,108,119,97,121,115] s).1=false)(h2:(zD P [104,97,115] (zD P [97,108,119,97,121,115] s).2).1=true) :
 Calls Tryz.prog 191 #[.pointer (some ⟨R,0,none⟩)] w fun e w'=>e=.returned (kO (vU P s).1)/\xX w' R g cap P (vU P s).2/\zC w.heap.size R w w':=by
 have hR:=h.rlt;have hg:=h.glt;have n0:w.heap.size≠R:=by omega
 have m0:w.heap.size≠g:=by omega
 have HC0:=zA h;have HP:Hid (vU P s=(⟨5,0,0,(zI P (zD P [104,97,115] (zD P [97,108,119,97,121,115] s).2).2).1,[],[],0⟩,(zI P (zD P [104,97,115] (zD P [97,108,119,97,121,115] s).2).2).2)):=by unfold Hid vU;simp only[h1,h2]
 have H1:=zA h1;have H2:=zA h2;clear h h1 h2
 go_enter Tryz.func191,Tryz.ntmps191
 go_wp2_with fail
 refine(xU R g cap P _ s [97,108,119,97,121,115] (yE.alloc HC0.out _)).mono ?_;rintro e w1 ⟨rfl,hc1,hk1⟩;rw[H1.out];have HC1:=zA hc1;have HT1:Hid (zC w.heap.size R w w1):=zC.step (zC.new (zC.refl _ _ _)) hk1;have q1_0:=fun o=>hk1.cell (p:=⟨w.heap.size,o,none⟩) (by simp;try omega) n0;have r1_0:=fun o=>hk1.frozen (p:=⟨w.heap.size,o,none⟩) (by simp;try omega) n0;have z1_0:w.heap.size<w1.heap.size:=tj (by simp;try omega) hk1.size;have b1:w1.heap[w.heap.size]? = some (.cells #[.int .i64 0,.int .i64 0,.int .i64 0,.string ⟨#[]⟩,.string ⟨#[]⟩,.string ⟨#[]⟩,.int .i64 0] 238 (0,0)):=zY (zG _ _) hk1 n0;clear hc1 hk1;go_wp2_with fail
 refine(xU R g cap P _ (zD P [97,108,119,97,121,115] s).2 [104,97,115] HC1.out).mono ?_;rintro e w2 ⟨rfl,hc2,hk2⟩;rw[H2.out];have HC2:=zA hc2;have HT2:Hid (zC w.heap.size R w w2):=zC.step HT1.out hk2;have q2_0:=fun o=>hk2.cell (p:=⟨w.heap.size,o,none⟩) z1_0 n0;have r2_0:=fun o=>hk2.frozen (p:=⟨w.heap.size,o,none⟩) z1_0 n0;have z2_0:w.heap.size<w2.heap.size:=tj z1_0 hk2.size;have b2:w2.heap[w.heap.size]? = some (.cells #[.int .i64 0,.int .i64 0,.int .i64 0,.string ⟨#[]⟩,.string ⟨#[]⟩,.string ⟨#[]⟩,.int .i64 0] 238 (0,0)):=zY b1 hk2 n0;clear hc2 hk2;go_wp2_with fail
 refine(mZ R g cap P _ (zD P [104,97,115] (zD P [97,108,119,97,121,115] s).2).2 HC2.out).mono ?_;rintro e w3 ⟨rfl,hc3,hk3⟩;have HC3:=zA hc3;have HT3:Hid (zC w.heap.size R w w3):=zC.step HT2.out hk3;have q3_0:=fun o=>hk3.cell (p:=⟨w.heap.size,o,none⟩) z2_0 n0;have r3_0:=fun o=>hk3.frozen (p:=⟨w.heap.size,o,none⟩) z2_0 n0;have z3_0:w.heap.size<w3.heap.size:=tj z2_0 hk3.size;have b3:w3.heap[w.heap.size]? = some (.cells #[.int .i64 0,.int .i64 0,.int .i64 0,.string ⟨#[]⟩,.string ⟨#[]⟩,.string ⟨#[]⟩,.int .i64 0] 238 (0,0)):=zY b2 hk3 n0;clear hc3 hk3;go_wp2_with fail
 have cz3:=fun j=>fd _ _ j _ _ _ b3;refine pe (v:=kO ⟨5,0,0,(zI P (zD P [104,97,115] (zD P [97,108,119,97,121,115] s).2).2).1,[],[],0⟩) (by simp (maxDischargeDepth:=8) [results,Tryz.results191,go_sem,kO,cz3]) rfl ⟨by rw[HP.out],by rw[HP.out];exact(yE.set (yE.set (yE.set (yE.set (yE.set (yE.set (yE.set HC3.out n0 m0) n0 m0) n0 m0) n0 m0) n0 m0) n0 m0) n0 m0),(zC.set (zC.set (zC.set (zC.set (zC.set (zC.set (zC.set HT3.out (j1 _)) (j1 _)) (j1 _)) (j1 _)) (j1 _)) (j1 _)) (j1 _))⟩
theorem zHD(w:World)(R g cap:Nat)(P:List PT)(s:St)(h:xX w R g cap P s)(h1:(zD P [97,108,119,97,121,115] s).1=false)(h2:(zD P [104,97,115] (zD P [97,108,119,97,121,115] s).2).1=false)(h3:(vQ P (zI P (zD P [104,97,115] (zD P [97,108,119,97,121,115] s).2).2).2).1.isEmpty=true) :
 Calls Tryz.prog 191 #[.pointer (some ⟨R,0,none⟩)] w fun e w'=>e=.returned (kO (vU P s).1)/\xX w' R g cap P (vU P s).2/\zC w.heap.size R w w':=by
 have hR:=h.rlt;have hg:=h.glt;have n0:w.heap.size≠R:=by omega
 have m0:w.heap.size≠g:=by omega
 have HC0:=zA h;have HP:Hid (vU P s=(⟨6,0,0,(zI P (zD P [104,97,115] (zD P [97,108,119,97,121,115] s).2).2).1,[],[],0⟩,(vQ P (zI P (zD P [104,97,115] (zD P [97,108,119,97,121,115] s).2).2).2).2)):=by unfold Hid vU;simp only[h1,h2,h3]
 have H1:=zA h1;have H2:=zA h2;have H3:=zA h3;clear h h1 h2 h3;have h3':=H3.out
 go_enter Tryz.func191,Tryz.ntmps191
 go_wp2_with fail
 refine(xU R g cap P _ s [97,108,119,97,121,115] (yE.alloc HC0.out _)).mono ?_;rintro e w1 ⟨rfl,hc1,hk1⟩;rw[H1.out];have HC1:=zA hc1;have HT1:Hid (zC w.heap.size R w w1):=zC.step (zC.new (zC.refl _ _ _)) hk1;have q1_0:=fun o=>hk1.cell (p:=⟨w.heap.size,o,none⟩) (by simp;try omega) n0;have r1_0:=fun o=>hk1.frozen (p:=⟨w.heap.size,o,none⟩) (by simp;try omega) n0;have z1_0:w.heap.size<w1.heap.size:=tj (by simp;try omega) hk1.size;have b1:w1.heap[w.heap.size]? = some (.cells #[.int .i64 0,.int .i64 0,.int .i64 0,.string ⟨#[]⟩,.string ⟨#[]⟩,.string ⟨#[]⟩,.int .i64 0] 238 (0,0)):=zY (zG _ _) hk1 n0;clear hc1 hk1;go_wp2_with fail
 refine(xU R g cap P _ (zD P [97,108,119,97,121,115] s).2 [104,97,115] HC1.out).mono ?_;rintro e w2 ⟨rfl,hc2,hk2⟩;rw[H2.out];have HC2:=zA hc2;have HT2:Hid (zC w.heap.size R w w2):=zC.step HT1.out hk2;have q2_0:=fun o=>hk2.cell (p:=⟨w.heap.size,o,none⟩) z1_0 n0;have r2_0:=fun o=>hk2.frozen (p:=⟨w.heap.size,o,none⟩) z1_0 n0;have z2_0:w.heap.size<w2.heap.size:=tj z1_0 hk2.size;have b2:w2.heap[w.heap.size]? = some (.cells #[.int .i64 0,.int .i64 0,.int .i64 0,.string ⟨#[]⟩,.string ⟨#[]⟩,.string ⟨#[]⟩,.int .i64 0] 238 (0,0)):=zY b1 hk2 n0;clear hc2 hk2;have nx:w2.heap.size≠R:=by have h1:=HT2.out.size;omega
 have mx:w2.heap.size≠g:=by have h1:=HT2.out.size;omega
 have lx:w.heap.size<=w2.heap.size:=HT2.out.size;have dx:w2.heap.size≠w.heap.size:=fk z2_0;have fx:w.heap.size≠w2.heap.size:=Nat.ne_of_lt z2_0;have z2_x:True:=trivial;go_wp2_with fail
 refine(mZ R g cap P _ (zD P [104,97,115] (zD P [97,108,119,97,121,115] s).2).2 (yE.alloc HC2.out _)).mono ?_;rintro e w3 ⟨rfl,hc3,hk3⟩;have HC3:=zA hc3;have HT3:Hid (zC w.heap.size R w w3):=zC.step (zC.new HT2.out) hk3;have q3_0:=fun o=>hk3.cell (p:=⟨w.heap.size,o,none⟩) (nE z2_0) n0;have r3_0:=fun o=>hk3.frozen (p:=⟨w.heap.size,o,none⟩) (nE z2_0) n0;have z3_0:w.heap.size<w3.heap.size:=tj (nE z2_0) hk3.size;have q3_x:=fun o=>hk3.cell (p:=⟨w2.heap.size,o,none⟩) (zV _ _) nx;have r3_x:=fun o=>hk3.frozen (p:=⟨w2.heap.size,o,none⟩) (zV _ _) nx;have z3_x:w2.heap.size<w3.heap.size:=tj (zV _ _) hk3.size;have b3:w3.heap[w.heap.size]? = some (.cells #[.int .i64 0,.int .i64 0,.int .i64 0,.string ⟨#[]⟩,.string ⟨#[]⟩,.string ⟨#[]⟩,.int .i64 0] 238 (0,0)):=zY (zS b2) hk3 n0;clear hc3 hk3;go_wp2_with fail
 refine(nL _ R g cap P (zI P (zD P [104,97,115] (zD P [97,108,119,97,121,115] s).2).2).2 (yE.set HC3.out nx mx)).mono ?_;rintro e w4 ⟨rfl,hc4,hk4⟩;have HC4:=zA hc4;have HT4:Hid (zC w.heap.size R w w4):=zC.step (zC.set HT3.out lx) hk4;have q4_0:=fun o=>hk4.cell (p:=⟨w.heap.size,o,none⟩) (zK z3_0) n0;have r4_0:=fun o=>hk4.frozen (p:=⟨w.heap.size,o,none⟩) (zK z3_0) n0;have z4_0:w.heap.size<w4.heap.size:=tj (zK z3_0) hk4.size;have q4_x:=fun o=>hk4.cell (p:=⟨w2.heap.size,o,none⟩) (zK z3_x) nx;have r4_x:=fun o=>hk4.frozen (p:=⟨w2.heap.size,o,none⟩) (zK z3_x) nx;have z4_x:w2.heap.size<w4.heap.size:=tj (zK z3_x) hk4.size;have b4:w4.heap[w.heap.size]? = some (.cells #[.int .i64 0,.int .i64 0,.int .i64 0,.string ⟨#[]⟩,.string ⟨#[]⟩,.string ⟨#[]⟩,.int .i64 0] 238 (0,0)):=zY (qO b3 fx) hk4 n0;clear hc4 hk4;go_wp2_with fail
 have cz4:=fun j=>fd _ _ j _ _ _ b4;refine pe (v:=kO ⟨6,0,0,(zI P (zD P [104,97,115] (zD P [97,108,119,97,121,115] s).2).2).1,[],[],0⟩) (by simp (maxDischargeDepth:=8) [results,Tryz.results191,go_sem,kO,cz4]) rfl ⟨by rw[HP.out],by rw[HP.out];exact(yE.set (yE.set (yE.set (yE.set (yE.set (yE.set (yE.set HC4.out n0 m0) n0 m0) n0 m0) n0 m0) n0 m0) n0 m0) n0 m0),(zC.set (zC.set (zC.set (zC.set (zC.set (zC.set (zC.set HT4.out (j1 _)) (j1 _)) (j1 _)) (j1 _)) (j1 _)) (j1 _)) (j1 _))⟩
theorem zHC(w:World)(R g cap:Nat)(P:List PT)(s:St)(h:xX w R g cap P s)(h1:(zD P [97,108,119,97,121,115] s).1=false)(h2:(zD P [104,97,115] (zD P [97,108,119,97,121,115] s).2).1=false)(h3:(vQ P (zI P (zD P [104,97,115] (zD P [97,108,119,97,121,115] s).2).2).2).1.isEmpty=false)(h4:isNum P (vQ P (zI P (zD P [104,97,115] (zD P [97,108,119,97,121,115] s).2).2).2).2=true) :
 Calls Tryz.prog 191 #[.pointer (some ⟨R,0,none⟩)] w fun e w'=>e=.returned (kO (vU P s).1)/\xX w' R g cap P (vU P s).2/\zC w.heap.size R w w':=by
 have hR:=h.rlt;have hg:=h.glt;have n0:w.heap.size≠R:=by omega
 have m0:w.heap.size≠g:=by omega
 have HC0:=zA h;have HP:Hid (vU P s=(⟨7,0,0,(zI P (zD P [104,97,115] (zD P [97,108,119,97,121,115] s).2).2).1,(vQ P (zI P (zD P [104,97,115] (zD P [97,108,119,97,121,115] s).2).2).2).1,[],(yG P (vQ P (zI P (zD P [104,97,115] (zD P [97,108,119,97,121,115] s).2).2).2).2).1⟩,(yG P (vQ P (zI P (zD P [104,97,115] (zD P [97,108,119,97,121,115] s).2).2).2).2).2)):=by unfold Hid vU;simp only[h1,h2,h3,h4]
 have H1:=zA h1;have H2:=zA h2;have H3:=zA h3;have H4:=zA h4;clear h h1 h2 h3 h4;have h3':=H3.out
 go_enter Tryz.func191,Tryz.ntmps191
 go_wp2_with fail
 refine(xU R g cap P _ s [97,108,119,97,121,115] (yE.alloc HC0.out _)).mono ?_;rintro e w1 ⟨rfl,hc1,hk1⟩;rw[H1.out];have HC1:=zA hc1;have HT1:Hid (zC w.heap.size R w w1):=zC.step (zC.new (zC.refl _ _ _)) hk1;have q1_0:=fun o=>hk1.cell (p:=⟨w.heap.size,o,none⟩) (by simp;try omega) n0;have r1_0:=fun o=>hk1.frozen (p:=⟨w.heap.size,o,none⟩) (by simp;try omega) n0;have z1_0:w.heap.size<w1.heap.size:=tj (by simp;try omega) hk1.size;have b1:w1.heap[w.heap.size]? = some (.cells #[.int .i64 0,.int .i64 0,.int .i64 0,.string ⟨#[]⟩,.string ⟨#[]⟩,.string ⟨#[]⟩,.int .i64 0] 238 (0,0)):=zY (zG _ _) hk1 n0;clear hc1 hk1;go_wp2_with fail
 refine(xU R g cap P _ (zD P [97,108,119,97,121,115] s).2 [104,97,115] HC1.out).mono ?_;rintro e w2 ⟨rfl,hc2,hk2⟩;rw[H2.out];have HC2:=zA hc2;have HT2:Hid (zC w.heap.size R w w2):=zC.step HT1.out hk2;have q2_0:=fun o=>hk2.cell (p:=⟨w.heap.size,o,none⟩) z1_0 n0;have r2_0:=fun o=>hk2.frozen (p:=⟨w.heap.size,o,none⟩) z1_0 n0;have z2_0:w.heap.size<w2.heap.size:=tj z1_0 hk2.size;have b2:w2.heap[w.heap.size]? = some (.cells #[.int .i64 0,.int .i64 0,.int .i64 0,.string ⟨#[]⟩,.string ⟨#[]⟩,.string ⟨#[]⟩,.int .i64 0] 238 (0,0)):=zY b1 hk2 n0;clear hc2 hk2;have nx:w2.heap.size≠R:=by have h1:=HT2.out.size;omega
 have mx:w2.heap.size≠g:=by have h1:=HT2.out.size;omega
 have lx:w.heap.size<=w2.heap.size:=HT2.out.size;have dx:w2.heap.size≠w.heap.size:=fk z2_0;have fx:w.heap.size≠w2.heap.size:=Nat.ne_of_lt z2_0;have z2_x:True:=trivial;go_wp2_with fail
 refine(mZ R g cap P _ (zD P [104,97,115] (zD P [97,108,119,97,121,115] s).2).2 (yE.alloc HC2.out _)).mono ?_;rintro e w3 ⟨rfl,hc3,hk3⟩;have HC3:=zA hc3;have HT3:Hid (zC w.heap.size R w w3):=zC.step (zC.new HT2.out) hk3;have q3_0:=fun o=>hk3.cell (p:=⟨w.heap.size,o,none⟩) (nE z2_0) n0;have r3_0:=fun o=>hk3.frozen (p:=⟨w.heap.size,o,none⟩) (nE z2_0) n0;have z3_0:w.heap.size<w3.heap.size:=tj (nE z2_0) hk3.size;have q3_x:=fun o=>hk3.cell (p:=⟨w2.heap.size,o,none⟩) (zV _ _) nx;have r3_x:=fun o=>hk3.frozen (p:=⟨w2.heap.size,o,none⟩) (zV _ _) nx;have z3_x:w2.heap.size<w3.heap.size:=tj (zV _ _) hk3.size;have b3:w3.heap[w.heap.size]? = some (.cells #[.int .i64 0,.int .i64 0,.int .i64 0,.string ⟨#[]⟩,.string ⟨#[]⟩,.string ⟨#[]⟩,.int .i64 0] 238 (0,0)):=zY (zS b2) hk3 n0;clear hc3 hk3;go_wp2_with fail
 refine(nL _ R g cap P (zI P (zD P [104,97,115] (zD P [97,108,119,97,121,115] s).2).2).2 (yE.set HC3.out nx mx)).mono ?_;rintro e w4 ⟨rfl,hc4,hk4⟩;have HC4:=zA hc4;have HT4:Hid (zC w.heap.size R w w4):=zC.step (zC.set HT3.out lx) hk4;have q4_0:=fun o=>hk4.cell (p:=⟨w.heap.size,o,none⟩) (zK z3_0) n0;have r4_0:=fun o=>hk4.frozen (p:=⟨w.heap.size,o,none⟩) (zK z3_0) n0;have z4_0:w.heap.size<w4.heap.size:=tj (zK z3_0) hk4.size;have q4_x:=fun o=>hk4.cell (p:=⟨w2.heap.size,o,none⟩) (zK z3_x) nx;have r4_x:=fun o=>hk4.frozen (p:=⟨w2.heap.size,o,none⟩) (zK z3_x) nx;have z4_x:w2.heap.size<w4.heap.size:=tj (zK z3_x) hk4.size;have b4:w4.heap[w.heap.size]? = some (.cells #[.int .i64 0,.int .i64 0,.int .i64 0,.string ⟨#[]⟩,.string ⟨#[]⟩,.string ⟨#[]⟩,.int .i64 0] 238 (0,0)):=zY (qO b3 fx) hk4 n0;clear hc4 hk4;go_wp2_with fail
 refine(aS R g cap P _ (vQ P (zI P (zD P [104,97,115] (zD P [97,108,119,97,121,115] s).2).2).2).2 3 (yE.set (yE.set HC4.out nx mx) nx mx)).mono ?_;rintro e w5 ⟨rfl,hc5,hk5⟩;rw[show ((yK P (vQ P (zI P (zD P [104,97,115] (zD P [97,108,119,97,121,115] s).2).2).2).2.1).k==3)=true from H4.out];have HC5:=zA hc5;have HT5:Hid (zC w.heap.size R w w5):=zC.step (zC.set (zC.set HT4.out lx) lx) hk5;have q5_0:=fun o=>hk5.cell (p:=⟨w.heap.size,o,none⟩) (zK (zK z4_0)) n0;have r5_0:=fun o=>hk5.frozen (p:=⟨w.heap.size,o,none⟩) (zK (zK z4_0)) n0;have z5_0:w.heap.size<w5.heap.size:=tj (zK (zK z4_0)) hk5.size;have q5_x:=fun o=>hk5.cell (p:=⟨w2.heap.size,o,none⟩) (zK (zK z4_x)) nx;have r5_x:=fun o=>hk5.frozen (p:=⟨w2.heap.size,o,none⟩) (zK (zK z4_x)) nx;have z5_x:w2.heap.size<w5.heap.size:=tj (zK (zK z4_x)) hk5.size;have b5:w5.heap[w.heap.size]? = some (.cells #[.int .i64 0,.int .i64 0,.int .i64 0,.string ⟨#[]⟩,.string ⟨#[]⟩,.string ⟨#[]⟩,.int .i64 0] 238 (0,0)):=zY (qO (qO b4 fx) fx) hk5 n0;clear hc5 hk5;go_wp2_with fail
 refine(oN R g cap P _ (vQ P (zI P (zD P [104,97,115] (zD P [97,108,119,97,121,115] s).2).2).2).2 HC5.out).mono ?_;rintro e w6 ⟨rfl,hc6,hk6⟩;have HC6:=zA hc6;have HT6:Hid (zC w.heap.size R w w6):=zC.step HT5.out hk6;have q6_0:=fun o=>hk6.cell (p:=⟨w.heap.size,o,none⟩) z5_0 n0;have r6_0:=fun o=>hk6.frozen (p:=⟨w.heap.size,o,none⟩) z5_0 n0;have z6_0:w.heap.size<w6.heap.size:=tj z5_0 hk6.size;have q6_x:=fun o=>hk6.cell (p:=⟨w2.heap.size,o,none⟩) z5_x nx;have r6_x:=fun o=>hk6.frozen (p:=⟨w2.heap.size,o,none⟩) z5_x nx;have z6_x:w2.heap.size<w6.heap.size:=tj z5_x hk6.size;have b6:w6.heap[w.heap.size]? = some (.cells #[.int .i64 0,.int .i64 0,.int .i64 0,.string ⟨#[]⟩,.string ⟨#[]⟩,.string ⟨#[]⟩,.int .i64 0] 238 (0,0)):=zY b5 hk6 n0;clear hc6 hk6;go_wp2_with fail
 have cz6:=fun j=>fd _ _ j _ _ _ b6;refine pe (v:=kO ⟨7,0,0,(zI P (zD P [104,97,115] (zD P [97,108,119,97,121,115] s).2).2).1,(vQ P (zI P (zD P [104,97,115] (zD P [97,108,119,97,121,115] s).2).2).2).1,[],(yG P (vQ P (zI P (zD P [104,97,115] (zD P [97,108,119,97,121,115] s).2).2).2).2).1⟩) (by simp (maxDischargeDepth:=8) [results,Tryz.results191,go_sem,kO,cz6]) rfl ⟨by rw[HP.out],by rw[HP.out];exact(yE.set (yE.set (yE.set (yE.set (yE.set (yE.set (yE.set (yE.set HC6.out nx mx) n0 m0) n0 m0) n0 m0) n0 m0) n0 m0) n0 m0) n0 m0),(zC.set (zC.set (zC.set (zC.set (zC.set (zC.set (zC.set (zC.set HT6.out lx) (j1 _)) (j1 _)) (j1 _)) (j1 _)) (j1 _)) (j1 _)) (j1 _))⟩
theorem zHB(w:World)(R g cap:Nat)(P:List PT)(s:St)(h:xX w R g cap P s)(h1:(zD P [97,108,119,97,121,115] s).1=false)(h2:(zD P [104,97,115] (zD P [97,108,119,97,121,115] s).2).1=false)(h3:(vQ P (zI P (zD P [104,97,115] (zD P [97,108,119,97,121,115] s).2).2).2).1.isEmpty=false)(h4:isNum P (vQ P (zI P (zD P [104,97,115] (zD P [97,108,119,97,121,115] s).2).2).2).2=false) :
 Calls Tryz.prog 191 #[.pointer (some ⟨R,0,none⟩)] w fun e w'=>e=.returned (kO (vU P s).1)/\xX w' R g cap P (vU P s).2/\zC w.heap.size R w w':=by
 have hR:=h.rlt;have hg:=h.glt;have n0:w.heap.size≠R:=by omega
 have m0:w.heap.size≠g:=by omega
 have HC0:=zA h;have HP:Hid (vU P s=(⟨7,0,0,(zI P (zD P [104,97,115] (zD P [97,108,119,97,121,115] s).2).2).1,(vQ P (zI P (zD P [104,97,115] (zD P [97,108,119,97,121,115] s).2).2).2).1,(zI P (vQ P (zI P (zD P [104,97,115] (zD P [97,108,119,97,121,115] s).2).2).2).2).1,0⟩,(zI P (vQ P (zI P (zD P [104,97,115] (zD P [97,108,119,97,121,115] s).2).2).2).2).2)):=by unfold Hid vU;simp only[h1,h2,h3,h4]
 have H1:=zA h1;have H2:=zA h2;have H3:=zA h3;have H4:=zA h4;clear h h1 h2 h3 h4;have h3':=H3.out
 go_enter Tryz.func191,Tryz.ntmps191
 go_wp2_with fail
 refine(xU R g cap P _ s [97,108,119,97,121,115] (yE.alloc HC0.out _)).mono ?_;rintro e w1 ⟨rfl,hc1,hk1⟩;rw[H1.out];have HC1:=zA hc1;have HT1:Hid (zC w.heap.size R w w1):=zC.step (zC.new (zC.refl _ _ _)) hk1;have q1_0:=fun o=>hk1.cell (p:=⟨w.heap.size,o,none⟩) (by simp;try omega) n0;have r1_0:=fun o=>hk1.frozen (p:=⟨w.heap.size,o,none⟩) (by simp;try omega) n0;have z1_0:w.heap.size<w1.heap.size:=tj (by simp;try omega) hk1.size;have b1:w1.heap[w.heap.size]? = some (.cells #[.int .i64 0,.int .i64 0,.int .i64 0,.string ⟨#[]⟩,.string ⟨#[]⟩,.string ⟨#[]⟩,.int .i64 0] 238 (0,0)):=zY (zG _ _) hk1 n0;clear hc1 hk1;go_wp2_with fail
 refine(xU R g cap P _ (zD P [97,108,119,97,121,115] s).2 [104,97,115] HC1.out).mono ?_;rintro e w2 ⟨rfl,hc2,hk2⟩;rw[H2.out];have HC2:=zA hc2;have HT2:Hid (zC w.heap.size R w w2):=zC.step HT1.out hk2;have q2_0:=fun o=>hk2.cell (p:=⟨w.heap.size,o,none⟩) z1_0 n0;have r2_0:=fun o=>hk2.frozen (p:=⟨w.heap.size,o,none⟩) z1_0 n0;have z2_0:w.heap.size<w2.heap.size:=tj z1_0 hk2.size;have b2:w2.heap[w.heap.size]? = some (.cells #[.int .i64 0,.int .i64 0,.int .i64 0,.string ⟨#[]⟩,.string ⟨#[]⟩,.string ⟨#[]⟩,.int .i64 0] 238 (0,0)):=zY b1 hk2 n0;clear hc2 hk2;have nx:w2.heap.size≠R:=by have h1:=HT2.out.size;omega
 have mx:w2.heap.size≠g:=by have h1:=HT2.out.size;omega
 have lx:w.heap.size<=w2.heap.size:=HT2.out.size;have dx:w2.heap.size≠w.heap.size:=fk z2_0;have fx:w.heap.size≠w2.heap.size:=Nat.ne_of_lt z2_0;have z2_x:True:=trivial;go_wp2_with fail
 refine(mZ R g cap P _ (zD P [104,97,115] (zD P [97,108,119,97,121,115] s).2).2 (yE.alloc HC2.out _)).mono ?_;rintro e w3 ⟨rfl,hc3,hk3⟩;have HC3:=zA hc3;have HT3:Hid (zC w.heap.size R w w3):=zC.step (zC.new HT2.out) hk3;have q3_0:=fun o=>hk3.cell (p:=⟨w.heap.size,o,none⟩) (nE z2_0) n0;have r3_0:=fun o=>hk3.frozen (p:=⟨w.heap.size,o,none⟩) (nE z2_0) n0;have z3_0:w.heap.size<w3.heap.size:=tj (nE z2_0) hk3.size;have q3_x:=fun o=>hk3.cell (p:=⟨w2.heap.size,o,none⟩) (zV _ _) nx;have r3_x:=fun o=>hk3.frozen (p:=⟨w2.heap.size,o,none⟩) (zV _ _) nx;have z3_x:w2.heap.size<w3.heap.size:=tj (zV _ _) hk3.size;have b3:w3.heap[w.heap.size]? = some (.cells #[.int .i64 0,.int .i64 0,.int .i64 0,.string ⟨#[]⟩,.string ⟨#[]⟩,.string ⟨#[]⟩,.int .i64 0] 238 (0,0)):=zY (zS b2) hk3 n0;clear hc3 hk3;go_wp2_with fail
 refine(nL _ R g cap P (zI P (zD P [104,97,115] (zD P [97,108,119,97,121,115] s).2).2).2 (yE.set HC3.out nx mx)).mono ?_;rintro e w4 ⟨rfl,hc4,hk4⟩;have HC4:=zA hc4;have HT4:Hid (zC w.heap.size R w w4):=zC.step (zC.set HT3.out lx) hk4;have q4_0:=fun o=>hk4.cell (p:=⟨w.heap.size,o,none⟩) (zK z3_0) n0;have r4_0:=fun o=>hk4.frozen (p:=⟨w.heap.size,o,none⟩) (zK z3_0) n0;have z4_0:w.heap.size<w4.heap.size:=tj (zK z3_0) hk4.size;have q4_x:=fun o=>hk4.cell (p:=⟨w2.heap.size,o,none⟩) (zK z3_x) nx;have r4_x:=fun o=>hk4.frozen (p:=⟨w2.heap.size,o,none⟩) (zK z3_x) nx;have z4_x:w2.heap.size<w4.heap.size:=tj (zK z3_x) hk4.size;have b4:w4.heap[w.heap.size]? = some (.cells #[.int .i64 0,.int .i64 0,.int .i64 0,.string ⟨#[]⟩,.string ⟨#[]⟩,.string ⟨#[]⟩,.int .i64 0] 238 (0,0)):=zY (qO b3 fx) hk4 n0;clear hc4 hk4;go_wp2_with fail
 refine(aS R g cap P _ (vQ P (zI P (zD P [104,97,115] (zD P [97,108,119,97,121,115] s).2).2).2).2 3 (yE.set (yE.set HC4.out nx mx) nx mx)).mono ?_;rintro e w5 ⟨rfl,hc5,hk5⟩;rw[show ((yK P (vQ P (zI P (zD P [104,97,115] (zD P [97,108,119,97,121,115] s).2).2).2).2.1).k==3)=false from H4.out];have HC5:=zA hc5;have HT5:Hid (zC w.heap.size R w w5):=zC.step (zC.set (zC.set HT4.out lx) lx) hk5;have q5_0:=fun o=>hk5.cell (p:=⟨w.heap.size,o,none⟩) (zK (zK z4_0)) n0;have r5_0:=fun o=>hk5.frozen (p:=⟨w.heap.size,o,none⟩) (zK (zK z4_0)) n0;have z5_0:w.heap.size<w5.heap.size:=tj (zK (zK z4_0)) hk5.size;have q5_x:=fun o=>hk5.cell (p:=⟨w2.heap.size,o,none⟩) (zK (zK z4_x)) nx;have r5_x:=fun o=>hk5.frozen (p:=⟨w2.heap.size,o,none⟩) (zK (zK z4_x)) nx;have z5_x:w2.heap.size<w5.heap.size:=tj (zK (zK z4_x)) hk5.size;have b5:w5.heap[w.heap.size]? = some (.cells #[.int .i64 0,.int .i64 0,.int .i64 0,.string ⟨#[]⟩,.string ⟨#[]⟩,.string ⟨#[]⟩,.int .i64 0] 238 (0,0)):=zY (qO (qO b4 fx) fx) hk5 n0;clear hc5 hk5;go_wp2_with fail
 refine(mZ R g cap P _ (vQ P (zI P (zD P [104,97,115] (zD P [97,108,119,97,121,115] s).2).2).2).2 HC5.out).mono ?_;rintro e w6 ⟨rfl,hc6,hk6⟩;have HC6:=zA hc6;have HT6:Hid (zC w.heap.size R w w6):=zC.step HT5.out hk6;have q6_0:=fun o=>hk6.cell (p:=⟨w.heap.size,o,none⟩) z5_0 n0;have r6_0:=fun o=>hk6.frozen (p:=⟨w.heap.size,o,none⟩) z5_0 n0;have z6_0:w.heap.size<w6.heap.size:=tj z5_0 hk6.size;have q6_x:=fun o=>hk6.cell (p:=⟨w2.heap.size,o,none⟩) z5_x nx;have r6_x:=fun o=>hk6.frozen (p:=⟨w2.heap.size,o,none⟩) z5_x nx;have z6_x:w2.heap.size<w6.heap.size:=tj z5_x hk6.size;have b6:w6.heap[w.heap.size]? = some (.cells #[.int .i64 0,.int .i64 0,.int .i64 0,.string ⟨#[]⟩,.string ⟨#[]⟩,.string ⟨#[]⟩,.int .i64 0] 238 (0,0)):=zY b5 hk6 n0;clear hc6 hk6;go_wp2_with fail
 have cz6:=fun j=>fd _ _ j _ _ _ b6;refine pe (v:=kO ⟨7,0,0,(zI P (zD P [104,97,115] (zD P [97,108,119,97,121,115] s).2).2).1,(vQ P (zI P (zD P [104,97,115] (zD P [97,108,119,97,121,115] s).2).2).2).1,(zI P (vQ P (zI P (zD P [104,97,115] (zD P [97,108,119,97,121,115] s).2).2).2).2).1,0⟩) (by simp (maxDischargeDepth:=8) [results,Tryz.results191,go_sem,kO,cz6]) rfl ⟨by rw[HP.out],by rw[HP.out];exact(yE.set (yE.set (yE.set (yE.set (yE.set (yE.set (yE.set (yE.set HC6.out nx mx) n0 m0) n0 m0) n0 m0) n0 m0) n0 m0) n0 m0) n0 m0),(zC.set (zC.set (zC.set (zC.set (zC.set (zC.set (zC.set (zC.set HT6.out lx) (j1 _)) (j1 _)) (j1 _)) (j1 _)) (j1 _)) (j1 _)) (j1 _))⟩
theorem xd(w:World)(R g cap:Nat)(P:List PT)(s:St)(h:xX w R g cap P s) :
 Calls Tryz.prog 191 #[.pointer (some ⟨R,0,none⟩)] w fun e w'=>e=.returned (kO (vU P s).1)/\xX w' R g cap P (vU P s).2/\zC w.heap.size R w w':=by
 cases h1:(zD P [97,108,119,97,121,115] s).1
 ·cases h2:(zD P [104,97,115] (zD P [97,108,119,97,121,115] s).2).1
  ·cases h3:(vQ P (zI P (zD P [104,97,115] (zD P [97,108,119,97,121,115] s).2).2).2).1.isEmpty
   ·cases h4:isNum P (vQ P (zI P (zD P [104,97,115] (zD P [97,108,119,97,121,115] s).2).2).2).2
    ·exact zHB w R g cap P s h h1 h2 h3 h4
    ·exact zHC w R g cap P s h h1 h2 h3 h4
   ·exact zHD w R g cap P s h h1 h2 h3
  ·exact zHE w R g cap P s h h1 h2
 ·exact zHF w R g cap P s h h1
attribute [local go_sem ↓] Go.wp_at_zero Go.wp_at_succ
def Xb(x:zT):List Value:=[.int .i64 x.kind,.int .i64 x.left,.int .i64 x.right,.string ⟨x.name.toArray⟩,.string ⟨x.mark.toArray⟩,.string ⟨x.other.toArray⟩,.int .i64 x.num]
def fB(ns:List zT):List Value:=ns.flatMap Xb
theorem Cg(ns:List zT)(x:zT):fB (ns++[x])=fB ns++Xb x:=by simp[fB]
def oV(nv:Value)(root tests dep:Int):Obj:=.cells #[nv,.int .i64 root,.int .i64 tests,.int .i64 dep] 182 (0,0)
def Gd(w:World)(G:Nat)(nd:List zT)(root tests dep:Int):Prop :=
 ∃nv,w.heap[G]? = some (oV nv root tests dep)/\w.ownsRow (G+1) 238 7 nv nd.length (fB nd)
theorem jn:(Tryz.prog.info? 238).map (fun i=>(i.zero,i.size,i.bytes))=some (some (.agg #[.int .i64 0,.int .i64 0,.int .i64 0,.string ⟨#[]⟩,.string ⟨#[]⟩,.string ⟨#[]⟩,.int .i64 0]),7,80):=by kernel_rfl
theorem Gd.lt{nd:List zT}(h:Gd w G nd root tests dep):G<w.heap.size:=by
 obtain⟨nv,h1,_⟩:=h;rcases md G w.heap.size with h2|h2
 ·exact h2
 ·rw[mc h2]at h1;cases h1
theorem zEY{nv:Value}(h:w.heap[G]? = some (oV nv root tests dep)):(w.setCell ⟨G,0,none⟩ v).heap[G]? = some (oV v root tests dep):=by
 unfold oV at h ⊢;rw[tr w G 0 _ _ _ h];simp
theorem yW{B:Nat}{e:TypeId}{size:Nat}{n:Nat}{xs:List Value}(h:w.ownsRow B e size v n xs){b o:Nat}{u:Value}(hb:b<B):(w.setCell ⟨b,o,none⟩ u).ownsRow B e size v n xs :=
 ownsRow_setCell_below h (a:=⟨b,o,none⟩) hb u
theorem zF2{y:Obj}{row:Option Nat}(hg:((w.alloc x).alloc y).drew.grownBy w1 row)(h:w.frozen? ⟨G,0,none⟩=false)(hG:G<w.heap.size)(hr:some G≠row):w1.frozen? ⟨G,0,none⟩=false:=by
 have hb:w1.heap[G]? = w.heap[G]? := by
  rw[hg.block G (by show G<((w.alloc x).alloc y).heap.size;simp;omega) hr];show ((w.alloc x).alloc y).heap[G]? = _;rw[li _ _ _ (by simp;omega),li _ _ _ hG]
 rw[dk (w:=w) hb];exact h
theorem zFI{y:Obj}{row:Option Nat}(hg:((w.alloc x).alloc y).drew.grownBy w1 row)(h:w.cell? ⟨G,0,none⟩=some v)(hG:G<w.heap.size)(hr:some G≠row):w1.cell? ⟨G,0,none⟩=some v:=by
 have hb:w1.heap[G]? = w.heap[G]? := by
  rw[hg.block G (by show G<((w.alloc x).alloc y).heap.size;simp;omega) hr];show ((w.alloc x).alloc y).heap[G]? = _;rw[li _ _ _ (by simp;omega),li _ _ _ hG]
 rw[bm (w:=w) hb];exact h
theorem Ut(w:World)(G:Nat)(nd:List zT)(root tests dep:Int)(x:zT)(h:Gd w G nd root tests dep)(hn:nd.length<=10000) :
 Calls Tryz.prog 189 #[.pointer (some ⟨G,0,none⟩),kO x] w fun e w'=>e=.returned (.int .i64 (nd.length:Nat))/\Gd w' G (nd++[x]) root tests dep/\Below G w w':=by
 obtain⟨i0,hi0,hz0,hz1,hz2⟩:=info_parts jn;have hG:=h.lt;obtain⟨nv,hg,zL1⟩:=h;have c0:w.cell? ⟨G,0,none⟩=some nv:=by unfold oV at hg;rw[fd w G 0 _ _ _ hg];rfl
 have fz:w.frozen? ⟨G,0,none⟩=false:=by unfold oV at hg;simp[World.frozen?,hg]
 have n0:w.heap.size≠G:=by omega
 have n1:w.heap.size+1≠G:=by omega
 have HG:=zA hg;have HOB:=zA (zZ zL1);have hnc:Xb x=[.int .i64 x.kind,.int .i64 x.left,.int .i64 x.right,.string ⟨x.name.toArray⟩,.string ⟨x.mark.toArray⟩,.string ⟨x.other.toArray⟩,.int .i64 x.num]:=rfl;obtain⟨xk,xl,xr,xn,xm,xo,xu⟩:=x;simp only at hnc;simp only[kO];have HX:=zA hnc;have a1:some G≠nv.ownBlock:=fun e=>by have h1:=(HOB.out G e.symm).1;omega
 have a2:some w.heap.size≠nv.ownBlock:=fun e=>by have h1:=(HOB.out w.heap.size e.symm).2;omega
 clear hg hnc
 go_enter Tryz.func189,Tryz.ntmps189
 go_wp2_with fail
 go_region_law ((refine step_append_lies _ (by rfl) _ _ _ (by rfl) (G+1) 238 i0 _ 7 80 Tryz.underlying180 hi0 hz0 hz1 hz2 rfl (by decide) nv nd.length (fB nd) (by rfl) (((zL1.alloc _).alloc _).drew) ⟨w.heap.size+1,0,none⟩ 1 1 (Xb ⟨xk,xl,xr,xn,xm,xo,xu⟩) (by rfl) (by rfl) (by rw[HX.out];exact qT _ _ _ _ rfl (by simp)) (by rw[HX.out];simp[Value.oneCell']) (by decide) (by unfold maxLen;omega) (by omega) (by simp;omega) (w.heap.size+1+1) (by simp) ?_;intro gg cap w1 zL5 zL2 hat zKZ;have fz1:w1.frozen? ⟨G,0,none⟩=false:=zF2 zL2 fz hG a1;have c1':w1.cell? ⟨G,0,none⟩=some nv:=zFI zL2 c0 hG a1))
 all_goals
  have hbel:Below G w w1:=(((tg G w).alloc (by omega) _).alloc (by simp;omega) _).drew.grown zL2 (by show G<=((w.alloc _).alloc _).heap.size;simp;omega) (fun k hk=>by have h1:=(HOB.out k hk).1;omega)
  have hg1:w1.heap[G]? = some (oV nv root tests dep):=by
   rw[zL2.block G (by show G<((w.alloc _).alloc _).heap.size;simp;omega) a1];show ((w.alloc _).alloc _).heap[G]? = _;rw[li _ _ _ (by simp;omega),li _ _ _ hG];exact HG.out
  have HG1:=zA hg1;have HBel:=zA hbel;have HO1:=zA zL5;clear hg1 hbel zL5 zL2 zL1;go_wp2_with fail
  go_ret
  refine⟨yP (by simp),⟨_,zEY HG1.out,?_⟩,HBel.out.setCell (p:=⟨G,0,none⟩) (j1 _) _⟩;rw[Cg,tm];exact yW HO1.out (l8 G)
structure GS where
 s:St
 nd:List zT
 tests:Int
 dep:Int
def GS.to(q:GS)(s:St):GS:=⟨s,q.nd,q.tests,q.dep⟩
def GS.add(q:GS)(x:zT):GS:=⟨q.s,q.nd++[x],q.tests,q.dep⟩
def GS.tested(q:GS)(d:Int):GS:=⟨q.s,q.nd,q.tests+1,if q.dep<d then d else q.dep⟩
def mS(P:List PT)(item:GS->Int × GS)(tok:Bs)(kind:Int):Nat->Int->GS->Int × GS
 | 0,left,q=>(left,q)
 | k+1,left,q =>
   match (zD P tok q.s).1 with
   | false=>(left,q.to (zD P tok q.s).2)
   | true=>mS P item tok kind k ((item (q.to (zD P tok q.s).2)).2.nd.length:Nat) ((item (q.to (zD P tok q.s).2)).2.add ⟨kind,left,(item (q.to (zD P tok q.s).2)).1,[],[],[],0⟩)
def cJ(P:List PT)(fact:GS->Int->Int × GS)(q:GS)(d:Int):Int × GS:=mS P (fun q=>fact q d) dR 2 P.length (fact q d).1 (fact q d).2
def Z8(P:List PT)(fact:GS->Int->Int × GS)(q:GS)(d:Int):Int × GS:=mS P (fun q=>cJ P fact q d) Qi 1 P.length (cJ P fact q d).1 (cJ P fact q d).2
def xA(P:List PT):Nat->GS->Int->Int × GS
 | 0,q,_=>(0,q)
 | n+1,q,d =>
   match (zD P vG q.s).1 with
   | true=>(((xA P n (q.to (zD P vG q.s).2) (d+1)).2.nd.length:Nat),(xA P n (q.to (zD P vG q.s).2) (d+1)).2.add ⟨3,(xA P n (q.to (zD P vG q.s).2) (d+1)).1,0,[],[],[],0⟩)
   | false =>
     match (zD P vK (zD P vG q.s).2).1 with
     | true=>((Z8 P (xA P n) (q.to (zD P vK (zD P vG q.s).2).2) (d+1)).1,
      (Z8 P (xA P n) (q.to (zD P vK (zD P vG q.s).2).2) (d+1)).2.to (zW P kJ (Z8 P (xA P n) (q.to (zD P vK (zD P vG q.s).2).2) (d+1)).2.s))
     | false=>((q.nd.length:Nat),(((q.tested d).to (vU P (zD P vK (zD P vG q.s).2).2).2).add (vU P (zD P vK (zD P vG q.s).2).2).1))
def cQ(P:List PT)(n:Nat):GS->Int->Int × GS:=cJ P (xA P n)
def YU(P:List PT)(n:Nat):GS->Int->Int × GS:=Z8 P (xA P n)
structure ZF(w:World)(R g cap:Nat)(P:List PT)(G:Nat)(root:Int)(q:GS):Prop where
 ctx:xX w R g cap P q.s
 gd:Gd w G q.nd root q.tests q.dep
 rG:R<G
 gG:g<G
theorem Gd.keeps{nd:List zT}(h:Gd w G nd root tests dep)(hk:zC w.heap.size R w w')(hR:R<G):Gd w' G nd root tests dep:=by
 have zKZ:=h.lt;obtain⟨nv,h1,h2⟩:=h;exact⟨nv,by rw[hk.block G zKZ (by omega)];exact h1,uB h2 hk (by omega)⟩
theorem ZF.read{g cap:Nat}{P:List PT}{q:GS}{s':St}(h:ZF w R g cap P G root q)(hc:xX w' R g cap P s')(hk:zC w.heap.size R w w'):ZF w' R g cap P G root (q.to s') :=
 ⟨hc,h.gd.keeps hk h.rG,h.rG,h.gG⟩
theorem yE.belowG{g cap:Nat}{P:List PT}{s:St}(h:xX w R g cap P s)(hb:Below G w w')(hR:R<G)(hg:g<G):xX w' R g cap P s:=by
 refine⟨?_,?_,h.gR,tj h.glt hb.size,h.at',h.cap1,h.cap2,h.many,h.endk⟩
 ·rw[hb.block R hR];exact h.blk
 ·intro i hi
  have hb':∀o,w'.cell? ⟨g,o,none⟩=w.cell? ⟨g,o,none⟩:=fun o=>bm (w:=w) (hb.block g hg);rw[hb',hb',hb',hb'];exact h.tok i hi
theorem ZF.added{g cap:Nat}{P:List PT}{q:GS}{x:zT}(h:ZF w R g cap P G root q)(hg:Gd w' G (q.nd++[x]) root q.tests q.dep)(hb:Below G w w'):ZF w' R g cap P G root (q.add x) :=
 ⟨h.ctx.belowG hb h.rG h.gG,hg,h.rG,h.gG⟩
def ZM(P:List PT)(q:GS):Nat:=q.nd.length+2*(P.length-q.s.1)
structure zC5(P:List PT)(q:GS)(d:Int):Prop where
 t0:0<=q.tests
 t1:q.tests<=(q.nd.length:Int)
 room:ZM P q<=9000
 d0:0<=d
 d1:d<=(q.s.1:Int)
structure wR(P:List PT)(q q':GS):Prop where
 mono:q.s.1<=q'.s.1
 pot':ZM P q'<=ZM P q+1
 t0:0<=q'.tests
 t1:q'.tests<=(q'.nd.length:Int)
def Qd(R g cap:Nat)(P:List PT)(G:Nat)(root:Int)(n:Nat):Prop:=∀(w:World) (q:GS) (d:Int),ZF w R g cap P G root q->zC5 P q d->P.length-q.s.1<=n ->
 Calls Tryz.prog 190 #[.pointer (some ⟨R,0,none⟩),.pointer (some ⟨G,0,none⟩),.int .i64 d] w fun e w'=>e=.returned (.int .i64 (xA P n q d).1)/\ZF w' R g cap P G root (xA P n q d).2/\zC G R w w'/\wR P q (xA P n q d).2
def Jt(R g cap:Nat)(P:List PT)(G:Nat)(root:Int)(n:Nat):Prop:=∀(w:World) (q:GS) (d:Int),ZF w R g cap P G root q->zC5 P q d->P.length-q.s.1<=n ->
 Calls Tryz.prog 188 #[.pointer (some ⟨R,0,none⟩),.pointer (some ⟨G,0,none⟩),.int .i64 d] w fun e w'=>e=.returned (.int .i64 (cQ P n q d).1)/\ZF w' R g cap P G root (cQ P n q d).2/\zC G R w w'/\wR P q (cQ P n q d).2
def Ky(R g cap:Nat)(P:List PT)(G:Nat)(root:Int)(n:Nat):Prop:=∀(w:World) (q:GS) (d:Int),ZF w R g cap P G root q->zC5 P q d->P.length-q.s.1<=n ->
 Calls Tryz.prog 182 #[.pointer (some ⟨R,0,none⟩),.pointer (some ⟨G,0,none⟩),.int .i64 d] w fun e w'=>e=.returned (.int .i64 (YU P n q d).1)/\ZF w' R g cap P G root (YU P n q d).2/\zC G R w w'/\wR P q (YU P n q d).2
theorem zC.of_size(hk:zC w.heap.size R w w')(hG:G<=w.heap.size):zC G R w w':=hk.mono hG
theorem zC.of_belowG(hb:Below G w w'):zC G R w w':=zC.of_below hb
theorem YR{P:List PT}{q:GS}{t:Bs}(h:(zD P t q.s).1=true)(ha:q.s.1<P.length):ZM P (q.to (zD P t q.s).2)+2=ZM P q:=by
 unfold ZM GS.to;simp only;rw[kG h];omega
theorem Bo{P:List PT}{q:GS}{s:St}(h:q.s.1<=s.1):ZM P (q.to s)<=ZM P q:=by
 unfold ZM GS.to;simp only;omega
def Dp(L R:Nat)(w:World):Nat:=L-uo w R
theorem ZF.meas{g cap:Nat}{P:List PT}{q:GS}(h:ZF w R g cap P G root q):Dp P.length R w=P.length-q.s.1:=by
 unfold Dp;rw[yE.rdAt h.ctx]
end Go.Proofs.YtnbpdffdnphbeabGreatDoor
