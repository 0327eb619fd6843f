import Derived.Test.YtnbpdffdnphbeabGreatDoorPars
import Derived.Deep.RegionLaw
set_option maxHeartbeats 1000000
namespace Go.Proofs.YtnbpdffdnphbeabGreatDoor
open Go.RowKit
variable{tests dep root:Int}{R k G:Nat}{x:Obj}{v:Value}{w' w w1:World}
def jH:List Bs:=[[60],[60,61],[61],[33,61],[62,61],[62]]
def xY(P:List PT)(s:St):Bs × St :=
 match jH.contains (yT P s.1).s with
 | true=>match (zD P (yT P s.1).s s).1 with
   | true=>((yT P s.1).s,(zD P (yT P s.1).s s).2)
   | false=>([],(zD P (yT P s.1).s s).2)
 | false=>([],s)
theorem gI(w:World)(R g cap:Nat)(P:List PT)(s:St)(h:xX w R g cap P s) :
 Calls Tryz.prog 192 #[.pointer (some ⟨R,0,none⟩)] w fun e w'=>e=.returned (.string ⟨(xY P s).1.toArray⟩)/\xX w' R g cap P (xY P s).2/\zB w.heap.size R w w':=by
 obtain⟨c0,c1,_⟩:=h.cells;obtain⟨_,t1,_,_⟩:=h.tok s.1 h.at';have i1:(0:Int)<=(s.1:Int):=by omega
 have i2:(s.1:Int)<(P.length:Int):=by have:=h.at';omega
 have HC:=zA h;have HP:Hid (xY P s=match jH.contains (yT P s.1).s with|true=>(match (zD P (yT P s.1).s s).1 with|true=>((yT P s.1).s,(zD P (yT P s.1).s s).2)|false=>([],(zD P (yT P s.1).s s).2))|false=>([],s)):=rfl;generalize (yT P s.1).s=x at *;generalize xY P s=F at *;clear h;by_cases c0':x=[60]
 ·subst c0'
  have hP:=HP.out;rw[show jH.contains [60]=true from by decide]at hP;have HP2:=zA hP;clear HP hP
  go_enter Tryz.func192,Tryz.ntmps192
  go_wp2_with fail
  go_region_held3 (fun w'=>w'.cell? ⟨R,0,none⟩=some (.slice (some ⟨g,0,none⟩) P.length cap)/\w'.cell? ⟨R,1,none⟩=some (.int .i64 s.1)/\w'.cell? ⟨g,s.1*4+1,none⟩=some (.string ⟨[60].toArray⟩)) (go_keep) (fail)
  go_wp2_with fail
  refine(xV R g cap P _ s [60] (yG.drew HC.out)).mono ?_;rintro e w1 ⟨rfl,hc1,hk1⟩;have HC1:=zA hc1;have HK1:Hid (zB w.heap.size R w w1):=zB.step (zB.drew (zB.refl _ _ _)) hk1;clear hc1 hk1;cases hs:(zD P [60] s).1
  ·have hP:=HP2.out
   simp only[hs]at hP;have HP3:=zA hP;clear HP2 hP hs;go_wp2_with fail
   go_ret
   exact⟨tI (by rw[HP3.out]),by rw[HP3.out];exact HC1.out,HK1.out⟩
  ·have hP:=HP2.out
   simp only[hs]at hP;have HP3:=zA hP;clear HP2 hP hs;go_wp2_with fail
   go_ret
   exact⟨tI (by rw[HP3.out]),by rw[HP3.out];exact HC1.out,HK1.out⟩
 by_cases c1':x=[60,61]
 ·subst c1'
  have hP:=HP.out;rw[show jH.contains [60,61]=true from by decide]at hP;have HP2:=zA hP;clear HP hP
  go_enter Tryz.func192,Tryz.ntmps192
  go_wp2_with fail
  go_region_held3 (fun w'=>w'.cell? ⟨R,0,none⟩=some (.slice (some ⟨g,0,none⟩) P.length cap)/\w'.cell? ⟨R,1,none⟩=some (.int .i64 s.1)/\w'.cell? ⟨g,s.1*4+1,none⟩=some (.string ⟨[60,61].toArray⟩)) (go_keep) (fail)
  go_wp2_with fail
  refine(xV R g cap P _ s [60,61] (yG.drew HC.out)).mono ?_;rintro e w1 ⟨rfl,hc1,hk1⟩;have HC1:=zA hc1;have HK1:Hid (zB w.heap.size R w w1):=zB.step (zB.drew (zB.refl _ _ _)) hk1;clear hc1 hk1;cases hs:(zD P [60,61] s).1
  ·have hP:=HP2.out
   simp only[hs]at hP;have HP3:=zA hP;clear HP2 hP hs;go_wp2_with fail
   go_ret
   exact⟨tI (by rw[HP3.out]),by rw[HP3.out];exact HC1.out,HK1.out⟩
  ·have hP:=HP2.out
   simp only[hs]at hP;have HP3:=zA hP;clear HP2 hP hs;go_wp2_with fail
   go_ret
   exact⟨tI (by rw[HP3.out]),by rw[HP3.out];exact HC1.out,HK1.out⟩
 by_cases c2':x=[61]
 ·subst c2'
  have hP:=HP.out;rw[show jH.contains [61]=true from by decide]at hP;have HP2:=zA hP;clear HP hP
  go_enter Tryz.func192,Tryz.ntmps192
  go_wp2_with fail
  go_region_held3 (fun w'=>w'.cell? ⟨R,0,none⟩=some (.slice (some ⟨g,0,none⟩) P.length cap)/\w'.cell? ⟨R,1,none⟩=some (.int .i64 s.1)/\w'.cell? ⟨g,s.1*4+1,none⟩=some (.string ⟨[61].toArray⟩)) (go_keep) (fail)
  go_wp2_with fail
  refine(xV R g cap P _ s [61] (yG.drew HC.out)).mono ?_;rintro e w1 ⟨rfl,hc1,hk1⟩;have HC1:=zA hc1;have HK1:Hid (zB w.heap.size R w w1):=zB.step (zB.drew (zB.refl _ _ _)) hk1;clear hc1 hk1;cases hs:(zD P [61] s).1
  ·have hP:=HP2.out
   simp only[hs]at hP;have HP3:=zA hP;clear HP2 hP hs;go_wp2_with fail
   go_ret
   exact⟨tI (by rw[HP3.out]),by rw[HP3.out];exact HC1.out,HK1.out⟩
  ·have hP:=HP2.out
   simp only[hs]at hP;have HP3:=zA hP;clear HP2 hP hs;go_wp2_with fail
   go_ret
   exact⟨tI (by rw[HP3.out]),by rw[HP3.out];exact HC1.out,HK1.out⟩
 by_cases c3':x=[33,61]
 ·subst c3'
  have hP:=HP.out;rw[show jH.contains [33,61]=true from by decide]at hP;have HP2:=zA hP;clear HP hP
  go_enter Tryz.func192,Tryz.ntmps192
  go_wp2_with fail
  go_region_held3 (fun w'=>w'.cell? ⟨R,0,none⟩=some (.slice (some ⟨g,0,none⟩) P.length cap)/\w'.cell? ⟨R,1,none⟩=some (.int .i64 s.1)/\w'.cell? ⟨g,s.1*4+1,none⟩=some (.string ⟨[33,61].toArray⟩)) (go_keep) (fail)
  go_wp2_with fail
  refine(xV R g cap P _ s [33,61] (yG.drew HC.out)).mono ?_;rintro e w1 ⟨rfl,hc1,hk1⟩;have HC1:=zA hc1;have HK1:Hid (zB w.heap.size R w w1):=zB.step (zB.drew (zB.refl _ _ _)) hk1;clear hc1 hk1;cases hs:(zD P [33,61] s).1
  ·have hP:=HP2.out
   simp only[hs]at hP;have HP3:=zA hP;clear HP2 hP hs;go_wp2_with fail
   go_ret
   exact⟨tI (by rw[HP3.out]),by rw[HP3.out];exact HC1.out,HK1.out⟩
  ·have hP:=HP2.out
   simp only[hs]at hP;have HP3:=zA hP;clear HP2 hP hs;go_wp2_with fail
   go_ret
   exact⟨tI (by rw[HP3.out]),by rw[HP3.out];exact HC1.out,HK1.out⟩
 by_cases c4':x=[62,61]
 ·subst c4'
  have hP:=HP.out;rw[show jH.contains [62,61]=true from by decide]at hP;have HP2:=zA hP;clear HP hP
  go_enter Tryz.func192,Tryz.ntmps192
  go_wp2_with fail
  go_region_held3 (fun w'=>w'.cell? ⟨R,0,none⟩=some (.slice (some ⟨g,0,none⟩) P.length cap)/\w'.cell? ⟨R,1,none⟩=some (.int .i64 s.1)/\w'.cell? ⟨g,s.1*4+1,none⟩=some (.string ⟨[62,61].toArray⟩)) (go_keep) (fail)
  go_wp2_with fail
  refine(xV R g cap P _ s [62,61] (yG.drew HC.out)).mono ?_;rintro e w1 ⟨rfl,hc1,hk1⟩;have HC1:=zA hc1;have HK1:Hid (zB w.heap.size R w w1):=zB.step (zB.drew (zB.refl _ _ _)) hk1;clear hc1 hk1;cases hs:(zD P [62,61] s).1
  ·have hP:=HP2.out
   simp only[hs]at hP;have HP3:=zA hP;clear HP2 hP hs;go_wp2_with fail
   go_ret
   exact⟨tI (by rw[HP3.out]),by rw[HP3.out];exact HC1.out,HK1.out⟩
  ·have hP:=HP2.out
   simp only[hs]at hP;have HP3:=zA hP;clear HP2 hP hs;go_wp2_with fail
   go_ret
   exact⟨tI (by rw[HP3.out]),by rw[HP3.out];exact HC1.out,HK1.out⟩
 by_cases c5':x=[62]
 ·subst c5'
  have hP:=HP.out;rw[show jH.contains [62]=true from by decide]at hP;have HP2:=zA hP;clear HP hP
  go_enter Tryz.func192,Tryz.ntmps192
  go_wp2_with fail
  go_region_held3 (fun w'=>w'.cell? ⟨R,0,none⟩=some (.slice (some ⟨g,0,none⟩) P.length cap)/\w'.cell? ⟨R,1,none⟩=some (.int .i64 s.1)/\w'.cell? ⟨g,s.1*4+1,none⟩=some (.string ⟨[62].toArray⟩)) (go_keep) (fail)
  go_wp2_with fail
  refine(xV R g cap P _ s [62] (yG.drew HC.out)).mono ?_;rintro e w1 ⟨rfl,hc1,hk1⟩;have HC1:=zA hc1;have HK1:Hid (zB w.heap.size R w w1):=zB.step (zB.drew (zB.refl _ _ _)) hk1;clear hc1 hk1;cases hs:(zD P [62] s).1
  ·have hP:=HP2.out
   simp only[hs]at hP;have HP3:=zA hP;clear HP2 hP hs;go_wp2_with fail
   go_ret
   exact⟨tI (by rw[HP3.out]),by rw[HP3.out];exact HC1.out,HK1.out⟩
  ·have hP:=HP2.out
   simp only[hs]at hP;have HP3:=zA hP;clear HP2 hP hs;go_wp2_with fail
   go_ret
   exact⟨tI (by rw[HP3.out]),by rw[HP3.out];exact HC1.out,HK1.out⟩
 have hP:=HP.out;rw[show jH.contains x=false from by simp[jH,c0',c1',c2',c3',c4',c5']]at hP;have HP2:Hid (F=([],s)):=hP;clear HP hP;have b0:(x==[60])=false:=by simpa using c0'
 have b1:(x==[60,61])=false:=by simpa using c1'
 have b2:(x==[61])=false:=by simpa using c2'
 have b3:(x==[33,61])=false:=by simpa using c3'
 have b4:(x==[62,61])=false:=by simpa using c4'
 have b5:(x==[62])=false:=by simpa using c5'
 clear c0' c1' c2' c3' c4' c5'
 go_enter Tryz.func192,Tryz.ntmps192
 go_wp2_with fail
 go_region_held3 (fun w'=>w'.cell? ⟨R,0,none⟩=some (.slice (some ⟨g,0,none⟩) P.length cap)/\w'.cell? ⟨R,1,none⟩=some (.int .i64 s.1)/\w'.cell? ⟨g,s.1*4+1,none⟩=some (.string ⟨x.toArray⟩)) (go_keep) (fail)
 go_wp2_with fail
 go_ret
 exact⟨tI (by rw[HP2.out]),by rw[HP2.out];exact yG.drew HC.out,zB.drew (zB.refl _ _ _)⟩
theorem zH(w:World)(o:Obj):(w.alloc o).heap[w.heap.size]? = some o:=heap_alloc_new w o
theorem yD{o:Obj}(h:w.heap[k]? = some x):(w.alloc o).heap[k]? = some x:=by
 have hk:k<w.heap.size:=by
  rcases py k w.heap.size with h1|h1
  ·exact h1
  ·rw[pq h1]at h;cases h
 rw[l5 _ _ _ hk];exact h
theorem rL(h:w.heap[k]? = some x):w.drew.heap[k]? = some x:=h
theorem qJ{b o:Nat}{u:Value}(h:w.heap[k]? = some x)(zJZ:k≠b):(w.setCell ⟨b,o,none⟩ u).heap[k]? = some x:=by
 rw[l9 _ _ _ _ zJZ];exact h
theorem zW{W:World}(h:W.heap[k]? = some x)(hk:zB W.heap.size R W w1)(zJZ:k≠R):w1.heap[k]? = some x:=by
 have zJS:k<W.heap.size:=by
  rcases py k W.heap.size with h1|h1
  ·exact h1
  ·rw[pq h1]at h;cases h
 rw[hk.block k zJS zJZ];exact h
structure zN where
 kind:Int
 left:Int
 right:Int
 name:Bs
 mark:Bs
 other:Bs
 num:Int
def kN(x:zN):Value:=.agg #[.int .i64 x.kind,.int .i64 x.left,.int .i64 x.right,.string ⟨x.name.toArray⟩,.string ⟨x.mark.toArray⟩,.string ⟨x.other.toArray⟩,.int .i64 x.num]
def yZ(P:List PT)(s:St):zN × St :=
 match (zD P [97,108,119,97,121,115] s).1 with
 | true=>(⟨4,0,0,[],[],[],0⟩,(zD P [97,108,119,97,121,115] s).2)
 | false =>
   match (zD P [104,97,115] (zD P [97,108,119,97,121,115] s).2).1 with
   | true=>(⟨5,0,0,(zG P (zD P [104,97,115] (zD P [97,108,119,97,121,115] s).2).2).1,[],[],0⟩,(zG P (zD P [104,97,115] (zD P [97,108,119,97,121,115] s).2).2).2)
   | false =>
     match (xY P (zG P (zD P [104,97,115] (zD P [97,108,119,97,121,115] s).2).2).2).1.isEmpty with
     | true=>(⟨6,0,0,(zG P (zD P [104,97,115] (zD P [97,108,119,97,121,115] s).2).2).1,[],[],0⟩,(xY P (zG P (zD P [104,97,115] (zD P [97,108,119,97,121,115] s).2).2).2).2)
     | false =>
       match kR P (xY P (zG P (zD P [104,97,115] (zD P [97,108,119,97,121,115] s).2).2).2).2 with
       | true=>(⟨7,0,0,(zG P (zD P [104,97,115] (zD P [97,108,119,97,121,115] s).2).2).1,(xY P (zG P (zD P [104,97,115] (zD P [97,108,119,97,121,115] s).2).2).2).1,[],(yC P (xY P (zG P (zD P [104,97,115] (zD P [97,108,119,97,121,115] s).2).2).2).2).1⟩,(yC P (xY P (zG P (zD P [104,97,115] (zD P [97,108,119,97,121,115] s).2).2).2).2).2)
       | false=>(⟨7,0,0,(zG P (zD P [104,97,115] (zD P [97,108,119,97,121,115] s).2).2).1,(xY P (zG P (zD P [104,97,115] (zD P [97,108,119,97,121,115] s).2).2).2).1,(zG P (xY P (zG P (zD P [104,97,115] (zD P [97,108,119,97,121,115] s).2).2).2).2).1,0⟩,(zG P (xY P (zG P (zD P [104,97,115] (zD P [97,108,119,97,121,115] s).2).2).2).2).2)
theorem zGJ(w:World)(R g cap:Nat)(P:List PT)(s:St)(h:xX w R g cap P s)(h1:(zD P [97,108,119,97,121,115] s).1=true) :
 Calls Tryz.prog 191 #[.pointer (some ⟨R,0,none⟩)] w fun e w'=>e=.returned (kN (yZ P s).1)/\xX w' R g cap P (yZ P s).2/\zB w.heap.size R w w':=by
 have hR:=h.rlt;have hg:=h.glt;have n0:w.heap.size≠R:=by omega
 have m0:w.heap.size≠g:=by omega
 have HC0:=zA h;have HP:Hid (yZ P s=(⟨4,0,0,[],[],[],0⟩,(zD P [97,108,119,97,121,115] s).2)):=by unfold Hid yZ;simp only[h1]
 have H1:=zA h1;clear h h1
 go_enter Tryz.func191,Tryz.ntmps191
 go_wp2_with fail
 refine(xV R g cap P _ s [97,108,119,97,121,115] (yG.alloc HC0.out _)).mono ?_;rintro e w1 ⟨rfl,hc1,hk1⟩;rw[H1.out];have HC1:=zA hc1;have HT1:Hid (zB w.heap.size R w w1):=zB.step (zB.new (zB.refl _ _ _)) hk1;have q1_0:=fun o=>hk1.cell (p:=⟨w.heap.size,o,none⟩) (by simp;try omega) n0;have r1_0:=fun o=>hk1.frozen (p:=⟨w.heap.size,o,none⟩) (by simp;try omega) n0;have z1_0:w.heap.size<w1.heap.size:=tm (by simp;try omega) hk1.size;have b1:w1.heap[w.heap.size]? = some (.cells #[.int .i64 0,.int .i64 0,.int .i64 0,.string ⟨#[]⟩,.string ⟨#[]⟩,.string ⟨#[]⟩,.int .i64 0] 238 (0,0)):=zW (zH _ _) hk1 n0;clear hc1 hk1;go_wp2_with fail
 have cz1:=fun j=>f0 _ _ j _ _ _ b1;refine pm (v:=kN ⟨4,0,0,[],[],[],0⟩) (by simp (maxDischargeDepth:=8) [results,Tryz.results191,go_sem,kN,cz1]) rfl ⟨by rw[HP.out],by rw[HP.out];exact(yG.set (yG.set (yG.set (yG.set (yG.set (yG.set (yG.set HC1.out n0 m0) n0 m0) n0 m0) n0 m0) n0 m0) n0 m0) n0 m0),(zB.set (zB.set (zB.set (zB.set (zB.set (zB.set (zB.set HT1.out (tg _)) (tg _)) (tg _)) (tg _)) (tg _)) (tg _)) (tg _))⟩
theorem zGI(w:World)(R g cap:Nat)(P:List PT)(s:St)(h:xX w R g cap P s)(h1:(zD P [97,108,119,97,121,115] s).1=false)(h2:(zD P [104,97,115] (zD P [97,108,119,97,121,115] s).2).1=true) :
 Calls Tryz.prog 191 #[.pointer (some ⟨R,0,none⟩)] w fun e w'=>e=.returned (kN (yZ P s).1)/\xX w' R g cap P (yZ P s).2/\zB w.heap.size R w w':=by
 have hR:=h.rlt;have hg:=h.glt;have n0:w.heap.size≠R:=by omega
 have m0:w.heap.size≠g:=by omega
 have HC0:=zA h;have HP:Hid (yZ P s=(⟨5,0,0,(zG P (zD P [104,97,115] (zD P [97,108,119,97,121,115] s).2).2).1,[],[],0⟩,(zG P (zD P [104,97,115] (zD P [97,108,119,97,121,115] s).2).2).2)):=by unfold Hid yZ;simp only[h1,h2]
 have H1:=zA h1;have H2:=zA h2;clear h h1 h2
 go_enter Tryz.func191,Tryz.ntmps191
 go_wp2_with fail
 refine(xV R g cap P _ s [97,108,119,97,121,115] (yG.alloc HC0.out _)).mono ?_;rintro e w1 ⟨rfl,hc1,hk1⟩;rw[H1.out];have HC1:=zA hc1;have HT1:Hid (zB w.heap.size R w w1):=zB.step (zB.new (zB.refl _ _ _)) hk1;have q1_0:=fun o=>hk1.cell (p:=⟨w.heap.size,o,none⟩) (by simp;try omega) n0;have r1_0:=fun o=>hk1.frozen (p:=⟨w.heap.size,o,none⟩) (by simp;try omega) n0;have z1_0:w.heap.size<w1.heap.size:=tm (by simp;try omega) hk1.size;have b1:w1.heap[w.heap.size]? = some (.cells #[.int .i64 0,.int .i64 0,.int .i64 0,.string ⟨#[]⟩,.string ⟨#[]⟩,.string ⟨#[]⟩,.int .i64 0] 238 (0,0)):=zW (zH _ _) hk1 n0;clear hc1 hk1;go_wp2_with fail
 refine(xV R g cap P _ (zD P [97,108,119,97,121,115] s).2 [104,97,115] HC1.out).mono ?_;rintro e w2 ⟨rfl,hc2,hk2⟩;rw[H2.out];have HC2:=zA hc2;have HT2:Hid (zB w.heap.size R w w2):=zB.step HT1.out hk2;have q2_0:=fun o=>hk2.cell (p:=⟨w.heap.size,o,none⟩) z1_0 n0;have r2_0:=fun o=>hk2.frozen (p:=⟨w.heap.size,o,none⟩) z1_0 n0;have z2_0:w.heap.size<w2.heap.size:=tm z1_0 hk2.size;have b2:w2.heap[w.heap.size]? = some (.cells #[.int .i64 0,.int .i64 0,.int .i64 0,.string ⟨#[]⟩,.string ⟨#[]⟩,.string ⟨#[]⟩,.int .i64 0] 238 (0,0)):=zW b1 hk2 n0;clear hc2 hk2;go_wp2_with fail
 refine(mY R g cap P _ (zD P [104,97,115] (zD P [97,108,119,97,121,115] s).2).2 HC2.out).mono ?_;rintro e w3 ⟨rfl,hc3,hk3⟩;have HC3:=zA hc3;have HT3:Hid (zB w.heap.size R w w3):=zB.step HT2.out hk3;have q3_0:=fun o=>hk3.cell (p:=⟨w.heap.size,o,none⟩) z2_0 n0;have r3_0:=fun o=>hk3.frozen (p:=⟨w.heap.size,o,none⟩) z2_0 n0;have z3_0:w.heap.size<w3.heap.size:=tm z2_0 hk3.size;have b3:w3.heap[w.heap.size]? = some (.cells #[.int .i64 0,.int .i64 0,.int .i64 0,.string ⟨#[]⟩,.string ⟨#[]⟩,.string ⟨#[]⟩,.int .i64 0] 238 (0,0)):=zW b2 hk3 n0;clear hc3 hk3;go_wp2_with fail
 have cz3:=fun j=>f0 _ _ j _ _ _ b3;refine pm (v:=kN ⟨5,0,0,(zG P (zD P [104,97,115] (zD P [97,108,119,97,121,115] s).2).2).1,[],[],0⟩) (by simp (maxDischargeDepth:=8) [results,Tryz.results191,go_sem,kN,cz3]) rfl ⟨by rw[HP.out],by rw[HP.out];exact(yG.set (yG.set (yG.set (yG.set (yG.set (yG.set (yG.set HC3.out n0 m0) n0 m0) n0 m0) n0 m0) n0 m0) n0 m0) n0 m0),(zB.set (zB.set (zB.set (zB.set (zB.set (zB.set (zB.set HT3.out (tg _)) (tg _)) (tg _)) (tg _)) (tg _)) (tg _)) (tg _))⟩
theorem zGH(w:World)(R g cap:Nat)(P:List PT)(s:St)(h:xX w R g cap P s)(h1:(zD P [97,108,119,97,121,115] s).1=false)(h2:(zD P [104,97,115] (zD P [97,108,119,97,121,115] s).2).1=false)(h3:(xY P (zG P (zD P [104,97,115] (zD P [97,108,119,97,121,115] s).2).2).2).1.isEmpty=true) :
 Calls Tryz.prog 191 #[.pointer (some ⟨R,0,none⟩)] w fun e w'=>e=.returned (kN (yZ P s).1)/\xX w' R g cap P (yZ P s).2/\zB w.heap.size R w w':=by
 have hR:=h.rlt;have hg:=h.glt;have n0:w.heap.size≠R:=by omega
 have m0:w.heap.size≠g:=by omega
 have HC0:=zA h;have HP:Hid (yZ P s=(⟨6,0,0,(zG P (zD P [104,97,115] (zD P [97,108,119,97,121,115] s).2).2).1,[],[],0⟩,(xY P (zG P (zD P [104,97,115] (zD P [97,108,119,97,121,115] s).2).2).2).2)):=by unfold Hid yZ;simp only[h1,h2,h3]
 have H1:=zA h1;have H2:=zA h2;have H3:=zA h3;clear h h1 h2 h3;have h3':=H3.out
 go_enter Tryz.func191,Tryz.ntmps191
 go_wp2_with fail
 refine(xV R g cap P _ s [97,108,119,97,121,115] (yG.alloc HC0.out _)).mono ?_;rintro e w1 ⟨rfl,hc1,hk1⟩;rw[H1.out];have HC1:=zA hc1;have HT1:Hid (zB w.heap.size R w w1):=zB.step (zB.new (zB.refl _ _ _)) hk1;have q1_0:=fun o=>hk1.cell (p:=⟨w.heap.size,o,none⟩) (by simp;try omega) n0;have r1_0:=fun o=>hk1.frozen (p:=⟨w.heap.size,o,none⟩) (by simp;try omega) n0;have z1_0:w.heap.size<w1.heap.size:=tm (by simp;try omega) hk1.size;have b1:w1.heap[w.heap.size]? = some (.cells #[.int .i64 0,.int .i64 0,.int .i64 0,.string ⟨#[]⟩,.string ⟨#[]⟩,.string ⟨#[]⟩,.int .i64 0] 238 (0,0)):=zW (zH _ _) hk1 n0;clear hc1 hk1;go_wp2_with fail
 refine(xV R g cap P _ (zD P [97,108,119,97,121,115] s).2 [104,97,115] HC1.out).mono ?_;rintro e w2 ⟨rfl,hc2,hk2⟩;rw[H2.out];have HC2:=zA hc2;have HT2:Hid (zB w.heap.size R w w2):=zB.step HT1.out hk2;have q2_0:=fun o=>hk2.cell (p:=⟨w.heap.size,o,none⟩) z1_0 n0;have r2_0:=fun o=>hk2.frozen (p:=⟨w.heap.size,o,none⟩) z1_0 n0;have z2_0:w.heap.size<w2.heap.size:=tm z1_0 hk2.size;have b2:w2.heap[w.heap.size]? = some (.cells #[.int .i64 0,.int .i64 0,.int .i64 0,.string ⟨#[]⟩,.string ⟨#[]⟩,.string ⟨#[]⟩,.int .i64 0] 238 (0,0)):=zW b1 hk2 n0;clear hc2 hk2;have nx:w2.heap.size≠R:=by have h1:=HT2.out.size;omega
 have mx:w2.heap.size≠g:=by have h1:=HT2.out.size;omega
 have lx:w.heap.size<=w2.heap.size:=HT2.out.size;have dx:w2.heap.size≠w.heap.size:=fd z2_0;have fx:w.heap.size≠w2.heap.size:=Nat.ne_of_lt z2_0;have z2_x:True:=trivial;go_wp2_with fail
 refine(mY R g cap P _ (zD P [104,97,115] (zD P [97,108,119,97,121,115] s).2).2 (yG.alloc HC2.out _)).mono ?_;rintro e w3 ⟨rfl,hc3,hk3⟩;have HC3:=zA hc3;have HT3:Hid (zB w.heap.size R w w3):=zB.step (zB.new HT2.out) hk3;have q3_0:=fun o=>hk3.cell (p:=⟨w.heap.size,o,none⟩) (fZ z2_0) n0;have r3_0:=fun o=>hk3.frozen (p:=⟨w.heap.size,o,none⟩) (fZ z2_0) n0;have z3_0:w.heap.size<w3.heap.size:=tm (fZ z2_0) hk3.size;have q3_x:=fun o=>hk3.cell (p:=⟨w2.heap.size,o,none⟩) (yE _ _) nx;have r3_x:=fun o=>hk3.frozen (p:=⟨w2.heap.size,o,none⟩) (yE _ _) nx;have z3_x:w2.heap.size<w3.heap.size:=tm (yE _ _) hk3.size;have b3:w3.heap[w.heap.size]? = some (.cells #[.int .i64 0,.int .i64 0,.int .i64 0,.string ⟨#[]⟩,.string ⟨#[]⟩,.string ⟨#[]⟩,.int .i64 0] 238 (0,0)):=zW (yD b2) hk3 n0;clear hc3 hk3;go_wp2_with fail
 refine(gI _ R g cap P (zG P (zD P [104,97,115] (zD P [97,108,119,97,121,115] s).2).2).2 (yG.set HC3.out nx mx)).mono ?_;rintro e w4 ⟨rfl,hc4,hk4⟩;have HC4:=zA hc4;have HT4:Hid (zB w.heap.size R w w4):=zB.step (zB.set HT3.out lx) hk4;have q4_0:=fun o=>hk4.cell (p:=⟨w.heap.size,o,none⟩) (zI z3_0) n0;have r4_0:=fun o=>hk4.frozen (p:=⟨w.heap.size,o,none⟩) (zI z3_0) n0;have z4_0:w.heap.size<w4.heap.size:=tm (zI z3_0) hk4.size;have q4_x:=fun o=>hk4.cell (p:=⟨w2.heap.size,o,none⟩) (zI z3_x) nx;have r4_x:=fun o=>hk4.frozen (p:=⟨w2.heap.size,o,none⟩) (zI z3_x) nx;have z4_x:w2.heap.size<w4.heap.size:=tm (zI z3_x) hk4.size;have b4:w4.heap[w.heap.size]? = some (.cells #[.int .i64 0,.int .i64 0,.int .i64 0,.string ⟨#[]⟩,.string ⟨#[]⟩,.string ⟨#[]⟩,.int .i64 0] 238 (0,0)):=zW (qJ b3 fx) hk4 n0;clear hc4 hk4;go_wp2_with fail
 have cz4:=fun j=>f0 _ _ j _ _ _ b4;refine pm (v:=kN ⟨6,0,0,(zG P (zD P [104,97,115] (zD P [97,108,119,97,121,115] s).2).2).1,[],[],0⟩) (by simp (maxDischargeDepth:=8) [results,Tryz.results191,go_sem,kN,cz4]) rfl ⟨by rw[HP.out],by rw[HP.out];exact(yG.set (yG.set (yG.set (yG.set (yG.set (yG.set (yG.set HC4.out n0 m0) n0 m0) n0 m0) n0 m0) n0 m0) n0 m0) n0 m0),(zB.set (zB.set (zB.set (zB.set (zB.set (zB.set (zB.set HT4.out (tg _)) (tg _)) (tg _)) (tg _)) (tg _)) (tg _)) (tg _))⟩
theorem zGG(w:World)(R g cap:Nat)(P:List PT)(s:St)(h:xX w R g cap P s)(h1:(zD P [97,108,119,97,121,115] s).1=false)(h2:(zD P [104,97,115] (zD P [97,108,119,97,121,115] s).2).1=false)(h3:(xY P (zG P (zD P [104,97,115] (zD P [97,108,119,97,121,115] s).2).2).2).1.isEmpty=false)(h4:kR P (xY P (zG P (zD P [104,97,115] (zD P [97,108,119,97,121,115] s).2).2).2).2=true) :
 Calls Tryz.prog 191 #[.pointer (some ⟨R,0,none⟩)] w fun e w'=>e=.returned (kN (yZ P s).1)/\xX w' R g cap P (yZ P s).2/\zB w.heap.size R w w':=by
 have hR:=h.rlt;have hg:=h.glt;have n0:w.heap.size≠R:=by omega
 have m0:w.heap.size≠g:=by omega
 have HC0:=zA h;have HP:Hid (yZ P s=(⟨7,0,0,(zG P (zD P [104,97,115] (zD P [97,108,119,97,121,115] s).2).2).1,(xY P (zG P (zD P [104,97,115] (zD P [97,108,119,97,121,115] s).2).2).2).1,[],(yC P (xY P (zG P (zD P [104,97,115] (zD P [97,108,119,97,121,115] s).2).2).2).2).1⟩,(yC P (xY P (zG P (zD P [104,97,115] (zD P [97,108,119,97,121,115] s).2).2).2).2).2)):=by unfold Hid yZ;simp only[h1,h2,h3,h4]
 have H1:=zA h1;have H2:=zA h2;have H3:=zA h3;have H4:=zA h4;clear h h1 h2 h3 h4;have h3':=H3.out
 go_enter Tryz.func191,Tryz.ntmps191
 go_wp2_with fail
 refine(xV R g cap P _ s [97,108,119,97,121,115] (yG.alloc HC0.out _)).mono ?_;rintro e w1 ⟨rfl,hc1,hk1⟩;rw[H1.out];have HC1:=zA hc1;have HT1:Hid (zB w.heap.size R w w1):=zB.step (zB.new (zB.refl _ _ _)) hk1;have q1_0:=fun o=>hk1.cell (p:=⟨w.heap.size,o,none⟩) (by simp;try omega) n0;have r1_0:=fun o=>hk1.frozen (p:=⟨w.heap.size,o,none⟩) (by simp;try omega) n0;have z1_0:w.heap.size<w1.heap.size:=tm (by simp;try omega) hk1.size;have b1:w1.heap[w.heap.size]? = some (.cells #[.int .i64 0,.int .i64 0,.int .i64 0,.string ⟨#[]⟩,.string ⟨#[]⟩,.string ⟨#[]⟩,.int .i64 0] 238 (0,0)):=zW (zH _ _) hk1 n0;clear hc1 hk1;go_wp2_with fail
 refine(xV R g cap P _ (zD P [97,108,119,97,121,115] s).2 [104,97,115] HC1.out).mono ?_;rintro e w2 ⟨rfl,hc2,hk2⟩;rw[H2.out];have HC2:=zA hc2;have HT2:Hid (zB w.heap.size R w w2):=zB.step HT1.out hk2;have q2_0:=fun o=>hk2.cell (p:=⟨w.heap.size,o,none⟩) z1_0 n0;have r2_0:=fun o=>hk2.frozen (p:=⟨w.heap.size,o,none⟩) z1_0 n0;have z2_0:w.heap.size<w2.heap.size:=tm z1_0 hk2.size;have b2:w2.heap[w.heap.size]? = some (.cells #[.int .i64 0,.int .i64 0,.int .i64 0,.string ⟨#[]⟩,.string ⟨#[]⟩,.string ⟨#[]⟩,.int .i64 0] 238 (0,0)):=zW b1 hk2 n0;clear hc2 hk2;have nx:w2.heap.size≠R:=by have h1:=HT2.out.size;omega
 have mx:w2.heap.size≠g:=by have h1:=HT2.out.size;omega
 have lx:w.heap.size<=w2.heap.size:=HT2.out.size;have dx:w2.heap.size≠w.heap.size:=fd z2_0;have fx:w.heap.size≠w2.heap.size:=Nat.ne_of_lt z2_0;have z2_x:True:=trivial;go_wp2_with fail
 refine(mY R g cap P _ (zD P [104,97,115] (zD P [97,108,119,97,121,115] s).2).2 (yG.alloc HC2.out _)).mono ?_;rintro e w3 ⟨rfl,hc3,hk3⟩;have HC3:=zA hc3;have HT3:Hid (zB w.heap.size R w w3):=zB.step (zB.new HT2.out) hk3;have q3_0:=fun o=>hk3.cell (p:=⟨w.heap.size,o,none⟩) (fZ z2_0) n0;have r3_0:=fun o=>hk3.frozen (p:=⟨w.heap.size,o,none⟩) (fZ z2_0) n0;have z3_0:w.heap.size<w3.heap.size:=tm (fZ z2_0) hk3.size;have q3_x:=fun o=>hk3.cell (p:=⟨w2.heap.size,o,none⟩) (yE _ _) nx;have r3_x:=fun o=>hk3.frozen (p:=⟨w2.heap.size,o,none⟩) (yE _ _) nx;have z3_x:w2.heap.size<w3.heap.size:=tm (yE _ _) hk3.size;have b3:w3.heap[w.heap.size]? = some (.cells #[.int .i64 0,.int .i64 0,.int .i64 0,.string ⟨#[]⟩,.string ⟨#[]⟩,.string ⟨#[]⟩,.int .i64 0] 238 (0,0)):=zW (yD b2) hk3 n0;clear hc3 hk3;go_wp2_with fail
 refine(gI _ R g cap P (zG P (zD P [104,97,115] (zD P [97,108,119,97,121,115] s).2).2).2 (yG.set HC3.out nx mx)).mono ?_;rintro e w4 ⟨rfl,hc4,hk4⟩;have HC4:=zA hc4;have HT4:Hid (zB w.heap.size R w w4):=zB.step (zB.set HT3.out lx) hk4;have q4_0:=fun o=>hk4.cell (p:=⟨w.heap.size,o,none⟩) (zI z3_0) n0;have r4_0:=fun o=>hk4.frozen (p:=⟨w.heap.size,o,none⟩) (zI z3_0) n0;have z4_0:w.heap.size<w4.heap.size:=tm (zI z3_0) hk4.size;have q4_x:=fun o=>hk4.cell (p:=⟨w2.heap.size,o,none⟩) (zI z3_x) nx;have r4_x:=fun o=>hk4.frozen (p:=⟨w2.heap.size,o,none⟩) (zI z3_x) nx;have z4_x:w2.heap.size<w4.heap.size:=tm (zI z3_x) hk4.size;have b4:w4.heap[w.heap.size]? = some (.cells #[.int .i64 0,.int .i64 0,.int .i64 0,.string ⟨#[]⟩,.string ⟨#[]⟩,.string ⟨#[]⟩,.int .i64 0] 238 (0,0)):=zW (qJ b3 fx) hk4 n0;clear hc4 hk4;go_wp2_with fail
 refine(aA R g cap P _ (xY P (zG P (zD P [104,97,115] (zD P [97,108,119,97,121,115] s).2).2).2).2 3 (yG.set (yG.set HC4.out nx mx) nx mx)).mono ?_;rintro e w5 ⟨rfl,hc5,hk5⟩;rw[show ((yT P (xY P (zG P (zD P [104,97,115] (zD P [97,108,119,97,121,115] s).2).2).2).2.1).k==3)=true from H4.out];have HC5:=zA hc5;have HT5:Hid (zB w.heap.size R w w5):=zB.step (zB.set (zB.set HT4.out lx) lx) hk5;have q5_0:=fun o=>hk5.cell (p:=⟨w.heap.size,o,none⟩) (zI (zI z4_0)) n0;have r5_0:=fun o=>hk5.frozen (p:=⟨w.heap.size,o,none⟩) (zI (zI z4_0)) n0;have z5_0:w.heap.size<w5.heap.size:=tm (zI (zI z4_0)) hk5.size;have q5_x:=fun o=>hk5.cell (p:=⟨w2.heap.size,o,none⟩) (zI (zI z4_x)) nx;have r5_x:=fun o=>hk5.frozen (p:=⟨w2.heap.size,o,none⟩) (zI (zI z4_x)) nx;have z5_x:w2.heap.size<w5.heap.size:=tm (zI (zI z4_x)) hk5.size;have b5:w5.heap[w.heap.size]? = some (.cells #[.int .i64 0,.int .i64 0,.int .i64 0,.string ⟨#[]⟩,.string ⟨#[]⟩,.string ⟨#[]⟩,.int .i64 0] 238 (0,0)):=zW (qJ (qJ b4 fx) fx) hk5 n0;clear hc5 hk5;go_wp2_with fail
 refine(nU R g cap P _ (xY P (zG P (zD P [104,97,115] (zD P [97,108,119,97,121,115] s).2).2).2).2 HC5.out).mono ?_;rintro e w6 ⟨rfl,hc6,hk6⟩;have HC6:=zA hc6;have HT6:Hid (zB w.heap.size R w w6):=zB.step HT5.out hk6;have q6_0:=fun o=>hk6.cell (p:=⟨w.heap.size,o,none⟩) z5_0 n0;have r6_0:=fun o=>hk6.frozen (p:=⟨w.heap.size,o,none⟩) z5_0 n0;have z6_0:w.heap.size<w6.heap.size:=tm z5_0 hk6.size;have q6_x:=fun o=>hk6.cell (p:=⟨w2.heap.size,o,none⟩) z5_x nx;have r6_x:=fun o=>hk6.frozen (p:=⟨w2.heap.size,o,none⟩) z5_x nx;have z6_x:w2.heap.size<w6.heap.size:=tm z5_x hk6.size;have b6:w6.heap[w.heap.size]? = some (.cells #[.int .i64 0,.int .i64 0,.int .i64 0,.string ⟨#[]⟩,.string ⟨#[]⟩,.string ⟨#[]⟩,.int .i64 0] 238 (0,0)):=zW b5 hk6 n0;clear hc6 hk6;go_wp2_with fail
 have cz6:=fun j=>f0 _ _ j _ _ _ b6;refine pm (v:=kN ⟨7,0,0,(zG P (zD P [104,97,115] (zD P [97,108,119,97,121,115] s).2).2).1,(xY P (zG P (zD P [104,97,115] (zD P [97,108,119,97,121,115] s).2).2).2).1,[],(yC P (xY P (zG P (zD P [104,97,115] (zD P [97,108,119,97,121,115] s).2).2).2).2).1⟩) (by simp (maxDischargeDepth:=8) [results,Tryz.results191,go_sem,kN,cz6]) rfl ⟨by rw[HP.out],by rw[HP.out];exact(yG.set (yG.set (yG.set (yG.set (yG.set (yG.set (yG.set (yG.set HC6.out nx mx) n0 m0) n0 m0) n0 m0) n0 m0) n0 m0) n0 m0) n0 m0),(zB.set (zB.set (zB.set (zB.set (zB.set (zB.set (zB.set (zB.set HT6.out lx) (tg _)) (tg _)) (tg _)) (tg _)) (tg _)) (tg _)) (tg _))⟩
theorem zGF(w:World)(R g cap:Nat)(P:List PT)(s:St)(h:xX w R g cap P s)(h1:(zD P [97,108,119,97,121,115] s).1=false)(h2:(zD P [104,97,115] (zD P [97,108,119,97,121,115] s).2).1=false)(h3:(xY P (zG P (zD P [104,97,115] (zD P [97,108,119,97,121,115] s).2).2).2).1.isEmpty=false)(h4:kR P (xY P (zG P (zD P [104,97,115] (zD P [97,108,119,97,121,115] s).2).2).2).2=false) :
 Calls Tryz.prog 191 #[.pointer (some ⟨R,0,none⟩)] w fun e w'=>e=.returned (kN (yZ P s).1)/\xX w' R g cap P (yZ P s).2/\zB w.heap.size R w w':=by
 have hR:=h.rlt;have hg:=h.glt;have n0:w.heap.size≠R:=by omega
 have m0:w.heap.size≠g:=by omega
 have HC0:=zA h;have HP:Hid (yZ P s=(⟨7,0,0,(zG P (zD P [104,97,115] (zD P [97,108,119,97,121,115] s).2).2).1,(xY P (zG P (zD P [104,97,115] (zD P [97,108,119,97,121,115] s).2).2).2).1,(zG P (xY P (zG P (zD P [104,97,115] (zD P [97,108,119,97,121,115] s).2).2).2).2).1,0⟩,(zG P (xY P (zG P (zD P [104,97,115] (zD P [97,108,119,97,121,115] s).2).2).2).2).2)):=by unfold Hid yZ;simp only[h1,h2,h3,h4]
 have H1:=zA h1;have H2:=zA h2;have H3:=zA h3;have H4:=zA h4;clear h h1 h2 h3 h4;have h3':=H3.out
 go_enter Tryz.func191,Tryz.ntmps191
 go_wp2_with fail
 refine(xV R g cap P _ s [97,108,119,97,121,115] (yG.alloc HC0.out _)).mono ?_;rintro e w1 ⟨rfl,hc1,hk1⟩;rw[H1.out];have HC1:=zA hc1;have HT1:Hid (zB w.heap.size R w w1):=zB.step (zB.new (zB.refl _ _ _)) hk1;have q1_0:=fun o=>hk1.cell (p:=⟨w.heap.size,o,none⟩) (by simp;try omega) n0;have r1_0:=fun o=>hk1.frozen (p:=⟨w.heap.size,o,none⟩) (by simp;try omega) n0;have z1_0:w.heap.size<w1.heap.size:=tm (by simp;try omega) hk1.size;have b1:w1.heap[w.heap.size]? = some (.cells #[.int .i64 0,.int .i64 0,.int .i64 0,.string ⟨#[]⟩,.string ⟨#[]⟩,.string ⟨#[]⟩,.int .i64 0] 238 (0,0)):=zW (zH _ _) hk1 n0;clear hc1 hk1;go_wp2_with fail
 refine(xV R g cap P _ (zD P [97,108,119,97,121,115] s).2 [104,97,115] HC1.out).mono ?_;rintro e w2 ⟨rfl,hc2,hk2⟩;rw[H2.out];have HC2:=zA hc2;have HT2:Hid (zB w.heap.size R w w2):=zB.step HT1.out hk2;have q2_0:=fun o=>hk2.cell (p:=⟨w.heap.size,o,none⟩) z1_0 n0;have r2_0:=fun o=>hk2.frozen (p:=⟨w.heap.size,o,none⟩) z1_0 n0;have z2_0:w.heap.size<w2.heap.size:=tm z1_0 hk2.size;have b2:w2.heap[w.heap.size]? = some (.cells #[.int .i64 0,.int .i64 0,.int .i64 0,.string ⟨#[]⟩,.string ⟨#[]⟩,.string ⟨#[]⟩,.int .i64 0] 238 (0,0)):=zW b1 hk2 n0;clear hc2 hk2;have nx:w2.heap.size≠R:=by have h1:=HT2.out.size;omega
 have mx:w2.heap.size≠g:=by have h1:=HT2.out.size;omega
 have lx:w.heap.size<=w2.heap.size:=HT2.out.size;have dx:w2.heap.size≠w.heap.size:=fd z2_0;have fx:w.heap.size≠w2.heap.size:=Nat.ne_of_lt z2_0;have z2_x:True:=trivial;go_wp2_with fail
 refine(mY R g cap P _ (zD P [104,97,115] (zD P [97,108,119,97,121,115] s).2).2 (yG.alloc HC2.out _)).mono ?_;rintro e w3 ⟨rfl,hc3,hk3⟩;have HC3:=zA hc3;have HT3:Hid (zB w.heap.size R w w3):=zB.step (zB.new HT2.out) hk3;have q3_0:=fun o=>hk3.cell (p:=⟨w.heap.size,o,none⟩) (fZ z2_0) n0;have r3_0:=fun o=>hk3.frozen (p:=⟨w.heap.size,o,none⟩) (fZ z2_0) n0;have z3_0:w.heap.size<w3.heap.size:=tm (fZ z2_0) hk3.size;have q3_x:=fun o=>hk3.cell (p:=⟨w2.heap.size,o,none⟩) (yE _ _) nx;have r3_x:=fun o=>hk3.frozen (p:=⟨w2.heap.size,o,none⟩) (yE _ _) nx;have z3_x:w2.heap.size<w3.heap.size:=tm (yE _ _) hk3.size;have b3:w3.heap[w.heap.size]? = some (.cells #[.int .i64 0,.int .i64 0,.int .i64 0,.string ⟨#[]⟩,.string ⟨#[]⟩,.string ⟨#[]⟩,.int .i64 0] 238 (0,0)):=zW (yD b2) hk3 n0;clear hc3 hk3;go_wp2_with fail
 refine(gI _ R g cap P (zG P (zD P [104,97,115] (zD P [97,108,119,97,121,115] s).2).2).2 (yG.set HC3.out nx mx)).mono ?_;rintro e w4 ⟨rfl,hc4,hk4⟩;have HC4:=zA hc4;have HT4:Hid (zB w.heap.size R w w4):=zB.step (zB.set HT3.out lx) hk4;have q4_0:=fun o=>hk4.cell (p:=⟨w.heap.size,o,none⟩) (zI z3_0) n0;have r4_0:=fun o=>hk4.frozen (p:=⟨w.heap.size,o,none⟩) (zI z3_0) n0;have z4_0:w.heap.size<w4.heap.size:=tm (zI z3_0) hk4.size;have q4_x:=fun o=>hk4.cell (p:=⟨w2.heap.size,o,none⟩) (zI z3_x) nx;have r4_x:=fun o=>hk4.frozen (p:=⟨w2.heap.size,o,none⟩) (zI z3_x) nx;have z4_x:w2.heap.size<w4.heap.size:=tm (zI z3_x) hk4.size;have b4:w4.heap[w.heap.size]? = some (.cells #[.int .i64 0,.int .i64 0,.int .i64 0,.string ⟨#[]⟩,.string ⟨#[]⟩,.string ⟨#[]⟩,.int .i64 0] 238 (0,0)):=zW (qJ b3 fx) hk4 n0;clear hc4 hk4;go_wp2_with fail
 refine(aA R g cap P _ (xY P (zG P (zD P [104,97,115] (zD P [97,108,119,97,121,115] s).2).2).2).2 3 (yG.set (yG.set HC4.out nx mx) nx mx)).mono ?_;rintro e w5 ⟨rfl,hc5,hk5⟩;rw[show ((yT P (xY P (zG P (zD P [104,97,115] (zD P [97,108,119,97,121,115] s).2).2).2).2.1).k==3)=false from H4.out];have HC5:=zA hc5;have HT5:Hid (zB w.heap.size R w w5):=zB.step (zB.set (zB.set HT4.out lx) lx) hk5;have q5_0:=fun o=>hk5.cell (p:=⟨w.heap.size,o,none⟩) (zI (zI z4_0)) n0;have r5_0:=fun o=>hk5.frozen (p:=⟨w.heap.size,o,none⟩) (zI (zI z4_0)) n0;have z5_0:w.heap.size<w5.heap.size:=tm (zI (zI z4_0)) hk5.size;have q5_x:=fun o=>hk5.cell (p:=⟨w2.heap.size,o,none⟩) (zI (zI z4_x)) nx;have r5_x:=fun o=>hk5.frozen (p:=⟨w2.heap.size,o,none⟩) (zI (zI z4_x)) nx;have z5_x:w2.heap.size<w5.heap.size:=tm (zI (zI z4_x)) hk5.size;have b5:w5.heap[w.heap.size]? = some (.cells #[.int .i64 0,.int .i64 0,.int .i64 0,.string ⟨#[]⟩,.string ⟨#[]⟩,.string ⟨#[]⟩,.int .i64 0] 238 (0,0)):=zW (qJ (qJ b4 fx) fx) hk5 n0;clear hc5 hk5;go_wp2_with fail
 refine(mY R g cap P _ (xY P (zG P (zD P [104,97,115] (zD P [97,108,119,97,121,115] s).2).2).2).2 HC5.out).mono ?_;rintro e w6 ⟨rfl,hc6,hk6⟩;have HC6:=zA hc6;have HT6:Hid (zB w.heap.size R w w6):=zB.step HT5.out hk6;have q6_0:=fun o=>hk6.cell (p:=⟨w.heap.size,o,none⟩) z5_0 n0;have r6_0:=fun o=>hk6.frozen (p:=⟨w.heap.size,o,none⟩) z5_0 n0;have z6_0:w.heap.size<w6.heap.size:=tm z5_0 hk6.size;have q6_x:=fun o=>hk6.cell (p:=⟨w2.heap.size,o,none⟩) z5_x nx;have r6_x:=fun o=>hk6.frozen (p:=⟨w2.heap.size,o,none⟩) z5_x nx;have z6_x:w2.heap.size<w6.heap.size:=tm z5_x hk6.size;have b6:w6.heap[w.heap.size]? = some (.cells #[.int .i64 0,.int .i64 0,.int .i64 0,.string ⟨#[]⟩,.string ⟨#[]⟩,.string ⟨#[]⟩,.int .i64 0] 238 (0,0)):=zW b5 hk6 n0;clear hc6 hk6;go_wp2_with fail
 have cz6:=fun j=>f0 _ _ j _ _ _ b6;refine pm (v:=kN ⟨7,0,0,(zG P (zD P [104,97,115] (zD P [97,108,119,97,121,115] s).2).2).1,(xY P (zG P (zD P [104,97,115] (zD P [97,108,119,97,121,115] s).2).2).2).1,(zG P (xY P (zG P (zD P [104,97,115] (zD P [97,108,119,97,121,115] s).2).2).2).2).1,0⟩) (by simp (maxDischargeDepth:=8) [results,Tryz.results191,go_sem,kN,cz6]) rfl ⟨by rw[HP.out],by rw[HP.out];exact(yG.set (yG.set (yG.set (yG.set (yG.set (yG.set (yG.set (yG.set HC6.out nx mx) n0 m0) n0 m0) n0 m0) n0 m0) n0 m0) n0 m0) n0 m0),(zB.set (zB.set (zB.set (zB.set (zB.set (zB.set (zB.set (zB.set HT6.out lx) (tg _)) (tg _)) (tg _)) (tg _)) (tg _)) (tg _)) (tg _))⟩
theorem zu(w:World)(R g cap:Nat)(P:List PT)(s:St)(h:xX w R g cap P s) :
 Calls Tryz.prog 191 #[.pointer (some ⟨R,0,none⟩)] w fun e w'=>e=.returned (kN (yZ P s).1)/\xX w' R g cap P (yZ P s).2/\zB w.heap.size R w w':=by
 cases h1:(zD P [97,108,119,97,121,115] s).1
 ·cases h2:(zD P [104,97,115] (zD P [97,108,119,97,121,115] s).2).1
  ·cases h3:(xY P (zG P (zD P [104,97,115] (zD P [97,108,119,97,121,115] s).2).2).2).1.isEmpty
   ·cases h4:kR P (xY P (zG P (zD P [104,97,115] (zD P [97,108,119,97,121,115] s).2).2).2).2
    ·exact zGF w R g cap P s h h1 h2 h3 h4
    ·exact zGG w R g cap P s h h1 h2 h3 h4
   ·exact zGH w R g cap P s h h1 h2 h3
  ·exact zGI w R g cap P s h h1 h2
 ·exact zGJ w R g cap P s h h1
attribute [local go_sem ↓] Go.wp_at_zero Go.wp_at_succ
def YM(x:zN):List Value:=[.int .i64 x.kind,.int .i64 x.left,.int .i64 x.right,.string ⟨x.name.toArray⟩,.string ⟨x.mark.toArray⟩,.string ⟨x.other.toArray⟩,.int .i64 x.num]
def dB(ns:List zN):List Value:=ns.flatMap YM
theorem BN(ns:List zN)(x:zN):dB (ns++[x])=dB ns++YM x:=by simp[dB]
def oI(nv:Value)(root tests dep:Int):Obj:=.cells #[nv,.int .i64 root,.int .i64 tests,.int .i64 dep] 182 (0,0)
def Gd(w:World)(G:Nat)(nd:List zN)(root tests dep:Int):Prop :=
 ∃nv,w.heap[G]? = some (oI nv root tests dep)/\w.ownsRow (G+1) 238 7 nv nd.length (dB nd)
theorem kj:(Tryz.prog.info? 238).map (fun i=>(i.zero,i.size,i.bytes))=some (some (.agg #[.int .i64 0,.int .i64 0,.int .i64 0,.string ⟨#[]⟩,.string ⟨#[]⟩,.string ⟨#[]⟩,.int .i64 0]),7,80):=by kernel_rfl
theorem Gd.lt{nd:List zN}(h:Gd w G nd root tests dep):G<w.heap.size:=by
 obtain⟨nv,h1,_⟩:=h;rcases py G w.heap.size with h2|h2
 ·exact h2
 ·rw[pq h2]at h1;cases h1
theorem zEK{nv:Value}(h:w.heap[G]? = some (oI nv root tests dep)):(w.setCell ⟨G,0,none⟩ v).heap[G]? = some (oI v root tests dep):=by
 unfold oI at h ⊢;rw[p9 w G 0 _ _ _ h];simp
theorem xA{B:Nat}{e:TypeId}{size:Nat}{n:Nat}{xs:List Value}(h:w.ownsRow B e size v n xs){b o:Nat}{u:Value}(hb:b<B):(w.setCell ⟨b,o,none⟩ u).ownsRow B e size v n xs :=
 ownsRow_setCell_below h (a:=⟨b,o,none⟩) hb u
theorem zEN{y:Obj}{row:Option Nat}(hg:((w.alloc x).alloc y).drew.grownBy w1 row)(h:w.frozen? ⟨G,0,none⟩=false)(hG:G<w.heap.size)(hr:some G≠row):w1.frozen? ⟨G,0,none⟩=false:=by
 have hb:w1.heap[G]? = w.heap[G]? := by
  rw[hg.block G (by show G<((w.alloc x).alloc y).heap.size;simp;omega) hr];show ((w.alloc x).alloc y).heap[G]? = _;rw[l5 _ _ _ (by simp;omega),l5 _ _ _ hG]
 rw[dk (w:=w) hb];exact h
theorem zF3{y:Obj}{row:Option Nat}(hg:((w.alloc x).alloc y).drew.grownBy w1 row)(h:w.cell? ⟨G,0,none⟩=some v)(hG:G<w.heap.size)(hr:some G≠row):w1.cell? ⟨G,0,none⟩=some v:=by
 have hb:w1.heap[G]? = w.heap[G]? := by
  rw[hg.block G (by show G<((w.alloc x).alloc y).heap.size;simp;omega) hr];show ((w.alloc x).alloc y).heap[G]? = _;rw[l5 _ _ _ (by simp;omega),l5 _ _ _ hG]
 rw[bg (w:=w) hb];exact h
theorem VU(w:World)(G:Nat)(nd:List zN)(root tests dep:Int)(x:zN)(h:Gd w G nd root tests dep)(hn:nd.length<=10000) :
 Calls Tryz.prog 189 #[.pointer (some ⟨G,0,none⟩),kN x] w fun e w'=>e=.returned (.int .i64 (nd.length:Nat))/\Gd w' G (nd++[x]) root tests dep/\Below G w w':=by
 obtain⟨i0,hi0,hz0,hz1,hz2⟩:=info_parts kj;have hG:=h.lt;obtain⟨nv,hg,zJU⟩:=h;have c0:w.cell? ⟨G,0,none⟩=some nv:=by unfold oI at hg;rw[f0 w G 0 _ _ _ hg];rfl
 have fz:w.frozen? ⟨G,0,none⟩=false:=by unfold oI at hg;simp[World.frozen?,hg]
 have n0:w.heap.size≠G:=by omega
 have n1:w.heap.size+1≠G:=by omega
 have HG:=zA hg;have HOB:=zA (zU zJU);have hnc:YM x=[.int .i64 x.kind,.int .i64 x.left,.int .i64 x.right,.string ⟨x.name.toArray⟩,.string ⟨x.mark.toArray⟩,.string ⟨x.other.toArray⟩,.int .i64 x.num]:=rfl;obtain⟨xk,xl,xr,xn,xm,xo,xu⟩:=x;simp only at hnc;simp only[kN];have HX:=zA hnc;have a1:some G≠nv.ownBlock:=fun e=>by have h1:=(HOB.out G e.symm).1;omega
 have a2:some w.heap.size≠nv.ownBlock:=fun e=>by have h1:=(HOB.out w.heap.size e.symm).2;omega
 clear hg hnc
 go_enter Tryz.func189,Tryz.ntmps189
 go_wp2_with fail
 go_region_law ((refine step_append_lies _ (by rfl) _ _ _ (by rfl) (G+1) 238 i0 _ 7 80 Tryz.underlying180 hi0 hz0 hz1 hz2 rfl (by decide) nv nd.length (dB nd) (by rfl) (((zJU.alloc _).alloc _).drew) ⟨w.heap.size+1,0,none⟩ 1 1 (YM ⟨xk,xl,xr,xn,xm,xo,xu⟩) (by rfl) (by rfl) (by rw[HX.out];exact jY _ _ _ _ rfl (by simp)) (by rw[HX.out];simp[Value.oneCell']) (by decide) (by unfold maxLen;omega) (by omega) (by simp;omega) (w.heap.size+1+1) (by simp) ?_;intro gg cap w1 zK0 zJT hat zJS;have fz1:w1.frozen? ⟨G,0,none⟩=false:=zEN zJT fz hG a1;have c1':w1.cell? ⟨G,0,none⟩=some nv:=zF3 zJT c0 hG a1))
 all_goals
  have hbel:Below G w w1:=(((tl G w).alloc (by omega) _).alloc (by simp;omega) _).drew.grown zJT (by show G<=((w.alloc _).alloc _).heap.size;simp;omega) (fun k hk=>by have h1:=(HOB.out k hk).1;omega)
  have hg1:w1.heap[G]? = some (oI nv root tests dep):=by
   rw[zJT.block G (by show G<((w.alloc _).alloc _).heap.size;simp;omega) a1];show ((w.alloc _).alloc _).heap[G]? = _;rw[l5 _ _ _ (by simp;omega),l5 _ _ _ hG];exact HG.out
  have HG1:=zA hg1;have HBel:=zA hbel;have HO1:=zA zK0;clear hg1 hbel zK0 zJT zJU;go_wp2_with fail
  go_ret
  refine⟨yR (by simp),⟨_,zEK HG1.out,?_⟩,HBel.out.setCell (p:=⟨G,0,none⟩) (tg _) _⟩;rw[BN,tq];exact xA HO1.out (mt G)
structure GS where
 s:St
 nd:List zN
 tests:Int
 dep:Int
def GS.to(q:GS)(s:St):GS:=⟨s,q.nd,q.tests,q.dep⟩
def GS.add(q:GS)(x:zN):GS:=⟨q.s,q.nd++[x],q.tests,q.dep⟩
def GS.tested(q:GS)(d:Int):GS:=⟨q.s,q.nd,q.tests+1,if q.dep<d then d else q.dep⟩
def kQ(P:List PT)(item:GS->Int × GS)(tok:Bs)(kind:Int):Nat->Int->GS->Int × GS
 | 0,left,q=>(left,q)
 | k+1,left,q =>
   match (zD P tok q.s).1 with
   | false=>(left,q.to (zD P tok q.s).2)
   | true=>kQ P item tok kind k ((item (q.to (zD P tok q.s).2)).2.nd.length:Nat) ((item (q.to (zD P tok q.s).2)).2.add ⟨kind,left,(item (q.to (zD P tok q.s).2)).1,[],[],[],0⟩)
def qZ(P:List PT)(fact:GS->Int->Int × GS)(q:GS)(d:Int):Int × GS:=kQ P (fun q=>fact q d) xT 2 P.length (fact q d).1 (fact q d).2
def bJ(P:List PT)(fact:GS->Int->Int × GS)(q:GS)(d:Int):Int × GS:=kQ P (fun q=>qZ P fact q d) jU 1 P.length (qZ P fact q d).1 (qZ P fact q d).2
def yJ(P:List PT):Nat->GS->Int->Int × GS
 | 0,q,_=>(0,q)
 | n+1,q,d =>
   match (zD P yX q.s).1 with
   | true=>(((yJ P n (q.to (zD P yX q.s).2) (d+1)).2.nd.length:Nat),(yJ P n (q.to (zD P yX q.s).2) (d+1)).2.add ⟨3,(yJ P n (q.to (zD P yX q.s).2) (d+1)).1,0,[],[],[],0⟩)
   | false =>
     match (zD P yO (zD P yX q.s).2).1 with
     | true=>((bJ P (yJ P n) (q.to (zD P yO (zD P yX q.s).2).2) (d+1)).1,
      (bJ P (yJ P n) (q.to (zD P yO (zD P yX q.s).2).2) (d+1)).2.to (zP P vJ (bJ P (yJ P n) (q.to (zD P yO (zD P yX q.s).2).2) (d+1)).2.s))
     | false=>((q.nd.length:Nat),(((q.tested d).to (yZ P (zD P yO (zD P yX q.s).2).2).2).add (yZ P (zD P yO (zD P yX q.s).2).2).1))
def bZ(P:List PT)(n:Nat):GS->Int->Int × GS:=qZ P (yJ P n)
def wF(P:List PT)(n:Nat):GS->Int->Int × GS:=bJ P (yJ P n)
structure Zn(w:World)(R g cap:Nat)(P:List PT)(G:Nat)(root:Int)(q:GS):Prop where
 ctx:xX w R g cap P q.s
 gd:Gd w G q.nd root q.tests q.dep
 rG:R<G
 gG:g<G
theorem Gd.keeps{nd:List zN}(h:Gd w G nd root tests dep)(hk:zB w.heap.size R w w')(hR:R<G):Gd w' G nd root tests dep:=by
 have zJS:=h.lt;obtain⟨nv,h1,h2⟩:=h;exact⟨nv,by rw[hk.block G zJS (by omega)];exact h1,vZ h2 hk (by omega)⟩
theorem Zn.read{g cap:Nat}{P:List PT}{q:GS}{s':St}(h:Zn w R g cap P G root q)(hc:xX w' R g cap P s')(hk:zB w.heap.size R w w'):Zn w' R g cap P G root (q.to s') :=
 ⟨hc,h.gd.keeps hk h.rG,h.rG,h.gG⟩
theorem yG.belowG{g cap:Nat}{P:List PT}{s:St}(h:xX w R g cap P s)(hb:Below G w w')(hR:R<G)(hg:g<G):xX w' R g cap P s:=by
 refine⟨?_,?_,h.gR,tm h.glt hb.size,h.at',h.cap1,h.cap2,h.many,h.endk⟩
 ·rw[hb.block R hR];exact h.blk
 ·intro i hi
  have hb':∀o,w'.cell? ⟨g,o,none⟩=w.cell? ⟨g,o,none⟩:=fun o=>bg (w:=w) (hb.block g hg);rw[hb',hb',hb',hb'];exact h.tok i hi
theorem Zn.added{g cap:Nat}{P:List PT}{q:GS}{x:zN}(h:Zn w R g cap P G root q)(hg:Gd w' G (q.nd++[x]) root q.tests q.dep)(hb:Below G w w'):Zn w' R g cap P G root (q.add x) :=
 ⟨h.ctx.belowG hb h.rG h.gG,hg,h.rG,h.gG⟩
def Zu(P:List PT)(q:GS):Nat:=q.nd.length+2*(P.length-q.s.1)
structure zBV(P:List PT)(q:GS)(d:Int):Prop where
 t0:0<=q.tests
 t1:q.tests<=(q.nd.length:Int)
 room:Zu P q<=9000
 d0:0<=d
 d1:d<=(q.s.1:Int)
structure iV(P:List PT)(q q':GS):Prop where
 mono:q.s.1<=q'.s.1
 pot':Zu P q'<=Zu P q+1
 t0:0<=q'.tests
 t1:q'.tests<=(q'.nd.length:Int)
def XH(R g cap:Nat)(P:List PT)(G:Nat)(root:Int)(n:Nat):Prop:=∀(w:World) (q:GS) (d:Int),Zn w R g cap P G root q->zBV P q d->P.length-q.s.1<=n ->
 Calls Tryz.prog 190 #[.pointer (some ⟨R,0,none⟩),.pointer (some ⟨G,0,none⟩),.int .i64 d] w fun e w'=>e=.returned (.int .i64 (yJ P n q d).1)/\Zn w' R g cap P G root (yJ P n q d).2/\zB G R w w'/\iV P q (yJ P n q d).2
def QX(R g cap:Nat)(P:List PT)(G:Nat)(root:Int)(n:Nat):Prop:=∀(w:World) (q:GS) (d:Int),Zn w R g cap P G root q->zBV P q d->P.length-q.s.1<=n ->
 Calls Tryz.prog 188 #[.pointer (some ⟨R,0,none⟩),.pointer (some ⟨G,0,none⟩),.int .i64 d] w fun e w'=>e=.returned (.int .i64 (bZ P n q d).1)/\Zn w' R g cap P G root (bZ P n q d).2/\zB G R w w'/\iV P q (bZ P n q d).2
def Kj(R g cap:Nat)(P:List PT)(G:Nat)(root:Int)(n:Nat):Prop:=∀(w:World) (q:GS) (d:Int),Zn w R g cap P G root q->zBV P q d->P.length-q.s.1<=n ->
 Calls Tryz.prog 182 #[.pointer (some ⟨R,0,none⟩),.pointer (some ⟨G,0,none⟩),.int .i64 d] w fun e w'=>e=.returned (.int .i64 (wF P n q d).1)/\Zn w' R g cap P G root (wF P n q d).2/\zB G R w w'/\iV P q (wF P n q d).2
theorem zB.of_size(hk:zB w.heap.size R w w')(hG:G<=w.heap.size):zB G R w w':=hk.mono hG
theorem zB.of_belowG(hb:Below G w w'):zB G R w w':=zB.of_below hb
theorem YD{P:List PT}{q:GS}{t:Bs}(h:(zD P t q.s).1=true)(ha:q.s.1<P.length):Zu P (q.to (zD P t q.s).2)+2=Zu P q:=by
 unfold Zu GS.to;simp only;rw[uW h];omega
theorem UK{P:List PT}{q:GS}{s:St}(h:q.s.1<=s.1):Zu P (q.to s)<=Zu P q:=by
 unfold Zu GS.to;simp only;omega
def CJ(L R:Nat)(w:World):Nat:=L-vj w R
theorem Zn.meas{g cap:Nat}{P:List PT}{q:GS}(h:Zn w R g cap P G root q):CJ P.length R w=P.length-q.s.1:=by
 unfold CJ;rw[yG.rdAt h.ctx]
end Go.Proofs.YtnbpdffdnphbeabGreatDoor
