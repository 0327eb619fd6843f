import Derived.Test.YtnbpdffdnphbeabGreatDoorPars
import Derived.Deep.RegionLaw
open Go.Proofs.Tryz
set_option maxHeartbeats 1000000
namespace Go.Proofs.YtnbpdffdnphbeabGreatDoor
open Go.RowKit
variable{dep tests root:Int}{G R k:Nat}{x:Obj}{v:Value}{w w' w1:World}
def tD:List Bs:=[[60],[60,61],[61],[33,61],[62,61],[62]]
def vK(P:List PT)(s:St):Bs × St :=
 match tD.contains (yB P s.1).s with
 | true=>match (zD P (yB P s.1).s s).1 with
   | true=>((yB P s.1).s,(zD P (yB P s.1).s s).2)
   | false=>([],(zD P (yB P s.1).s s).2)
 | false=>([],s)
theorem oR(w:World)(R g cap:Nat)(P:List PT)(s:St)(h:vI w R g cap P s) :
 Calls prog 192 #[.pointer (some ⟨R,0,none⟩)] w λe w'=>e=.returned (.string ⟨(vK P s).1.toArray⟩)/\vI w' R g cap P (vK P s).2/\zB w.heap.size R w w':=by
 obtain⟨c0,c1,_⟩:=h.cells;obtain⟨_,t1,_,_⟩:=h.tok s.1 h.at';have i1:(0:Int)<=(s.1:Int):=by omega
 have i2:(s.1:Int)<(P.length:Int):=by have:=h.at';omega
 have HC:=zA h;have HP:Hid (vK P s=match tD.contains (yB P s.1).s with|true=>(match (zD P (yB P s.1).s s).1 with|true=>((yB P s.1).s,(zD P (yB P s.1).s s).2)|false=>([],(zD P (yB P s.1).s s).2))|false=>([],s)):=rfl;generalize (yB P s.1).s=x at *;generalize vK P s=F at *;clear h;by_cases bP:x=[60]
 ·subst bP
  have hP:=HP.out;rw[show tD.contains [60]=true from by decide]at hP;have aG:=zA hP;clear HP hP
  go_enter func192,ntmps192
  go_wp2_with fail
  go_region_held3 (λw'=>w'.cell? ⟨R,0,none⟩=some (.slice (some ⟨g,0,none⟩) P.length cap)/\w'.cell? ⟨R,1,none⟩=some (.int .i64 s.1)/\w'.cell? ⟨g,s.1*4+1,none⟩=some (.string ⟨[60].toArray⟩)) (go_keep) (fail)
  go_wp2_with fail
  refine(vG R g cap P _ s [60] (yL.drew HC.out)).mono ?_;rintro e w1 ⟨rfl,hc1,aA⟩;have aJ:=zA hc1;have aR:Hid (zB w.heap.size R w w1):=zB.step (zB.drew (zB.refl _ _ _)) aA;clear hc1 aA;cases hs:(zD P [60] s).1
  ·have hP:=aG.out
   simp only[hs]at hP;have aD:=zA hP;clear aG hP hs;go_wp2_with fail
   go_ret
   exact⟨pD (by rw[aD.out]),by rw[aD.out];exact aJ.out,aR.out⟩
  ·have hP:=aG.out
   simp only[hs]at hP;have aD:=zA hP;clear aG hP hs;go_wp2_with fail
   go_ret
   exact⟨pD (by rw[aD.out]),by rw[aD.out];exact aJ.out,aR.out⟩
 by_cases bE:x=[60,61]
 ·subst bE
  have hP:=HP.out;rw[show tD.contains [60,61]=true from by decide]at hP;have aG:=zA hP;clear HP hP
  go_enter func192,ntmps192
  go_wp2_with fail
  go_region_held3 (λw'=>w'.cell? ⟨R,0,none⟩=some (.slice (some ⟨g,0,none⟩) P.length cap)/\w'.cell? ⟨R,1,none⟩=some (.int .i64 s.1)/\w'.cell? ⟨g,s.1*4+1,none⟩=some (.string ⟨[60,61].toArray⟩)) (go_keep) (fail)
  go_wp2_with fail
  refine(vG R g cap P _ s [60,61] (yL.drew HC.out)).mono ?_;rintro e w1 ⟨rfl,hc1,aA⟩;have aJ:=zA hc1;have aR:Hid (zB w.heap.size R w w1):=zB.step (zB.drew (zB.refl _ _ _)) aA;clear hc1 aA;cases hs:(zD P [60,61] s).1
  ·have hP:=aG.out
   simp only[hs]at hP;have aD:=zA hP;clear aG hP hs;go_wp2_with fail
   go_ret
   exact⟨pD (by rw[aD.out]),by rw[aD.out];exact aJ.out,aR.out⟩
  ·have hP:=aG.out
   simp only[hs]at hP;have aD:=zA hP;clear aG hP hs;go_wp2_with fail
   go_ret
   exact⟨pD (by rw[aD.out]),by rw[aD.out];exact aJ.out,aR.out⟩
 by_cases bO:x=[61]
 ·subst bO
  have hP:=HP.out;rw[show tD.contains [61]=true from by decide]at hP;have aG:=zA hP;clear HP hP
  go_enter func192,ntmps192
  go_wp2_with fail
  go_region_held3 (λw'=>w'.cell? ⟨R,0,none⟩=some (.slice (some ⟨g,0,none⟩) P.length cap)/\w'.cell? ⟨R,1,none⟩=some (.int .i64 s.1)/\w'.cell? ⟨g,s.1*4+1,none⟩=some (.string ⟨[61].toArray⟩)) (go_keep) (fail)
  go_wp2_with fail
  refine(vG R g cap P _ s [61] (yL.drew HC.out)).mono ?_;rintro e w1 ⟨rfl,hc1,aA⟩;have aJ:=zA hc1;have aR:Hid (zB w.heap.size R w w1):=zB.step (zB.drew (zB.refl _ _ _)) aA;clear hc1 aA;cases hs:(zD P [61] s).1
  ·have hP:=aG.out
   simp only[hs]at hP;have aD:=zA hP;clear aG hP hs;go_wp2_with fail
   go_ret
   exact⟨pD (by rw[aD.out]),by rw[aD.out];exact aJ.out,aR.out⟩
  ·have hP:=aG.out
   simp only[hs]at hP;have aD:=zA hP;clear aG hP hs;go_wp2_with fail
   go_ret
   exact⟨pD (by rw[aD.out]),by rw[aD.out];exact aJ.out,aR.out⟩
 by_cases bL:x=[33,61]
 ·subst bL
  have hP:=HP.out;rw[show tD.contains [33,61]=true from by decide]at hP;have aG:=zA hP;clear HP hP
  go_enter func192,ntmps192
  go_wp2_with fail
  go_region_held3 (λw'=>w'.cell? ⟨R,0,none⟩=some (.slice (some ⟨g,0,none⟩) P.length cap)/\w'.cell? ⟨R,1,none⟩=some (.int .i64 s.1)/\w'.cell? ⟨g,s.1*4+1,none⟩=some (.string ⟨[33,61].toArray⟩)) (go_keep) (fail)
  go_wp2_with fail
  refine(vG R g cap P _ s [33,61] (yL.drew HC.out)).mono ?_;rintro e w1 ⟨rfl,hc1,aA⟩;have aJ:=zA hc1;have aR:Hid (zB w.heap.size R w w1):=zB.step (zB.drew (zB.refl _ _ _)) aA;clear hc1 aA;cases hs:(zD P [33,61] s).1
  ·have hP:=aG.out
   simp only[hs]at hP;have aD:=zA hP;clear aG hP hs;go_wp2_with fail
   go_ret
   exact⟨pD (by rw[aD.out]),by rw[aD.out];exact aJ.out,aR.out⟩
  ·have hP:=aG.out
   simp only[hs]at hP;have aD:=zA hP;clear aG hP hs;go_wp2_with fail
   go_ret
   exact⟨pD (by rw[aD.out]),by rw[aD.out];exact aJ.out,aR.out⟩
 by_cases bK:x=[62,61]
 ·subst bK
  have hP:=HP.out;rw[show tD.contains [62,61]=true from by decide]at hP;have aG:=zA hP;clear HP hP
  go_enter func192,ntmps192
  go_wp2_with fail
  go_region_held3 (λw'=>w'.cell? ⟨R,0,none⟩=some (.slice (some ⟨g,0,none⟩) P.length cap)/\w'.cell? ⟨R,1,none⟩=some (.int .i64 s.1)/\w'.cell? ⟨g,s.1*4+1,none⟩=some (.string ⟨[62,61].toArray⟩)) (go_keep) (fail)
  go_wp2_with fail
  refine(vG R g cap P _ s [62,61] (yL.drew HC.out)).mono ?_;rintro e w1 ⟨rfl,hc1,aA⟩;have aJ:=zA hc1;have aR:Hid (zB w.heap.size R w w1):=zB.step (zB.drew (zB.refl _ _ _)) aA;clear hc1 aA;cases hs:(zD P [62,61] s).1
  ·have hP:=aG.out
   simp only[hs]at hP;have aD:=zA hP;clear aG hP hs;go_wp2_with fail
   go_ret
   exact⟨pD (by rw[aD.out]),by rw[aD.out];exact aJ.out,aR.out⟩
  ·have hP:=aG.out
   simp only[hs]at hP;have aD:=zA hP;clear aG hP hs;go_wp2_with fail
   go_ret
   exact⟨pD (by rw[aD.out]),by rw[aD.out];exact aJ.out,aR.out⟩
 by_cases bJ:x=[62]
 ·subst bJ
  have hP:=HP.out;rw[show tD.contains [62]=true from by decide]at hP;have aG:=zA hP;clear HP hP
  go_enter func192,ntmps192
  go_wp2_with fail
  go_region_held3 (λw'=>w'.cell? ⟨R,0,none⟩=some (.slice (some ⟨g,0,none⟩) P.length cap)/\w'.cell? ⟨R,1,none⟩=some (.int .i64 s.1)/\w'.cell? ⟨g,s.1*4+1,none⟩=some (.string ⟨[62].toArray⟩)) (go_keep) (fail)
  go_wp2_with fail
  refine(vG R g cap P _ s [62] (yL.drew HC.out)).mono ?_;rintro e w1 ⟨rfl,hc1,aA⟩;have aJ:=zA hc1;have aR:Hid (zB w.heap.size R w w1):=zB.step (zB.drew (zB.refl _ _ _)) aA;clear hc1 aA;cases hs:(zD P [62] s).1
  ·have hP:=aG.out
   simp only[hs]at hP;have aD:=zA hP;clear aG hP hs;go_wp2_with fail
   go_ret
   exact⟨pD (by rw[aD.out]),by rw[aD.out];exact aJ.out,aR.out⟩
  ·have hP:=aG.out
   simp only[hs]at hP;have aD:=zA hP;clear aG hP hs;go_wp2_with fail
   go_ret
   exact⟨pD (by rw[aD.out]),by rw[aD.out];exact aJ.out,aR.out⟩
 have hP:=HP.out;rw[show tD.contains x=false from by simp[tD,bP,bE,bO,bL,bK,bJ]]at hP;have aG:Hid (F=([],s)):=hP;clear HP hP;have b0:(x==[60])=false:=by simpa using bP
 have b1:(x==[60,61])=false:=by simpa using bE
 have b2:(x==[61])=false:=by simpa using bO
 have b3:(x==[33,61])=false:=by simpa using bL
 have b4:(x==[62,61])=false:=by simpa using bK
 have b5:(x==[62])=false:=by simpa using bJ
 clear bP bE bO bL bK bJ
 go_enter func192,ntmps192
 go_wp2_with fail
 go_region_held3 (λw'=>w'.cell? ⟨R,0,none⟩=some (.slice (some ⟨g,0,none⟩) P.length cap)/\w'.cell? ⟨R,1,none⟩=some (.int .i64 s.1)/\w'.cell? ⟨g,s.1*4+1,none⟩=some (.string ⟨x.toArray⟩)) (go_keep) (fail)
 go_wp2_with fail
 go_ret
 exact⟨pD (by rw[aG.out]),by rw[aG.out];exact yL.drew HC.out,zB.drew (zB.refl _ _ _)⟩
theorem zF(w:World)(o:Obj):(w.alloc o).heap[w.heap.size]? = some o:=heap_alloc_new w o
theorem yD{o:Obj}(h:w.heap[k]? = some x):(w.alloc o).heap[k]? = some x:=by
 have hk:k<w.heap.size:=by
  rcases mc k w.heap.size with h1|h1
  ·exact h1
  ·rw[pw h1]at h;cases h
 rw[ld _ _ hk];exact h
theorem aQ(h:w.heap[k]? = some x):w.drew.heap[k]? = some x:=h
theorem qU{b o:Nat}{u:Value}(h:w.heap[k]? = some x)(bQ:k≠b):(w.setCell ⟨b,o,none⟩ u).heap[k]? = some x:=by
 rw[l6 _ _ _ _ bQ];exact h
theorem zZ{W:World}(h:W.heap[k]? = some x)(hk:zB W.heap.size R W w1)(bQ:k≠R):w1.heap[k]? = some x:=by
 have bH:k<W.heap.size:=by
  rcases mc k W.heap.size with h1|h1
  ·exact h1
  ·rw[pw h1]at h;cases h
 rw[hk.block k bH bQ];exact h
structure zJ where
 kind:Int
 left:Int
 right:Int
 name:Bs
 mark:Bs
 other:Bs
 num:Int
def kI(x:zJ):Value:=.agg #[.int .i64 x.kind,.int .i64 x.left,.int .i64 x.right,.string ⟨x.name.toArray⟩,.string ⟨x.mark.toArray⟩,.string ⟨x.other.toArray⟩,.int .i64 x.num]
def xH(P:List PT)(s:St):zJ × St :=
 match (zD P [97,108,119,97,121,115] s).1 with
 | true=>(⟨4,0,0,[],[],[],0⟩,(zD P [97,108,119,97,121,115] s).2)
 | false =>
   match (zD P [104,97,115] (zD P [97,108,119,97,121,115] s).2).1 with
   | true=>(⟨5,0,0,(zI P (zD P [104,97,115] (zD P [97,108,119,97,121,115] s).2).2).1,[],[],0⟩,(zI P (zD P [104,97,115] (zD P [97,108,119,97,121,115] s).2).2).2)
   | false =>
     match (vK P (zI P (zD P [104,97,115] (zD P [97,108,119,97,121,115] s).2).2).2).1.isEmpty with
     | true=>(⟨6,0,0,(zI P (zD P [104,97,115] (zD P [97,108,119,97,121,115] s).2).2).1,[],[],0⟩,(vK P (zI P (zD P [104,97,115] (zD P [97,108,119,97,121,115] s).2).2).2).2)
     | false =>
       match jM P (vK P (zI P (zD P [104,97,115] (zD P [97,108,119,97,121,115] s).2).2).2).2 with
       | true=>(⟨7,0,0,(zI P (zD P [104,97,115] (zD P [97,108,119,97,121,115] s).2).2).1,(vK P (zI P (zD P [104,97,115] (zD P [97,108,119,97,121,115] s).2).2).2).1,[],(yI P (vK P (zI P (zD P [104,97,115] (zD P [97,108,119,97,121,115] s).2).2).2).2).1⟩,(yI P (vK P (zI P (zD P [104,97,115] (zD P [97,108,119,97,121,115] s).2).2).2).2).2)
       | false=>(⟨7,0,0,(zI P (zD P [104,97,115] (zD P [97,108,119,97,121,115] s).2).2).1,(vK P (zI P (zD P [104,97,115] (zD P [97,108,119,97,121,115] s).2).2).2).1,(zI P (vK P (zI P (zD P [104,97,115] (zD P [97,108,119,97,121,115] s).2).2).2).2).1,0⟩,(zI P (vK P (zI P (zD P [104,97,115] (zD P [97,108,119,97,121,115] s).2).2).2).2).2)
theorem Mx(w:World)(R g cap:Nat)(P:List PT)(s:St)(h:vI w R g cap P s)(h1:(zD P [97,108,119,97,121,115] s).1=true) :
 Calls prog 191 #[.pointer (some ⟨R,0,none⟩)] w λe w'=>e=.returned (kI (xH P s).1)/\vI w' R g cap P (xH P s).2/\zB w.heap.size R w w':=by
 have hR:=h.gf;have hg:=h.ey;have n0:w.heap.size≠R:=by omega
 have m0:w.heap.size≠g:=by omega
 have aa:=zA h;have HP:Hid (xH P s=(⟨4,0,0,[],[],[],0⟩,(zD P [97,108,119,97,121,115] s).2)):=by unfold Hid xH;simp only[h1]
 have H1:=zA h1;clear h h1
 go_enter func191,ntmps191
 go_wp2_with fail
 refine(vG R g cap P _ s [97,108,119,97,121,115] (yL.alloc aa.out _)).mono ?_;rintro e w1 ⟨rfl,hc1,aA⟩;rw[H1.out];have aJ:=zA hc1;have aZ:Hid (zB w.heap.size R w w1):=zB.step (zB.new (zB.refl _ _ _)) aA;have aY:=λo=>aA.cell (p:=⟨w.heap.size,o,none⟩) (by simp;try omega) n0;have aX:=λo=>aA.frozen (p:=⟨w.heap.size,o,none⟩) (by simp;try omega) n0;have aF:w.heap.size<w1.heap.size:=tq (by simp;try omega) aA.size;have b1:w1.heap[w.heap.size]? = some (.cells #[.int .i64 0,.int .i64 0,.int .i64 0,.string ⟨#[]⟩,.string ⟨#[]⟩,.string ⟨#[]⟩,.int .i64 0] 238 (0,0)):=zZ (zF _ _) aA n0;clear hc1 aA;go_wp2_with fail
 have bt:=λj=>pq _ _ j _ _ _ b1;refine pe (v:=kI ⟨4,0,0,[],[],[],0⟩) (by simp (maxDischargeDepth:=8) [results,results191,go_sem,kI,bt]) rfl ⟨by rw[HP.out],by rw[HP.out];exact(yL.set (yL.set (yL.set (yL.set (yL.set (yL.set (yL.set aJ.out n0 m0) n0 m0) n0 m0) n0 m0) n0 m0) n0 m0) n0 m0),(zB.set (zB.set (zB.set (zB.set (zB.set (zB.set (zB.set aZ.out (tg _)) (tg _)) (tg _)) (tg _)) (tg _)) (tg _)) (tg _))⟩
theorem My(w:World)(R g cap:Nat)(P:List PT)(s:St)(h:vI w R g cap P s)(h1:(zD P [97,108,119,97,121,115] s).1=false)(h2:(zD P [104,97,115] (zD P [97,108,119,97,121,115] s).2).1=true) :
 Calls prog 191 #[.pointer (some ⟨R,0,none⟩)] w λe w'=>e=.returned (kI (xH P s).1)/\vI w' R g cap P (xH P s).2/\zB w.heap.size R w w':=by
 have hR:=h.gf;have hg:=h.ey;have n0:w.heap.size≠R:=by omega
 have m0:w.heap.size≠g:=by omega
 have aa:=zA h;have HP:Hid (xH P s=(⟨5,0,0,(zI P (zD P [104,97,115] (zD P [97,108,119,97,121,115] s).2).2).1,[],[],0⟩,(zI P (zD P [104,97,115] (zD P [97,108,119,97,121,115] s).2).2).2)):=by unfold Hid xH;simp only[h1,h2]
 have H1:=zA h1;have H2:=zA h2;clear h h1 h2
 go_enter func191,ntmps191
 go_wp2_with fail
 refine(vG R g cap P _ s [97,108,119,97,121,115] (yL.alloc aa.out _)).mono ?_;rintro e w1 ⟨rfl,hc1,aA⟩;rw[H1.out];have aJ:=zA hc1;have aZ:Hid (zB w.heap.size R w w1):=zB.step (zB.new (zB.refl _ _ _)) aA;have aY:=λo=>aA.cell (p:=⟨w.heap.size,o,none⟩) (by simp;try omega) n0;have aX:=λo=>aA.frozen (p:=⟨w.heap.size,o,none⟩) (by simp;try omega) n0;have aF:w.heap.size<w1.heap.size:=tq (by simp;try omega) aA.size;have b1:w1.heap[w.heap.size]? = some (.cells #[.int .i64 0,.int .i64 0,.int .i64 0,.string ⟨#[]⟩,.string ⟨#[]⟩,.string ⟨#[]⟩,.int .i64 0] 238 (0,0)):=zZ (zF _ _) aA n0;clear hc1 aA;go_wp2_with fail
 refine(vG R g cap P _ (zD P [97,108,119,97,121,115] s).2 [104,97,115] aJ.out).mono ?_;rintro e w2 ⟨rfl,aW,aI⟩;rw[H2.out];have ar:=zA aW;have aS:Hid (zB w.heap.size R w w2):=zB.step aZ.out aI;have aj:=λo=>aI.cell (p:=⟨w.heap.size,o,none⟩) aF n0;have ag:=λo=>aI.frozen (p:=⟨w.heap.size,o,none⟩) aF n0;have aB:w.heap.size<w2.heap.size:=tq aF aI.size;have b2:w2.heap[w.heap.size]? = some (.cells #[.int .i64 0,.int .i64 0,.int .i64 0,.string ⟨#[]⟩,.string ⟨#[]⟩,.string ⟨#[]⟩,.int .i64 0] 238 (0,0)):=zZ b1 aI n0;clear aW aI;go_wp2_with fail
 refine(bM R g cap P _ (zD P [104,97,115] (zD P [97,108,119,97,121,115] s).2).2 ar.out).mono ?_;rintro e w3 ⟨rfl,aV,aC⟩;have aq:=zA aV;have ak:Hid (zB w.heap.size R w w3):=zB.step aS.out aC;have ah:=λo=>aC.cell (p:=⟨w.heap.size,o,none⟩) aB n0;have af:=λo=>aC.frozen (p:=⟨w.heap.size,o,none⟩) aB n0;have aK:w.heap.size<w3.heap.size:=tq aB aC.size;have b3:w3.heap[w.heap.size]? = some (.cells #[.int .i64 0,.int .i64 0,.int .i64 0,.string ⟨#[]⟩,.string ⟨#[]⟩,.string ⟨#[]⟩,.int .i64 0] 238 (0,0)):=zZ b2 aC n0;clear aV aC;go_wp2_with fail
 have br:=λj=>pq _ _ j _ _ _ b3;refine pe (v:=kI ⟨5,0,0,(zI P (zD P [104,97,115] (zD P [97,108,119,97,121,115] s).2).2).1,[],[],0⟩) (by simp (maxDischargeDepth:=8) [results,results191,go_sem,kI,br]) rfl ⟨by rw[HP.out],by rw[HP.out];exact(yL.set (yL.set (yL.set (yL.set (yL.set (yL.set (yL.set aq.out n0 m0) n0 m0) n0 m0) n0 m0) n0 m0) n0 m0) n0 m0),(zB.set (zB.set (zB.set (zB.set (zB.set (zB.set (zB.set ak.out (tg _)) (tg _)) (tg _)) (tg _)) (tg _)) (tg _)) (tg _))⟩
theorem Mz(w:World)(R g cap:Nat)(P:List PT)(s:St)(h:vI w R g cap P s)(h1:(zD P [97,108,119,97,121,115] s).1=false)(h2:(zD P [104,97,115] (zD P [97,108,119,97,121,115] s).2).1=false)(h3:(vK P (zI P (zD P [104,97,115] (zD P [97,108,119,97,121,115] s).2).2).2).1.isEmpty=true) :
 Calls prog 191 #[.pointer (some ⟨R,0,none⟩)] w λe w'=>e=.returned (kI (xH P s).1)/\vI w' R g cap P (xH P s).2/\zB w.heap.size R w w':=by
 have hR:=h.gf;have hg:=h.ey;have n0:w.heap.size≠R:=by omega
 have m0:w.heap.size≠g:=by omega
 have aa:=zA h;have HP:Hid (xH P s=(⟨6,0,0,(zI P (zD P [104,97,115] (zD P [97,108,119,97,121,115] s).2).2).1,[],[],0⟩,(vK P (zI P (zD P [104,97,115] (zD P [97,108,119,97,121,115] s).2).2).2).2)):=by unfold Hid xH;simp only[h1,h2,h3]
 have H1:=zA h1;have H2:=zA h2;have H3:=zA h3;clear h h1 h2 h3;have h3':=H3.out
 go_enter func191,ntmps191
 go_wp2_with fail
 refine(vG R g cap P _ s [97,108,119,97,121,115] (yL.alloc aa.out _)).mono ?_;rintro e w1 ⟨rfl,hc1,aA⟩;rw[H1.out];have aJ:=zA hc1;have aZ:Hid (zB w.heap.size R w w1):=zB.step (zB.new (zB.refl _ _ _)) aA;have aY:=λo=>aA.cell (p:=⟨w.heap.size,o,none⟩) (by simp;try omega) n0;have aX:=λo=>aA.frozen (p:=⟨w.heap.size,o,none⟩) (by simp;try omega) n0;have aF:w.heap.size<w1.heap.size:=tq (by simp;try omega) aA.size;have b1:w1.heap[w.heap.size]? = some (.cells #[.int .i64 0,.int .i64 0,.int .i64 0,.string ⟨#[]⟩,.string ⟨#[]⟩,.string ⟨#[]⟩,.int .i64 0] 238 (0,0)):=zZ (zF _ _) aA n0;clear hc1 aA;go_wp2_with fail
 refine(vG R g cap P _ (zD P [97,108,119,97,121,115] s).2 [104,97,115] aJ.out).mono ?_;rintro e w2 ⟨rfl,aW,aI⟩;rw[H2.out];have ar:=zA aW;have aS:Hid (zB w.heap.size R w w2):=zB.step aZ.out aI;have aj:=λo=>aI.cell (p:=⟨w.heap.size,o,none⟩) aF n0;have ag:=λo=>aI.frozen (p:=⟨w.heap.size,o,none⟩) aF n0;have aB:w.heap.size<w2.heap.size:=tq aF aI.size;have b2:w2.heap[w.heap.size]? = some (.cells #[.int .i64 0,.int .i64 0,.int .i64 0,.string ⟨#[]⟩,.string ⟨#[]⟩,.string ⟨#[]⟩,.int .i64 0] 238 (0,0)):=zZ b1 aI n0;clear aW aI;have nx:w2.heap.size≠R:=by have h1:=aS.out.size;omega
 have mx:w2.heap.size≠g:=by have h1:=aS.out.size;omega
 have lx:w.heap.size<=w2.heap.size:=aS.out.size;have dx:w2.heap.size≠w.heap.size:=fj aB;have fx:w.heap.size≠w2.heap.size:=Nat.ne_of_lt aB;have av:True:=trivial;go_wp2_with fail
 refine(bM R g cap P _ (zD P [104,97,115] (zD P [97,108,119,97,121,115] s).2).2 (yL.alloc ar.out _)).mono ?_;rintro e w3 ⟨rfl,aV,aC⟩;have aq:=zA aV;have ak:Hid (zB w.heap.size R w w3):=zB.step (zB.new aS.out) aC;have ah:=λo=>aC.cell (p:=⟨w.heap.size,o,none⟩) (bN aB) n0;have af:=λo=>aC.frozen (p:=⟨w.heap.size,o,none⟩) (bN aB) n0;have aK:w.heap.size<w3.heap.size:=tq (bN aB) aC.size;have bA:=λo=>aC.cell (p:=⟨w2.heap.size,o,none⟩) (zY _ _) nx;have a6:=λo=>aC.frozen (p:=⟨w2.heap.size,o,none⟩) (zY _ _) nx;have aL:w2.heap.size<w3.heap.size:=tq (zY _ _) aC.size;have b3:w3.heap[w.heap.size]? = some (.cells #[.int .i64 0,.int .i64 0,.int .i64 0,.string ⟨#[]⟩,.string ⟨#[]⟩,.string ⟨#[]⟩,.int .i64 0] 238 (0,0)):=zZ (yD b2) aC n0;clear aV aC;go_wp2_with fail
 refine(oR _ R g cap P (zI P (zD P [104,97,115] (zD P [97,108,119,97,121,115] s).2).2).2 (yL.set aq.out nx mx)).mono ?_;rintro e w4 ⟨rfl,ae,aH⟩;have bG:=zA ae;have bF:Hid (zB w.heap.size R w w4):=zB.step (zB.set ak.out lx) aH;have a8:=λo=>aH.cell (p:=⟨w.heap.size,o,none⟩) (zK aK) n0;have ay:=λo=>aH.frozen (p:=⟨w.heap.size,o,none⟩) (zK aK) n0;have aP:w.heap.size<w4.heap.size:=tq (zK aK) aH.size;have a7:=λo=>aH.cell (p:=⟨w2.heap.size,o,none⟩) (zK aL) nx;have ax:=λo=>aH.frozen (p:=⟨w2.heap.size,o,none⟩) (zK aL) nx;have aO:w2.heap.size<w4.heap.size:=tq (zK aL) aH.size;have b4:w4.heap[w.heap.size]? = some (.cells #[.int .i64 0,.int .i64 0,.int .i64 0,.string ⟨#[]⟩,.string ⟨#[]⟩,.string ⟨#[]⟩,.int .i64 0] 238 (0,0)):=zZ (qU b3 fx) aH n0;clear ae aH;go_wp2_with fail
 have bp:=λj=>pq _ _ j _ _ _ b4;refine pe (v:=kI ⟨6,0,0,(zI P (zD P [104,97,115] (zD P [97,108,119,97,121,115] s).2).2).1,[],[],0⟩) (by simp (maxDischargeDepth:=8) [results,results191,go_sem,kI,bp]) rfl ⟨by rw[HP.out],by rw[HP.out];exact(yL.set (yL.set (yL.set (yL.set (yL.set (yL.set (yL.set bG.out n0 m0) n0 m0) n0 m0) n0 m0) n0 m0) n0 m0) n0 m0),(zB.set (zB.set (zB.set (zB.set (zB.set (zB.set (zB.set bF.out (tg _)) (tg _)) (tg _)) (tg _)) (tg _)) (tg _)) (tg _))⟩
theorem M1(w:World)(R g cap:Nat)(P:List PT)(s:St)(h:vI w R g cap P s)(h1:(zD P [97,108,119,97,121,115] s).1=false)(h2:(zD P [104,97,115] (zD P [97,108,119,97,121,115] s).2).1=false)(h3:(vK P (zI P (zD P [104,97,115] (zD P [97,108,119,97,121,115] s).2).2).2).1.isEmpty=false)(h4:jM P (vK P (zI P (zD P [104,97,115] (zD P [97,108,119,97,121,115] s).2).2).2).2=true) :
 Calls prog 191 #[.pointer (some ⟨R,0,none⟩)] w λe w'=>e=.returned (kI (xH P s).1)/\vI w' R g cap P (xH P s).2/\zB w.heap.size R w w':=by
 have hR:=h.gf;have hg:=h.ey;have n0:w.heap.size≠R:=by omega
 have m0:w.heap.size≠g:=by omega
 have aa:=zA h;have HP:Hid (xH P s=(⟨7,0,0,(zI P (zD P [104,97,115] (zD P [97,108,119,97,121,115] s).2).2).1,(vK P (zI P (zD P [104,97,115] (zD P [97,108,119,97,121,115] s).2).2).2).1,[],(yI P (vK P (zI P (zD P [104,97,115] (zD P [97,108,119,97,121,115] s).2).2).2).2).1⟩,(yI P (vK P (zI P (zD P [104,97,115] (zD P [97,108,119,97,121,115] s).2).2).2).2).2)):=by unfold Hid xH;simp only[h1,h2,h3,h4]
 have H1:=zA h1;have H2:=zA h2;have H3:=zA h3;have H4:=zA h4;clear h h1 h2 h3 h4;have h3':=H3.out
 go_enter func191,ntmps191
 go_wp2_with fail
 refine(vG R g cap P _ s [97,108,119,97,121,115] (yL.alloc aa.out _)).mono ?_;rintro e w1 ⟨rfl,hc1,aA⟩;rw[H1.out];have aJ:=zA hc1;have aZ:Hid (zB w.heap.size R w w1):=zB.step (zB.new (zB.refl _ _ _)) aA;have aY:=λo=>aA.cell (p:=⟨w.heap.size,o,none⟩) (by simp;try omega) n0;have aX:=λo=>aA.frozen (p:=⟨w.heap.size,o,none⟩) (by simp;try omega) n0;have aF:w.heap.size<w1.heap.size:=tq (by simp;try omega) aA.size;have b1:w1.heap[w.heap.size]? = some (.cells #[.int .i64 0,.int .i64 0,.int .i64 0,.string ⟨#[]⟩,.string ⟨#[]⟩,.string ⟨#[]⟩,.int .i64 0] 238 (0,0)):=zZ (zF _ _) aA n0;clear hc1 aA;go_wp2_with fail
 refine(vG R g cap P _ (zD P [97,108,119,97,121,115] s).2 [104,97,115] aJ.out).mono ?_;rintro e w2 ⟨rfl,aW,aI⟩;rw[H2.out];have ar:=zA aW;have aS:Hid (zB w.heap.size R w w2):=zB.step aZ.out aI;have aj:=λo=>aI.cell (p:=⟨w.heap.size,o,none⟩) aF n0;have ag:=λo=>aI.frozen (p:=⟨w.heap.size,o,none⟩) aF n0;have aB:w.heap.size<w2.heap.size:=tq aF aI.size;have b2:w2.heap[w.heap.size]? = some (.cells #[.int .i64 0,.int .i64 0,.int .i64 0,.string ⟨#[]⟩,.string ⟨#[]⟩,.string ⟨#[]⟩,.int .i64 0] 238 (0,0)):=zZ b1 aI n0;clear aW aI;have nx:w2.heap.size≠R:=by have h1:=aS.out.size;omega
 have mx:w2.heap.size≠g:=by have h1:=aS.out.size;omega
 have lx:w.heap.size<=w2.heap.size:=aS.out.size;have dx:w2.heap.size≠w.heap.size:=fj aB;have fx:w.heap.size≠w2.heap.size:=Nat.ne_of_lt aB;have av:True:=trivial;go_wp2_with fail
 refine(bM R g cap P _ (zD P [104,97,115] (zD P [97,108,119,97,121,115] s).2).2 (yL.alloc ar.out _)).mono ?_;rintro e w3 ⟨rfl,aV,aC⟩;have aq:=zA aV;have ak:Hid (zB w.heap.size R w w3):=zB.step (zB.new aS.out) aC;have ah:=λo=>aC.cell (p:=⟨w.heap.size,o,none⟩) (bN aB) n0;have af:=λo=>aC.frozen (p:=⟨w.heap.size,o,none⟩) (bN aB) n0;have aK:w.heap.size<w3.heap.size:=tq (bN aB) aC.size;have bA:=λo=>aC.cell (p:=⟨w2.heap.size,o,none⟩) (zY _ _) nx;have a6:=λo=>aC.frozen (p:=⟨w2.heap.size,o,none⟩) (zY _ _) nx;have aL:w2.heap.size<w3.heap.size:=tq (zY _ _) aC.size;have b3:w3.heap[w.heap.size]? = some (.cells #[.int .i64 0,.int .i64 0,.int .i64 0,.string ⟨#[]⟩,.string ⟨#[]⟩,.string ⟨#[]⟩,.int .i64 0] 238 (0,0)):=zZ (yD b2) aC n0;clear aV aC;go_wp2_with fail
 refine(oR _ R g cap P (zI P (zD P [104,97,115] (zD P [97,108,119,97,121,115] s).2).2).2 (yL.set aq.out nx mx)).mono ?_;rintro e w4 ⟨rfl,ae,aH⟩;have bG:=zA ae;have bF:Hid (zB w.heap.size R w w4):=zB.step (zB.set ak.out lx) aH;have a8:=λo=>aH.cell (p:=⟨w.heap.size,o,none⟩) (zK aK) n0;have ay:=λo=>aH.frozen (p:=⟨w.heap.size,o,none⟩) (zK aK) n0;have aP:w.heap.size<w4.heap.size:=tq (zK aK) aH.size;have a7:=λo=>aH.cell (p:=⟨w2.heap.size,o,none⟩) (zK aL) nx;have ax:=λo=>aH.frozen (p:=⟨w2.heap.size,o,none⟩) (zK aL) nx;have aO:w2.heap.size<w4.heap.size:=tq (zK aL) aH.size;have b4:w4.heap[w.heap.size]? = some (.cells #[.int .i64 0,.int .i64 0,.int .i64 0,.string ⟨#[]⟩,.string ⟨#[]⟩,.string ⟨#[]⟩,.int .i64 0] 238 (0,0)):=zZ (qU b3 fx) aH n0;clear ae aH;go_wp2_with fail
 refine(iR R g cap P _ (vK P (zI P (zD P [104,97,115] (zD P [97,108,119,97,121,115] s).2).2).2).2 3 (yL.set (yL.set bG.out nx mx) nx mx)).mono ?_;rintro e w5 ⟨rfl,bC,aN⟩;rw[show ((yB P (vK P (zI P (zD P [104,97,115] (zD P [97,108,119,97,121,115] s).2).2).2).2.1).k==3)=true from H4.out];have bl:=zA bC;have bh:Hid (zB w.heap.size R w w5):=zB.step (zB.set (zB.set bF.out lx) lx) aN;have bb:=λo=>aN.cell (p:=⟨w.heap.size,o,none⟩) (zK (zK aP)) n0;have bX:=λo=>aN.frozen (p:=⟨w.heap.size,o,none⟩) (zK (zK aP)) n0;have aU:w.heap.size<w5.heap.size:=tq (zK (zK aP)) aN.size;have ba:=λo=>aN.cell (p:=⟨w2.heap.size,o,none⟩) (zK (zK aO)) nx;have bW:=λo=>aN.frozen (p:=⟨w2.heap.size,o,none⟩) (zK (zK aO)) nx;have aT:w2.heap.size<w5.heap.size:=tq (zK (zK aO)) aN.size;have b5:w5.heap[w.heap.size]? = some (.cells #[.int .i64 0,.int .i64 0,.int .i64 0,.string ⟨#[]⟩,.string ⟨#[]⟩,.string ⟨#[]⟩,.int .i64 0] 238 (0,0)):=zZ (qU (qU b4 fx) fx) aN n0;clear bC aN;go_wp2_with fail
 refine(sC R g cap P _ (vK P (zI P (zD P [104,97,115] (zD P [97,108,119,97,121,115] s).2).2).2).2 bl.out).mono ?_;rintro e w6 ⟨rfl,bB,aM⟩;have bk:=zA bB;have bg:Hid (zB w.heap.size R w w6):=zB.step bh.out aM;have bZ:=λo=>aM.cell (p:=⟨w.heap.size,o,none⟩) aU n0;have bV:=λo=>aM.frozen (p:=⟨w.heap.size,o,none⟩) aU n0;have bT:w.heap.size<w6.heap.size:=tq aU aM.size;have bY:=λo=>aM.cell (p:=⟨w2.heap.size,o,none⟩) aT nx;have bU:=λo=>aM.frozen (p:=⟨w2.heap.size,o,none⟩) aT nx;have bS:w2.heap.size<w6.heap.size:=tq aT aM.size;have b6:w6.heap[w.heap.size]? = some (.cells #[.int .i64 0,.int .i64 0,.int .i64 0,.string ⟨#[]⟩,.string ⟨#[]⟩,.string ⟨#[]⟩,.int .i64 0] 238 (0,0)):=zZ b5 aM n0;clear bB aM;go_wp2_with fail
 have bf:=λj=>pq _ _ j _ _ _ b6;refine pe (v:=kI ⟨7,0,0,(zI P (zD P [104,97,115] (zD P [97,108,119,97,121,115] s).2).2).1,(vK P (zI P (zD P [104,97,115] (zD P [97,108,119,97,121,115] s).2).2).2).1,[],(yI P (vK P (zI P (zD P [104,97,115] (zD P [97,108,119,97,121,115] s).2).2).2).2).1⟩) (by simp (maxDischargeDepth:=8) [results,results191,go_sem,kI,bf]) rfl ⟨by rw[HP.out],by rw[HP.out];exact(yL.set (yL.set (yL.set (yL.set (yL.set (yL.set (yL.set (yL.set bk.out nx mx) n0 m0) n0 m0) n0 m0) n0 m0) n0 m0) n0 m0) n0 m0),(zB.set (zB.set (zB.set (zB.set (zB.set (zB.set (zB.set (zB.set bg.out lx) (tg _)) (tg _)) (tg _)) (tg _)) (tg _)) (tg _)) (tg _))⟩
theorem M3(w:World)(R g cap:Nat)(P:List PT)(s:St)(h:vI w R g cap P s)(h1:(zD P [97,108,119,97,121,115] s).1=false)(h2:(zD P [104,97,115] (zD P [97,108,119,97,121,115] s).2).1=false)(h3:(vK P (zI P (zD P [104,97,115] (zD P [97,108,119,97,121,115] s).2).2).2).1.isEmpty=false)(h4:jM P (vK P (zI P (zD P [104,97,115] (zD P [97,108,119,97,121,115] s).2).2).2).2=false) :
 Calls prog 191 #[.pointer (some ⟨R,0,none⟩)] w λe w'=>e=.returned (kI (xH P s).1)/\vI w' R g cap P (xH P s).2/\zB w.heap.size R w w':=by
 have hR:=h.gf;have hg:=h.ey;have n0:w.heap.size≠R:=by omega
 have m0:w.heap.size≠g:=by omega
 have aa:=zA h;have HP:Hid (xH P s=(⟨7,0,0,(zI P (zD P [104,97,115] (zD P [97,108,119,97,121,115] s).2).2).1,(vK P (zI P (zD P [104,97,115] (zD P [97,108,119,97,121,115] s).2).2).2).1,(zI P (vK P (zI P (zD P [104,97,115] (zD P [97,108,119,97,121,115] s).2).2).2).2).1,0⟩,(zI P (vK P (zI P (zD P [104,97,115] (zD P [97,108,119,97,121,115] s).2).2).2).2).2)):=by unfold Hid xH;simp only[h1,h2,h3,h4]
 have H1:=zA h1;have H2:=zA h2;have H3:=zA h3;have H4:=zA h4;clear h h1 h2 h3 h4;have h3':=H3.out
 go_enter func191,ntmps191
 go_wp2_with fail
 refine(vG R g cap P _ s [97,108,119,97,121,115] (yL.alloc aa.out _)).mono ?_;rintro e w1 ⟨rfl,hc1,aA⟩;rw[H1.out];have aJ:=zA hc1;have aZ:Hid (zB w.heap.size R w w1):=zB.step (zB.new (zB.refl _ _ _)) aA;have aY:=λo=>aA.cell (p:=⟨w.heap.size,o,none⟩) (by simp;try omega) n0;have aX:=λo=>aA.frozen (p:=⟨w.heap.size,o,none⟩) (by simp;try omega) n0;have aF:w.heap.size<w1.heap.size:=tq (by simp;try omega) aA.size;have b1:w1.heap[w.heap.size]? = some (.cells #[.int .i64 0,.int .i64 0,.int .i64 0,.string ⟨#[]⟩,.string ⟨#[]⟩,.string ⟨#[]⟩,.int .i64 0] 238 (0,0)):=zZ (zF _ _) aA n0;clear hc1 aA;go_wp2_with fail
 refine(vG R g cap P _ (zD P [97,108,119,97,121,115] s).2 [104,97,115] aJ.out).mono ?_;rintro e w2 ⟨rfl,aW,aI⟩;rw[H2.out];have ar:=zA aW;have aS:Hid (zB w.heap.size R w w2):=zB.step aZ.out aI;have aj:=λo=>aI.cell (p:=⟨w.heap.size,o,none⟩) aF n0;have ag:=λo=>aI.frozen (p:=⟨w.heap.size,o,none⟩) aF n0;have aB:w.heap.size<w2.heap.size:=tq aF aI.size;have b2:w2.heap[w.heap.size]? = some (.cells #[.int .i64 0,.int .i64 0,.int .i64 0,.string ⟨#[]⟩,.string ⟨#[]⟩,.string ⟨#[]⟩,.int .i64 0] 238 (0,0)):=zZ b1 aI n0;clear aW aI;have nx:w2.heap.size≠R:=by have h1:=aS.out.size;omega
 have mx:w2.heap.size≠g:=by have h1:=aS.out.size;omega
 have lx:w.heap.size<=w2.heap.size:=aS.out.size;have dx:w2.heap.size≠w.heap.size:=fj aB;have fx:w.heap.size≠w2.heap.size:=Nat.ne_of_lt aB;have av:True:=trivial;go_wp2_with fail
 refine(bM R g cap P _ (zD P [104,97,115] (zD P [97,108,119,97,121,115] s).2).2 (yL.alloc ar.out _)).mono ?_;rintro e w3 ⟨rfl,aV,aC⟩;have aq:=zA aV;have ak:Hid (zB w.heap.size R w w3):=zB.step (zB.new aS.out) aC;have ah:=λo=>aC.cell (p:=⟨w.heap.size,o,none⟩) (bN aB) n0;have af:=λo=>aC.frozen (p:=⟨w.heap.size,o,none⟩) (bN aB) n0;have aK:w.heap.size<w3.heap.size:=tq (bN aB) aC.size;have bA:=λo=>aC.cell (p:=⟨w2.heap.size,o,none⟩) (zY _ _) nx;have a6:=λo=>aC.frozen (p:=⟨w2.heap.size,o,none⟩) (zY _ _) nx;have aL:w2.heap.size<w3.heap.size:=tq (zY _ _) aC.size;have b3:w3.heap[w.heap.size]? = some (.cells #[.int .i64 0,.int .i64 0,.int .i64 0,.string ⟨#[]⟩,.string ⟨#[]⟩,.string ⟨#[]⟩,.int .i64 0] 238 (0,0)):=zZ (yD b2) aC n0;clear aV aC;go_wp2_with fail
 refine(oR _ R g cap P (zI P (zD P [104,97,115] (zD P [97,108,119,97,121,115] s).2).2).2 (yL.set aq.out nx mx)).mono ?_;rintro e w4 ⟨rfl,ae,aH⟩;have bG:=zA ae;have bF:Hid (zB w.heap.size R w w4):=zB.step (zB.set ak.out lx) aH;have a8:=λo=>aH.cell (p:=⟨w.heap.size,o,none⟩) (zK aK) n0;have ay:=λo=>aH.frozen (p:=⟨w.heap.size,o,none⟩) (zK aK) n0;have aP:w.heap.size<w4.heap.size:=tq (zK aK) aH.size;have a7:=λo=>aH.cell (p:=⟨w2.heap.size,o,none⟩) (zK aL) nx;have ax:=λo=>aH.frozen (p:=⟨w2.heap.size,o,none⟩) (zK aL) nx;have aO:w2.heap.size<w4.heap.size:=tq (zK aL) aH.size;have b4:w4.heap[w.heap.size]? = some (.cells #[.int .i64 0,.int .i64 0,.int .i64 0,.string ⟨#[]⟩,.string ⟨#[]⟩,.string ⟨#[]⟩,.int .i64 0] 238 (0,0)):=zZ (qU b3 fx) aH n0;clear ae aH;go_wp2_with fail
 refine(iR R g cap P _ (vK P (zI P (zD P [104,97,115] (zD P [97,108,119,97,121,115] s).2).2).2).2 3 (yL.set (yL.set bG.out nx mx) nx mx)).mono ?_;rintro e w5 ⟨rfl,bC,aN⟩;rw[show ((yB P (vK P (zI P (zD P [104,97,115] (zD P [97,108,119,97,121,115] s).2).2).2).2.1).k==3)=false from H4.out];have bl:=zA bC;have bh:Hid (zB w.heap.size R w w5):=zB.step (zB.set (zB.set bF.out lx) lx) aN;have bb:=λo=>aN.cell (p:=⟨w.heap.size,o,none⟩) (zK (zK aP)) n0;have bX:=λo=>aN.frozen (p:=⟨w.heap.size,o,none⟩) (zK (zK aP)) n0;have aU:w.heap.size<w5.heap.size:=tq (zK (zK aP)) aN.size;have ba:=λo=>aN.cell (p:=⟨w2.heap.size,o,none⟩) (zK (zK aO)) nx;have bW:=λo=>aN.frozen (p:=⟨w2.heap.size,o,none⟩) (zK (zK aO)) nx;have aT:w2.heap.size<w5.heap.size:=tq (zK (zK aO)) aN.size;have b5:w5.heap[w.heap.size]? = some (.cells #[.int .i64 0,.int .i64 0,.int .i64 0,.string ⟨#[]⟩,.string ⟨#[]⟩,.string ⟨#[]⟩,.int .i64 0] 238 (0,0)):=zZ (qU (qU b4 fx) fx) aN n0;clear bC aN;go_wp2_with fail
 refine(bM R g cap P _ (vK P (zI P (zD P [104,97,115] (zD P [97,108,119,97,121,115] s).2).2).2).2 bl.out).mono ?_;rintro e w6 ⟨rfl,bB,aM⟩;have bk:=zA bB;have bg:Hid (zB w.heap.size R w w6):=zB.step bh.out aM;have bZ:=λo=>aM.cell (p:=⟨w.heap.size,o,none⟩) aU n0;have bV:=λo=>aM.frozen (p:=⟨w.heap.size,o,none⟩) aU n0;have bT:w.heap.size<w6.heap.size:=tq aU aM.size;have bY:=λo=>aM.cell (p:=⟨w2.heap.size,o,none⟩) aT nx;have bU:=λo=>aM.frozen (p:=⟨w2.heap.size,o,none⟩) aT nx;have bS:w2.heap.size<w6.heap.size:=tq aT aM.size;have b6:w6.heap[w.heap.size]? = some (.cells #[.int .i64 0,.int .i64 0,.int .i64 0,.string ⟨#[]⟩,.string ⟨#[]⟩,.string ⟨#[]⟩,.int .i64 0] 238 (0,0)):=zZ b5 aM n0;clear bB aM;go_wp2_with fail
 have bf:=λj=>pq _ _ j _ _ _ b6;refine pe (v:=kI ⟨7,0,0,(zI P (zD P [104,97,115] (zD P [97,108,119,97,121,115] s).2).2).1,(vK P (zI P (zD P [104,97,115] (zD P [97,108,119,97,121,115] s).2).2).2).1,(zI P (vK P (zI P (zD P [104,97,115] (zD P [97,108,119,97,121,115] s).2).2).2).2).1,0⟩) (by simp (maxDischargeDepth:=8) [results,results191,go_sem,kI,bf]) rfl ⟨by rw[HP.out],by rw[HP.out];exact(yL.set (yL.set (yL.set (yL.set (yL.set (yL.set (yL.set (yL.set bk.out nx mx) n0 m0) n0 m0) n0 m0) n0 m0) n0 m0) n0 m0) n0 m0),(zB.set (zB.set (zB.set (zB.set (zB.set (zB.set (zB.set (zB.set bg.out lx) (tg _)) (tg _)) (tg _)) (tg _)) (tg _)) (tg _)) (tg _))⟩
theorem I7(w:World)(R g cap:Nat)(P:List PT)(s:St)(h:vI w R g cap P s) :
 Calls prog 191 #[.pointer (some ⟨R,0,none⟩)] w λe w'=>e=.returned (kI (xH P s).1)/\vI w' R g cap P (xH P s).2/\zB w.heap.size R w w':=by
 cases h1:(zD P [97,108,119,97,121,115] s).1
 ·cases h2:(zD P [104,97,115] (zD P [97,108,119,97,121,115] s).2).1
  ·cases h3:(vK P (zI P (zD P [104,97,115] (zD P [97,108,119,97,121,115] s).2).2).2).1.isEmpty
   ·cases h4:jM P (vK P (zI P (zD P [104,97,115] (zD P [97,108,119,97,121,115] s).2).2).2).2
    ·exact M3 w R g cap P s h h1 h2 h3 h4
    ·exact M1 w R g cap P s h h1 h2 h3 h4
   ·exact Mz w R g cap P s h h1 h2 h3
  ·exact My w R g cap P s h h1 h2
 ·exact Mx w R g cap P s h h1
attribute [local go_sem ↓] Go.wp_at_zero Go.wp_at_succ
def Qd(x:zJ):List Value:=[.int .i64 x.kind,.int .i64 x.left,.int .i64 x.right,.string ⟨x.name.toArray⟩,.string ⟨x.mark.toArray⟩,.string ⟨x.other.toArray⟩,.int .i64 x.num]
def gF(ns:List zJ):List Value:=ns.flatMap Qd
theorem DO(ns:List zJ)(x:zJ):gF (ns++[x])=gF ns++Qd x:=by simp[gF]
def sQ(nv:Value)(root tests dep:Int):Obj:=.cells #[nv,.int .i64 root,.int .i64 tests,.int .i64 dep] 182 (0,0)
def Gd(w:World)(G:Nat)(nd:List zJ)(root tests dep:Int):Prop :=
 ∃nv,w.heap[G]? = some (sQ nv root tests dep)/\w.ownsRow (G+1) 238 7 nv nd.length (gF nd)
theorem Rb:(prog.info? 238).map (λi=>(i.zero,i.size,i.bytes))=some (some (.agg #[.int .i64 0,.int .i64 0,.int .i64 0,.string ⟨#[]⟩,.string ⟨#[]⟩,.string ⟨#[]⟩,.int .i64 0]),7,80):=by kernel_rfl
theorem Gd.lt{nd:List zJ}(h:Gd w G nd root tests dep):G<w.heap.size:=by
 obtain⟨nv,h1,_⟩:=h;rcases mc G w.heap.size with h2|h2
 ·exact h2
 ·rw[pw h2]at h1;cases h1
theorem Ni{nv:Value}(h:w.heap[G]? = some (sQ nv root tests dep)):(w.setCell ⟨G,0,none⟩ v).heap[G]? = some (sQ v root tests dep):=by
 unfold sQ at h ⊢;rw[p9 w G 0 _ _ _ h];simp
theorem yV{B:Nat}{e:TypeId}{size:Nat}{n:Nat}{xs:List Value}(h:w.ownsRow B e size v n xs){b o:Nat}{u:Value}(hb:b<B):(w.setCell ⟨b,o,none⟩ u).ownsRow B e size v n xs :=
 ownsRow_setCell_below h (a:=⟨b,o,none⟩) hb u
theorem Nd{y:Obj}{row:Option Nat}(hg:((w.alloc x).alloc y).drew.grownBy w1 row)(h:w.frozen? ⟨G,0,none⟩=false)(hG:G<w.heap.size)(hr:some G≠row):w1.frozen? ⟨G,0,none⟩=false:=by
 have hb:w1.heap[G]? = w.heap[G]? := by
  rw[hg.block G (by show G<((w.alloc x).alloc y).heap.size;simp;omega) hr];show ((w.alloc x).alloc y).heap[G]? = _;rw[ld _ _ (by simp;omega),ld _ _ hG]
 rw[dm (w:=w) hb];exact h
theorem NQ{y:Obj}{row:Option Nat}(hg:((w.alloc x).alloc y).drew.grownBy w1 row)(h:w.cell? ⟨G,0,none⟩=some v)(hG:G<w.heap.size)(hr:some G≠row):w1.cell? ⟨G,0,none⟩=some v:=by
 have hb:w1.heap[G]? = w.heap[G]? := by
  rw[hg.block G (by show G<((w.alloc x).alloc y).heap.size;simp;omega) hr];show ((w.alloc x).alloc y).heap[G]? = _;rw[ld _ _ (by simp;omega),ld _ _ hG]
 rw[bq (w:=w) hb];exact h
theorem BD(w:World)(G:Nat)(nd:List zJ)(root tests dep:Int)(x:zJ)(h:Gd w G nd root tests dep)(hn:nd.length<=10000) :
 Calls prog 189 #[.pointer (some ⟨G,0,none⟩),kI x] w λe w'=>e=.returned (.int .i64 (nd.length:Nat))/\Gd w' G (nd++[x]) root tests dep/\Below G w w':=by
 obtain⟨i0,ai,hz0,hz1,bo⟩:=du Rb;have hG:=h.lt;obtain⟨nv,hg,bR⟩:=h;have c0:w.cell? ⟨G,0,none⟩=some nv:=by unfold sQ at hg;rw[pq w G 0 _ _ _ hg];rfl
 have fz:w.frozen? ⟨G,0,none⟩=false:=by unfold sQ at hg;simp[World.frozen?,hg]
 have n0:w.heap.size≠G:=by omega
 have n1:w.heap.size+1≠G:=by omega
 have HG:=zA hg;have bj:=zA (zW bR);have bc:Qd x=[.int .i64 x.kind,.int .i64 x.left,.int .i64 x.right,.string ⟨x.name.toArray⟩,.string ⟨x.mark.toArray⟩,.string ⟨x.other.toArray⟩,.int .i64 x.num]:=rfl;obtain⟨xk,xl,xr,xn,xm,xo,xu⟩:=x;simp only at bc;simp only[kI];have HX:=zA bc;have a1:some G≠nv.ownBlock:=λe=>by have h1:=(bj.out G e.symm).1;omega
 have a2:some w.heap.size≠nv.ownBlock:=λe=>by have h1:=(bj.out w.heap.size e.symm).2;omega
 clear hg bc
 go_enter func189,ntmps189
 go_wp2_with fail
 go_region_law ((refine step_append_lies _ (by rfl) _ _ _ (by rfl) (G+1) 238 i0 _ 7 80 underlying180 ai hz0 hz1 bo rfl (by decide) nv nd.length (gF nd) (by rfl) (((bR.alloc _).alloc _).drew) ⟨w.heap.size+1,0,none⟩ 1 1 (Qd ⟨xk,xl,xr,xn,xm,xo,xu⟩) (by rfl) (by rfl) (by rw[HX.out];exact tW _ _ _ _ rfl (by simp)) (by rw[HX.out];simp[Value.oneCell']) (by decide) (by unfold maxLen;omega) (by omega) (by simp;omega) (w.heap.size+1+1) (by simp) ?_;intro gg cap w1 bn au bx bH;have bz:w1.frozen? ⟨G,0,none⟩=false:=Nd au fz hG a1;have bE:w1.cell? ⟨G,0,none⟩=some nv:=NQ au c0 hG a1))
 all_goals
  have bD:Below G w w1:=(((tl G w).alloc (by omega) _).alloc (by simp;omega) _).drew.grown au (by show G<=((w.alloc _).alloc _).heap.size;simp;omega) (λk hk=>by have h1:=(bj.out k hk).1;omega)
  have hg1:w1.heap[G]? = some (sQ nv root tests dep):=by
   rw[au.block G (by show G<((w.alloc _).alloc _).heap.size;simp;omega) a1];show ((w.alloc _).alloc _).heap[G]? = _;rw[ld _ _ (by simp;omega),ld _ _ hG];exact HG.out
  have bw:=zA hg1;have bm:=zA bD;have bu:=zA bn;clear hg1 bD bn au bR;go_wp2_with fail
  go_ret
  refine⟨yY (by simp),⟨_,Ni bw.out,?_⟩,bm.out.setCell (p:=⟨G,0,none⟩) (tg _) _⟩;rw[DO,tm];exact yV bu.out (mh G)
structure GS where
 s:St
 nd:List zJ
 tests:Int
 dep:Int
def GS.to(q:GS)(s:St):GS:=⟨s,q.nd,q.tests,q.dep⟩
def GS.add(q:GS)(x:zJ):GS:=⟨q.s,q.nd++[x],q.tests,q.dep⟩
def GS.tested(q:GS)(d:Int):GS:=⟨q.s,q.nd,q.tests+1,if q.dep<d then d else q.dep⟩
def jK(P:List PT)(item:GS->Int × GS)(tok:Bs)(kind:Int):Nat->Int->GS->Int × GS
 | 0,left,q=>(left,q)
 | k+1,left,q =>
   match (zD P tok q.s).1 with
   | false=>(left,q.to (zD P tok q.s).2)
   | true=>jK P item tok kind k ((item (q.to (zD P tok q.s).2)).2.nd.length:Nat) ((item (q.to (zD P tok q.s).2)).2.add ⟨kind,left,(item (q.to (zD P tok q.s).2)).1,[],[],[],0⟩)
def kR(P:List PT)(fact:GS->Int->Int × GS)(q:GS)(d:Int):Int × GS:=jK P (λq=>fact q d) xW 2 P.length (fact q d).1 (fact q d).2
def dC(P:List PT)(fact:GS->Int->Int × GS)(q:GS)(d:Int):Int × GS:=jK P (λq=>kR P fact q d) tC 1 P.length (kR P fact q d).1 (kR P fact q d).2
def yQ(P:List PT):Nat->GS->Int->Int × GS
 | 0,q,_=>(0,q)
 | n+1,q,d =>
   match (zD P xE q.s).1 with
   | true=>(((yQ P n (q.to (zD P xE q.s).2) (d+1)).2.nd.length:Nat),(yQ P n (q.to (zD P xE q.s).2) (d+1)).2.add ⟨3,(yQ P n (q.to (zD P xE q.s).2) (d+1)).1,0,[],[],[],0⟩)
   | false =>
     match (zD P yS (zD P xE q.s).2).1 with
     | true=>((dC P (yQ P n) (q.to (zD P yS (zD P xE q.s).2).2) (d+1)).1,
      (dC P (yQ P n) (q.to (zD P yS (zD P xE q.s).2).2) (d+1)).2.to (zR P vF (dC P (yQ P n) (q.to (zD P yS (zD P xE q.s).2).2) (d+1)).2.s))
     | false=>((q.nd.length:Nat),(((q.tested d).to (xH P (zD P yS (zD P xE q.s).2).2).2).add (xH P (zD P yS (zD P xE q.s).2).2).1))
def dW(P:List PT)(n:Nat):GS->Int->Int × GS:=kR P (yQ P n)
def Yg(P:List PT)(n:Nat):GS->Int->Int × GS:=dC P (yQ P n)
structure Y8(w:World)(R g cap:Nat)(P:List PT)(G:Nat)(root:Int)(q:GS):Prop where
 ctx:vI w R g cap P q.s
 gd:Gd w G q.nd root q.tests q.dep
 rG:R<G
 gG:g<G
theorem Gd.keeps{nd:List zJ}(h:Gd w G nd root tests dep)(hk:zB w.heap.size R w w')(hR:R<G):Gd w' G nd root tests dep:=by
 have bH:=h.lt;obtain⟨nv,h1,h2⟩:=h;exact⟨nv,by rw[hk.block G bH (by omega)];exact h1,uK h2 hk (by omega)⟩
theorem Y8.read{g cap:Nat}{P:List PT}{q:GS}{s':St}(h:Y8 w R g cap P G root q)(hc:vI w' R g cap P s')(hk:zB w.heap.size R w w'):Y8 w' R g cap P G root (q.to s') :=
 ⟨hc,h.gd.keeps hk h.rG,h.rG,h.gG⟩
theorem yL.ir{g cap:Nat}{P:List PT}{s:St}(h:vI w R g cap P s)(hb:Below G w w')(hR:R<G)(hg:g<G):vI w' R g cap P s:=by
 refine⟨?_,?_,h.gR,tq h.ey hb.size,h.at',h.s7,h.s6,h.many,h.nr⟩
 ·rw[hb.block R hR];exact h.blk
 ·intro i hi
  have bI:∀o,w'.cell? ⟨g,o,none⟩=w.cell? ⟨g,o,none⟩:=λo=>bq (w:=w) (hb.block g hg);rw[bI,bI,bI,bI];exact h.tok i hi
theorem Y8.added{g cap:Nat}{P:List PT}{q:GS}{x:zJ}(h:Y8 w R g cap P G root q)(hg:Gd w' G (q.nd++[x]) root q.tests q.dep)(hb:Below G w w'):Y8 w' R g cap P G root (q.add x) :=
 ⟨h.ctx.ir hb h.rG h.gG,hg,h.rG,h.gG⟩
def YH(P:List PT)(q:GS):Nat:=q.nd.length+2*(P.length-q.s.1)
structure zGO(P:List PT)(q:GS)(d:Int):Prop where
 t0:0<=q.tests
 t1:q.tests<=(q.nd.length:Int)
 room:YH P q<=9000
 d0:0<=d
 d1:d<=(q.s.1:Int)
structure ZU(P:List PT)(q q':GS):Prop where
 mono:q.s.1<=q'.s.1
 ig:YH P q'<=YH P q+1
 t0:0<=q'.tests
 t1:q'.tests<=(q'.nd.length:Int)
def Jl(R g cap:Nat)(P:List PT)(G:Nat)(root:Int)(n:Nat):Prop:=∀(w:World) (q:GS) (d:Int),Y8 w R g cap P G root q->zGO P q d->P.length-q.s.1<=n ->
 Calls prog 190 #[.pointer (some ⟨R,0,none⟩),.pointer (some ⟨G,0,none⟩),.int .i64 d] w λe w'=>e=.returned (.int .i64 (yQ P n q d).1)/\Y8 w' R g cap P G root (yQ P n q d).2/\zB G R w w'/\ZU P q (yQ P n q d).2
def K0(R g cap:Nat)(P:List PT)(G:Nat)(root:Int)(n:Nat):Prop:=∀(w:World) (q:GS) (d:Int),Y8 w R g cap P G root q->zGO P q d->P.length-q.s.1<=n ->
 Calls prog 188 #[.pointer (some ⟨R,0,none⟩),.pointer (some ⟨G,0,none⟩),.int .i64 d] w λe w'=>e=.returned (.int .i64 (dW P n q d).1)/\Y8 w' R g cap P G root (dW P n q d).2/\zB G R w w'/\ZU P q (dW P n q d).2
def VJ(R g cap:Nat)(P:List PT)(G:Nat)(root:Int)(n:Nat):Prop:=∀(w:World) (q:GS) (d:Int),Y8 w R g cap P G root q->zGO P q d->P.length-q.s.1<=n ->
 Calls prog 182 #[.pointer (some ⟨R,0,none⟩),.pointer (some ⟨G,0,none⟩),.int .i64 d] w λe w'=>e=.returned (.int .i64 (Yg P n q d).1)/\Y8 w' R g cap P G root (Yg P n q d).2/\zB G R w w'/\ZU P q (Yg P n q d).2
theorem zB.ao(hk:zB w.heap.size R w w')(hG:G<=w.heap.size):zB G R w w':=hk.mono hG
theorem zB.aw(hb:Below G w w'):zB G R w w':=zB.az hb
theorem XU{P:List PT}{q:GS}{t:Bs}(h:(zD P t q.s).1=true)(ha:q.s.1<P.length):YH P (q.to (zD P t q.s).2)+2=YH P q:=by
 unfold YH GS.to;simp only;rw[qL h];omega
theorem CK{P:List PT}{q:GS}{s:St}(h:q.s.1<=s.1):YH P (q.to s)<=YH P q:=by
 unfold YH GS.to;simp only;omega
def FP(L R:Nat)(w:World):Nat:=L-A5 w R
theorem Y8.meas{g cap:Nat}{P:List PT}{q:GS}(h:Y8 w R g cap P G root q):FP P.length R w=P.length-q.s.1:=by
 unfold FP;rw[yL.AZ h.ctx]
end Go.Proofs.YtnbpdffdnphbeabGreatDoor
