import Derived.Test.YtnbpdffdnphbeaaGreatDoorDBase
set_option maxHeartbeats 2000000
set_option maxRecDepth 100000
namespace Go.Proofs.YtnbpdffdnphbeaaGreatDoor
open Go.RowKit
def Yy(us:List zI)(i k:Nat):Bool:=lO (kW us true (pZ us)) (pZ us).length i k
theorem zCL(w:World)(b:Nat)(ls:List zH)(us:List zI)(names:List Bs)(ins:Nat)(rs:List RX)(i k:Nat)(hB:aJ w b us names ins rs)(hA:yX ls us)(hk:k<(pZ us).length) :
 Calls Tryz.prog 82 #[.pointer (some ⟨b,0,none⟩),.int .i64 i,.int .i64 k] w fun e w'=>e=.returned (.bool (Yy us i k))/\Below w.heap.size w w':=by
 obtain⟨la,lc,hl0,zGR⟩:=hB.lines;have hbl:=xG hl0;have zGH:=zGR.few;have HLb:=zA (fun w' (hb:Below w.heap.size w w')=>Uf w' la lc ls us (zGR.below hb) hA);have HLd:=zA (fun w' (hb:Below w.heap.size w w') na nc (hn:aG w' na (pZ us))=>Kj w' la lc ls us true na nc (pZ us) i k hk (zGR.below hb) hA hn);have HR:Hid (lO (kW us true (pZ us)) (pZ us).length i k=Yy us i k):=rfl;rw[HR.out]at HLd;clear hB zGR hA HR hk;generalize Yy us i k=ans at *;generalize pZ us=labs at *
 go_enter Tryz.func82,Tryz.ntmps82
 go_wp2_with fail
 go_region_with (first
  | (go_at_call 133
     refine(HLb.out _ (Below.drew (Below.refl _ _))).mono ?_;rintro e w1 ⟨v1,rfl,zG2,hle1,hb1⟩;obtain⟨na,nc,rfl,hsv⟩:=oJ zG2 (by omega);have HSv:=zA hsv;have HB1:Hid (Below w.heap.size w w1):=(Below.drew (Below.refl _ _)).trans hb1;have q0:w1.cell? ⟨b,0,none⟩=some (.slice la us.length lc):=by rw[HB1.out.cell (p:=⟨b,0,none⟩) hbl];exact hl0
     clear zG2 hle1 hb1 hsv)
  | (go_at_call 134
     refine(HLd.out _ HB1.out na nc HSv.out).mono ?_;rintro e w2 ⟨rfl,hb2⟩;have HB2:Hid (Below w.heap.size w w2):=HB1.out.trans (hb2.mono HB1.out.size);clear hb2))
 all_goals
  go_wp2_with fail
  go_ret
  exact⟨rfl,HB2.out⟩
end Go.Proofs.YtnbpdffdnphbeaaGreatDoor
