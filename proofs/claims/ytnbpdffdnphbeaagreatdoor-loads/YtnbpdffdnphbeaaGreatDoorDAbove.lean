import Derived.Test.YtnbpdffdnphbeaaGreatDoorDBase
set_option maxHeartbeats 2000000
set_option maxRecDepth 100000
namespace Go.Proofs.YtnbpdffdnphbeaaGreatDoor
open Go.RowKit
def ZY(us:List zG)(i k:Nat):Bool:=lU (jG us true (pS us)) (pS us).length i k
theorem zES(w:World)(b:Nat)(ls:List zF)(us:List zG)(names:List Bs)(ins:Nat)(rs:List RX)(i k:Nat)(hB:nP w b us names ins rs)(hA:yQ ls us)(hk:k<(pS us).length) :
 Calls Tryz.prog 82 #[.pointer (some ⟨b,0,none⟩),.int .i64 i,.int .i64 k] w fun e w'=>e=.returned (.bool (ZY us i k))/\Below w.heap.size w w':=by
 obtain⟨la,lc,hl0,zIY⟩:=hB.lines;have hbl:=zT hl0;have zIP:=zIY.few;have HLb:=zA (fun w' (hb:Below w.heap.size w w')=>UP w' la lc ls us (zIY.below hb) hA);have HLd:=zA (fun w' (hb:Below w.heap.size w w') na nc (hn:oP w' na (pS us))=>KU w' la lc ls us true na nc (pS us) i k hk (zIY.below hb) hA hn);have HR:Hid (lU (jG us true (pS us)) (pS us).length i k=ZY us i k):=rfl;rw[HR.out]at HLd;clear hB zIY hA HR hk;generalize ZY us i k=ans at *;generalize pS us=labs at *
 go_enter Tryz.func82,Tryz.ntmps82
 go_wp2_with fail
 go_region_with (first
  | (go_at_call 133
     refine(HLb.out _ (me (tl _ _))).mono ?_;rintro e w1 ⟨v1,rfl,zIE,hle1,hb1⟩;obtain⟨na,nc,rfl,hsv⟩:=nX zIE (by omega);have HSv:=zA hsv;have HB1:Hid (Below w.heap.size w w1):=(me (tl _ _)).trans hb1;have q0:w1.cell? ⟨b,0,none⟩=some (.slice la us.length lc):=by rw[HB1.out.cell (p:=⟨b,0,none⟩) hbl];exact hl0
     clear zIE hle1 hb1 hsv)
  | (go_at_call 134
     refine(HLd.out _ HB1.out na nc HSv.out).mono ?_;rintro e w2 ⟨rfl,hb2⟩;have HB2:Hid (Below w.heap.size w w2):=HB1.out.trans (hb2.mono HB1.out.size);clear hb2))
 all_goals
  go_wp2_with fail
  go_ret
  exact⟨rfl,HB2.out⟩
end Go.Proofs.YtnbpdffdnphbeaaGreatDoor
