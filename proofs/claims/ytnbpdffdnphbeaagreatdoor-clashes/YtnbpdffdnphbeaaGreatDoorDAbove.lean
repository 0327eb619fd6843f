import Derived.Test.YtnbpdffdnphbeaaGreatDoorDBase
set_option maxHeartbeats 2000000
set_option maxRecDepth 100000
namespace Go.Proofs.YtnbpdffdnphbeaaGreatDoor
open Go.RowKit
def Yc(us:List zG)(i k:Nat):Bool:=lV (jE us true (pT us)) (pT us).length i k
theorem zEK(w:World)(b:Nat)(ls:List zF)(us:List zG)(names:List Bs)(ins:Nat)(rs:List RX)(i k:Nat)(hB:cU w b us names ins rs)(hA:yP ls us)(hk:k<(pT us).length) :
 Calls Tryz.prog 82 #[.pointer (some ⟨b,0,none⟩),.int .i64 i,.int .i64 k] w fun e w'=>e=.returned (.bool (Yc us i k))/\Below w.heap.size w w':=by
 obtain⟨la,lc,hl0,zIT⟩:=hB.lines;have hbl:=zP hl0;have zII:=zIT.few;have HLb:=zA (fun w' (hb:Below w.heap.size w w')=>UU w' la lc ls us (zIT.below hb) hA);have HLd:=zA (fun w' (hb:Below w.heap.size w w') na nc (hn:oS w' na (pT us))=>KX w' la lc ls us true na nc (pT us) i k hk (zIT.below hb) hA hn);have HR:Hid (lV (jE us true (pT us)) (pT us).length i k=Yc us i k):=rfl;rw[HR.out]at HLd;clear hB zIT hA HR hk;generalize Yc us i k=ans at *;generalize pT us=labs at *
 go_enter Tryz.func82,Tryz.ntmps82
 go_wp2_with fail
 go_region_with (first
  | (go_at_call 133
     refine(HLb.out _ (me (tj _ _))).mono ?_;rintro e w1 ⟨v1,rfl,zI9,hle1,hb1⟩;obtain⟨na,nc,rfl,hsv⟩:=oB zI9 (by omega);have HSv:=zA hsv;have HB1:Hid (Below w.heap.size w w1):=(me (tj _ _)).trans hb1;have q0:w1.cell? ⟨b,0,none⟩=some (.slice la us.length lc):=by rw[HB1.out.cell (p:=⟨b,0,none⟩) hbl];exact hl0
     clear zI9 hle1 hb1 hsv)
  | (go_at_call 134
     refine(HLd.out _ HB1.out na nc HSv.out).mono ?_;rintro e w2 ⟨rfl,hb2⟩;have HB2:Hid (Below w.heap.size w w2):=HB1.out.trans (hb2.mono HB1.out.size);clear hb2))
 all_goals
  go_wp2_with fail
  go_ret
  exact⟨rfl,HB2.out⟩
end Go.Proofs.YtnbpdffdnphbeaaGreatDoor
