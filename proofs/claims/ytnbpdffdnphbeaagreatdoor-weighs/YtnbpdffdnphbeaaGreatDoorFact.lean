import Derived.Test.YtnbpdffdnphbeaaGreatDoorTerms
set_option maxHeartbeats 1000000
namespace Go.Proofs.YtnbpdffdnphbeaaGreatDoor
open Go.RowKit
theorem Vw{w:World}{G:Nat}{nd:List yB}{root tests dep:Int}(h:Gd w G nd root tests dep):w.cell? ⟨G,2,none⟩=some (.int .i64 tests)/\w.cell? ⟨G,3,none⟩=some (.int .i64 dep)/\(∀o,w.frozen? ⟨G,o,none⟩=false):=by
 obtain⟨nv,h1,_⟩:=h;unfold sR at h1;exact⟨by rw[cell_of_row w G 2 _ _ _ h1];rfl,by rw[cell_of_row w G 3 _ _ _ h1];rfl,fun o=>by simp[World.frozen?,h1]⟩
theorem QV{w:World}{G:Nat}{nd:List yB}{root tests dep:Int}(h:Gd w G nd root tests dep):Gd (w.setCell ⟨G,2,none⟩ (.int .i64 (tests+1))) G nd root (tests+1) dep:=by
 obtain⟨nv,h1,h2⟩:=h;refine⟨nv,?_,xN h2 (Nat.lt_succ_self G)⟩;unfold sR at h1 ⊢;rw[heap_setCell_same w G 2 _ _ _ h1];simp
theorem zBJ{w:World}{G:Nat}{nd:List yB}{root tests dep d:Int}(h:Gd w G nd root tests dep):Gd (w.setCell ⟨G,3,none⟩ (.int .i64 d)) G nd root tests d:=by
 obtain⟨nv,h1,h2⟩:=h;refine⟨nv,?_,xN h2 (Nat.lt_succ_self G)⟩;unfold sR at h1 ⊢;rw[heap_setCell_same w G 3 _ _ _ h1];simp
theorem Below.setG{w:World}{G o:Nat}{u:Value}:Below G w (w.setCell ⟨G,o,none⟩ u):=(Below.refl _ _).setCell (p:=⟨G,o,none⟩) (Nat.le_refl _) u
theorem Gd.alloc{w:World}{G:Nat}{nd:List yB}{root tests dep:Int}(h:Gd w G nd root tests dep)(o:Obj):Gd (w.alloc o) G nd root tests dep:=by
 have zFZ:=h.lt;obtain⟨nv,h1,h2⟩:=h;exact⟨nv,by rw[Below.heap_alloc _ _ _ zFZ];exact h1,h2.alloc _⟩
theorem ux(R g cap:Nat)(P:List PT)(G:Nat)(root:Int)(n:Nat)(hf:Qc R g cap P G root n)(w:World)(q:GS)(d:Int)(zGB:ZN w R g cap P G root q)(zGG:ji P q d)(hn:P.length-q.s.1<=n+1)(h1:(zC P xF q.s).1=true) :
 Calls Tryz.prog 259 #[.pointer (some ⟨R,0,none⟩),.pointer (some ⟨G,0,none⟩),.int .i64 d] w fun e w'=>e=.returned (.int .i64 (xK P (n+1) q d).1)/\ZN w' R g cap P G root (xK P (n+1) q d).2/\zB G R w w'/\Zp P q (xK P (n+1) q d).2:=by
 have hGl:=zGB.gd.lt;have hat:=zGB.ctx.at';have hmany:=zGB.ctx.many;have zGE:=qL h1;have hps:=Xd h1 hat
 have HF:Hid (xK P (n+1) q d=((((xK P n (q.to (zC P xF q.s).2) (d+1)).2.nd.length:Nat):Int),(xK P n (q.to (zC P xF q.s).2) (d+1)).2.add ⟨3,(xK P n (q.to (zC P xF q.s).2) (d+1)).1,0,[],[],[],0⟩)):=by
  unfold Hid;rw[xK,h1]
 have hok1:ji P (q.to (zC P xF q.s).2) (d+1):=⟨zGG.t0,zGG.t1,by have:=zGG.room;omega,by have:=zGG.d0;omega,by have:=zGG.d1;show d+1<=(((zC P xF q.s).2.1:Nat):Int);rw[zGE];omega⟩;have hn1:P.length-(q.to (zC P xF q.s).2).s.1<=n:=by show P.length-(zC P xF q.s).2.1<=n;rw[zGE];omega
 have hs1:(q.to (zC P xF q.s).2).s.1=q.s.1+1:=zGE;have HFa:=zA hf;have HIn:=zA zGB;have HOk:=zA zGG;have H1:=zA h1;have hd0:=zGG.d0;have hd1:=zGG.d1;generalize xK P (n+1) q d=F at *;clear hf zGB zGG h1 zGE
 go_enter Tryz.func259,Tryz.ntmps259
 go_wp2_with fail
 refine(vM R g cap P _ q.s xF HIn.out.ctx).mono ?_;rintro e w1 ⟨rfl,hc1,hk1⟩;rw[H1.out];have hi1:=HIn.out.read hc1 hk1;have HK1:Hid (zB G R w w1):=hk1.of_size (Nat.le_of_lt hGl);have hG1:=hi1.gd.lt;generalize q.to (zC P xF q.s).2=q1 at *;have HI1:=zA (HFa.out w1 q1 (d+1) hi1 hok1 hn1);clear hc1 hk1 hi1 hok1 hn1;go_wp2_with fail
 refine HI1.out.mono ?_;rintro e w2 ⟨rfl,hi2,hk2,hg2⟩;have HI2:=zA hi2;have HK2:Hid (zB G R w w2):=HK1.out.trans hk2;have HG2:=zA hg2;generalize xK P n q1 (d+1)=y at *;obtain⟨r,q2⟩:=y;simp only at HF HI2 HG2;have hp2:=HG2.out.pot';have hro:=HOk.out.room;have hnd2:q2.nd.length<=ZS P q2:=by unfold ZS;omega
 have hnd:q2.nd.length<=10000:=by omega
 clear hi2 hk2 hg2 HI1;go_wp2_with fail
 refine(VT w2 G q2.nd root q2.tests q2.dep ⟨3,r,0,[],[],[],0⟩ HI2.out.gd hnd).mono ?_;rintro e w3 ⟨rfl,hgd3,hb3⟩;have HI3:=zA (HI2.out.added hgd3 hb3);have HK3:Hid (zB G R w w3):=HK2.out.trans (zB.of_belowG hb3);have hmo:=HG2.out.mono;have HGo:Hid (Zp P q (q2.add ⟨3,r,0,[],[],[],0⟩)):=⟨by show q.s.1<=q2.s.1;omega,by show (q2.nd++[_]).length+2*(P.length-q2.s.1)<=_;rw[List.length_append,List.length_singleton];unfold ZS at hp2 hps ⊢;omega,HG2.out.t0,by show q2.tests<=((q2.nd++[_]).length:Int);rw[List.length_append];have:=HG2.out.t1;omega⟩;clear hgd3 hb3;go_wp2_with fail
 go_ret
 rw[HF.out];exact⟨rfl,HI3.out,HK3.out,HGo.out⟩
theorem FT(R g cap:Nat)(P:List PT)(G:Nat)(root:Int)(n:Nat)(ha:Kl R g cap P G root n)(w:World)(q:GS)(d:Int)(zGB:ZN w R g cap P G root q)(zGG:ji P q d)(hn:P.length-q.s.1<=n+1)(h1:(zC P xF q.s).1=false)(h2:(zC P yU (zC P xF q.s).2).1=true) :
 Calls Tryz.prog 259 #[.pointer (some ⟨R,0,none⟩),.pointer (some ⟨G,0,none⟩),.int .i64 d] w fun e w'=>e=.returned (.int .i64 (xK P (n+1) q d).1)/\ZN w' R g cap P G root (xK P (n+1) q d).2/\zB G R w w'/\Zp P q (xK P (n+1) q d).2:=by
 have hGl:=zGB.gd.lt;have hat:=zGB.ctx.at';have hmany:=zGB.ctx.many;have hs0:(zC P xF q.s).2.1=q.s.1:=by simp only[zC]at h1 ⊢;rw[h1];rfl
 have zGE:=qL h2
 have HF:Hid (xK P (n+1) q d=((Zz P n (q.to (zC P yU (zC P xF q.s).2).2) (d+1)).1,(Zz P n (q.to (zC P yU (zC P xF q.s).2).2) (d+1)).2.to (zY P vD (Zz P n (q.to (zC P yU (zC P xF q.s).2).2) (d+1)).2.s))):=by
  unfold Hid;rw[xK,h1];simp only[h2];rfl
 have hs1:(q.to (zC P yU (zC P xF q.s).2).2).s.1=q.s.1+1:=by show (zC P yU (zC P xF q.s).2).2.1=_;rw[zGE,hs0]
 have hpp:ZS P (q.to (zC P yU (zC P xF q.s).2).2)+2=ZS P q:=by unfold ZS;rw[hs1];show q.nd.length+_+2=_;omega
 have hok1:ji P (q.to (zC P yU (zC P xF q.s).2).2) (d+1):=⟨zGG.t0,zGG.t1,by have:=zGG.room;omega,by have:=zGG.d0;omega,by have:=zGG.d1;rw[hs1];omega⟩;have hn1:P.length-(q.to (zC P yU (zC P xF q.s).2).2).s.1<=n:=by rw[hs1];omega
 have HA:=zA ha;have HIn:=zA zGB;have HOk:=zA zGG;have H1:=zA h1;have H2:=zA h2;have hd0:=zGG.d0;have hd1:=zGG.d1;generalize xK P (n+1) q d=F at *;clear ha zGB zGG h1 h2 zGE hs0
 go_enter Tryz.func259,Tryz.ntmps259
 go_wp2_with fail
 refine(vM R g cap P _ q.s xF HIn.out.ctx).mono ?_;rintro e w1 ⟨rfl,hc1,hk1⟩;rw[H1.out];have hi1:=HIn.out.read hc1 hk1;have HK1:Hid (zB G R w w1):=hk1.of_size (Nat.le_of_lt hGl);have hG1:=hi1.gd.lt;have HC1:=zA hc1;have HI1:=zA hi1;clear hc1 hk1 hi1;go_wp2_with fail
 refine(vM R g cap P _ (zC P xF q.s).2 yU HC1.out).mono ?_;rintro e w2 ⟨rfl,hc2,hk2⟩;rw[H2.out];have hi2:ZN w2 R g cap P G root (q.to (zC P yU (zC P xF q.s).2).2):=HI1.out.read hc2 hk2;have HK2:Hid (zB G R w w2):=HK1.out.trans (hk2.of_size (Nat.le_of_lt hG1));generalize q.to (zC P yU (zC P xF q.s).2).2=q1 at *;have HI2:=zA (HA.out w2 q1 (d+1) hi2 hok1 hn1);clear hc2 hk2 hi2 hok1 hn1 HI1 HC1;go_wp2_with fail
 refine HI2.out.mono ?_;rintro e w3 ⟨rfl,hi3,hk3,hg3⟩;have HI3:=zA hi3;have HK3:Hid (zB G R w w3):=HK2.out.trans hk3;have HG3:=zA hg3;generalize Zz P n q1 (d+1)=y at *;obtain⟨r,q2⟩:=y;simp only at HF HI3 HG3;have hG3:=HI3.out.gd.lt;have hp3:=HG3.out.pot';clear hi3 hk3 hg3 HI2;go_wp2_with fail
 refine(gW R g cap P _ q2.s vD HI3.out.ctx).mono ?_;rintro e w4 ⟨rfl,hc4,hk4⟩;have HI4:=zA (HI3.out.read hc4 hk4);have HK4:Hid (zB G R w w4):=HK3.out.trans (hk4.of_size (Nat.le_of_lt hG3));have hmo:=HG3.out.mono;have hwm:q2.s.1<=(zY P vD q2.s).1:=fN _ _;have HGo:Hid (Zp P q (q2.to (zY P vD q2.s))):=⟨by show q.s.1<=(zY P vD q2.s).1;omega,by have h9:=UR (P:=P) (q:=q2) hwm;omega,HG3.out.t0,HG3.out.t1⟩;clear hc4 hk4;go_wp2_with fail
 go_ret
 rw[HF.out];exact⟨rfl,HI4.out,HK4.out,HGo.out⟩
theorem iB(P:List PT)(s:St):s.1<=(vF P s).2.1:=by
 have k1:=fun t s=>xW P t s;have k2:∀s,s.1<=(zN P s).2.1:=fun s=>fN _ _;have k3:∀s,s.1<=(yR P s).2.1:=fun s=>fN _ _
 have k4:∀s,s.1<=(vS P s).2.1:=by
  intro s;unfold vS;split
  ·split <;> exact xW P _ s
  ·exact Nat.le_refl _
 unfold vF;split
 ·exact k1 _ _
 ·split
  ·exact Nat.le_trans (k1 _ _) (Nat.le_trans (k1 _ _) (k2 _))
  ·split
   ·exact Nat.le_trans (k1 _ _) (Nat.le_trans (k1 _ _) (Nat.le_trans (k2 _) (k4 _)))
   ·split
    ·exact Nat.le_trans (k1 _ _) (Nat.le_trans (k1 _ _) (Nat.le_trans (k2 _) (Nat.le_trans (k4 _) (k3 _))))
    ·exact Nat.le_trans (k1 _ _) (Nat.le_trans (k1 _ _) (Nat.le_trans (k2 _) (Nat.le_trans (k4 _) (k2 _))))
theorem FS9(R g cap:Nat)(P:List PT)(G:Nat)(root:Int)(n:Nat)(w:World)(q:GS)(d:Int)(zGB:ZN w R g cap P G root q)(zGG:ji P q d)(h1:(zC P xF q.s).1=false)(h2:(zC P yU (zC P xF q.s).2).1=false) :
 Calls Tryz.prog 259 #[.pointer (some ⟨R,0,none⟩),.pointer (some ⟨G,0,none⟩),.int .i64 d] w fun e w'=>e=.returned (.int .i64 (xK P (n+1) q d).1)/\ZN w' R g cap P G root (xK P (n+1) q d).2/\zB G R w w'/\Zp P q (xK P (n+1) q d).2:=by
 have hGl:=zGB.gd.lt;have hat:=zGB.ctx.at';have hmany:=zGB.ctx.many
 have HF:Hid (xK P (n+1) q d=(((q.nd.length:Nat):Int),(((q.tested d).to (vF P (zC P yU (zC P xF q.s).2).2).2).add (vF P (zC P yU (zC P xF q.s).2).2).1))):=by
  unfold Hid;rw[xK,h1];simp only[h2]
 have hs2:(zC P yU (zC P xF q.s).2).2.1=q.s.1:=by
  simp only[zC]at h1 h2 ⊢;rw[h2,h1];rfl
 have HM:=zA (iB P);have hnd:q.nd.length<=10000:=by have:=zGG.room;unfold ZS at this;omega
 have ht0:=zGG.t0;have ht1:=zGG.t1;have hd0:=zGG.d0;have hd1:=zGG.d1;have nR:G≠R:=by have:=zGB.rG;omega
 have ng:G≠g:=by have:=zGB.gG;omega
 have HIn:=zA zGB;have H1:=zA h1;have H2:=zA h2;generalize xK P (n+1) q d=F at *;clear zGB zGG h1 h2;by_cases hdp:q.dep<d
 ·have hEx:∀(s:St) (x:yB),((q.tested d).to s).add x=⟨s,q.nd++[x],q.tests+1,d⟩:=by intro s x;simp only[GS.tested,GS.to,GS.add];rw[if_pos hdp]
  have HEx:=zA hEx;clear hEx
  go_enter Tryz.func259,Tryz.ntmps259
  go_wp2_with fail
  refine(vM R g cap P _ q.s xF HIn.out.ctx).mono ?_;rintro e w1 ⟨rfl,hc1,hk1⟩;rw[H1.out];have hi1:=HIn.out.read hc1 hk1;have HK1:Hid (zB G R w w1):=hk1.of_size (Nat.le_of_lt hGl);have hG1:=hi1.gd.lt;have HC1:=zA hc1;have HI1:=zA hi1;clear hc1 hk1 hi1;go_wp2_with fail
  refine(vM R g cap P _ (zC P xF q.s).2 yU HC1.out).mono ?_;rintro e w2 ⟨rfl,hc2,hk2⟩;rw[H2.out];have hi2:ZN w2 R g cap P G root (q.to (zC P yU (zC P xF q.s).2).2):=HI1.out.read hc2 hk2;have HK2:Hid (zB G R w w2):=HK1.out.trans (hk2.of_size (Nat.le_of_lt hG1));obtain⟨gc2,gc3,gfz⟩:=Vw hi2.gd;have hG2:=hi2.gd.lt;have HI2:=zA hi2;clear hc2 hk2 hi2 HI1 HC1;generalize (zC P yU (zC P xF q.s).2).2=s2 at *;simp only[GS.to]at gc2 gc3;go_wp2_with fail
  refine(GW _ R g cap P s2 (yK.set (yK.set HI2.out.ctx nR ng) nR ng)).mono ?_;rintro e w3 ⟨rfl,hc3,hk3⟩;have hgd3:Gd w3 G q.nd root (q.tests+1) d:=Gd.keeps (zBJ (QV HI2.out.gd)) hk3 HIn.out.rG;have HK3:Hid (zB G R w w3):=HK2.out.trans ((zB.of_belowG (Below.setG.trans Below.setG)).trans (hk3.of_size (by simp only[zR];omega)));have HC3:=zA hc3;have HGd3:=zA hgd3;have hmo:=HM.out s2;clear hc3 hk3 hgd3 gc2 gc3 gfz HM;have hG3:=HGd3.out.lt;generalize hpt:vF P s2=y at *;obtain⟨x,s3⟩:=y;simp only at HF HC3 hmo;obtain⟨xk,xl,xr,xn,xm,xo,xu⟩:=x;simp only[jH];clear hpt;go_wp2_with fail
  refine(VT (w3.alloc _) G q.nd root (q.tests+1) d ⟨xk,xl,xr,xn,xm,xo,xu⟩ (Gd.alloc HGd3.out _) hnd).mono ?_;rintro e w4 ⟨rfl,hgd4,hb4⟩;have hi4:ZN w4 R g cap P G root ⟨s3,q.nd++[⟨xk,xl,xr,xn,xm,xo,xu⟩],q.tests+1,d⟩:=⟨(yK.alloc HC3.out _).belowG hb4 HIn.out.rG HIn.out.gG,hgd4,HIn.out.rG,HIn.out.gG⟩;have HI4:=zA hi4;have HK4:Hid (zB G R w w4):=HK3.out.trans ((zB.alloc (zB.refl _ _ _) (Nat.le_of_lt hG3) _).trans (zB.of_belowG hb4));clear hgd4 hb4 hi4;go_wp2_with fail
  go_ret
  rw[HF.out,HEx.out];refine⟨rfl,HI4.out,HK4.out,⟨by show q.s.1<=s3.1;omega,?_,by show 0<=q.tests+1;omega,?_⟩⟩
  ·show (q.nd++[_]).length+2*(P.length-s3.1)<=ZS P q+1
   unfold ZS;rw[List.length_append,List.length_singleton];omega
  ·show q.tests+1<=((q.nd++[_]).length:Int)
   rw[List.length_append,List.length_singleton];omega
 ·have hEx:∀(s:St) (x:yB),((q.tested d).to s).add x=⟨s,q.nd++[x],q.tests+1,q.dep⟩:=by intro s x;simp only[GS.tested,GS.to,GS.add];rw[if_neg hdp]
  have HEx:=zA hEx;clear hEx
  go_enter Tryz.func259,Tryz.ntmps259
  go_wp2_with fail
  refine(vM R g cap P _ q.s xF HIn.out.ctx).mono ?_;rintro e w1 ⟨rfl,hc1,hk1⟩;rw[H1.out];have hi1:=HIn.out.read hc1 hk1;have HK1:Hid (zB G R w w1):=hk1.of_size (Nat.le_of_lt hGl);have hG1:=hi1.gd.lt;have HC1:=zA hc1;have HI1:=zA hi1;clear hc1 hk1 hi1;go_wp2_with fail
  refine(vM R g cap P _ (zC P xF q.s).2 yU HC1.out).mono ?_;rintro e w2 ⟨rfl,hc2,hk2⟩;rw[H2.out];have hi2:ZN w2 R g cap P G root (q.to (zC P yU (zC P xF q.s).2).2):=HI1.out.read hc2 hk2;have HK2:Hid (zB G R w w2):=HK1.out.trans (hk2.of_size (Nat.le_of_lt hG1));obtain⟨gc2,gc3,gfz⟩:=Vw hi2.gd;have hG2:=hi2.gd.lt;have HI2:=zA hi2;clear hc2 hk2 hi2 HI1 HC1;generalize (zC P yU (zC P xF q.s).2).2=s2 at *;simp only[GS.to]at gc2 gc3;go_wp2_with fail
  refine(GW _ R g cap P s2 (yK.set HI2.out.ctx nR ng)).mono ?_;rintro e w3 ⟨rfl,hc3,hk3⟩;have hgd3:Gd w3 G q.nd root (q.tests+1) q.dep:=Gd.keeps (QV HI2.out.gd) hk3 HIn.out.rG;have HK3:Hid (zB G R w w3):=HK2.out.trans ((zB.of_belowG (Below.setG)).trans (hk3.of_size (by simp only[zR];omega)));have HC3:=zA hc3;have HGd3:=zA hgd3;have hmo:=HM.out s2;clear hc3 hk3 hgd3 gc2 gc3 gfz HM;have hG3:=HGd3.out.lt;generalize hpt:vF P s2=y at *;obtain⟨x,s3⟩:=y;simp only at HF HC3 hmo;obtain⟨xk,xl,xr,xn,xm,xo,xu⟩:=x;simp only[jH];clear hpt;go_wp2_with fail
  refine(VT (w3.alloc _) G q.nd root (q.tests+1) q.dep ⟨xk,xl,xr,xn,xm,xo,xu⟩ (Gd.alloc HGd3.out _) hnd).mono ?_;rintro e w4 ⟨rfl,hgd4,hb4⟩;have hi4:ZN w4 R g cap P G root ⟨s3,q.nd++[⟨xk,xl,xr,xn,xm,xo,xu⟩],q.tests+1,q.dep⟩:=⟨(yK.alloc HC3.out _).belowG hb4 HIn.out.rG HIn.out.gG,hgd4,HIn.out.rG,HIn.out.gG⟩;have HI4:=zA hi4;have HK4:Hid (zB G R w w4):=HK3.out.trans ((zB.alloc (zB.refl _ _ _) (Nat.le_of_lt hG3) _).trans (zB.of_belowG hb4));clear hgd4 hb4 hi4;go_wp2_with fail
  go_ret
  rw[HF.out,HEx.out];refine⟨rfl,HI4.out,HK4.out,⟨by show q.s.1<=s3.1;omega,?_,by show 0<=q.tests+1;omega,?_⟩⟩
  ·show (q.nd++[_]).length+2*(P.length-s3.1)<=ZS P q+1
   unfold ZS;rw[List.length_append,List.length_singleton];omega
  ·show q.tests+1<=((q.nd++[_]).length:Int)
   rw[List.length_append,List.length_singleton];omega
theorem uy(R g cap:Nat)(P:List PT)(G:Nat)(root:Int)(n:Nat):Qc R g cap P G root n:=by
 induction n with
 | zero=>intro w q d zGB _ hn;have:=zGB.ctx.at';omega
 | succ n ih =>
   intro w q d zGB zGG hn;cases h1:(zC P xF q.s).1
   ·cases h2:(zC P yU (zC P xF q.s).2).1
    ·exact FS9 R g cap P G root n w q d zGB zGG h1 h2
    ·exact FT R g cap P G root n (zCX R g cap P G root n (Cy R g cap P G root n ih)) w q d zGB zGG hn h1 h2
   ·exact ux R g cap P G root n ih w q d zGB zGG hn h1
theorem zC9(R g cap:Nat)(P:List PT)(G:Nat)(root:Int)(n:Nat):Kl R g cap P G root n :=
 zCX R g cap P G root n (Cy R g cap P G root n (uy R g cap P G root n))
def vU(P:List PT)(s:St):Int × GS:=Zz P P.length ⟨s,[],0,0⟩ 0
def Z8(nv:Value)(y:Int × GS):Value:=.agg #[nv,.int .i64 y.1,.int .i64 y.2.tests,.int .i64 y.2.dep]
theorem uD{w:World}{b b':Nat}{e:TypeId}{size:Nat}{v:Value}{n:Nat}{xs:List Value}(h:w.ownsRow b e size v n xs)(hb:b'<=b):w.ownsRow b' e size v n xs:=by
 refine⟨h.1,?_⟩;rcases h.2 with h1|⟨g,cap,yP,h1,h2,r⟩
 ·exact .inl h1
 ·exact .inr ⟨g,cap,yP,h1,Nat.le_trans hb h2,r⟩
theorem zBE(w:World)(R g cap:Nat)(P:List PT)(s:St)(h:vO w R g cap P s) :
 Calls Tryz.prog 214 #[.pointer (some ⟨R,0,none⟩)] w fun e w'=>∃nv,e=.returned (Z8 nv (vU P s))/\w'.ownsRow w.heap.size 304 7 nv (vU P s).2.nd.length (gM (vU P s).2.nd)/\vO w' R g cap P (vU P s).2.s/\zB w.heap.size R w w':=by
 have hR:=h.rlt;have hg:=h.glt;have hmany:=h.many;have hat:=h.at';have HC:=zA h;have HAlt:=zA (zC9 R g cap P (w.heap.size+1) 0 P.length);have n0:w.heap.size≠R:=by omega
 have n1:w.heap.size+1≠R:=by omega
 have HF:Hid (vU P s=Zz P P.length ⟨s,[],0,0⟩ 0):=rfl;generalize vU P s=F at *;clear h
 go_enter Tryz.func214,Tryz.ntmps214
 go_wp2_with fail
 have zGC:Gd ((w.alloc (.cells #[.slice none 0 0,.int .i64 0,.int .i64 0,.int .i64 0] 232)).alloc (.cells #[.slice none 0 0,.int .i64 0,.int .i64 0,.int .i64 0] 232)) (w.heap.size+1) [] 0 0 0 :=
  ⟨.slice none 0 0,by
   have h1:=zS (w.alloc (.cells #[.slice none 0 0,.int .i64 0,.int .i64 0,.int .i64 0] 232)) (.cells #[.slice none 0 0,.int .i64 0,.int .i64 0,.int .i64 0] 232);rw[show (w.alloc (.cells #[.slice none 0 0,.int .i64 0,.int .i64 0,.int .i64 0] 232)).heap.size=w.heap.size+1 by simp]at h1;exact h1,World.ownsRow_nil _ _ _ _⟩
 refine(HAlt.out _ ⟨s,[],0,0⟩ 0 ⟨yK.alloc (yK.alloc HC.out _) _,zGC,by omega,by omega⟩ ⟨Int.le_refl 0,Int.le_refl 0,by show 0+2*(P.length-s.1)<=9000;omega,by decide,by omega⟩ (by omega)).mono ?_;rintro e w1 ⟨rfl,hi1,hk1,_⟩;rw[<-HF.out];rw[<-HF.out]at hi1;have HT1:Hid (zB w.heap.size R w w1):=zB.trans (zB.new (zB.new (zB.refl _ _ _))) (hk1.mono (by omega));have q0:=fun o=>hk1.cell (p:=⟨w.heap.size,o,none⟩) (by simp) n0;have r0:=fun o=>hk1.frozen (p:=⟨w.heap.size,o,none⟩) (by simp) n0;obtain⟨hc1,⟨nv,hgb,zG1⟩,_,_⟩:=hi1;unfold sR at hgb;have cz:=fun j=>cell_of_row _ _ j _ _ _ hgb;have fz:∀o,w1.frozen? ⟨w.heap.size+1,o,none⟩=false:=fun o=>by simp[World.frozen?,hgb]
 have HC1:=zA hc1;have HO1:=zA zG1;have m0:w.heap.size≠g:=by omega
 have m1:w.heap.size+1≠g:=by omega
 have hform:nv=.slice none 0 0\/∃gg n c,nv=.slice (some ⟨gg,0,none⟩) n c:=by
  rcases zG1.2 with ⟨h1,_⟩|⟨gg,c,_,h1,_⟩
  ·exact .inl h1
  ·exact .inr ⟨gg,_,c,h1⟩
 clear zGC hk1 hgb zG1 hc1 HAlt;rcases hform with rfl|⟨gg,gn,gc,rfl⟩
 ·go_wp2_with fail
  refine bodyPost_ret (v:=Z8 (.slice none 0 0) F) (by simp (maxDischargeDepth:=8) [results,Tryz.results214,go_sem,Z8,q0]) rfl ⟨_,rfl,?_,?_,?_⟩
  ·exact uD (xN (xN (xN (xN (xN HO1.out (by omega)) (by omega)) (by omega)) (by omega)) (by omega)) (by omega)
  ·exact(by repeat (with_reducible first|exact HC1.out|refine yK.set ?_ (by first|exact n0|exact n1) (by first|exact m0|exact m1)))
  ·exact(by repeat (with_reducible first|exact HT1.out|refine zB.set ?_ (by first|exact Nat.le_refl _|exact Nat.le_add_right _ _)))
 ·go_wp2_with fail
  refine bodyPost_ret (v:=Z8 (.slice (some ⟨gg,0,none⟩) gn gc) F) (by simp (maxDischargeDepth:=8) [results,Tryz.results214,go_sem,Z8,q0]) rfl ⟨_,rfl,?_,?_,?_⟩
  ·exact uD (xN (xN (xN (xN (xN HO1.out (by omega)) (by omega)) (by omega)) (by omega)) (by omega)) (by omega)
  ·exact(by repeat (with_reducible first|exact HC1.out|refine yK.set ?_ (by first|exact n0|exact n1) (by first|exact m0|exact m1)))
  ·exact(by repeat (with_reducible first|exact HT1.out|refine zB.set ?_ (by first|exact Nat.le_refl _|exact Nat.le_add_right _ _)))
end Go.Proofs.YtnbpdffdnphbeaaGreatDoor
