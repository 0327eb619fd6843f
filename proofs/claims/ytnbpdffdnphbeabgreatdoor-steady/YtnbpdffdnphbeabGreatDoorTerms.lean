import Derived.Test.YtnbpdffdnphbeabGreatDoorComp
open Go.Proofs.Tryz
set_option maxHeartbeats 1000000
namespace Go.Proofs.YtnbpdffdnphbeabGreatDoor
open Go.RowKit
variable{dep tests:Int}{nd:List zJ}{w:World}(R g cap:Nat)(P:List PT)(G:Nat)(root:Int)(n:Nat)
theorem Fz(a8:Jl R g cap P G root n):K0 R g cap P G root n:=by
 intro w q d aB aA hn;have au:=aB.gd.lt;have HI:=zA a8;have aF:=zA aB;have aU:=zA aA;have HF:Hid (dW P n q d=jK P (λq=>yQ P n q d) xW 2 P.length (yQ P n q d).1 (yQ P n q d).2):=rfl;generalize dW P n q d=F at *;clear a8 aB aA
 go_enter func188,ntmps188
 go_wp2_with fail
 refine(HI.out w q d aF.out aU.out hn).mono ?_;rintro e w1 ⟨rfl,eu,aD,hg1⟩;have aP:=zA eu;have aS:=zA aD;have ax:=zA hg1;generalize yQ P n q d=x at *;obtain⟨l0,q1⟩:=x;simp only at HF aP ax;clear eu aD hg1;go_wp2_with fail
 go_loopw [7] (λlv wr=>∃(k:Nat) (l:Int) (q2:GS),lv=.int .i64 l/\Hid (Y8 wr R g cap P G root q2)/\Hid (zB G R w wr)/\Hid (ZU P q q2)/\Hid (P.length-q2.s.1<=k)/\Hid (jK P (λq=>yQ P n q d) xW 2 k l q2=F)) (λ_ wr=>FP P.length R wr)
 case atStart=>exact⟨P.length,l0,q1,rfl,aP,aS,ax,zA (by omega),zA HF.out.symm⟩
 case round =>
  obtain⟨k,l,q2,rfl,aa,bW,aI,Hk,HE⟩:=hrel;clear HF aP aS ax;have ar:=aa.out.ctx.at';have HM:=zA aa.out.meas;have bT:=aa.out.gd.lt;obtain⟨k,rfl⟩:∃j,k=j+1:=⟨k-1,by have:=Hk.out;omega⟩;have hE:=HE.out;rw[jK]at hE;go_wp2_with fail
  refine(vG R g cap P _ q2.s xW aa.out.ctx).mono ?_;rintro e w2 ⟨rfl,aQ,aH⟩;have aC:=aa.out.read aQ aH;have aR:Hid (zB G R w w2):=bW.out.trans (aH.ao (p7 bT));clear aQ aH HE;cases hs:(zD P xW q2.s).1
  ·rw[hs]at hE
   have aj:=zA hE;have aN:=zA aC;have af:Hid (ZU P q (q2.to (zD P xW q2.s).2)):=⟨tu aI.out.mono (xO P _ q2.s),tu (CK (xO P _ q2.s)) aI.out.ig,aI.out.t0,aI.out.t1⟩;clear hE aC hs;go_wp2_with fail
   go_ret
   obtain rfl:=aj.out;exact⟨rfl,aN.out,aR.out,af.out⟩
  ·rw[hs]at hE
   have aJ:=qL hs;have az:=XU hs ar;have bO:=aI.out.ig;have hro:=aU.out.room;have aW:zGO P (q2.to (zD P xW q2.s).2) d:=⟨aI.out.t0,aI.out.t1,by omega,aU.out.d0,by have h1:=aU.out.d1;have h2:=aI.out.mono;show d<=(((zD P xW q2.s).2.1:Nat):Int);rw[aJ];omega⟩;have a6:P.length-(q2.to (zD P xW q2.s).2).s.1<=n:=(by show P.length-(zD P xW q2.s).2.1<=n;rw[aJ];have h2:=aI.out.mono;omega);have hs1:(q2.to (zD P xW q2.s).2).s.1=q2.s.1+1:=aJ;generalize q2.to (zD P xW q2.s).2=q3 at *;have aV:=zA (HI.out w2 q3 d aC aW a6);have bU:=aC.gd.lt;have aj:=zA hE;clear hE aC hs aJ aW a6;go_wp2_with fail
   refine aV.out.mono ?_;rintro e w3 ⟨rfl,ak,aM,aq⟩;have aT:=zA ak;have aZ:Hid (zB G R w w3):=aR.out.trans aM;have aL:=zA aq;generalize yQ P n q3 d=y at *;obtain⟨r,q4⟩:=y;simp only at aj aT aL;have bP:=aL.out.ig;have bQ:q4.nd.length<=YH P q4:=by unfold YH;omega
   have hnd:q4.nd.length<=10000:=(by omega);clear ak aM aq aV;go_wp2_with fail
   refine(BD w3 G q4.nd root q4.tests q4.dep ⟨2,l,r,[],[],[],0⟩ aT.out.gd hnd).mono ?_;rintro e w4 ⟨rfl,aG,aO⟩;have bH:=zA (aT.out.added aG aO);have ai:Hid (zB G R w w4):=aZ.out.trans (zB.aw aO);have av:=aL.out.mono;have af:Hid (ZU P q (q4.add ⟨2,l,r,[],[],[],0⟩)):=⟨by have h1:=aI.out.mono;show q.s.1<=q4.s.1;omega,by show (q4.nd++[_]).length+2*(P.length-q4.s.1)<=_;rw[tm,pu];unfold YH at bP az bO ⊢;omega,aL.out.t0,by show q4.tests<=((q4.nd++[_]).length:Int);rw[tm];have:=aL.out.t1;omega⟩;clear aG aO;go_wp2_with fail
   go_roundw
   case rel=>exact⟨k,_,_,rfl,bH,ai,af,zA (by have h1:=Hk.out;show P.length-q4.s.1<=k;omega),aj⟩
   case measure=>rw[HM.out,bH.out.meas];show P.length-q4.s.1<_;omega
theorem IC(a8:K0 R g cap P G root n):VJ R g cap P G root n:=by
 intro w q d aB aA hn;have au:=aB.gd.lt;have HI:=zA a8;have aF:=zA aB;have aU:=zA aA;have HF:Hid (Yg P n q d=jK P (λq=>dW P n q d) tC 1 P.length (dW P n q d).1 (dW P n q d).2):=rfl;generalize Yg P n q d=F at *;clear a8 aB aA
 go_enter func182,ntmps182
 go_wp2_with fail
 refine(HI.out w q d aF.out aU.out hn).mono ?_;rintro e w1 ⟨rfl,eu,aD,hg1⟩;have aP:=zA eu;have aS:=zA aD;have ax:=zA hg1;generalize dW P n q d=x at *;obtain⟨l0,q1⟩:=x;simp only at HF aP ax;clear eu aD hg1;go_wp2_with fail
 go_loopw [7] (λlv wr=>∃(k:Nat) (l:Int) (q2:GS),lv=.int .i64 l/\Hid (Y8 wr R g cap P G root q2)/\Hid (zB G R w wr)/\Hid (ZU P q q2)/\Hid (P.length-q2.s.1<=k)/\Hid (jK P (λq=>dW P n q d) tC 1 k l q2=F)) (λ_ wr=>FP P.length R wr)
 case atStart=>exact⟨P.length,l0,q1,rfl,aP,aS,ax,zA (by omega),zA HF.out.symm⟩
 case round =>
  obtain⟨k,l,q2,rfl,aa,bW,aI,Hk,HE⟩:=hrel;clear HF aP aS ax;have ar:=aa.out.ctx.at';have HM:=zA aa.out.meas;have bT:=aa.out.gd.lt;obtain⟨k,rfl⟩:∃j,k=j+1:=⟨k-1,by have:=Hk.out;omega⟩;have hE:=HE.out;rw[jK]at hE;go_wp2_with fail
  refine(vG R g cap P _ q2.s tC aa.out.ctx).mono ?_;rintro e w2 ⟨rfl,aQ,aH⟩;have aC:=aa.out.read aQ aH;have aR:Hid (zB G R w w2):=bW.out.trans (aH.ao (p7 bT));clear aQ aH HE;cases hs:(zD P tC q2.s).1
  ·rw[hs]at hE
   have aj:=zA hE;have aN:=zA aC;have af:Hid (ZU P q (q2.to (zD P tC q2.s).2)):=⟨tu aI.out.mono (xO P _ q2.s),tu (CK (xO P _ q2.s)) aI.out.ig,aI.out.t0,aI.out.t1⟩;clear hE aC hs;go_wp2_with fail
   go_ret
   obtain rfl:=aj.out;exact⟨rfl,aN.out,aR.out,af.out⟩
  ·rw[hs]at hE
   have aJ:=qL hs;have az:=XU hs ar;have bO:=aI.out.ig;have hro:=aU.out.room;have aW:zGO P (q2.to (zD P tC q2.s).2) d:=⟨aI.out.t0,aI.out.t1,by omega,aU.out.d0,by have h1:=aU.out.d1;have h2:=aI.out.mono;show d<=(((zD P tC q2.s).2.1:Nat):Int);rw[aJ];omega⟩;have a6:P.length-(q2.to (zD P tC q2.s).2).s.1<=n:=(by show P.length-(zD P tC q2.s).2.1<=n;rw[aJ];have h2:=aI.out.mono;omega);have hs1:(q2.to (zD P tC q2.s).2).s.1=q2.s.1+1:=aJ;generalize q2.to (zD P tC q2.s).2=q3 at *;have aV:=zA (HI.out w2 q3 d aC aW a6);have bU:=aC.gd.lt;have aj:=zA hE;clear hE aC hs aJ aW a6;go_wp2_with fail
   refine aV.out.mono ?_;rintro e w3 ⟨rfl,ak,aM,aq⟩;have aT:=zA ak;have aZ:Hid (zB G R w w3):=aR.out.trans aM;have aL:=zA aq;generalize dW P n q3 d=y at *;obtain⟨r,q4⟩:=y;simp only at aj aT aL;have bP:=aL.out.ig;have bQ:q4.nd.length<=YH P q4:=by unfold YH;omega
   have hnd:q4.nd.length<=10000:=(by omega);clear ak aM aq aV;go_wp2_with fail
   refine(BD w3 G q4.nd root q4.tests q4.dep ⟨1,l,r,[],[],[],0⟩ aT.out.gd hnd).mono ?_;rintro e w4 ⟨rfl,aG,aO⟩;have bH:=zA (aT.out.added aG aO);have ai:Hid (zB G R w w4):=aZ.out.trans (zB.aw aO);have av:=aL.out.mono;have af:Hid (ZU P q (q4.add ⟨1,l,r,[],[],[],0⟩)):=⟨by have h1:=aI.out.mono;show q.s.1<=q4.s.1;omega,by show (q4.nd++[_]).length+2*(P.length-q4.s.1)<=_;rw[tm,pu];unfold YH at bP az bO ⊢;omega,aL.out.t0,by show q4.tests<=((q4.nd++[_]).length:Int);rw[tm];have:=aL.out.t1;omega⟩;clear aG aO;go_wp2_with fail
   go_roundw
   case rel=>exact⟨k,_,_,rfl,bH,ai,af,zA (by have h1:=Hk.out;show P.length-q4.s.1<=k;omega),aj⟩
   case measure=>rw[HM.out,bH.out.meas];show P.length-q4.s.1<_;omega
theorem Bd{G:Nat}{root:Int}(h:Gd w G nd root tests dep):w.cell? ⟨G,2,none⟩=some (.int .i64 tests)/\w.cell? ⟨G,3,none⟩=some (.int .i64 dep)/\(∀o,w.frozen? ⟨G,o,none⟩=false):=by
 obtain⟨nv,h1,_⟩:=h;unfold sQ at h1;exact⟨by rw[pq w G 2 _ _ _ h1];rfl,by rw[pq w G 3 _ _ _ h1];rfl,λo=>by simp[World.frozen?,h1]⟩
theorem Ki{G:Nat}{root:Int}(h:Gd w G nd root tests dep):Gd (w.setCell ⟨G,2,none⟩ (.int .i64 (tests+1))) G nd root (tests+1) dep:=by
 obtain⟨nv,h1,h2⟩:=h;refine⟨nv,?_,yV h2 (mh G)⟩;unfold sQ at h1 ⊢;rw[p9 w G 2 _ _ _ h1];simp
theorem Nh{G:Nat}{root d:Int}(h:Gd w G nd root tests dep):Gd (w.setCell ⟨G,3,none⟩ (.int .i64 d)) G nd root tests d:=by
 obtain⟨nv,h1,h2⟩:=h;refine⟨nv,?_,yV h2 (mh G)⟩;unfold sQ at h1 ⊢;rw[p9 w G 3 _ _ _ h1];simp
theorem Below.AY{G o:Nat}{u:Value}:Below G w (w.setCell ⟨G,o,none⟩ u):=(tl _ _).setCell (p:=⟨G,o,none⟩) (tg _) u
theorem Gd.alloc{G:Nat}{root:Int}(h:Gd w G nd root tests dep)(o:Obj):Gd (w.alloc o) G nd root tests dep:=by
 have bg:=h.lt;obtain⟨nv,h1,h2⟩:=h;exact⟨nv,by rw[ld _ _ bg];exact h1,h2.alloc _⟩
theorem RJ(hf:Jl R g cap P G root n)(w:World)(q:GS)(d:Int)(aB:Y8 w R g cap P G root q)(aA:zGO P q d)(hn:P.length-q.s.1<=n+1)(h1:(zD P xE q.s).1=true) :
 Calls prog 190 #[.pointer (some ⟨R,0,none⟩),.pointer (some ⟨G,0,none⟩),.int .i64 d] w λe w'=>e=.returned (.int .i64 (yQ P (n+1) q d).1)/\Y8 w' R g cap P G root (yQ P (n+1) q d).2/\zB G R w w'/\ZU P q (yQ P (n+1) q d).2:=by
 have au:=aB.gd.lt;have ar:=aB.ctx.at';have aY:=aB.ctx.many;have aJ:=qL h1;have az:=XU h1 ar
 have HF:Hid (yQ P (n+1) q d=((((yQ P n (q.to (zD P xE q.s).2) (d+1)).2.nd.length:Nat):Int),(yQ P n (q.to (zD P xE q.s).2) (d+1)).2.add ⟨3,(yQ P n (q.to (zD P xE q.s).2) (d+1)).1,0,[],[],[],0⟩)):=by
  unfold Hid;rw[yQ,h1]
 have aX:zGO P (q.to (zD P xE q.s).2) (d+1):=⟨aA.t0,aA.t1,by have:=aA.room;omega,by have:=aA.d0;omega,by have:=aA.d1;show d+1<=(((zD P xE q.s).2.1:Nat):Int);rw[aJ];omega⟩;have a7:P.length-(q.to (zD P xE q.s).2).s.1<=n:=by show P.length-(zD P xE q.s).2.1<=n;rw[aJ];omega
 have hs1:(q.to (zD P xE q.s).2).s.1=q.s.1+1:=aJ;have bl:=zA hf;have aF:=zA aB;have aU:=zA aA;have H1:=zA h1;have hd0:=aA.d0;have hd1:=aA.d1;generalize yQ P (n+1) q d=F at *;clear hf aB aA h1 aJ
 go_enter func190,ntmps190
 go_wp2_with fail
 refine(vG R g cap P _ q.s xE aF.out.ctx).mono ?_;rintro e w1 ⟨rfl,hc1,aD⟩;rw[H1.out];have eu:=aF.out.read hc1 aD;have aS:Hid (zB G R w w1):=aD.ao (p7 au);have ay:=eu.gd.lt;generalize q.to (zD P xE q.s).2=q1 at *;have ae:=zA (bl.out w1 q1 (d+1) eu aX a7);clear hc1 aD eu aX a7;go_wp2_with fail
 refine ae.out.mono ?_;rintro e w2 ⟨rfl,aC,aH,bZ⟩;have aN:=zA aC;have aR:Hid (zB G R w w2):=aS.out.trans aH;have bI:=zA bZ;generalize yQ P n q1 (d+1)=y at *;obtain⟨r,q2⟩:=y;simp only at HF aN bI;have bj:=bI.out.ig;have hro:=aU.out.room;have bk:q2.nd.length<=YH P q2:=by unfold YH;omega
 have hnd:q2.nd.length<=10000:=by omega
 clear aC aH bZ ae;go_wp2_with fail
 refine(BD w2 G q2.nd root q2.tests q2.dep ⟨3,r,0,[],[],[],0⟩ aN.out.gd hnd).mono ?_;rintro e w3 ⟨rfl,aK,bS⟩;have aV:=zA (aN.out.added aK bS);have aZ:Hid (zB G R w w3):=aR.out.trans (zB.aw bS);have av:=bI.out.mono;have af:Hid (ZU P q (q2.add ⟨3,r,0,[],[],[],0⟩)):=⟨by show q.s.1<=q2.s.1;omega,by show (q2.nd++[_]).length+2*(P.length-q2.s.1)<=_;rw[tm,pu];unfold YH at bj az ⊢;omega,bI.out.t0,by show q2.tests<=((q2.nd++[_]).length:Int);rw[tm];have:=bI.out.t1;omega⟩;clear aK bS;go_wp2_with fail
 go_ret
 rw[HF.out];exact⟨rfl,aV.out,aZ.out,af.out⟩
theorem qe(ha:VJ R g cap P G root n)(w:World)(q:GS)(d:Int)(aB:Y8 w R g cap P G root q)(aA:zGO P q d)(hn:P.length-q.s.1<=n+1)(h1:(zD P xE q.s).1=false)(h2:(zD P yS (zD P xE q.s).2).1=true) :
 Calls prog 190 #[.pointer (some ⟨R,0,none⟩),.pointer (some ⟨G,0,none⟩),.int .i64 d] w λe w'=>e=.returned (.int .i64 (yQ P (n+1) q d).1)/\Y8 w' R g cap P G root (yQ P (n+1) q d).2/\zB G R w w'/\ZU P q (yQ P (n+1) q d).2:=by
 have au:=aB.gd.lt;have ar:=aB.ctx.at';have aY:=aB.ctx.many;have hs0:(zD P xE q.s).2.1=q.s.1:=by simp only[zD]at h1 ⊢;rw[h1];rfl
 have aJ:=qL h2
 have HF:Hid (yQ P (n+1) q d=((Yg P n (q.to (zD P yS (zD P xE q.s).2).2) (d+1)).1,(Yg P n (q.to (zD P yS (zD P xE q.s).2).2) (d+1)).2.to (zR P vF (Yg P n (q.to (zD P yS (zD P xE q.s).2).2) (d+1)).2.s))):=by
  unfold Hid;rw[yQ,h1];simp only[h2];rfl
 have hs1:(q.to (zD P yS (zD P xE q.s).2).2).s.1=q.s.1+1:=by show (zD P yS (zD P xE q.s).2).2.1=_;rw[aJ,hs0]
 have bn:YH P (q.to (zD P yS (zD P xE q.s).2).2)+2=YH P q:=by unfold YH;rw[hs1];show q.nd.length+_+2=_;omega
 have aX:zGO P (q.to (zD P yS (zD P xE q.s).2).2) (d+1):=⟨aA.t0,aA.t1,by have:=aA.room;omega,by have:=aA.d0;omega,by have:=aA.d1;rw[hs1];omega⟩;have a7:P.length-(q.to (zD P yS (zD P xE q.s).2).2).s.1<=n:=by rw[hs1];omega
 have HA:=zA ha;have aF:=zA aB;have aU:=zA aA;have H1:=zA h1;have H2:=zA h2;have hd0:=aA.d0;have hd1:=aA.d1;generalize yQ P (n+1) q d=F at *;clear ha aB aA h1 h2 aJ hs0
 go_enter func190,ntmps190
 go_wp2_with fail
 refine(vG R g cap P _ q.s xE aF.out.ctx).mono ?_;rintro e w1 ⟨rfl,hc1,aD⟩;rw[H1.out];have eu:=aF.out.read hc1 aD;have aS:Hid (zB G R w w1):=aD.ao (p7 au);have ay:=eu.gd.lt;have ah:=zA hc1;have ae:=zA eu;clear hc1 aD eu;go_wp2_with fail
 refine(vG R g cap P _ (zD P xE q.s).2 yS ah.out).mono ?_;rintro e w2 ⟨rfl,aQ,aH⟩;rw[H2.out];have aC:Y8 w2 R g cap P G root (q.to (zD P yS (zD P xE q.s).2).2):=ae.out.read aQ aH;have aR:Hid (zB G R w w2):=aS.out.trans (aH.ao (p7 ay));generalize q.to (zD P yS (zD P xE q.s).2).2=q1 at *;have aN:=zA (HA.out w2 q1 (d+1) aC aX a7);clear aQ aH aC aX a7 ae ah;go_wp2_with fail
 refine aN.out.mono ?_;rintro e w3 ⟨rfl,ak,aM,aq⟩;have aV:=zA ak;have aZ:Hid (zB G R w w3):=aR.out.trans aM;have aL:=zA aq;generalize Yg P n q1 (d+1)=y at *;obtain⟨r,q2⟩:=y;simp only at HF aV aL;have bD:=aV.out.gd.lt;have bo:=aL.out.ig;clear ak aM aq aN;go_wp2_with fail
 refine(gQ R g cap P _ q2.s vF aV.out.ctx).mono ?_;rintro e w4 ⟨rfl,bb,bR⟩;have aT:=zA (aV.out.read bb bR);have ai:Hid (zB G R w w4):=aZ.out.trans (bR.ao (p7 bD));have av:=aL.out.mono;have bh:q2.s.1<=(zR P vF q2.s).1:=fK _ _;have af:Hid (ZU P q (q2.to (zR P vF q2.s))):=⟨by show q.s.1<=(zR P vF q2.s).1;omega,by have h9:=CK (P:=P) (q:=q2) bh;omega,aL.out.t0,aL.out.t1⟩;clear bb bR;go_wp2_with fail
 go_ret
 rw[HF.out];exact⟨rfl,aT.out,ai.out,af.out⟩
theorem iP(s:St):s.1<=(xH P s).2.1:=by
 have k1:=λt s=>xO P t s;have k2:∀s,s.1<=(zI P s).2.1:=λs=>fK _ _;have k3:∀s,s.1<=(yI P s).2.1:=λs=>fK _ _
 have k4:∀s,s.1<=(vK P s).2.1:=by
  intro s;unfold vK;split
  ·split <;> exact xO P _ s
  ·exact tg _
 unfold xH;split
 ·exact k1 _ _
 ·split
  ·exact tu (k1 _ _) (tu (k1 _ _) (k2 _))
  ·split
   ·exact tu (k1 _ _) (tu (k1 _ _) (tu (k2 _) (k4 _)))
   ·split
    ·exact tu (k1 _ _) (tu (k1 _ _) (tu (k2 _) (tu (k4 _) (k3 _))))
    ·exact tu (k1 _ _) (tu (k1 _ _) (tu (k2 _) (tu (k4 _) (k2 _))))
theorem qd(w:World)(q:GS)(d:Int)(aB:Y8 w R g cap P G root q)(aA:zGO P q d)(h1:(zD P xE q.s).1=false)(h2:(zD P yS (zD P xE q.s).2).1=false) :
 Calls prog 190 #[.pointer (some ⟨R,0,none⟩),.pointer (some ⟨G,0,none⟩),.int .i64 d] w λe w'=>e=.returned (.int .i64 (yQ P (n+1) q d).1)/\Y8 w' R g cap P G root (yQ P (n+1) q d).2/\zB G R w w'/\ZU P q (yQ P (n+1) q d).2:=by
 have au:=aB.gd.lt;have ar:=aB.ctx.at';have aY:=aB.ctx.many
 have HF:Hid (yQ P (n+1) q d=(((q.nd.length:Nat):Int),(((q.tested d).to (xH P (zD P yS (zD P xE q.s).2).2).2).add (xH P (zD P yS (zD P xE q.s).2).2).1))):=by
  unfold Hid;rw[yQ,h1];simp only[h2]
 have bm:(zD P yS (zD P xE q.s).2).2.1=q.s.1:=by
  simp only[zD]at h1 h2 ⊢;rw[h2,h1];rfl
 have HM:=zA (iP P);have hnd:q.nd.length<=10000:=by have:=aA.room;unfold YH at this;omega
 have ht0:=aA.t0;have ht1:=aA.t1;have hd0:=aA.d0;have hd1:=aA.d1;have nR:G≠R:=by have:=aB.rG;omega
 have ng:G≠g:=by have:=aB.gG;omega
 have aF:=zA aB;have H1:=zA h1;have H2:=zA h2;generalize yQ P (n+1) q d=F at *;clear aB aA h1 h2;by_cases ba:q.dep<d
 ·have bE:∀(s:St) (x:zJ),((q.tested d).to s).add x=⟨s,q.nd++[x],q.tests+1,d⟩:=by intro s x;simp only[GS.tested,GS.to,GS.add];rw[tr ba]
  have bX:=zA bE;clear bE
  go_enter func190,ntmps190
  go_wp2_with fail
  refine(vG R g cap P _ q.s xE aF.out.ctx).mono ?_;rintro e w1 ⟨rfl,hc1,aD⟩;rw[H1.out];have eu:=aF.out.read hc1 aD;have aS:Hid (zB G R w w1):=aD.ao (p7 au);have ay:=eu.gd.lt;have ah:=zA hc1;have ae:=zA eu;clear hc1 aD eu;go_wp2_with fail
  refine(vG R g cap P _ (zD P xE q.s).2 yS ah.out).mono ?_;rintro e w2 ⟨rfl,aQ,aH⟩;rw[H2.out];have aC:Y8 w2 R g cap P G root (q.to (zD P yS (zD P xE q.s).2).2):=ae.out.read aQ aH;have aR:Hid (zB G R w w2):=aS.out.trans (aH.ao (p7 ay));obtain⟨bG,bF,bV⟩:=Bd aC.gd;have bU:=aC.gd.lt;have aN:=zA aC;clear aQ aH aC ae ah;generalize (zD P yS (zD P xE q.s).2).2=s2 at *;simp only[GS.to]at bG bF;go_wp2_with fail
  refine(I7 _ R g cap P s2 (yL.set (yL.set aN.out.ctx nR ng) nR ng)).mono ?_;rintro e w3 ⟨rfl,bC,aM⟩;have aK:Gd w3 G q.nd root (q.tests+1) d:=Gd.keeps (Nh (Ki aN.out.gd)) aM aF.out.rG;have aZ:Hid (zB G R w w3):=aR.out.trans ((zB.aw (Below.AY.trans Below.AY)).trans (aM.ao (by simp only[zL];omega)));have bJ:=zA bC;have ag:=zA aK;have av:=HM.out s2;clear bC aM aK bG bF bV HM;have bD:=ag.out.lt;generalize bN:xH P s2=y at *;obtain⟨x,s3⟩:=y;simp only at HF bJ av;obtain⟨xk,xl,xr,xn,xm,xo,xu⟩:=x;simp only[kI];clear bN;go_wp2_with fail
  refine(BD (w3.alloc _) G q.nd root (q.tests+1) d ⟨xk,xl,xr,xn,xm,xo,xu⟩ (Gd.alloc ag.out _) hnd).mono ?_;rintro e w4 ⟨rfl,aG,aO⟩;have bA:Y8 w4 R g cap P G root ⟨s3,q.nd++[⟨xk,xl,xr,xn,xm,xo,xu⟩],q.tests+1,d⟩:=⟨(yL.alloc bJ.out _).ir aO aF.out.rG aF.out.gG,aG,aF.out.rG,aF.out.gG⟩;have aT:=zA bA;have ai:Hid (zB G R w w4):=aZ.out.trans ((zB.alloc (zB.refl _ _ _) (p7 bD) _).trans (zB.aw aO));clear aG aO bA;go_wp2_with fail
  go_ret
  rw[HF.out,bX.out];refine⟨rfl,aT.out,ai.out,⟨by show q.s.1<=s3.1;omega,?_,by show 0<=q.tests+1;omega,?_⟩⟩
  ·show (q.nd++[_]).length+2*(P.length-s3.1)<=YH P q+1
   unfold YH;rw[tm,pu];omega
  ·show q.tests+1<=((q.nd++[_]).length:Int)
   rw[tm,pu];omega
 ·have bE:∀(s:St) (x:zJ),((q.tested d).to s).add x=⟨s,q.nd++[x],q.tests+1,q.dep⟩:=by intro s x;simp only[GS.tested,GS.to,GS.add];rw[tj ba]
  have bX:=zA bE;clear bE
  go_enter func190,ntmps190
  go_wp2_with fail
  refine(vG R g cap P _ q.s xE aF.out.ctx).mono ?_;rintro e w1 ⟨rfl,hc1,aD⟩;rw[H1.out];have eu:=aF.out.read hc1 aD;have aS:Hid (zB G R w w1):=aD.ao (p7 au);have ay:=eu.gd.lt;have ah:=zA hc1;have ae:=zA eu;clear hc1 aD eu;go_wp2_with fail
  refine(vG R g cap P _ (zD P xE q.s).2 yS ah.out).mono ?_;rintro e w2 ⟨rfl,aQ,aH⟩;rw[H2.out];have aC:Y8 w2 R g cap P G root (q.to (zD P yS (zD P xE q.s).2).2):=ae.out.read aQ aH;have aR:Hid (zB G R w w2):=aS.out.trans (aH.ao (p7 ay));obtain⟨bG,bF,bV⟩:=Bd aC.gd;have bU:=aC.gd.lt;have aN:=zA aC;clear aQ aH aC ae ah;generalize (zD P yS (zD P xE q.s).2).2=s2 at *;simp only[GS.to]at bG bF;go_wp2_with fail
  refine(I7 _ R g cap P s2 (yL.set aN.out.ctx nR ng)).mono ?_;rintro e w3 ⟨rfl,bC,aM⟩;have aK:Gd w3 G q.nd root (q.tests+1) q.dep:=Gd.keeps (Ki aN.out.gd) aM aF.out.rG;have aZ:Hid (zB G R w w3):=aR.out.trans ((zB.aw (Below.AY)).trans (aM.ao (by simp only[zL];omega)));have bJ:=zA bC;have ag:=zA aK;have av:=HM.out s2;clear bC aM aK bG bF bV HM;have bD:=ag.out.lt;generalize bN:xH P s2=y at *;obtain⟨x,s3⟩:=y;simp only at HF bJ av;obtain⟨xk,xl,xr,xn,xm,xo,xu⟩:=x;simp only[kI];clear bN;go_wp2_with fail
  refine(BD (w3.alloc _) G q.nd root (q.tests+1) q.dep ⟨xk,xl,xr,xn,xm,xo,xu⟩ (Gd.alloc ag.out _) hnd).mono ?_;rintro e w4 ⟨rfl,aG,aO⟩;have bA:Y8 w4 R g cap P G root ⟨s3,q.nd++[⟨xk,xl,xr,xn,xm,xo,xu⟩],q.tests+1,q.dep⟩:=⟨(yL.alloc bJ.out _).ir aO aF.out.rG aF.out.gG,aG,aF.out.rG,aF.out.gG⟩;have aT:=zA bA;have ai:Hid (zB G R w w4):=aZ.out.trans ((zB.alloc (zB.refl _ _ _) (p7 bD) _).trans (zB.aw aO));clear aG aO bA;go_wp2_with fail
  go_ret
  rw[HF.out,bX.out];refine⟨rfl,aT.out,ai.out,⟨by show q.s.1<=s3.1;omega,?_,by show 0<=q.tests+1;omega,?_⟩⟩
  ·show (q.nd++[_]).length+2*(P.length-s3.1)<=YH P q+1
   unfold YH;rw[tm,pu];omega
  ·show q.tests+1<=((q.nd++[_]).length:Int)
   rw[tm,pu];omega
theorem RI:Jl R g cap P G root n:=by
 induction n with
 | zero=>intro w q d aB _ hn;have:=aB.ctx.at';omega
 | succ n ih =>
   intro w q d aB aA hn;cases h1:(zD P xE q.s).1
   ·cases h2:(zD P yS (zD P xE q.s).2).1
    ·exact qd R g cap P G root n w q d aB aA h1 h2
    ·exact qe R g cap P G root n (IC R g cap P G root n (Fz R g cap P G root n ih)) w q d aB aA hn h1 h2
   ·exact RJ R g cap P G root n ih w q d aB aA hn h1
theorem NN:VJ R g cap P G root n :=
 IC R g cap P G root n (Fz R g cap P G root n (RI R g cap P G root n))
def vU(P:List PT)(s:St):Int × GS:=Yg P P.length ⟨s,[],0,0⟩ 0
def Yn(nv:Value)(y:Int × GS):Value:=.agg #[nv,.int .i64 y.1,.int .i64 y.2.tests,.int .i64 y.2.dep]
theorem yN{b b':Nat}{e:TypeId}{size:Nat}{v:Value}{n:Nat}{xs:List Value}(h:w.ownsRow b e size v n xs)(hb:b'<=b):w.ownsRow b' e size v n xs:=by
 refine⟨h.1,?_⟩;rcases h.2 with h1|⟨g,cap,yB,h1,h2,r⟩
 ·exact .inl h1
 ·exact .inr ⟨g,cap,yB,h1,tu hb h2,r⟩
theorem Nq(w:World)(R g cap:Nat)(P:List PT)(s:St)(h:vI w R g cap P s) :
 Calls prog 152 #[.pointer (some ⟨R,0,none⟩)] w λe w'=>∃nv,e=.returned (Yn nv (vU P s))/\w'.ownsRow w.heap.size 238 7 nv (vU P s).2.nd.length (gF (vU P s).2.nd)/\vI w' R g cap P (vU P s).2.s/\zB w.heap.size R w w':=by
 have hR:=h.gf;have hg:=h.ey;have aY:=h.many;have ar:=h.at';have HC:=zA h;have bK:=zA (NN R g cap P (w.heap.size+1) 0 P.length);have n0:w.heap.size≠R:=by omega
 have n1:w.heap.size+1≠R:=by omega
 have HF:Hid (vU P s=Yg P P.length ⟨s,[],0,0⟩ 0):=rfl;generalize vU P s=F at *;clear h
 go_enter func152,ntmps152
 go_wp2_with fail
 have bY:Gd ((w.alloc (.cells #[.slice none 0 0,.int .i64 0,.int .i64 0,.int .i64 0] 182)).alloc (.cells #[.slice none 0 0,.int .i64 0,.int .i64 0,.int .i64 0] 182)) (w.heap.size+1) [] 0 0 0 :=
  ⟨.slice none 0 0,by
   have h1:=zF (w.alloc (.cells #[.slice none 0 0,.int .i64 0,.int .i64 0,.int .i64 0] 182)) (.cells #[.slice none 0 0,.int .i64 0,.int .i64 0,.int .i64 0] 182);rw[show (w.alloc (.cells #[.slice none 0 0,.int .i64 0,.int .i64 0,.int .i64 0] 182)).heap.size=w.heap.size+1 by simp]at h1;exact h1,ly _ _ _ _⟩
 refine(bK.out _ ⟨s,[],0,0⟩ 0 ⟨yL.alloc (yL.alloc HC.out _) _,bY,by omega,by omega⟩ ⟨bp 0,bp 0,by show 0+2*(P.length-s.1)<=9000;omega,by decide,by omega⟩ (by omega)).mono ?_;rintro e w1 ⟨rfl,eu,aD,_⟩;rw[<-HF.out];rw[<-HF.out]at eu;have bc:Hid (zB w.heap.size R w w1):=zB.trans (zB.new (zB.new (zB.refl _ _ _))) (aD.mono (by omega));have q0:=λo=>aD.cell (p:=⟨w.heap.size,o,none⟩) (by simp) n0;have r0:=λo=>aD.frozen (p:=⟨w.heap.size,o,none⟩) (by simp) n0;obtain⟨hc1,⟨nv,bL,bM⟩,_,_⟩:=eu;unfold sQ at bL;have cz:=λj=>pq _ _ j _ _ _ bL;have fz:∀o,w1.frozen? ⟨w.heap.size+1,o,none⟩=false:=λo=>by simp[World.frozen?,bL]
 have ah:=zA hc1;have bf:=zA bM;have m0:w.heap.size≠g:=by omega
 have m1:w.heap.size+1≠g:=by omega
 have bB:nv=.slice none 0 0\/∃gg n c,nv=.slice (some ⟨gg,0,none⟩) n c:=by
  rcases bM.2 with ⟨h1,_⟩|⟨gg,c,_,h1,_⟩
  ·exact .inl h1
  ·exact .inr ⟨gg,_,c,h1⟩
 clear bY aD bL bM hc1 bK;rcases bB with rfl|⟨gg,gn,gc,rfl⟩
 ·go_wp2_with fail
  refine pe (v:=Yn (.slice none 0 0) F) (by simp (maxDischargeDepth:=8) [results,results152,go_sem,Yn,q0]) rfl ⟨_,rfl,?_,?_,?_⟩
  ·exact yN (yV (yV (yV (yV (yV bf.out (by omega)) (by omega)) (by omega)) (by omega)) (by omega)) (by omega)
  ·exact(yL.set (yL.set (yL.set (yL.set (yL.set ah.out n1 m1) n0 m0) n0 m0) n0 m0) n0 m0)
  ·exact(zB.set (zB.set (zB.set (zB.set (zB.set bc.out (ms _)) (tg _)) (tg _)) (tg _)) (tg _))
 ·go_wp2_with fail
  refine pe (v:=Yn (.slice (some ⟨gg,0,none⟩) gn gc) F) (by simp (maxDischargeDepth:=8) [results,results152,go_sem,Yn,q0]) rfl ⟨_,rfl,?_,?_,?_⟩
  ·exact yN (yV (yV (yV (yV (yV bf.out (by omega)) (by omega)) (by omega)) (by omega)) (by omega)) (by omega)
  ·exact(yL.set (yL.set (yL.set (yL.set (yL.set ah.out n1 m1) n0 m0) n0 m0) n0 m0) n0 m0)
  ·exact(zB.set (zB.set (zB.set (zB.set (zB.set bc.out (ms _)) (tg _)) (tg _)) (tg _)) (tg _))
end Go.Proofs.YtnbpdffdnphbeabGreatDoor
