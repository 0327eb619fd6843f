import Derived.Test.YtnbpdffdnphbeabGreatDoorMMakeN
set_option maxHeartbeats 60000000
set_option maxRecDepth 100000
namespace Go.Proofs.YtnbpdffdnphbeabGreatDoor
open Go.RowKit
theorem zJJ(w:World)(a:Option Addr)(c:Nat)(ls:List LX)(h:jS w a ls)(hnn:∀x∈ls,x.1.nd.length<=10000) :
 Calls Tryz.prog 64 #[.slice a ls.length c] w fun e w'=>ZC (fs ls) w w' e:=by
 obtain⟨i0,hi0,hz0,hz1,hz2⟩:=info_parts D3;obtain⟨k0,hk0,hk1,hk2,hk3⟩:=info_parts jo;obtain⟨l0,hl0,hl1,hl2,hl3⟩:=info_parts Gs;have zLE:=h.few;have HNn:=zA hnn;have HMk:Hid (∀(w':World) (e:Ending) I C G iv cv rv (rs:List MX),I=zX (fs ls)->C=yY (fs ls)->G=yB (uW (vD (fs ls)) (fs ls) gZ)->rs.map Prod.fst=uQ (I.map zQ.name) (C.map Prod.fst) (fs ls)->bZ w' iv cv rv I C rs->Below w.heap.size w w'->e=.returned (.agg (dM iv cv rv G))->ZC (fs ls) w w' e):=fun w' e I C G iv cv rv rs=>zEA (fs ls) w w' e I C G iv cv rv rs;have HL:=zA h;have HAb:=zA (fun w' (hb:Below w.heap.size w w')=>zBT w' a c ls (h.below hb (j1 _)));have HLv:=zA (fun w' (hb:Below w.heap.size w w')=>zo w' a c ls (h.below hb (j1 _)));have HGL:Hid ((yB (uW (vD (fs ls)) (fs ls) gZ)).length=64):=by unfold Hid yB;rw[oD,lT];exact xK
 generalize hGg:yB (uW (vD (fs ls)) (fs ls) gZ)=G at *;have HGg:=zA hGg;clear hGg;have hfl:(fs ls).length=ls.length:=by simp[fs]
 have hLn:(yY (fs ls)).length<=10000:=by
  have h1:=km (fs ls);have h2:=BS (fs ls);omega
 generalize hLg:yY (fs ls)=L at *;have HLg:=zA hLg;clear hLg;clear h
 go_enter Tryz.func64,Tryz.ntmps64
 go_wp2_with fail
 refine(HAb.out _ (gb (j1 _) _)).mono ?_;rintro e w1 ⟨rfl,hb1⟩;have HZ1:Hid (w1.heap[w.heap.size]? = some (bU (.slice none 0 0) (.slice none 0 0) (.slice none 0 0) gZ)):=by unfold Hid bU;rw[hb1.block _ (zV _ _),<-Vp];exact zG _ _
 have hs1:=tj (zV w _) hb1.size;have HB1:Hid (Below w.heap.size w w1):=(gb (j1 _) _).trans (hb1.mono (ph (zV _ _)));clear hb1 HAb;have zLL:Hid ((w1.alloc (.cells Tryz.zeroCells127 127)).heap[w1.heap.size]? = some (.cells Tryz.zeroCells127 127 (0,0))):=zG _ _
 go_wp2_with (first
  | (refine wpList_buildTo rfl 127 #[(3,.tmp 12)] rfl (some 13) rfl (dM (.slice none 0 0) (.slice none 0 0) (.slice none 0 0) G) (by rw[Array.toList_map];exact FU G HGL.out) ?_)
  | (refine wpList_store_row ?zLA 127 (.tmp 3) (.tmp 13) ?ho w1.heap.size (dM (.slice none 0 0) (.slice none 0 0) (.slice none 0 0) G) ?hx ?hy 127 Tryz.zeroCells127 zLL.out (iG HGL.out _ _ _) ?zLB (JG rfl rfl rfl G) ?_
     case ho=>rfl
     case zLA=>rfl
     case hx=>rfl
     case hy=>rfl
     case zLB=>rw[Vp,mA,mA,xK,HGL.out]))
 have HBm:Hid (Below w.heap.size w ((w1.alloc (.cells Tryz.zeroCells127 127)).setRow w1.heap.size (dM (.slice none 0 0) (.slice none 0 0) (.slice none 0 0) G))):=xI (HB1.out.alloc (ph hs1) _) (ph hs1) _;have hsz2:((w1.alloc (.cells Tryz.zeroCells127 127)).setRow w1.heap.size (dM (.slice none 0 0) (.slice none 0 0) (.slice none 0 0) G)).heap.size=w1.heap.size+1:=by unfold World.setRow;simp
 have HM2:Hid (((w1.alloc (.cells Tryz.zeroCells127 127)).setRow w1.heap.size (dM (.slice none 0 0) (.slice none 0 0) (.slice none 0 0) G)).heap[w1.heap.size]? = some (bU (.slice none 0 0) (.slice none 0 0) (.slice none 0 0) G)):=cg _ _ _ _ _ _ zLL.out;have HZ2:Hid (((w1.alloc (.cells Tryz.zeroCells127 127)).setRow w1.heap.size (dM (.slice none 0 0) (.slice none 0 0) (.slice none 0 0) G)).heap[w.heap.size]? = some (bU (.slice none 0 0) (.slice none 0 0) (.slice none 0 0) gZ)):=by unfold Hid;rw[setRow_other _ _ _ _ (by omega)];exact zS HZ1.out
 clear zLL HZ1 HB1;generalize (w1.alloc (.cells Tryz.zeroCells127 127)).setRow w1.heap.size (dM (.slice none 0 0) (.slice none 0 0) (.slice none 0 0) G)=w2 at *;obtain⟨mb,hmb⟩:∃m,m=w1.heap.size:=⟨_,rfl⟩;rw[<-hmb]at hs1 hsz2 HM2 ⊢;clear hmb;refine(HLv.out _ HBm.out).mono ?_;rintro e w3 ⟨v3,rfl,zLK,hb3⟩;obtain⟨va,vc,rfl,hrow⟩:=vR zLK;have hs3:=hb3.size;have HB3:Hid (Below w.heap.size w w3):=HBm.out.trans (hb3.mono (by omega));have HM3:Hid (w3.heap[mb]? = some (bU (.slice none 0 0) (.slice none 0 0) (.slice none 0 0) G)):=by unfold Hid;rw[hb3.block _ (by omega)];exact HM2.out
 have HZ3:Hid (w3.heap[w.heap.size]? = some (bU (.slice none 0 0) (.slice none 0 0) (.slice none 0 0) gZ)):=by unfold Hid;rw[hb3.block _ (by omega)];exact HZ2.out
 have HRow:=zA hrow;have hmbl:mb<w3.heap.size:=by omega
 have hwm:w.heap.size≠mb:=by omega
 clear zLK hb3 hrow HM2 HZ2 HBm HLv hs3 hsz2;go_wp2_with fail
 go_loopw [17] (fun iv wr=>∃(i:Nat) (cv:Value),i<=L.length/\iv=.int .i64 i/\Hid (wr.heap[mb]? = some (bU (.slice none 0 0) cv (.slice none 0 0) G))/\Hid (wr.ownsRow w3.heap.size 208 2 cv i (Zj (L.take i)))/\Hid (zC w3.heap.size mb w3 wr)) (fun iv _=>L.length-(intOf iv).toNat)
 case atStart=>exact⟨0,_,p7 _,rfl,HM3,zA (iD _ _ _ _),zA (zC.refl _ _ _)⟩
 case round =>
  obtain⟨i,cv,hi,rfl,HM,HO,HK⟩:=hrel;have zLD:=HK.out.size;by_cases zKZ:i<L.length
  ·have hrr:tZ wr va (Zj L):=by
    rcases HRow.out with h9|⟨g,cs,fz,h1,h2,h3⟩
    ·exact .inl h9
    ·have hg:=zJ h2
     have zL4:g≠mb:=fun e=>by subst e;have h8:=HM3.out;unfold bU at h8;rw[h2]at h8;simp at h8
     exact .inr ⟨g,h1,fun j hj=>by rw[HK.out.cell (p:=⟨g,j,none⟩) hg zL4];exact(zB h2 j).trans (h3 j hj)⟩
   have e0:(Zj L)[i*2]? = some (.string ⟨(L.getD i ([],0)).1.toArray⟩):=(zN zK4 2 (fun _=>rfl) ([],0) L i 0 zKZ (by decide)).trans rfl;have e1:(Zj L)[i*2+1]? = some (.int .i64 ((L.getD i ([],0)).2:Nat)):=(zN zK4 2 (fun _=>rfl) ([],0) L i 1 zKZ (by decide)).trans rfl;obtain⟨g,rfl,q0⟩:=hrr.at e0;have q1:=(hrr.at e1).elim fun g' h=>(show g=g' by simpa using h.1) ▸ h.2;have zLM:=zA (ks L i zKZ);obtain⟨-,cm1,-,-,fzm⟩:=tT HM.out;have fz1:=fzm 1;have lg:=yQ q0;have lm:=zJ HM.out;have mg:wr.heap.size≠g:=by omega
   have mm:wr.heap.size≠mb:=by omega
   clear hrr e0 e1 fzm;generalize L.getD i ([],0)=x at *;obtain⟨x0,x1⟩:=x;simp only at q0 q1 zLM;have HOw:=zA (fun w'=>Dj w' x0)
   have HAft:Hid (∀w4,Below (wr.alloc (.cells #[.string ⟨x0.toArray⟩,.int .i64 (x1:Nat)] 208)).drew.heap.size (wr.alloc (.cells #[.string ⟨x0.toArray⟩,.int .i64 (x1:Nat)] 208)).drew w4->w4.ownsRow w3.heap.size 208 2 cv i (Zj (L.take i))/\w4.heap[mb]? = some (bU (.slice none 0 0) cv (.slice none 0 0) G)/\w4.cell? ⟨wr.heap.size,1,none⟩=some (.int .i64 (x1:Nat))/\w4.cell? ⟨wr.heap.size,0,none⟩=some (.string ⟨x0.toArray⟩)/\w4.heap[wr.heap.size]? = some (.cells #[.string ⟨x0.toArray⟩,.int .i64 (x1:Nat)] 208 (0,0))/\zC w3.heap.size mb w3 w4/\wr.heap.size<w4.heap.size/\w4.cell? ⟨mb,1,none⟩=some cv/\mb<w4.heap.size/\w4.heap.size≠mb):=fun w4 hb4=>by
    have h1:Below wr.heap.size wr w4:=(pj (gb (j1 _) _)).trans (hb4.mono (ph (zV _ _)));have h2:w4.heap[mb]? = some (bU (.slice none 0 0) cv (.slice none 0 0) G):=by rw[h1.block _ lm];exact HM.out
    refine⟨tV HO.out h1,h2,?_,?_,?_,HK.out.trans (zC.of_below (h1.mono zLD)),tj (zV _ _) hb4.size,(tT h2).2.1,zJ h2,fk (zJ h2)⟩
    ·rw[hb4.cell (p:=⟨wr.heap.size,1,none⟩) (zV _ _)];exact(zB (zG _ _) 1).trans rfl
    ·rw[hb4.cell (p:=⟨wr.heap.size,0,none⟩) (zV _ _)];exact(zB (zG _ _) 0).trans rfl
    ·exact(hb4.block wr.heap.size (zV wr _)).trans (zG wr _)
   have HOb:Hid (∀k,cv.ownBlock=some k->k<wr.heap.size):=fun k hk=>(zZ HO.out k hk).2
   go_upto_region 5 with fail
   go_region_law (first
    | (refine step_append_lies _ (by rfl) _ _ _ (by rfl) w3.heap.size 208 i0 _ 2 24 Tryz.underlying122 hi0 hz0 hz1 hz2 rfl (by decide) cv i (Zj (L.take i)) (by rfl) (HO4.alloc _) ⟨w4.heap.size,0,none⟩ 1 1 [.string ⟨x0.toArray⟩,.int .i64 (x1:Nat)] (by rfl) (by rfl) (zM _ _ _ _ rfl) (by simp[Value.oneCell']) (by decide) (by unfold maxLen;omega) (by omega) (by simp;omega) (w4.heap.size+1) (by simp) ?_;intro gg cap w5 zLF zL7 hat5 hlt5;have hM5:w5.heap[mb]? = some (bU (.slice none 0 0) cv (.slice none 0 0) G):=Xh zL7 hM4 (zU HO4) hmbl;obtain⟨-,c5m,-,-,fz5⟩:=tT hM5;have fz51:=fz5 1)
    | (go_simp;go_at_call 92;refine(HOw.out _).mono ?_;rintro e w4 ⟨rfl,hb4⟩;obtain⟨HO4,hM4,c41,c40,hL4,HK4,hs4,cm4,lm4,mm4⟩:=HAft.out w4 hb4;show _))
   all_goals
    have HO5:Hid (w5.ownsRow w3.heap.size 208 2 (.slice (some ⟨gg,0,none⟩) (i+1) cap) (i+1) (Zj (L.take (i+1)))):=by unfold Hid;rw[zLM.out];exact zLF
    have HK5:Hid (zC w3.heap.size mb w3 w5):=(HK4.alloc (by omega) _).grown zL7 (by simp;omega) (zU HO4);have lm5:=zJ hM5;clear zLF zL7;have HO6:Hid ((w5.setCell ⟨mb,1,none⟩ (.slice (some ⟨gg,0,none⟩) (i+1) cap)).ownsRow w3.heap.size 208 2 (.slice (some ⟨gg,0,none⟩) (i+1) cap) (i+1) (Zj (L.take (i+1)))):=cB HO5.out hmbl;have HK6:Hid (zC w3.heap.size mb w3 (w5.setCell ⟨mb,1,none⟩ (.slice (some ⟨gg,0,none⟩) (i+1) cap))):=HK5.out.setCell (p:=⟨mb,1,none⟩) (.inr rfl) _;have HM6:Hid ((w5.setCell ⟨mb,1,none⟩ (.slice (some ⟨gg,0,none⟩) (i+1) cap)).heap[mb]? = some (bU (.slice none 0 0) (.slice (some ⟨gg,0,none⟩) (i+1) cap) (.slice none 0 0) G)):=zE7 hM5;go_wp2_with fail
    go_roundw
    case rel=>exact⟨i+1,_,by omega,by go_num,HM6,HO6,HK6⟩
    case measure=>simp[intOf];omega
  ·obtain rfl:i=L.length:=by omega
   have ii:¬(L.length:Int)<(L.length:Int):=by omega
   rw[bw]at HO;obtain⟨ca,ccap,rfl,zLQ⟩:=vR HO.out;have HCc:=zA zLQ;have zLJ:Hid (Below w.heap.size w wr):=HB3.out.trans (HK.out.below (by omega) (by omega));have HZr:Hid (wr.heap[w.heap.size]? = some (bU (.slice none 0 0) (.slice none 0 0) (.slice none 0 0) gZ)):=by unfold Hid;rw[HK.out.block _ (by omega) hwm];exact HZ3.out
   have lmr:=zJ HM.out;clear zLQ HO HRow HZ3 HM3 HB3;generalize hw4:wr=wI at *;clear hw4;go_wp2_with fail
   go_loopw [35] (fun iv wr=>∃(i:Nat) (acc:List zQ) (nv:Value),i<=ls.length/\acc.length<=i/\iv=.int .i64 i/\Hid (wr.heap[mb]? = some (bU nv (.slice ca L.length ccap) (.slice none 0 0) G))/\Hid (wr.ownsRow wI.heap.size 204 4 nv acc.length (acc.flatMap uI))/\Hid (zC wI.heap.size mb wI wr)/\Hid (cY ((fs ls).drop i) acc=zX (fs ls))) (fun iv _=>ls.length-(intOf iv).toNat)
   case atStart=>exact⟨0,[],_,p7 _,j1 _,rfl,HM,zA (iD _ _ _ _),zA (zC.refl _ _ _),zA rfl⟩
   case round =>
    obtain⟨i,acc,nv,hi,hacc,rfl,HMn,HOn,HKn,HE⟩:=hrel;have hszn:=HKn.out.size;have HBn:Hid (Below w.heap.size w wr):=zLJ.out.trans (HKn.out.below (by omega) (by omega));by_cases hln:i<ls.length
    ·obtain⟨gl,sa,sn,sc,na,nn,nc,rfl,hgl,⟨c0,c1,c2,c3,c4,c5,c6,c7,c8,c9,c10⟩,-,-⟩:=(HL.out.below HBn.out (j1 _)).line hln
     have hE:=HE.out;rw[BR (fs ls) i acc (by rw[hfl];exact hln),jO]at hE;have HE2:=zA hE;obtain⟨cm0,-,-,-,fzm⟩:=tT HMn.out;have fz0:=fzm 0;have lm:=zJ HMn.out;have mg:wr.heap.size≠gl:=by omega
     have mm:wr.heap.size≠mb:=by omega
     clear HE hE fzm;generalize (pG ls i).1=x at *;obtain⟨kd,n1,lo,hi',cc,S,N,ro,te,de,lw⟩:=x;simp only at c0 c1 c2 c3 c4 c5 c6 c7 c8 c9 c10 HE2;by_cases k1:kd=1
     ·subst k1
      have HE3:Hid (cY ((fs ls).drop (i+1)) (acc++[⟨n1,false,lo,hi'⟩])=zX (fs ls)):=by have:=HE2.out;rw[tl (by decide)]at this;exact this
      have HSn:Hid ((acc++[(⟨n1,false,lo,hi'⟩:zQ)]).flatMap uI=acc.flatMap uI++[.string ⟨n1.toArray⟩,.bool false,.int .i64 lo,.int .i64 hi']):=by unfold Hid;simp[uI]
      clear HE2;have HOw:=zA (fun w'=>Dj w' n1)
      have HAft:Hid (∀w4,Below (wr.alloc (.cells #[.int .i64 1,.string ⟨n1.toArray⟩,.int .i64 lo,.int .i64 hi',.string ⟨cc.toArray⟩,.slice sa sn sc,.slice na nn nc,.int .i64 ro,.int .i64 te,.int .i64 de,.string ⟨lw.toArray⟩] 184)).drew.heap.size (wr.alloc (.cells #[.int .i64 1,.string ⟨n1.toArray⟩,.int .i64 lo,.int .i64 hi',.string ⟨cc.toArray⟩,.slice sa sn sc,.slice na nn nc,.int .i64 ro,.int .i64 te,.int .i64 de,.string ⟨lw.toArray⟩] 184)).drew w4->w4.ownsRow wI.heap.size 204 4 nv acc.length (acc.flatMap uI)/\w4.heap[mb]? = some (bU nv (.slice ca L.length ccap) (.slice none 0 0) G)/\w4.cell? ⟨wr.heap.size,2,none⟩=some (.int .i64 lo)/\w4.cell? ⟨wr.heap.size,3,none⟩=some (.int .i64 hi')/\zC wI.heap.size mb wI w4/\wr.heap.size<w4.heap.size/\w4.cell? ⟨mb,0,none⟩=some nv/\mb<w4.heap.size/\w4.heap.size≠mb/\w4.heap.size≠wr.heap.size):=fun w4 hb4=>by
       have h1:Below wr.heap.size wr w4:=(pj (gb (j1 _) _)).trans (hb4.mono (ph (zV _ _)));have h2:w4.heap[mb]? = some (bU nv (.slice ca L.length ccap) (.slice none 0 0) G):=by rw[h1.block _ lm];exact HMn.out
       have h3:wr.heap.size<w4.heap.size:=tj (zV _ _) hb4.size;refine⟨tV HOn.out h1,h2,?_,?_,HKn.out.trans (zC.of_below (h1.mono hszn)),h3,(tT h2).1,zJ h2,fk (zJ h2),by omega⟩
       ·rw[hb4.cell (p:=⟨wr.heap.size,2,none⟩) (zV _ _)];exact(zB (zG _ _) 2).trans rfl
       ·rw[hb4.cell (p:=⟨wr.heap.size,3,none⟩) (zV _ _)];exact(zB (zG _ _) 3).trans rfl
      go_upto_region 12 with fail
      go_region_law (first
       | (refine step_append_lies _ (by rfl) _ _ _ (by rfl) wI.heap.size 204 k0 _ 4 40 Tryz.underlying121 hk0 hk1 hk2 hk3 rfl (by decide) nv acc.length (acc.flatMap uI) (by rfl) (HO4.alloc _) ⟨w4.heap.size,0,none⟩ 1 1 [.string ⟨n1.toArray⟩,.bool false,.int .i64 lo,.int .i64 hi'] (by rfl) (by rfl) (zM _ _ _ _ rfl) (by simp[Value.oneCell']) (by decide) (by unfold maxLen;omega) (by omega) (by simp;omega) (w4.heap.size+1) (by simp) ?_;intro gg cap w5 zLF zL7 hat5 hlt5;have hM5:w5.heap[mb]? = some (bU nv (.slice ca L.length ccap) (.slice none 0 0) G):=Xh zL7 hM4 (zU HO4) lmr;obtain⟨c5m,-,-,-,fz5⟩:=tT hM5;have fz50:=fz5 0)
       | (go_simp;go_at_call 92;refine(HOw.out _).mono ?_;rintro e w4 ⟨rfl,hb4⟩;obtain⟨HO4,hM4,c42,c43,HK4,hs4,cm4,lm4,mm4,ml4⟩:=HAft.out w4 hb4;show _))
      all_goals
       have HO5:Hid (w5.ownsRow wI.heap.size 204 4 (.slice (some ⟨gg,0,none⟩) (acc.length+1) cap) (acc++[(⟨n1,false,lo,hi'⟩:zQ)]).length ((acc++[(⟨n1,false,lo,hi'⟩:zQ)]).flatMap uI)):=by unfold Hid;rw[HSn.out,tm];exact zLF
       have HK5:Hid (zC wI.heap.size mb wI w5):=(HK4.alloc (by omega) _).grown zL7 (by simp;omega) (zU HO4);have lm5:=zJ hM5;clear zLF zL7;have HO6:Hid ((w5.setCell ⟨mb,0,none⟩ (.slice (some ⟨gg,0,none⟩) (acc.length+1) cap)).ownsRow wI.heap.size 204 4 (.slice (some ⟨gg,0,none⟩) (acc.length+1) cap) (acc++[(⟨n1,false,lo,hi'⟩:zQ)]).length ((acc++[(⟨n1,false,lo,hi'⟩:zQ)]).flatMap uI)):=cB HO5.out lmr;have HK6:Hid (zC wI.heap.size mb wI (w5.setCell ⟨mb,0,none⟩ (.slice (some ⟨gg,0,none⟩) (acc.length+1) cap))):=HK5.out.setCell (p:=⟨mb,0,none⟩) (.inr rfl) _;have HM6:Hid ((w5.setCell ⟨mb,0,none⟩ (.slice (some ⟨gg,0,none⟩) (acc.length+1) cap)).heap[mb]? = some (bU (.slice (some ⟨gg,0,none⟩) (acc.length+1) cap) (.slice ca L.length ccap) (.slice none 0 0) G)):=Dq hM5;go_wp2_with fail
       go_roundw
       case rel=>exact⟨i+1,acc++[⟨n1,false,lo,hi'⟩],_,by omega,by simp;omega,by go_num,HM6,HO6,HK6,HE3⟩
       case measure=>simp[intOf];omega
     ·by_cases k2:kd=2
      ·subst k2
       have HE3:Hid (cY ((fs ls).drop (i+1)) (acc++[⟨n1,true,0,0⟩])=zX (fs ls)):=by have:=HE2.out;rw[tl (by decide)]at this;exact this
       have HSn:Hid ((acc++[(⟨n1,true,0,0⟩:zQ)]).flatMap uI=acc.flatMap uI++[.string ⟨n1.toArray⟩,.bool true,.int .i64 0,.int .i64 0]):=by unfold Hid;simp[uI]
       clear HE2;have HOw:=zA (fun w'=>Dj w' n1)
       have HAft:Hid (∀w4,Below (wr.alloc (.cells #[.int .i64 2,.string ⟨n1.toArray⟩,.int .i64 lo,.int .i64 hi',.string ⟨cc.toArray⟩,.slice sa sn sc,.slice na nn nc,.int .i64 ro,.int .i64 te,.int .i64 de,.string ⟨lw.toArray⟩] 184)).drew.heap.size (wr.alloc (.cells #[.int .i64 2,.string ⟨n1.toArray⟩,.int .i64 lo,.int .i64 hi',.string ⟨cc.toArray⟩,.slice sa sn sc,.slice na nn nc,.int .i64 ro,.int .i64 te,.int .i64 de,.string ⟨lw.toArray⟩] 184)).drew w4->w4.ownsRow wI.heap.size 204 4 nv acc.length (acc.flatMap uI)/\w4.heap[mb]? = some (bU nv (.slice ca L.length ccap) (.slice none 0 0) G)/\w4.cell? ⟨wr.heap.size,2,none⟩=some (.int .i64 lo)/\w4.cell? ⟨wr.heap.size,3,none⟩=some (.int .i64 hi')/\zC wI.heap.size mb wI w4/\wr.heap.size<w4.heap.size/\w4.cell? ⟨mb,0,none⟩=some nv/\mb<w4.heap.size/\w4.heap.size≠mb/\w4.heap.size≠wr.heap.size):=fun w4 hb4=>by
        have h1:Below wr.heap.size wr w4:=(pj (gb (j1 _) _)).trans (hb4.mono (ph (zV _ _)));have h2:w4.heap[mb]? = some (bU nv (.slice ca L.length ccap) (.slice none 0 0) G):=by rw[h1.block _ lm];exact HMn.out
        have h3:wr.heap.size<w4.heap.size:=tj (zV _ _) hb4.size;refine⟨tV HOn.out h1,h2,?_,?_,HKn.out.trans (zC.of_below (h1.mono hszn)),h3,(tT h2).1,zJ h2,fk (zJ h2),by omega⟩
        ·rw[hb4.cell (p:=⟨wr.heap.size,2,none⟩) (zV _ _)];exact(zB (zG _ _) 2).trans rfl
        ·rw[hb4.cell (p:=⟨wr.heap.size,3,none⟩) (zV _ _)];exact(zB (zG _ _) 3).trans rfl
       go_upto_region 14 with fail
       go_region_law (first
        | (refine step_append_lies _ (by rfl) _ _ _ (by rfl) wI.heap.size 204 k0 _ 4 40 Tryz.underlying121 hk0 hk1 hk2 hk3 rfl (by decide) nv acc.length (acc.flatMap uI) (by rfl) (HO4.alloc _) ⟨w4.heap.size,0,none⟩ 1 1 [.string ⟨n1.toArray⟩,.bool true,.int .i64 0,.int .i64 0] (by rfl) (by rfl) (zM _ _ _ _ rfl) (by simp[Value.oneCell']) (by decide) (by unfold maxLen;omega) (by omega) (by simp;omega) (w4.heap.size+1) (by simp) ?_;intro gg cap w5 zLF zL7 hat5 hlt5;have hM5:w5.heap[mb]? = some (bU nv (.slice ca L.length ccap) (.slice none 0 0) G):=Xh zL7 hM4 (zU HO4) lmr;obtain⟨c5m,-,-,-,fz5⟩:=tT hM5;have fz50:=fz5 0)
        | (go_simp;go_at_call 92;refine(HOw.out _).mono ?_;rintro e w4 ⟨rfl,hb4⟩;obtain⟨HO4,hM4,c42,c43,HK4,hs4,cm4,lm4,mm4,ml4⟩:=HAft.out w4 hb4;show _))
       all_goals
        have HO5:Hid (w5.ownsRow wI.heap.size 204 4 (.slice (some ⟨gg,0,none⟩) (acc.length+1) cap) (acc++[(⟨n1,true,0,0⟩:zQ)]).length ((acc++[(⟨n1,true,0,0⟩:zQ)]).flatMap uI)):=by unfold Hid;rw[HSn.out,tm];exact zLF
        have HK5:Hid (zC wI.heap.size mb wI w5):=(HK4.alloc (by omega) _).grown zL7 (by simp;omega) (zU HO4);have lm5:=zJ hM5;clear zLF zL7;have HO6:Hid ((w5.setCell ⟨mb,0,none⟩ (.slice (some ⟨gg,0,none⟩) (acc.length+1) cap)).ownsRow wI.heap.size 204 4 (.slice (some ⟨gg,0,none⟩) (acc.length+1) cap) (acc++[(⟨n1,true,0,0⟩:zQ)]).length ((acc++[(⟨n1,true,0,0⟩:zQ)]).flatMap uI)):=cB HO5.out lmr;have HK6:Hid (zC wI.heap.size mb wI (w5.setCell ⟨mb,0,none⟩ (.slice (some ⟨gg,0,none⟩) (acc.length+1) cap))):=HK5.out.setCell (p:=⟨mb,0,none⟩) (.inr rfl) _;have HM6:Hid ((w5.setCell ⟨mb,0,none⟩ (.slice (some ⟨gg,0,none⟩) (acc.length+1) cap)).heap[mb]? = some (bU (.slice (some ⟨gg,0,none⟩) (acc.length+1) cap) (.slice ca L.length ccap) (.slice none 0 0) G)):=Dq hM5;go_wp2_with fail
        go_roundw
        case rel=>exact⟨i+1,acc++[⟨n1,true,0,0⟩],_,by omega,by simp;omega,by go_num,HM6,HO6,HK6,HE3⟩
        case measure=>simp[intOf];omega
      ·have HE3:Hid (cY ((fs ls).drop (i+1)) acc=zX (fs ls)):=by have:=HE2.out;rw[tb (by rintro(h|h);exact k1 h;exact k2 h)]at this;exact this
       have b1:(kd==1)=false:=by simpa using k1
       have b2:(kd==2)=false:=by simpa using k2
       have HKa:Hid (∀oo,zC wI.heap.size mb wI (wr.alloc oo)):=fun oo=>HKn.out.alloc hszn oo;have HOa:Hid (∀oo,(wr.alloc oo).ownsRow wI.heap.size 204 4 nv acc.length (acc.flatMap uI)):=fun oo=>HOn.out.alloc oo;have HMa:Hid (∀oo,(wr.alloc oo).heap[mb]? = some (bU nv (.slice ca L.length ccap) (.slice none 0 0) G)):=fun oo=>zS HMn.out;clear k1 k2 HE2;go_wp2_with fail
       go_roundw
       case rel=>exact⟨i+1,acc,nv,by omega,by omega,by go_num,zA (HMa.out _),zA (HOa.out _),zA (HKa.out _),HE3⟩
       case measure=>simp[intOf];omega
    ·obtain rfl:i=ls.length:=by omega
     have ii2:¬(ls.length:Int)<(ls.length:Int):=by omega
     have hEf:=HE.out;rw[pm (by rw[hfl];exact j1 _)]at hEf;have hacI:acc=zX (fs ls):=hEf;subst hacI;obtain⟨ia,icap,rfl,hci⟩:=vR HOn.out;have HCi:=zA hci;have HCc2:Hid (yZ wr 208 ca (Zj L)):=HCc.out.keeps HKn.out (by have h8:=HM.out;unfold bU at h8;exact h8) (by decide);have HZ2:Hid (wr.heap[w.heap.size]? = some (bU (.slice none 0 0) (.slice none 0 0) (.slice none 0 0) gZ)):=by unfold Hid;rw[HKn.out.block _ (by omega) hwm];exact HZr.out
     have lmj:=zJ HMn.out;have hIn:(zX (fs ls)).length<=10000:=by omega
     clear hci HOn hEf HE HCc HZr HM;generalize hIg:zX (fs ls)=I at *;generalize hw5:wr=wJ at *;clear hw5;go_wp2_with fail
     go_loopw [70] (fun iv wr=>∃(i:Nat) (acc:List MX) (rv:Value),i<=ls.length/\acc.length<=i/\iv=.int .i64 i/\Hid (wr.heap[mb]? = some (bU (.slice ia I.length icap) (.slice ca L.length ccap) rv G))/\Hid (wr.ownsRow wJ.heap.size 162 5 rv acc.length (acc.flatMap jL))/\Hid (zC wJ.heap.size mb wJ wr)/\Hid (∀x∈acc,uL wr x)/\Hid (fF (I.map zQ.name) (L.map Prod.fst) ((fs ls).drop i) (acc.map Prod.fst)=uQ (I.map zQ.name) (L.map Prod.fst) (fs ls))) (fun iv _=>ls.length-(intOf iv).toNat)
     case atStart=>exact⟨0,[],_,p7 _,j1 _,rfl,HMn,zA (iD _ _ _ _),zA (zC.refl _ _ _),zA (fun x hx=>by simp at hx),zA rfl⟩
     case round =>
      obtain⟨i,acc,rv,hi,hacc,rfl,HMr,HOr,HKr,HRr,HEr⟩:=hrel;have zLD:=HKr.out.size;have zLI:Hid (Below w.heap.size w wr):=HBn.out.trans (HKr.out.below (by omega) (by omega));by_cases hlr:i<ls.length
      ·obtain⟨gl,sa,sn,sc,na,nn,nc,rfl,hgl,⟨c0,c1,c2,c3,c4,c5,c6,c7,c8,c9,c10⟩,heq,hC⟩:=(HL.out.below zLI.out (j1 _)).line hlr
       have hE:=HEr.out;rw[KR _ _ (fs ls) i _ (by rw[hfl];exact hlr),jO]at hE;have HE2:=zA hE;have hnn:=HNn.out _ (Ys hlr);obtain⟨-,-,cm2,-,fzm⟩:=tT HMr.out;have fz2:=fzm 2;have lm:=zJ HMr.out;have mg:wr.heap.size≠gl:=by omega
       have mm:wr.heap.size≠mb:=by omega
       have HLC:=zA hC;have HEq:=zA heq;clear hE HEr fzm hC heq;generalize hX:(pG ls i).1=x at *;have HX:=zA hX;clear hX;by_cases k3:x.kind=3
       ·have HE3:=HE2.out
        rw[tl k3]at HE3
        replace HE3:=zA HE3
        obtain⟨rfl,hS,rfl,hN⟩:=HLC.out.rule (by rw[HX.out];exact k3) HEq.out;have hg:=HLC.out.g;rw[HX.out]at hS hN hg c5 c6
        have HNm:Hid (XZ wr mb 0 I L):=by
         obtain⟨m0,m1,-,-,-⟩:=tT HMr.out;have hmT:∃cs,wJ.heap[mb]? = some (.cells cs 127 (0,0)):=⟨_,by have h8:=HMn.out;unfold bU at h8;exact h8⟩;obtain⟨csJ,hmJ⟩:=hmT;exact⟨⟨ia,icap,m0,(HCi.out.keeps HKr.out hmJ (by decide)).cel⟩,⟨ca,ccap,m1,(HCc2.out.keeps HKr.out hmJ (by decide)).cel⟩,hIn,hLn⟩
        have HMk1:Hid (∀oo,Calls Tryz.prog 93 #[.pointer (some ⟨mb,0,none⟩),uJ (.slice sa x.sum.length sc) (.slice na x.nd.length nc) x] (wr.alloc oo) fun e w'=>C8 (qG (I.map zQ.name) (L.map Prod.fst) x) (wr.alloc oo) w' e):=fun oo=>BD (wr.alloc oo) mb 0 I L (HNm.out.below (gb (j1 _) oo)) x sa na sc nc (hS.below (gb (j1 _) oo) (j1 _)) (hN.below (gb (j1 _) oo) (j1 _)) hg hnn;generalize qG (I.map zQ.name) (L.map Prod.fst) x=mr at *
        have HAft:Hid (∀(oo:Obj) (w4:World),Below (wr.alloc oo).heap.size (wr.alloc oo) w4->w4.ownsRow wJ.heap.size 162 5 rv acc.length (acc.flatMap jL)/\w4.heap[mb]? = some (bU (.slice ia I.length icap) (.slice ca L.length ccap) rv G)/\zC wJ.heap.size mb wJ w4/\wr.heap.size<w4.heap.size/\w4.cell? ⟨mb,2,none⟩=some rv/\mb<w4.heap.size/\w4.heap.size≠mb/\w4.heap.size+1≠mb/\∀z∈acc,uL w4 z):=fun oo w4 hb4=>by
         have h1:Below wr.heap.size wr w4:=(gb (j1 _) _).trans (hb4.mono (ph (zV _ _)));have h2:w4.heap[mb]? = some (bU (.slice ia I.length icap) (.slice ca L.length ccap) rv G):=by rw[h1.block _ lm];exact HMr.out
         have h3:=zJ h2;exact⟨tV HOr.out h1,h2,HKr.out.trans (zC.of_below (h1.mono zLD)),tj (zV _ _) hb4.size,(tT h2).2.2.1,h3,by omega,by omega,fun z hz=>(HRr.out z hz).below h1⟩
        clear hS hN hg HNm HE2 HLC HEq HX hnn;obtain⟨kd,n1,lo,hi',cc,S,N,ro,te,de,lw⟩:=x;simp only at c0 c1 c2 c3 c4 c5 c6 c7 c8 c9 c10 k3;subst k3;simp only[uJ]at HMk1;go_wp2_with fail
        refine(HMk1.out _).mono ?_;rintro e w4 hri;obtain⟨y,hy1,rfl,hmr4,hb4⟩:=hri;obtain⟨hO4,hM4,hK4,hs4,c42,l4,m4,m41,hA4⟩:=HAft.out _ w4 hb4;obtain⟨pa,pc,hp1,-⟩:=hmr4.sum;obtain⟨ga,gc,hg1,-⟩:=hmr4.guard;have HMr4:=zA hmr4;have HA4:=zA hA4;have HY1:=zA hy1;clear hb4 hmr4 hA4 hy1 HMk1 HAft;obtain⟨⟨lab,cc',ss,gg',ro'⟩,pv,gv⟩:=y;simp only at hp1 hg1;subst hp1 hg1;simp only[uC]
        go_wp2_with (at_builtin;refine wpList_append_own _ rfl _ _ 123 rfl wJ.heap.size 162 l0 _ 5 80 Tryz.underlying123 hl0 hl1 hl2 hl3 rfl (by decide) _ _ _ rfl ((hO4.alloc _).alloc _) ⟨w4.heap.size+1,0,none⟩ 1 1 [.string ⟨lab.toArray⟩,.int .i64 cc',.slice pa ss.length pc,.slice ga gg'.length gc,.int .i64 ro'] rfl rfl (qT _ _ _ _ rfl (by simp)) ?hc2 ?hc3 ?hc4 ?hc5 ?_)
        case hc2=>first|exact⟨rfl,rfl,rfl,rfl,rfl⟩|(intro u hu;simp at hu;rcases hu with rfl|rfl|rfl|rfl|rfl <;> rfl)
        case hc3=>unfold maxLen;omega
        case hc4=>omega
        case hc5=>first|omega|(simp;omega)
        intro v' w5 zLF zL7 _;obtain⟨va',vc',rfl⟩:=zP zLF;have hM5:w5.heap[mb]? = some (bU (.slice ia I.length icap) (.slice ca L.length ccap) rv G):=X3 zL7 (zS (zS hM4)) (zU hO4) lmj;obtain⟨-,-,c52,-,f5⟩:=tT hM5;have f52:=f5 2
        have HO5:Hid ((w5.setCell ⟨mb,2,none⟩ (.slice va' (acc.length+1) vc')).ownsRow wJ.heap.size 162 5 (.slice va' (acc.length+1) vc') (acc++[((⟨lab,cc',ss,gg',ro'⟩,.slice pa ss.length pc,.slice ga gg'.length gc):MX)]).length ((acc++[((⟨lab,cc',ss,gg',ro'⟩,.slice pa ss.length pc,.slice ga gg'.length gc):MX)]).flatMap jL)):=by
         have h9:=cB (j:=2) (u:=.slice va' (acc.length+1) vc') zLF lmj;unfold Hid;rw[lu,tm];exact h9
        have HK5:Hid (zC wJ.heap.size mb wJ (w5.setCell ⟨mb,2,none⟩ (.slice va' (acc.length+1) vc'))):=(((hK4.alloc (by omega) _).alloc (by simp;omega) _).grown zL7 (by simp;omega) (zU hO4)).setCell (p:=⟨mb,2,none⟩) (.inr rfl) _;have HM5:Hid ((w5.setCell ⟨mb,2,none⟩ (.slice va' (acc.length+1) vc')).heap[mb]? = some (bU (.slice ia I.length icap) (.slice ca L.length ccap) (.slice va' (acc.length+1) vc') G)):=zE6 hM5;have HT5:Hid (∀z,uL w4 z->uL (w5.setCell ⟨mb,2,none⟩ (.slice va' (acc.length+1) vc')) z):=fun z hz=>FT hz hO4 zL7 hM5
        have HR5:Hid (∀z∈acc++[((⟨lab,cc',ss,gg',ro'⟩,.slice pa ss.length pc,.slice ga gg'.length gc):MX)],uL (w5.setCell ⟨mb,2,none⟩ (.slice va' (acc.length+1) vc')) z):=fun z hz=>by
         rcases pu.1 hz with h|h
         ·exact HT5.out z (HA4.out z h)
         ·rw[pr.1 h];exact HT5.out _ HMr4.out
        have HE4:Hid (fF (I.map zQ.name) (L.map Prod.fst) ((fs ls).drop (i+1)) ((acc++[((⟨lab,cc',ss,gg',ro'⟩,.slice pa ss.length pc,.slice ga gg'.length gc):MX)]).map Prod.fst)=uQ (I.map zQ.name) (L.map Prod.fst) (fs ls)):=by
         have h9:=HE3.out;rw[<-HY1.out]at h9;unfold Hid;rw[bi];exact h9
        clear zLF zL7 f5 hO4 hK4;go_wp2_with fail
        go_roundw
        case rel=>exact⟨i+1,_,_,by omega,by simp;omega,by go_num,HM5,HO5,HK5,HR5,HE4⟩
        case measure=>simp[intOf];omega
       ·have HE3:=HE2.out
        rw[tb k3]at HE3
        replace HE3:=zA HE3
        obtain⟨kd,n1,lo,hi',cc,S,N,ro,te,de,lw⟩:=x;simp only at c0 c1 c2 c3 c4 c5 c6 c7 c8 c9 c10 k3;have b3:(kd==3)=false:=by simpa using k3
        have HKa:Hid (∀oo,zC wJ.heap.size mb wJ (wr.alloc oo)):=fun oo=>HKr.out.alloc zLD oo;have HOa:Hid (∀oo,(wr.alloc oo).ownsRow wJ.heap.size 162 5 rv acc.length (acc.flatMap jL)):=fun oo=>HOr.out.alloc oo;have HMa:Hid (∀oo,(wr.alloc oo).heap[mb]? = some (bU (.slice ia I.length icap) (.slice ca L.length ccap) rv G)):=fun oo=>zS HMr.out;have HRa:Hid (∀oo,∀x∈acc,uL (wr.alloc oo) x):=fun oo x hx=>(HRr.out x hx).below (gb (j1 _) _);clear k3 HE2 HLC HEq HX;go_wp2_with fail
        go_roundw
        case rel=>exact⟨i+1,acc,rv,by omega,by omega,by go_num,zA (HMa.out _),zA (HOa.out _),zA (HKa.out _),zA (HRa.out _),HE3⟩
        case measure=>simp[intOf];omega
      ·obtain rfl:i=ls.length:=by omega
       have ii3:¬(ls.length:Int)<(ls.length:Int):=by omega
       have hEf:=HEr.out;rw[pm (by rw[hfl];exact j1 _)]at hEf;have hacR:acc.map Prod.fst=uQ (I.map zQ.name) (L.map Prod.fst) (fs ls):=hEf;obtain⟨ra,rcap,rfl,hcr⟩:=vR HOr.out;have hmT:∃cs,wJ.heap[mb]? = some (.cells cs 127 (0,0)):=⟨_,by have h8:=HMn.out;unfold bU at h8;exact h8⟩;obtain⟨csJ,hmJ⟩:=hmT;have HCi3:Hid (yZ wr 204 ia (I.flatMap uI)):=HCi.out.keeps HKr.out hmJ (by decide);have HCc3:Hid (yZ wr 208 ca (Zj L)):=HCc2.out.keeps HKr.out hmJ (by decide);have HZ4:Hid (wr.heap[w.heap.size]? = some (bU (.slice none 0 0) (.slice none 0 0) (.slice none 0 0) gZ)):=by unfold Hid;rw[HKr.out.block _ (by omega) hwm];exact HZ2.out
       have HCr:=zA hcr;have HAc:=zA hacR;clear hcr hEf HEr hacR hmJ HOr
       go_wp2_with (first
        | (refine wpList_load_row ?zLA 127 (.tmp 3) ?ho mb ?hx 127 (dM (.slice ia I.length icap) (.slice ca L.length ccap) (.slice ra acc.length rcap) G) (0,0) _ HMr.out Tryz.underlying127 rfl (iG HGL.out _ _ _) ?_
           case ho=>rfl
           case zLA=>rfl
           case hx=>rfl)
        | (refine wpList_store_row ?zLA 127 (.tmp 2) (.tmp 86) ?ho w.heap.size (dM (.slice ia I.length icap) (.slice ca L.length ccap) (.slice ra acc.length rcap) G) ?hx ?hy 127 (dM (.slice none 0 0) (.slice none 0 0) (.slice none 0 0) gZ) HZ4.out (iG HGL.out _ _ _) ?zLB (JG rfl rfl rfl G) ?_
           case ho=>rfl
           case zLA=>rfl
           case hx=>rfl
           case hy=>rfl
           case zLB=>rw[mA,mA,xK,HGL.out]))
       have HKeep:Hid (∀(t:TypeId) (g:Nat) (cs:Array Value) (fz:Nat × Nat),t≠127->wr.heap[g]? = some (Obj.cells cs t fz)->(wr.setRow w.heap.size (dM (.slice ia I.length icap) (.slice ca L.length ccap) (.slice ra acc.length rcap) G)).heap[g]? = wr.heap[g]?):=fun t g cs fz zL4 hg=>setRow_other _ _ _ _ (fun e=>by
        subst e;have h8:=HZ4.out;unfold bU at h8;rw[hg]at h8;simp only[ld,Obj.cells.injEq]at h8;exact zL4 h8.2.1)
       have HFin:Hid (bZ (wr.setRow w.heap.size (dM (.slice ia I.length icap) (.slice ca L.length ccap) (.slice ra acc.length rcap) G)) (.slice ia I.length icap) (.slice ca L.length ccap) (.slice ra acc.length rcap) I L acc):=by
        refine⟨⟨ia,icap,rfl,HCi3.out.keep fun g cs fz hg=>HKeep.out _ g cs fz (by decide) hg⟩,⟨ca,ccap,rfl,HCc3.out.keep fun g cs fz hg=>HKeep.out _ g cs fz (by decide) hg⟩,⟨ra,rcap,rfl,HCr.out.keep fun g cs fz hg=>HKeep.out _ g cs fz (by decide) hg⟩,fun x hx=>?_,hIn,hLn,by omega⟩;have hm:=HRr.out x hx;obtain⟨a',c',h1,h2⟩:=hm.sum;obtain⟨a'',c'',h3,h4⟩:=hm.guard;exact⟨⟨a',c',h1,h2.keep fun g cs fz hg=>HKeep.out _ g cs fz (by decide) hg⟩,⟨a'',c'',h3,h4.keep fun g cs fz hg=>HKeep.out _ g cs fz (by decide) hg⟩,hm.few1,hm.few2⟩
       refine pe (v:=.agg (dM (.slice ia I.length icap) (.slice ca L.length ccap) (.slice ra acc.length rcap) G)) (results_cell_row Tryz.results64 _ _ w.heap.size 127 (dM (.slice ia I.length icap) (.slice ca L.length ccap) (.slice ra acc.length rcap) G) (0,0) _ rfl (cg _ _ _ _ _ _ HZ4.out) Tryz.underlying127 rfl (iG HGL.out _ _ _)) rfl (HMk.out _ _ I L G _ _ _ acc rfl rfl rfl HAc.out HFin.out (xI zLI.out (j1 _) _) rfl)
end Go.Proofs.YtnbpdffdnphbeabGreatDoor
