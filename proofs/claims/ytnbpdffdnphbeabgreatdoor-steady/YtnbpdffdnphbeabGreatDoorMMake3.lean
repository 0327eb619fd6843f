import Derived.Test.YtnbpdffdnphbeabGreatDoorMMakeN
open Go.Proofs.Tryz
set_option maxHeartbeats 60000000
set_option maxRecDepth 100000
namespace Go.Proofs.YtnbpdffdnphbeabGreatDoor
open Go.RowKit
theorem Lw(w:World)(a:Option Addr)(c:Nat)(ls:List LX)(h:tT w a ls)(bL:∀x∈ls,x.1.nd.length<=10000) :
 Calls prog 64 #[.slice a ls.length c] w λe w'=>Y6 (fs ls) w w' e:=by
 obtain⟨i0,ai,hz0,hz1,cl⟩:=du Gp;obtain⟨k0,cC,cB,cA,b9⟩:=du Ra;obtain⟨l0,cw,cu,ct,cr⟩:=du uf;have dS:=h.aj;have dL:=zA bL;have dM:Hid (∀(w':World) (e:Ending) I C G iv cv rv (rs:List MX),I=yC (fs ls)->C=xR (fs ls)->G=zT (qN (vQ (fs ls)) (fs ls) gZ)->rs.map Prod.fst=uJ (I.map yA.name) (C.map Prod.fst) (fs ls)->lY w' iv cv rv I C rs->Below w.heap.size w w'->e=.returned (.agg (cZ iv cv rv G))->Y6 (fs ls) w w' e):=λw' e I C G iv cv rv rs=>N6 (fs ls) w w' e I C G iv cv rv rs;have HL:=zA h;have cg:=zA (λw' (hb:Below w.heap.size w w')=>Pa w' a c ls (h.below hb (tg _)));have cV:=zA (λw' (hb:Below w.heap.size w w')=>je w' a c ls (h.below hb (tg _)));have aV:Hid ((zT (qN (vQ (fs ls)) (fs ls) gZ)).length=64):=by unfold Hid zT;rw[gW,mY];exact yX
 generalize cK:zT (qN (vQ (fs ls)) (fs ls) gZ)=G at *;have dt:=zA cK;clear cK;have hfl:(fs ls).length=ls.length:=by simp[fs]
 have cH:(xR (fs ls)).length<=10000:=by
  have h1:=R0 (fs ls);have h2:=D8 (fs ls);omega
 generalize cI:xR (fs ls)=L at *;have dr:=zA cI;clear cI;clear h
 go_enter func64,ntmps64
 go_wp2_with fail
 refine(cg.out _ (fk (tg _) _)).mono ?_;rintro e w1 ⟨rfl,hb1⟩;have cR:Hid (w1.heap[w.heap.size]? = some (cY (.slice none 0 0) (.slice none 0 0) (.slice none 0 0) gZ)):=by unfold Hid cY;rw[hb1.block _ (zY _ _),<-U7];exact zF _ _
 have hs1:=tq (zY w _) hb1.size;have cf:Hid (Below w.heap.size w w1):=(fk (tg _) _).trans (hb1.mono (p7 (zY _ _)));clear hb1 cg;have bP:Hid ((w1.alloc (.cells zeroCells127 127)).heap[w1.heap.size]? = some (.cells zeroCells127 127 (0,0))):=zF _ _
 go_wp2_with (first
  | (refine wpList_buildTo rfl 127 #[(3,.tmp 12)] rfl (some 13) rfl (cZ (.slice none 0 0) (.slice none 0 0) (.slice none 0 0) G) (by rw[Array.toList_map];exact vm G aV.out) ?_)
  | (refine wpList_store_row ?ak 127 (.tmp 3) (.tmp 13) ?ho w1.heap.size (cZ (.slice none 0 0) (.slice none 0 0) (.slice none 0 0) G) ?hx ?hy 127 zeroCells127 bP.out (aK aV.out _ _ _) ?bR (Vh rfl rfl rfl G) ?_
     case ho=>rfl
     case ak=>rfl
     case hx=>rfl
     case hy=>rfl
     case bR=>rw[U7,lG,lG,yX,aV.out]))
 have br:Hid (Below w.heap.size w ((w1.alloc (.cells zeroCells127 127)).setRow w1.heap.size (cZ (.slice none 0 0) (.slice none 0 0) (.slice none 0 0) G))):=yK (cf.out.alloc (p7 hs1) _) (p7 hs1) _;have aq:((w1.alloc (.cells zeroCells127 127)).setRow w1.heap.size (cZ (.slice none 0 0) (.slice none 0 0) (.slice none 0 0) G)).heap.size=w1.heap.size+1:=by unfold World.setRow;simp
 have bm:Hid (((w1.alloc (.cells zeroCells127 127)).setRow w1.heap.size (cZ (.slice none 0 0) (.slice none 0 0) (.slice none 0 0) G)).heap[w1.heap.size]? = some (cY (.slice none 0 0) (.slice none 0 0) (.slice none 0 0) G)):=l9 _ _ _ _ bP.out;have bM:Hid (((w1.alloc (.cells zeroCells127 127)).setRow w1.heap.size (cZ (.slice none 0 0) (.slice none 0 0) (.slice none 0 0) G)).heap[w.heap.size]? = some (cY (.slice none 0 0) (.slice none 0 0) (.slice none 0 0) gZ)):=by unfold Hid;rw[setRow_other _ _ _ _ (by omega)];exact yD cR.out
 clear bP cR cf;generalize (w1.alloc (.cells zeroCells127 127)).setRow w1.heap.size (cZ (.slice none 0 0) (.slice none 0 0) (.slice none 0 0) G)=w2 at *;obtain⟨mb,b7⟩:∃m,m=w1.heap.size:=⟨_,rfl⟩;rw[<-b7]at hs1 aq bm ⊢;clear b7;refine(cV.out _ br.out).mono ?_;rintro e w3 ⟨v3,rfl,bu,av⟩;obtain⟨va,vc,rfl,hrow⟩:=uT bu;have cp:=av.size;have cd:Hid (Below w.heap.size w w3):=br.out.trans (av.mono (by omega));have bl:Hid (w3.heap[mb]? = some (cY (.slice none 0 0) (.slice none 0 0) (.slice none 0 0) G)):=by unfold Hid;rw[av.block _ (by omega)];exact bm.out
 have cQ:Hid (w3.heap[w.heap.size]? = some (cY (.slice none 0 0) (.slice none 0 0) (.slice none 0 0) gZ)):=by unfold Hid;rw[av.block _ (by omega)];exact bM.out
 have bB:=zA hrow;have ar:mb<w3.heap.size:=by omega
 have bT:w.heap.size≠mb:=by omega
 clear bu av hrow bm bM br cV cp aq;go_wp2_with fail
 go_loopw [17] (λiv wr=>∃(i:Nat) (cv:Value),i<=L.length/\iv=.int .i64 i/\Hid (wr.heap[mb]? = some (cY (.slice none 0 0) cv (.slice none 0 0) G))/\Hid (wr.ownsRow w3.heap.size 208 2 cv i (Jx (L.take i)))/\Hid (zB w3.heap.size mb w3 wr)) (λiv _=>L.length-(intOf iv).toNat)
 case atStart=>exact⟨0,_,p8,rfl,bl,zA (Zp _ _ _ _),zA (zB.refl _ _ _)⟩
 case round =>
  obtain⟨i,cv,hi,rfl,HM,HO,HK⟩:=hrel;have bJ:=HK.out.size;by_cases bS:i<L.length
  ·have bV:kQ wr va (Jx L):=by
    rcases bB.out with h9|⟨g,cs,fz,h1,h2,h3⟩
    ·exact .inl h9
    ·have hg:=zP h2
     have bQ:g≠mb:=λe=>by subst e;have h8:=bl.out;unfold cY at h8;rw[h2]at h8;simp at h8
     exact .inr ⟨g,h1,λj hj=>by rw[HK.out.cell (p:=⟨g,j,none⟩) hg bQ];exact(zC h2 j).trans (h3 j hj)⟩
   have e0:(Jx L)[i*2]? = some (.string ⟨(L.getD i ([],0)).1.toArray⟩):=(zV H8 2 (λ_=>rfl) ([],0) L i 0 bS (by decide)).trans rfl;have e1:(Jx L)[i*2+1]? = some (.int .i64 ((L.getD i ([],0)).2:Nat)):=(zV H8 2 (λ_=>rfl) ([],0) L i 1 bS (by decide)).trans rfl;obtain⟨g,rfl,q0⟩:=bV.at e0;have q1:=(bV.at e1).elim λg' h=>(show g=g' by simpa using h.1) ▸ h.2;have cS:=zA (Rw L i bS);obtain⟨-,dh,-,-,aU⟩:=mE HM.out;have dZ:=aU 1;have lg:=yJ q0;have lm:=zP HM.out;have mg:wr.heap.size≠g:=(by omega);have mm:wr.heap.size≠mb:=(by omega);clear bV e0 e1 aU;generalize L.getD i ([],0)=x at *;obtain⟨x0,x1⟩:=x;simp only at q0 q1 cS;have bC:=zA (λw'=>FH w' x0)
   have aG:Hid (∀w4,Below (wr.alloc (.cells #[.string ⟨x0.toArray⟩,.int .i64 (x1:Nat)] 208)).drew.heap.size (wr.alloc (.cells #[.string ⟨x0.toArray⟩,.int .i64 (x1:Nat)] 208)).drew w4->w4.ownsRow w3.heap.size 208 2 cv i (Jx (L.take i))/\w4.heap[mb]? = some (cY (.slice none 0 0) cv (.slice none 0 0) G)/\w4.cell? ⟨wr.heap.size,1,none⟩=some (.int .i64 (x1:Nat))/\w4.cell? ⟨wr.heap.size,0,none⟩=some (.string ⟨x0.toArray⟩)/\w4.heap[wr.heap.size]? = some (.cells #[.string ⟨x0.toArray⟩,.int .i64 (x1:Nat)] 208 (0,0))/\zB w3.heap.size mb w3 w4/\wr.heap.size<w4.heap.size/\w4.cell? ⟨mb,1,none⟩=some cv/\mb<w4.heap.size/\w4.heap.size≠mb):=λw4 aC=>by
    have h1:Below wr.heap.size wr w4:=(md (fk (tg _) _)).trans (aC.mono (p7 (zY _ _)));have h2:w4.heap[mb]? = some (cY (.slice none 0 0) cv (.slice none 0 0) G):=(by rw[h1.block _ lm];exact HM.out);refine⟨jU HO.out h1,h2,?_,?_,?_,HK.out.trans (zB.az (h1.mono bJ)),tq (zY _ _) aC.size,(mE h2).2.1,zP h2,fj (zP h2)⟩
    ·rw[aC.cell (p:=⟨wr.heap.size,1,none⟩) (zY _ _)];exact(zC (zF _ _) 1).trans rfl
    ·rw[aC.cell (p:=⟨wr.heap.size,0,none⟩) (zY _ _)];exact(zC (zF _ _) 0).trans rfl
    ·exact(aC.block wr.heap.size (zY wr _)).trans (zF wr _)
   have dp:Hid (∀k,cv.ownBlock=some k->k<wr.heap.size):=λk hk=>(zW HO.out k hk).2
   go_upto_region 5 with fail
   go_region_law (first
    | (refine step_append_lies _ (by rfl) _ _ _ (by rfl) w3.heap.size 208 i0 _ 2 24 underlying122 ai hz0 hz1 cl rfl (by decide) cv i (Jx (L.take i)) (by rfl) (aN.alloc _) ⟨w4.heap.size,0,none⟩ 1 1 [.string ⟨x0.toArray⟩,.int .i64 (x1:Nat)] (by rfl) (by rfl) (zM _ _ _ _ rfl) (by simp[Value.oneCell']) (by decide) (by unfold maxLen;omega) (by omega) (by simp;omega) (w4.heap.size+1) (by simp) ?_;intro gg cap w5 aL aH aw au;have aI:w5.heap[mb]? = some (cY (.slice none 0 0) cv (.slice none 0 0) G):=Qj aH aX (zS aN) ar;obtain⟨-,cN,-,-,a8⟩:=mE aI;have dC:=a8 1)
    | (go_simp;go_at_call 92;refine(bC.out _).mono ?_;rintro e w4 ⟨rfl,aC⟩;obtain⟨aN,aX,dm,dn,dW,bH,bU,cM,b4,bw⟩:=aG.out w4 aC;show _))
   all_goals
    have aZ:Hid (w5.ownsRow w3.heap.size 208 2 (.slice (some ⟨gg,0,none⟩) (i+1) cap) (i+1) (Jx (L.take (i+1)))):=(by unfold Hid;rw[cS.out];exact aL);have af:Hid (zB w3.heap.size mb w3 w5):=(bH.alloc (by omega) _).grown aH (by simp;omega) (zS aN);have bz:=zP aI;clear aL aH;have bE:Hid ((w5.setCell ⟨mb,1,none⟩ (.slice (some ⟨gg,0,none⟩) (i+1) cap)).ownsRow w3.heap.size 208 2 (.slice (some ⟨gg,0,none⟩) (i+1) cap) (i+1) (Jx (L.take (i+1)))):=dJ aZ.out ar;have bG:Hid (zB w3.heap.size mb w3 (w5.setCell ⟨mb,1,none⟩ (.slice (some ⟨gg,0,none⟩) (i+1) cap))):=af.out.setCell (p:=⟨mb,1,none⟩) (.inr rfl) _;have bF:Hid ((w5.setCell ⟨mb,1,none⟩ (.slice (some ⟨gg,0,none⟩) (i+1) cap)).heap[mb]? = some (cY (.slice none 0 0) (.slice (some ⟨gg,0,none⟩) (i+1) cap) (.slice none 0 0) G)):=N8 aI;go_wp2_with fail
    go_roundw
    case rel=>exact⟨i+1,_,by omega,by go_num,bF,bE,bG⟩
    case measure=>simp[intOf];omega
  ·obtain rfl:i=L.length:=by omega
   have ii:¬(L.length:Int)<(L.length:Int):=(by omega);rw[co]at HO;obtain⟨ca,aA,rfl,cF⟩:=uT HO.out;have cX:=zA cF;have cj:Hid (Below w.heap.size w wr):=cd.out.trans (HK.out.below (by omega) (by omega));have cP:Hid (wr.heap[w.heap.size]? = some (cY (.slice none 0 0) (.slice none 0 0) (.slice none 0 0) gZ)):=(by unfold Hid;rw[HK.out.block _ (by omega) bT];exact cQ.out);have bK:=zP HM.out;clear cF HO bB cQ bl cd;generalize cn:wr=wI at *;clear cn;go_wp2_with fail
   go_loopw [35] (λiv wr=>∃(i:Nat) (acc:List yA) (nv:Value),i<=ls.length/\acc.length<=i/\iv=.int .i64 i/\Hid (wr.heap[mb]? = some (cY nv (.slice ca L.length aA) (.slice none 0 0) G))/\Hid (wr.ownsRow wI.heap.size 204 4 nv acc.length (acc.flatMap kD))/\Hid (zB wI.heap.size mb wI wr)/\Hid (nM ((fs ls).drop i) acc=yC (fs ls))) (λiv _=>ls.length-(intOf iv).toNat)
   case atStart=>exact⟨0,[],_,p8,tg _,rfl,HM,zA (Zp _ _ _ _),zA (zB.refl _ _ _),zA rfl⟩
   case round =>
    obtain⟨i,acc,nv,hi,bY,rfl,aQ,bD,ae,HE⟩:=hrel;have aW:=ae.out.size;have cb:Hid (Below w.heap.size w wr):=cj.out.trans (ae.out.below (by omega) (by omega));by_cases b8:i<ls.length
    ·obtain⟨gl,sa,sn,sc,na,nn,nc,rfl,cx,⟨c0,c1,c2,c3,c4,c5,c6,c7,c8,c9,ax⟩,-,-⟩:=(HL.out.below cb.out (tg _)).line b8
     have hE:=HE.out;rw[D7 (fs ls) i acc (by rw[hfl];exact b8),tZ]at hE;have aM:=zA hE;obtain⟨di,-,-,-,aU⟩:=mE aQ.out;have dc:=aU 0;have lm:=zP aQ.out;have mg:wr.heap.size≠gl:=(by omega);have mm:wr.heap.size≠mb:=(by omega);clear HE hE aU;generalize (pP ls i).1=x at *;obtain⟨kd,n1,lo,hi',cc,S,N,ro,te,de,lw⟩:=x;simp only at c0 c1 c2 c3 c4 c5 c6 c7 c8 c9 ax aM;by_cases k1:kd=1
     ·subst k1
      have aJ:Hid (nM ((fs ls).drop (i+1)) (acc++[⟨n1,false,lo,hi'⟩])=yC (fs ls)):=(by have:=aM.out;rw[u']at this;exact this);have bc:Hid ((acc++[(⟨n1,false,lo,hi'⟩:yA)]).flatMap kD=acc.flatMap kD++[.string ⟨n1.toArray⟩,.bool false,.int .i64 lo,.int .i64 hi']):=(by unfold Hid;simp[kD]);clear aM;have bC:=zA (λw'=>FH w' n1)
      have aG:Hid (∀w4,Below (wr.alloc (.cells #[.int .i64 1,.string ⟨n1.toArray⟩,.int .i64 lo,.int .i64 hi',.string ⟨cc.toArray⟩,.slice sa sn sc,.slice na nn nc,.int .i64 ro,.int .i64 te,.int .i64 de,.string ⟨lw.toArray⟩] 184)).drew.heap.size (wr.alloc (.cells #[.int .i64 1,.string ⟨n1.toArray⟩,.int .i64 lo,.int .i64 hi',.string ⟨cc.toArray⟩,.slice sa sn sc,.slice na nn nc,.int .i64 ro,.int .i64 te,.int .i64 de,.string ⟨lw.toArray⟩] 184)).drew w4->w4.ownsRow wI.heap.size 204 4 nv acc.length (acc.flatMap kD)/\w4.heap[mb]? = some (cY nv (.slice ca L.length aA) (.slice none 0 0) G)/\w4.cell? ⟨wr.heap.size,2,none⟩=some (.int .i64 lo)/\w4.cell? ⟨wr.heap.size,3,none⟩=some (.int .i64 hi')/\zB wI.heap.size mb wI w4/\wr.heap.size<w4.heap.size/\w4.cell? ⟨mb,0,none⟩=some nv/\mb<w4.heap.size/\w4.heap.size≠mb/\w4.heap.size≠wr.heap.size):=λw4 aC=>by
       have h1:Below wr.heap.size wr w4:=(md (fk (tg _) _)).trans (aC.mono (p7 (zY _ _)));have h2:w4.heap[mb]? = some (cY nv (.slice ca L.length aA) (.slice none 0 0) G):=(by rw[h1.block _ lm];exact aQ.out);have h3:wr.heap.size<w4.heap.size:=tq (zY _ _) aC.size;refine⟨jU bD.out h1,h2,?_,?_,ae.out.trans (zB.az (h1.mono aW)),h3,(mE h2).1,zP h2,fj (zP h2),by omega⟩
       ·rw[aC.cell (p:=⟨wr.heap.size,2,none⟩) (zY _ _)];exact(zC (zF _ _) 2).trans rfl
       ·rw[aC.cell (p:=⟨wr.heap.size,3,none⟩) (zY _ _)];exact(zC (zF _ _) 3).trans rfl
      go_upto_region 12 with fail
      go_region_law (first
       | (refine step_append_lies _ (by rfl) _ _ _ (by rfl) wI.heap.size 204 k0 _ 4 40 underlying121 cC cB cA b9 rfl (by decide) nv acc.length (acc.flatMap kD) (by rfl) (aN.alloc _) ⟨w4.heap.size,0,none⟩ 1 1 [.string ⟨n1.toArray⟩,.bool false,.int .i64 lo,.int .i64 hi'] (by rfl) (by rfl) (zM _ _ _ _ rfl) (by simp[Value.oneCell']) (by decide) (by unfold maxLen;omega) (by omega) (by simp;omega) (w4.heap.size+1) (by simp) ?_;intro gg cap w5 aL aH aw au;have aI:w5.heap[mb]? = some (cY nv (.slice ca L.length aA) (.slice none 0 0) G):=Qj aH aX (zS aN) bK;obtain⟨cN,-,-,-,a8⟩:=mE aI;have ba:=a8 0)
       | (go_simp;go_at_call 92;refine(bC.out _).mono ?_;rintro e w4 ⟨rfl,aC⟩;obtain⟨aN,aX,cO,dE,bH,bU,cM,b4,bw,ck⟩:=aG.out w4 aC;show _))
      all_goals
       have aZ:Hid (w5.ownsRow wI.heap.size 204 4 (.slice (some ⟨gg,0,none⟩) (acc.length+1) cap) (acc++[(⟨n1,false,lo,hi'⟩:yA)]).length ((acc++[(⟨n1,false,lo,hi'⟩:yA)]).flatMap kD)):=(by unfold Hid;rw[bc.out,tm];exact aL);have af:Hid (zB wI.heap.size mb wI w5):=(bH.alloc (by omega) _).grown aH (by simp;omega) (zS aN);have bz:=zP aI;clear aL aH;have bE:Hid ((w5.setCell ⟨mb,0,none⟩ (.slice (some ⟨gg,0,none⟩) (acc.length+1) cap)).ownsRow wI.heap.size 204 4 (.slice (some ⟨gg,0,none⟩) (acc.length+1) cap) (acc++[(⟨n1,false,lo,hi'⟩:yA)]).length ((acc++[(⟨n1,false,lo,hi'⟩:yA)]).flatMap kD)):=dJ aZ.out bK;have bG:Hid (zB wI.heap.size mb wI (w5.setCell ⟨mb,0,none⟩ (.slice (some ⟨gg,0,none⟩) (acc.length+1) cap))):=af.out.setCell (p:=⟨mb,0,none⟩) (.inr rfl) _;have bF:Hid ((w5.setCell ⟨mb,0,none⟩ (.slice (some ⟨gg,0,none⟩) (acc.length+1) cap)).heap[mb]? = some (cY (.slice (some ⟨gg,0,none⟩) (acc.length+1) cap) (.slice ca L.length aA) (.slice none 0 0) G)):=FQ aI;go_wp2_with fail
       go_roundw
       case rel=>exact⟨i+1,acc++[⟨n1,false,lo,hi'⟩],_,by omega,by simp;omega,by go_num,bF,bE,bG,aJ⟩
       case measure=>simp[intOf];omega
     ·by_cases k2:kd=2
      ·subst k2
       have aJ:Hid (nM ((fs ls).drop (i+1)) (acc++[⟨n1,true,0,0⟩])=yC (fs ls)):=(by have:=aM.out;rw[u']at this;exact this);have bc:Hid ((acc++[(⟨n1,true,0,0⟩:yA)]).flatMap kD=acc.flatMap kD++[.string ⟨n1.toArray⟩,.bool true,.int .i64 0,.int .i64 0]):=(by unfold Hid;simp[kD]);clear aM;have bC:=zA (λw'=>FH w' n1)
       have aG:Hid (∀w4,Below (wr.alloc (.cells #[.int .i64 2,.string ⟨n1.toArray⟩,.int .i64 lo,.int .i64 hi',.string ⟨cc.toArray⟩,.slice sa sn sc,.slice na nn nc,.int .i64 ro,.int .i64 te,.int .i64 de,.string ⟨lw.toArray⟩] 184)).drew.heap.size (wr.alloc (.cells #[.int .i64 2,.string ⟨n1.toArray⟩,.int .i64 lo,.int .i64 hi',.string ⟨cc.toArray⟩,.slice sa sn sc,.slice na nn nc,.int .i64 ro,.int .i64 te,.int .i64 de,.string ⟨lw.toArray⟩] 184)).drew w4->w4.ownsRow wI.heap.size 204 4 nv acc.length (acc.flatMap kD)/\w4.heap[mb]? = some (cY nv (.slice ca L.length aA) (.slice none 0 0) G)/\w4.cell? ⟨wr.heap.size,2,none⟩=some (.int .i64 lo)/\w4.cell? ⟨wr.heap.size,3,none⟩=some (.int .i64 hi')/\zB wI.heap.size mb wI w4/\wr.heap.size<w4.heap.size/\w4.cell? ⟨mb,0,none⟩=some nv/\mb<w4.heap.size/\w4.heap.size≠mb/\w4.heap.size≠wr.heap.size):=λw4 aC=>by
        have h1:Below wr.heap.size wr w4:=(md (fk (tg _) _)).trans (aC.mono (p7 (zY _ _)));have h2:w4.heap[mb]? = some (cY nv (.slice ca L.length aA) (.slice none 0 0) G):=(by rw[h1.block _ lm];exact aQ.out);have h3:wr.heap.size<w4.heap.size:=tq (zY _ _) aC.size;refine⟨jU bD.out h1,h2,?_,?_,ae.out.trans (zB.az (h1.mono aW)),h3,(mE h2).1,zP h2,fj (zP h2),by omega⟩
        ·rw[aC.cell (p:=⟨wr.heap.size,2,none⟩) (zY _ _)];exact(zC (zF _ _) 2).trans rfl
        ·rw[aC.cell (p:=⟨wr.heap.size,3,none⟩) (zY _ _)];exact(zC (zF _ _) 3).trans rfl
       go_upto_region 14 with fail
       go_region_law (first
        | (refine step_append_lies _ (by rfl) _ _ _ (by rfl) wI.heap.size 204 k0 _ 4 40 underlying121 cC cB cA b9 rfl (by decide) nv acc.length (acc.flatMap kD) (by rfl) (aN.alloc _) ⟨w4.heap.size,0,none⟩ 1 1 [.string ⟨n1.toArray⟩,.bool true,.int .i64 0,.int .i64 0] (by rfl) (by rfl) (zM _ _ _ _ rfl) (by simp[Value.oneCell']) (by decide) (by unfold maxLen;omega) (by omega) (by simp;omega) (w4.heap.size+1) (by simp) ?_;intro gg cap w5 aL aH aw au;have aI:w5.heap[mb]? = some (cY nv (.slice ca L.length aA) (.slice none 0 0) G):=Qj aH aX (zS aN) bK;obtain⟨cN,-,-,-,a8⟩:=mE aI;have ba:=a8 0)
        | (go_simp;go_at_call 92;refine(bC.out _).mono ?_;rintro e w4 ⟨rfl,aC⟩;obtain⟨aN,aX,cO,dE,bH,bU,cM,b4,bw,ck⟩:=aG.out w4 aC;show _))
       all_goals
        have aZ:Hid (w5.ownsRow wI.heap.size 204 4 (.slice (some ⟨gg,0,none⟩) (acc.length+1) cap) (acc++[(⟨n1,true,0,0⟩:yA)]).length ((acc++[(⟨n1,true,0,0⟩:yA)]).flatMap kD)):=(by unfold Hid;rw[bc.out,tm];exact aL);have af:Hid (zB wI.heap.size mb wI w5):=(bH.alloc (by omega) _).grown aH (by simp;omega) (zS aN);have bz:=zP aI;clear aL aH;have bE:Hid ((w5.setCell ⟨mb,0,none⟩ (.slice (some ⟨gg,0,none⟩) (acc.length+1) cap)).ownsRow wI.heap.size 204 4 (.slice (some ⟨gg,0,none⟩) (acc.length+1) cap) (acc++[(⟨n1,true,0,0⟩:yA)]).length ((acc++[(⟨n1,true,0,0⟩:yA)]).flatMap kD)):=dJ aZ.out bK;have bG:Hid (zB wI.heap.size mb wI (w5.setCell ⟨mb,0,none⟩ (.slice (some ⟨gg,0,none⟩) (acc.length+1) cap))):=af.out.setCell (p:=⟨mb,0,none⟩) (.inr rfl) _;have bF:Hid ((w5.setCell ⟨mb,0,none⟩ (.slice (some ⟨gg,0,none⟩) (acc.length+1) cap)).heap[mb]? = some (cY (.slice (some ⟨gg,0,none⟩) (acc.length+1) cap) (.slice ca L.length aA) (.slice none 0 0) G)):=FQ aI;go_wp2_with fail
        go_roundw
        case rel=>exact⟨i+1,acc++[⟨n1,true,0,0⟩],_,by omega,by simp;omega,by go_num,bF,bE,bG,aJ⟩
        case measure=>simp[intOf];omega
      ·have aJ:Hid (nM ((fs ls).drop (i+1)) acc=yC (fs ls)):=by have:=aM.out;rw[tj (by rintro(h|h);exact k1 h;exact k2 h)]at this;exact this
       have b1:(kd==1)=false:=(by simpa using k1);have b2:(kd==2)=false:=(by simpa using k2);have bn:Hid (∀oo,zB wI.heap.size mb wI (wr.alloc oo)):=λoo=>ae.out.alloc aW oo;have bg:Hid (∀oo,(wr.alloc oo).ownsRow wI.heap.size 204 4 nv acc.length (acc.flatMap kD)):=λoo=>bD.out.alloc oo;have bk:Hid (∀oo,(wr.alloc oo).heap[mb]? = some (cY nv (.slice ca L.length aA) (.slice none 0 0) G)):=λoo=>yD aQ.out;clear k1 k2 aM;go_wp2_with fail
       go_roundw
       case rel=>exact⟨i+1,acc,nv,by omega,by omega,by go_num,zA (bk.out _),zA (bg.out _),zA (bn.out _),aJ⟩
       case measure=>simp[intOf];omega
    ·obtain rfl:i=ls.length:=by omega
     have dV:¬(ls.length:Int)<(ls.length:Int):=(by omega);have aY:=HE.out;rw[pf (by rw[hfl];exact tg _)]at aY;have bZ:acc=yC (fs ls):=aY;subst bZ;obtain⟨ia,aB,rfl,cE⟩:=uT bD.out;have cW:=zA cE;have bI:Hid (xX wr 208 ca (Jx L)):=cX.out.keeps ae.out (by have h8:=HM.out;unfold cY at h8;exact h8) (by decide);have bM:Hid (wr.heap[w.heap.size]? = some (cY (.slice none 0 0) (.slice none 0 0) (.slice none 0 0) gZ)):=(by unfold Hid;rw[ae.out.block _ (by omega) bT];exact cP.out);have bx:=zP aQ.out;have hIn:(yC (fs ls)).length<=10000:=(by omega);clear cE bD aY HE cX cP HM;generalize dX:yC (fs ls)=I at *;generalize cm:wr=wJ at *;clear cm;go_wp2_with fail
     go_loopw [70] (λiv wr=>∃(i:Nat) (acc:List MX) (rv:Value),i<=ls.length/\acc.length<=i/\iv=.int .i64 i/\Hid (wr.heap[mb]? = some (cY (.slice ia I.length aB) (.slice ca L.length aA) rv G))/\Hid (wr.ownsRow wJ.heap.size 162 5 rv acc.length (acc.flatMap cG))/\Hid (zB wJ.heap.size mb wJ wr)/\Hid (∀x∈acc,kE wr x)/\Hid (gX (I.map yA.name) (L.map Prod.fst) ((fs ls).drop i) (acc.map Prod.fst)=uJ (I.map yA.name) (L.map Prod.fst) (fs ls))) (λiv _=>ls.length-(intOf iv).toNat)
     case atStart=>exact⟨0,[],_,p8,tg _,rfl,aQ,zA (Zp _ _ _ _),zA (zB.refl _ _ _),zA (λx hx=>by simp at hx),zA rfl⟩
     case round =>
      obtain⟨i,acc,rv,hi,bY,rfl,ah,HOr,aR,bf,bO⟩:=hrel;have bJ:=aR.out.size;have bt:Hid (Below w.heap.size w wr):=cb.out.trans (aR.out.below (by omega) (by omega));by_cases bX:i<ls.length
      ·obtain⟨gl,sa,sn,sc,na,nn,nc,rfl,cx,⟨c0,c1,c2,c3,c4,c5,c6,c7,c8,c9,ax⟩,heq,hC⟩:=(HL.out.below bt.out (tg _)).line bX
       have hE:=bO.out;rw[Uj _ _ (fs ls) i _ (by rw[hfl];exact bX),tZ]at hE;have aM:=zA hE;have bL:=dL.out _ (Z8 bX);obtain⟨-,-,df,-,aU⟩:=mE ah.out;have dY:=aU 2;have lm:=zP ah.out;have mg:wr.heap.size≠gl:=(by omega);have mm:wr.heap.size≠mb:=(by omega);have bN:=zA hC;have HEq:=zA heq;clear hE bO aU hC heq;generalize hX:(pP ls i).1=x at *;have HX:=zA hX;clear hX;by_cases k3:x.kind=3
       ·have aJ:=aM.out
        rw[tr k3]at aJ
        replace aJ:=zA aJ
        obtain⟨rfl,hS,rfl,hN⟩:=bN.out.rule (by rw[HX.out];exact k3) HEq.out;have hg:=bN.out.g;rw[HX.out]at hS hN hg c5 c6
        have cU:Hid (Jg wr mb 0 I L):=by
         obtain⟨m0,m1,-,-,-⟩:=mE ah.out;have bW:∃cs,wJ.heap[mb]? = some (.cells cs 127 (0,0)):=⟨_,by have h8:=aQ.out;unfold cY at h8;exact h8⟩;obtain⟨dD,ag⟩:=bW;exact⟨⟨ia,aB,m0,(cW.out.keeps aR.out ag (by decide)).ay⟩,⟨ca,aA,m1,(bI.out.keeps aR.out ag (by decide)).ay⟩,hIn,cH⟩
        have aa:Hid (∀oo,Calls prog 93 #[.pointer (some ⟨mb,0,none⟩),uG (.slice sa x.sum.length sc) (.slice na x.nd.length nc) x] (wr.alloc oo) λe w'=>Fn (qT (I.map yA.name) (L.map Prod.fst) x) (wr.alloc oo) w' e):=λoo=>Du (wr.alloc oo) mb 0 I L (cU.out.below (fk (tg _) oo)) x sa na sc nc (hS.below (fk (tg _) oo) (tg _)) (hN.below (fk (tg _) oo) (tg _)) hg bL;generalize qT (I.map yA.name) (L.map Prod.fst) x=mr at *
        have aG:Hid (∀(oo:Obj) (w4:World),Below (wr.alloc oo).heap.size (wr.alloc oo) w4->w4.ownsRow wJ.heap.size 162 5 rv acc.length (acc.flatMap cG)/\w4.heap[mb]? = some (cY (.slice ia I.length aB) (.slice ca L.length aA) rv G)/\zB wJ.heap.size mb wJ w4/\wr.heap.size<w4.heap.size/\w4.cell? ⟨mb,2,none⟩=some rv/\mb<w4.heap.size/\w4.heap.size≠mb/\w4.heap.size+1≠mb/\∀z∈acc,kE w4 z):=λoo w4 aC=>by
         have h1:Below wr.heap.size wr w4:=(fk (tg _) _).trans (aC.mono (p7 (zY _ _)));have h2:w4.heap[mb]? = some (cY (.slice ia I.length aB) (.slice ca L.length aA) rv G):=(by rw[h1.block _ lm];exact ah.out);have h3:=zP h2;exact⟨jU HOr.out h1,h2,aR.out.trans (zB.az (h1.mono bJ)),tq (zY _ _) aC.size,(mE h2).2.2.1,h3,by omega,by omega,λz hz=>(bf.out z hz).below h1⟩
        clear hS hN hg cU aM bN HEq HX bL;obtain⟨kd,n1,lo,hi',cc,S,N,ro,te,de,lw⟩:=x;simp only at c0 c1 c2 c3 c4 c5 c6 c7 c8 c9 ax k3;subst k3;simp only[uG]at aa;go_wp2_with fail
        refine(aa.out _).mono ?_;rintro e w4 cq;obtain⟨y,b5,rfl,aO,aC⟩:=cq;obtain⟨a7,aX,cJ,bU,cO,l4,m4,dT,cL⟩:=aG.out _ w4 aC;obtain⟨pa,pc,b6,-⟩:=aO.sum;obtain⟨ga,gc,hg1,-⟩:=aO.guard;have bh:=zA aO;have dR:=zA cL;have dH:=zA b5;clear aC aO cL b5 aa aG;obtain⟨⟨ei,bA,ss,aP,ao⟩,pv,gv⟩:=y;simp only at b6 hg1;subst b6 hg1;simp only[qS]
        go_wp2_with (at_builtin;refine wpList_append_own _ rfl _ _ 123 rfl wJ.heap.size 162 l0 _ 5 80 underlying123 cw cu ct cr rfl (by decide) _ _ _ rfl ((a7.alloc _).alloc _) ⟨w4.heap.size+1,0,none⟩ 1 1 [.string ⟨ei.toArray⟩,.int .i64 bA,.slice pa ss.length pc,.slice ga aP.length gc,.int .i64 ao] rfl rfl (tW _ _ _ _ rfl (by simp)) ?dB ?dA ?cz ?cy ?_)
        case dB=>first|exact⟨rfl,rfl,rfl,rfl,rfl⟩|(intro u hu;simp at hu;rcases hu with rfl|rfl|rfl|rfl|rfl <;> rfl)
        case dA=>unfold maxLen;omega
        case cz=>omega
        case cy=>first|omega|(simp;omega)
        intro v' w5 aL aH _;obtain⟨aT,aS,rfl⟩:=zO aL;have aI:w5.heap[mb]? = some (cY (.slice ia I.length aB) (.slice ca L.length aA) rv G):=Q6 aH (yD (yD aX)) (zS a7) bx;obtain⟨-,-,dk,-,f5⟩:=mE aI;have f52:=f5 2
        have aZ:Hid ((w5.setCell ⟨mb,2,none⟩ (.slice aT (acc.length+1) aS)).ownsRow wJ.heap.size 162 5 (.slice aT (acc.length+1) aS) (acc++[((⟨ei,bA,ss,aP,ao⟩,.slice pa ss.length pc,.slice ga aP.length gc):MX)]).length ((acc++[((⟨ei,bA,ss,aP,ao⟩,.slice pa ss.length pc,.slice ga aP.length gc):MX)]).flatMap cG)):=by
         have h9:=dJ (j:=2) (u:=.slice aT (acc.length+1) aS) aL bx;unfold Hid;rw[lk,tm];exact h9
        have af:Hid (zB wJ.heap.size mb wJ (w5.setCell ⟨mb,2,none⟩ (.slice aT (acc.length+1) aS))):=(((cJ.alloc (by omega) _).alloc (by simp;omega) _).grown aH (by simp;omega) (zS a7)).setCell (p:=⟨mb,2,none⟩) (.inr rfl) _;have dN:Hid ((w5.setCell ⟨mb,2,none⟩ (.slice aT (acc.length+1) aS)).heap[mb]? = some (cY (.slice ia I.length aB) (.slice ca L.length aA) (.slice aT (acc.length+1) aS) G)):=N9 aI;have cT:Hid (∀z,kE w4 z->kE (w5.setCell ⟨mb,2,none⟩ (.slice aT (acc.length+1) aS)) z):=λz hz=>vk hz a7 aH aI
        have dK:Hid (∀z∈acc++[((⟨ei,bA,ss,aP,ao⟩,.slice pa ss.length pc,.slice ga aP.length gc):MX)],kE (w5.setCell ⟨mb,2,none⟩ (.slice aT (acc.length+1) aS)) z):=λz hz=>by
         rcases pj.1 hz with h|h
         ·exact cT.out z (dR.out z h)
         ·rw[pr.1 h];exact cT.out _ bh.out
        have dO:Hid (gX (I.map yA.name) (L.map Prod.fst) ((fs ls).drop (i+1)) ((acc++[((⟨ei,bA,ss,aP,ao⟩,.slice pa ss.length pc,.slice ga aP.length gc):MX)]).map Prod.fst)=uJ (I.map yA.name) (L.map Prod.fst) (fs ls)):=by
         have h9:=aJ.out;rw[<-dH.out]at h9;unfold Hid;rw[bj];exact h9
        clear aL aH f5 a7 cJ;go_wp2_with fail
        go_roundw
        case rel=>exact⟨i+1,_,_,by omega,by simp;omega,by go_num,dN,aZ,af,dK,dO⟩
        case measure=>simp[intOf];omega
       ·have aJ:=aM.out
        rw[tj k3]at aJ
        replace aJ:=zA aJ
        obtain⟨kd,n1,lo,hi',cc,S,N,ro,te,de,lw⟩:=x;simp only at c0 c1 c2 c3 c4 c5 c6 c7 c8 c9 ax k3;have b3:(kd==3)=false:=by simpa using k3
        have bn:Hid (∀oo,zB wJ.heap.size mb wJ (wr.alloc oo)):=λoo=>aR.out.alloc bJ oo;have bg:Hid (∀oo,(wr.alloc oo).ownsRow wJ.heap.size 162 5 rv acc.length (acc.flatMap cG)):=λoo=>HOr.out.alloc oo;have bk:Hid (∀oo,(wr.alloc oo).heap[mb]? = some (cY (.slice ia I.length aB) (.slice ca L.length aA) rv G)):=λoo=>yD ah.out;have dI:Hid (∀oo,∀x∈acc,kE (wr.alloc oo) x):=λoo x hx=>(bf.out x hx).below (fk (tg _) _);clear k3 aM bN HEq HX;go_wp2_with fail
        go_roundw
        case rel=>exact⟨i+1,acc,rv,by omega,by omega,by go_num,zA (bk.out _),zA (bg.out _),zA (bn.out _),zA (dI.out _),aJ⟩
        case measure=>simp[intOf];omega
      ·obtain rfl:i=ls.length:=by omega
       have dU:¬(ls.length:Int)<(ls.length:Int):=(by omega);have aY:=bO.out;rw[pf (by rw[hfl];exact tg _)]at aY;have a6:acc.map Prod.fst=uJ (I.map yA.name) (L.map Prod.fst) (fs ls):=aY;obtain⟨ra,aD,rfl,cD⟩:=uT HOr.out;have bW:∃cs,wJ.heap[mb]? = some (.cells cs 127 (0,0)):=⟨_,by have h8:=aQ.out;unfold cY at h8;exact h8⟩;obtain⟨dD,ag⟩:=bW;have bp:Hid (xX wr 204 ia (I.flatMap kD)):=cW.out.keeps aR.out ag (by decide);have bq:Hid (xX wr 208 ca (Jx L)):=bI.out.keeps aR.out ag (by decide);have bb:Hid (wr.heap[w.heap.size]? = some (cY (.slice none 0 0) (.slice none 0 0) (.slice none 0 0) gZ)):=(by unfold Hid;rw[aR.out.block _ (by omega) bT];exact bM.out);have dP:=zA cD;have dQ:=zA a6;clear cD aY bO a6 ag HOr
       go_wp2_with (first
        | (refine wpList_load_row ?ak 127 (.tmp 3) ?ho mb ?hx 127 (cZ (.slice ia I.length aB) (.slice ca L.length aA) (.slice ra acc.length aD) G) (0,0) _ ah.out underlying127 rfl (aK aV.out _ _ _) ?_
           case ho=>rfl
           case ak=>rfl
           case hx=>rfl)
        | (refine wpList_store_row ?ak 127 (.tmp 2) (.tmp 86) ?ho w.heap.size (cZ (.slice ia I.length aB) (.slice ca L.length aA) (.slice ra acc.length aD) G) ?hx ?hy 127 (cZ (.slice none 0 0) (.slice none 0 0) (.slice none 0 0) gZ) bb.out (aK aV.out _ _ _) ?bR (Vh rfl rfl rfl G) ?_
           case ho=>rfl
           case ak=>rfl
           case hx=>rfl
           case hy=>rfl
           case bR=>rw[lG,lG,yX,aV.out]))
       have aF:Hid (∀(t:TypeId) (g:Nat) (cs:Array Value) (fz:Nat × Nat),t≠127->wr.heap[g]? = some (Obj.cells cs t fz)->(wr.setRow w.heap.size (cZ (.slice ia I.length aB) (.slice ca L.length aA) (.slice ra acc.length aD) G)).heap[g]? = wr.heap[g]?):=λt g cs fz bQ hg=>setRow_other _ _ _ _ (λe=>by
        subst e;have h8:=bb.out;unfold cY at h8;rw[hg]at h8;simp only[bi,Obj.cells.injEq]at h8;exact bQ h8.2.1)
       have bo:Hid (lY (wr.setRow w.heap.size (cZ (.slice ia I.length aB) (.slice ca L.length aA) (.slice ra acc.length aD) G)) (.slice ia I.length aB) (.slice ca L.length aA) (.slice ra acc.length aD) I L acc):=by
        refine⟨⟨ia,aB,rfl,bp.out.keep λg cs fz hg=>aF.out _ g cs fz (by decide) hg⟩,⟨ca,aA,rfl,bq.out.keep λg cs fz hg=>aF.out _ g cs fz (by decide) hg⟩,⟨ra,aD,rfl,dP.out.keep λg cs fz hg=>aF.out _ g cs fz (by decide) hg⟩,λx hx=>?_,hIn,cH,by omega⟩;have hm:=bf.out x hx;obtain⟨a',c',h1,h2⟩:=hm.sum;obtain⟨dG,dF,h3,h4⟩:=hm.guard;exact⟨⟨a',c',h1,h2.keep λg cs fz hg=>aF.out _ g cs fz (by decide) hg⟩,⟨dG,dF,h3,h4.keep λg cs fz hg=>aF.out _ g cs fz (by decide) hg⟩,hm.ek,hm.ef⟩
       refine pe (v:=.agg (cZ (.slice ia I.length aB) (.slice ca L.length aA) (.slice ra acc.length aD) G)) (results_cell_row results64 _ _ w.heap.size 127 (cZ (.slice ia I.length aB) (.slice ca L.length aA) (.slice ra acc.length aD) G) (0,0) _ rfl (l9 _ _ _ _ bb.out) underlying127 rfl (aK aV.out _ _ _)) rfl (dM.out _ _ I L G _ _ _ acc rfl rfl rfl dQ.out bo.out (yK bt.out (tg _) _) rfl)
end Go.Proofs.YtnbpdffdnphbeabGreatDoor
