import Derived.Test.YtnbpdffdnphbeabGreatDoorMAre
set_option maxHeartbeats 8000000
set_option maxRecDepth 100000
namespace Go.Proofs.YtnbpdffdnphbeabGreatDoor
open Go.RowKit
variable{B:Int}{Cs:List (Bs × Nat)}{rs:List MX}{F ls:List zE}{w' w:World}{s:yX}
structure zKS(w:World)(b o:Nat)(I:List zQ):Prop where
 inp:∃a c,w.cell? ⟨b,o,none⟩=some (.slice a I.length c)/\yZ w 204 a (I.flatMap uI)
 few:I.length<=10000
def Kv(I:List zQ)(f:Bs)(w w':World)(e:Ending):Prop:=∃a c,e=.returned (.agg #[.slice a (xD I f).1.length c,.int .i64 (xD I f).2])/\jT w' a (xD I f).1/\Below w.heap.size w w'
def Ue(P:List PT)(I:List zQ):List Int × Int :=
 match tG P I P.length 0 (List.replicate I.length 0,List.replicate I.length false) with
 | none=>([],10)
 | some st=>if st.2.all id then (st.1,0) else ([],10)
theorem zB7(I:List zQ)(f:Bs)(h:¬ 300<f.length):xD I f=if dG (bB f)=false then ([],2) else Ue (bB f) I:=by
 unfold xD Ue;rw[tb h];rfl
theorem nH:(Tryz.prog.info? 153).map (·.size)=some 2:=by kernel_rfl
theorem cI{I:List zQ}{f:Bs}{k:Int}{e:Ending}(h:xD I f=([],k))(he:e=.returned (.agg #[.slice none 0 0,.int .i64 k]))(hb:Below w.heap.size w w'):Kv I f w w' e:=by
 refine⟨none,0,by rw[h];exact he,?_,hb⟩;rw[h];exact⟨.inl rfl,by simp⟩
def zF6(nm:Bs)(n:Bool)(v:Int):Obj:=.cells #[.string ⟨nm.toArray⟩,.bool n,.int .i64 v] 200 (0,0)
theorem zF5{b:Nat}{nm nm':Bs}{n n':Bool}{v v':Int}(h:w.heap[b]? = some (zF6 nm n v)):(((w.setCell ⟨b,0,none⟩ (.string ⟨nm'.toArray⟩)).setCell ⟨b,1,none⟩ (.bool n')).setCell ⟨b,2,none⟩ (.int .i64 v')).heap[b]? = some (zF6 nm' n' v'):=by
 unfold zF6 at *;have z1:=tr w _ 0 _ _ (.string ⟨nm'.toArray⟩) h;have z2:=tr _ _ 1 _ _ (.bool n') z1;have z3:=tr _ _ 2 _ _ (.int .i64 v') z2;rw[z3];simp
theorem XB{b:Nat}{nm:Bs}{n:Bool}{v:Int}(h:w.heap[b]? = some (zF6 nm n v)):w.cell? ⟨b,0,none⟩=some (.string ⟨nm.toArray⟩)/\w.cell? ⟨b,1,none⟩=some (.bool n)/\w.cell? ⟨b,2,none⟩=some (.int .i64 v)/\w.frozen? ⟨b,0,none⟩=false/\w.frozen? ⟨b,1,none⟩=false/\w.frozen? ⟨b,2,none⟩=false:=by
 unfold zF6 at h;exact⟨(zB h 0).trans rfl,(zB h 1).trans rfl,(zB h 2).trans rfl,by simp[World.frozen?,h],by simp[World.frozen?,h],by simp[World.frozen?,h]⟩
theorem Yh.low{g B:Nat}{P:List PT}(h:Yh w g P)(hb:Below B w w')(hg:g<B):Yh w' g P:=fun i hi=>by
 obtain⟨a,b,c,d⟩:=h i hi;exact⟨by rw[hb.cell (p:=⟨g,_,none⟩) hg];exact a,by rw[hb.cell (p:=⟨g,_,none⟩) hg];exact b,by rw[hb.cell (p:=⟨g,_,none⟩) hg];exact c,by rw[hb.cell (p:=⟨g,_,none⟩) hg];exact d⟩
theorem Bk(P:List PT)(I:List zQ)(k:Nat)(st:List Int × List Bool)(hk:k<P.length)(h:k*4+4<P.length):tG P I (P.length-k) k st =
 (if zH (I.map zQ.name) (qV (yK P (k*4)) (yK P (k*4+2))).name<0 then none
  else if st.2.getD (zH (I.map zQ.name) (qV (yK P (k*4)) (yK P (k*4+2))).name).toNat false=true then none
  else if bO (qV (yK P (k*4)) (yK P (k*4+2))) (I.getD (zH (I.map zQ.name) (qV (yK P (k*4)) (yK P (k*4+2))).name).toNat iI)=false then none
  else tG P I (P.length-(k+1)) (k+1) (st.1.set (zH (I.map zQ.name) (qV (yK P (k*4)) (yK P (k*4+2))).name).toNat (qV (yK P (k*4)) (yK P (k*4+2))).value,st.2.set (zH (I.map zQ.name) (qV (yK P (k*4)) (yK P (k*4+2))).name).toNat true)):=by
 rw[show P.length-k=(P.length-(k+1))+1 by omega,tG,tl h]
theorem Bj(P:List PT)(I:List zQ)(n k:Nat)(st:List Int × List Bool)(h:¬k*4+4<P.length):tG P I n k st=some st:=by
 cases n with
 | zero=>rfl
 | succ n=>rw[tG,tb h]
theorem zFZ(w:World)(f:Bs)(hmax:f.length<=maxLen)(b o:Nat)(I:List zQ)(hI:zKS w b o I) :
 Calls Tryz.prog 60 #[.string ⟨f.toArray⟩,.pointer (some ⟨b,o,none⟩)] w fun e w'=>Kv I f w w' e:=by
 obtain⟨xa,xc,hx0,hx1⟩:=hI.inp;have zLE:=hI.few;unfold maxLen at hmax;by_cases hl:300<f.length
 ·have HC:Hid (xD I f=([],1)):=by unfold Hid xD;rw[tl hl]
  have b1:(300:Int)<(f.length:Int):=by omega
  have HR:Hid ((w.alloc (.cells #[.slice none 0 0,.int .i64 1] 153 (0,0))).heap[w.heap.size]? = some (.cells #[.slice none 0 0,.int .i64 1] 153 (0,0))):=zG _ _;have HB:Hid (Below w.heap.size w (w.alloc (.cells #[.slice none 0 0,.int .i64 1] 153 (0,0)))):=gb (j1 _) _;clear hl hx0 hx1 hI
  go_enter Tryz.func60,Tryz.ntmps60
  go_wp2_with fail
  refine pe (v:=.agg #[.slice none 0 0,.int .i64 1]) (results_cell_row Tryz.results60 _ _ w.heap.size 153 #[.slice none 0 0,.int .i64 1] (0,0) _ rfl HR.out Tryz.underlying153 rfl nH) rfl (cI HC.out rfl HB.out)
 ·have hl3:f.length<=300:=by omega
  have HC0:=zA (zB7 I f hl)
  have zLM:Hid (∀w':World,Calls Tryz.prog 70 #[.string ⟨f.toArray⟩] w' fun e w''=>∃g cap,e=.returned (.slice (some ⟨g,0,none⟩) (bB f).length cap)/\w'.heap.size<=g/\g<w''.heap.size/\Yh w'' g (bB f)/\Below w'.heap.size w' w''):=fun w'=>by
   refine(Uw f w' (by omega)).mono ?_;rintro e w'' ⟨v,rfl,zL1,hb⟩;have e1:(vM f 0).length+1=(bB f).length:=(lH f).symm;rw[Jf f,e1]at zL1;obtain⟨g,cap,rfl,h0,h1,_,_,h4⟩:=QH zL1 (by rw[lH];omega);exact⟨g,cap,rfl,h0,h1,h4,hb⟩
  have hPl:(bB f).length<=301:=by rw[lH];have:=aJ f 0;omega
  have HAr:Hid (∀(w':World) (g cap:Nat),Yh w' g (bB f)->g<w'.heap.size->Calls Tryz.prog 84 #[.slice (some ⟨g,0,none⟩) (bB f).length cap] w' fun e w''=>e=.returned (.bool (dG (bB f)))/\Below w'.heap.size w' w''):=fun w' g cap h hg=>C2 w' g cap (bB f) h hg (by omega);have b1:¬((300:Int)<(f.length:Int)):=by omega
  have HX:Hid (∀w',Below w.heap.size w w'->w'.cell? ⟨b,o,none⟩=some (.slice xa I.length xc)/\yZ w' 204 xa (I.flatMap uI)):=fun w' hb=>⟨by rw[hb.cell (p:=⟨b,o,none⟩) (yF hx0)];exact hx0,hx1.below hb⟩;have HFi:Hid (∀w' nm,Below w.heap.size w w'->Calls Tryz.prog 86 #[.pointer (some ⟨b,o,none⟩),.string ⟨nm.toArray⟩] w' fun e w''=>e=.returned (.int .i64 (zH (I.map zQ.name) nm))/\Below w'.heap.size w' w''):=fun w' nm hb=>Ya w' b o xa xc I nm (HX.out w' hb).1 (HX.out w' hb).2.cel (by omega);generalize hP:bB f=P at *;clear hl hx0 hx1 hI hP hl3
  cases har:dG P with
  | false =>
    have HC:Hid (xD I f=([],2)):=by have:=HC0.out;rw[har,tl rfl]at this;exact this
    rw[har]at HAr;clear HC0 har
    go_enter Tryz.func60,Tryz.ntmps60
    go_wp2_with fail
    refine(zLM.out _).mono ?_;rintro e w1 ⟨g,cap,rfl,hg0,hg1,htk,hb1⟩;have HB1:Hid (Below w.heap.size w w1):=(gb (j1 _) _).trans (hb1.mono (by simp));have HR1:Hid (w1.heap[w.heap.size]? = some (.cells #[.slice none 0 0,.int .i64 0] 153 (0,0))):=(hb1.block _ (zV _ _)).trans (zG _ _);have HT1:=zA htk;clear htk hb1 zLM;go_wp2_with fail
    refine(HAr.out _ _ _ HT1.out hg1).mono ?_;rintro e w2 ⟨rfl,hb2⟩;have HB2:Hid (Below w.heap.size w w2):=HB1.out.trans (hb2.mono HB1.out.size);have hR2:w2.heap[w.heap.size]? = some (.cells #[.slice none 0 0,.int .i64 0] 153 (0,0)):=(hb2.block _ (zJ HR1.out)).trans HR1.out;have z0:w2.cell? ⟨w.heap.size,0,none⟩=some (.slice none 0 0):=(zB hR2 0).trans rfl;have z1:w2.cell? ⟨w.heap.size,1,none⟩=some (.int .i64 0):=(zB hR2 1).trans rfl;have y0:w2.frozen? ⟨w.heap.size,0,none⟩=false:=by simp[World.frozen?,hR2]
    have y1:w2.frozen? ⟨w.heap.size,1,none⟩=false:=by simp[World.frozen?,hR2]
    have HFr:Hid (((w2.setCell ⟨w.heap.size,0,none⟩ (.slice none 0 0)).setCell ⟨w.heap.size,1,none⟩ (.int .i64 2)).heap[w.heap.size]? = some (.cells #[.slice none 0 0,.int .i64 2] 153 (0,0))):=by
     have q1:=tr w2 _ 0 _ _ (.slice none 0 0) hR2;have q2:=tr _ _ 1 _ _ (.int .i64 2) q1;unfold Hid;rw[q2];simp
    have HBf:Hid (Below w.heap.size w ((w2.setCell ⟨w.heap.size,0,none⟩ (.slice none 0 0)).setCell ⟨w.heap.size,1,none⟩ (.int .i64 2))):=(HB2.out.setCell (by simp) _).setCell (by simp) _;clear hb2 HB1 HR1 HT1 hR2 HAr;go_wp2_with fail
    refine pe (v:=.agg #[.slice none 0 0,.int .i64 2]) (results_cell_row Tryz.results60 _ _ w.heap.size 153 #[.slice none 0 0,.int .i64 2] (0,0) _ rfl HFr.out Tryz.underlying153 rfl nH) rfl (cI HC.out rfl HBf.out)
  | true =>
    have HC:Hid (xD I f=Ue P I):=by have:=HC0.out;rw[har,tb (by decide)]at this;exact this
    rw[har]at HAr;clear HC0 har;have hmI:=run_make_row' (P:=Tryz.prog) 22 3 (.int .i64 0) 8 Tryz.underlying22 fZ rfl .i64 .i64 I.length (by omega) (by omega);have hmB:=run_make_row' (P:=Tryz.prog) 166 4 (.bool false) 1 Tryz.underlying166 dA rfl .i64 .i64 I.length (by omega) (by omega);rw[sF]at hmI;rw[cU]at hmB
    go_enter Tryz.func60,Tryz.ntmps60
    go_wp2_with fail
    refine(zLM.out _).mono ?_;rintro e w1 ⟨g,cap,rfl,hg0,hg1,htk,hb1⟩;have HB1:Hid (Below w.heap.size w w1):=(gb (j1 _) _).trans (hb1.mono (by simp));have HR1:Hid (w1.heap[w.heap.size]? = some (.cells #[.slice none 0 0,.int .i64 0] 153 (0,0))):=(hb1.block _ (zV _ _)).trans (zG _ _);have HT1:=zA htk;clear htk hb1 zLM;go_wp2_with fail
    refine(HAr.out _ _ _ HT1.out hg1).mono ?_;rintro e w2 ⟨rfl,hb2⟩;have HB2:Hid (Below w.heap.size w w2):=HB1.out.trans (hb2.mono HB1.out.size);have HR2:Hid (w2.heap[w.heap.size]? = some (.cells #[.slice none 0 0,.int .i64 0] 153 (0,0))):=(hb2.block _ (zJ HR1.out)).trans HR1.out;have HT2:=zA (HT1.out.low hb2 hg1);have hg2:g<w2.heap.size:=tj hg1 hb2.size;obtain⟨m0,-⟩:=HX.out w2 HB2.out;have lb:=yF m0;have nb:w2.heap.size≠b:=by omega
    clear hb2 HB1 HR1 HT1 HAr;go_wp2_with fail
    have HI0:Hid (dJ ((w2.alloc (Obj.cells (iC (List.replicate I.length 0)) 3)).alloc (Obj.cells (gC (List.replicate I.length false)) 4)) w2.heap.size (List.replicate I.length 0)):=zS (zG _ _);have HV0:Hid (jU ((w2.alloc (Obj.cells (iC (List.replicate I.length 0)) 3)).alloc (Obj.cells (gC (List.replicate I.length false)) 4)) (w2.heap.size+1) (List.replicate I.length false)):=yS _ _ _ (by simp);have HA0:Hid (Below w2.heap.size w2 ((w2.alloc (Obj.cells (iC (List.replicate I.length 0)) 3)).alloc (Obj.cells (gC (List.replicate I.length false)) 4))):=(gb (j1 _) _).alloc (by simp) _;generalize (w2.alloc (Obj.cells (iC (List.replicate I.length 0)) 3)).alloc (Obj.cells (gC (List.replicate I.length false)) 4)=wA at *;clear hmI hmB
    go_loopw [8] (fun av wr=>∃(k:Nat) (L:List Int) (V:List Bool),k<=P.length/\av=.int .i64 ((k*4:Nat):Int)/\Hid (L.length=I.length/\V.length=I.length)/\Hid (dJ wr w2.heap.size L)/\Hid (jU wr (w2.heap.size+1) V)/\Hid (Below w2.heap.size w2 wr)/\Hid (tG P I (P.length-k) k (L,V)=tG P I P.length 0 (List.replicate I.length 0,List.replicate I.length false))) (fun av _=>P.length+4-(intOf av).toNat)
    case atStart=>exact⟨0,_,_,p7 _,rfl,zA ⟨by simp,by simp⟩,HI0,HV0,HA0,zA rfl⟩
    case round =>
     obtain⟨k,L,V,hk,rfl,HLn,HIr,HVr,zLI,HE⟩:=hrel;by_cases zKZ:k*4+4<P.length
     ·have hkl:k<P.length:=by omega
      have hE:=HE.out;rw[Bk P I k (L,V) hkl zKZ]at hE;have HE2:=zA hE;have HTr:=zA (HT2.out.low zLI.out hg2);have t1:=HTr.out (k*4) (by omega);have t2:=HTr.out (k*4+2) (by omega);have HFo:Hid (∀w',Calls Tryz.prog 85 #[Qg (yK P (k*4)),Qg (yK P (k*4+2))] w' fun e w''=>e=.returned (fJ (qV (yK P (k*4)) (yK P (k*4+2))))/\Below w'.heap.size w' w''):=fun w'=>zAJ w' (yK P (k*4)) (yK P (k*4+2));clear HE hE HTr;generalize qV (yK P (k*4)) (yK P (k*4+2))=F at *;generalize yK P (k*4)=n1 at *;generalize yK P (k*4+2)=v1 at *;obtain⟨n1k,n1s,n1v,n1p⟩:=n1;obtain⟨v1k,v1s,v1v,v1p⟩:=v1;obtain⟨Fn,Fi,Fv⟩:=F;obtain⟨a0,a1,a2,a3⟩:=t1;obtain⟨c0,c1,c2,c3⟩:=t2;simp only[Qg,fJ]at a0 a1 a2 a3 c0 c1 c2 c3 HFo HE2;have hb4:((k*4:Nat):Int)+4<(P.length:Int):=by omega
      have hi1:((k*4:Nat):Int)<(P.length:Int):=by omega
      have hi2:((k*4:Nat):Int)+2<(P.length:Int):=by omega
      have zL8:=zLI.out.size;generalize hka:k*4=a at *;have hw2:IntKind.i64.wrap ((a:Int)+2)=(a:Int)+2:=by simp[IntKind.wrap,IntKind.signed,IntKind.bits];omega
      have hp2:(0:Int)<=(a:Int)+2:=by omega
      have ht2:((a:Int)+2).toNat=a+2:=by omega
      have HTc:Hid (∀w4,Below wr.heap.size wr w4->(w4.cell? ⟨g,a*4,none⟩=some (.int .i64 n1k)/\w4.cell? ⟨g,a*4+1,none⟩=some (.string ⟨n1s.toArray⟩)/\w4.cell? ⟨g,a*4+2,none⟩=some (.int .i64 n1v)/\w4.cell? ⟨g,a*4+3,none⟩=some (.int .i64 n1p))/\w4.cell? ⟨g,(a+2)*4,none⟩=some (.int .i64 v1k)/\w4.cell? ⟨g,(a+2)*4+1,none⟩=some (.string ⟨v1s.toArray⟩)/\w4.cell? ⟨g,(a+2)*4+2,none⟩=some (.int .i64 v1v)/\w4.cell? ⟨g,(a+2)*4+3,none⟩=some (.int .i64 v1p)):=fun w4 hb=>by
       have lg:=yF a0;exact⟨⟨by rw[hb.cell (p:=⟨g,_,none⟩) lg];exact a0,by rw[hb.cell (p:=⟨g,_,none⟩) lg];exact a1,by rw[hb.cell (p:=⟨g,_,none⟩) lg];exact a2,by rw[hb.cell (p:=⟨g,_,none⟩) lg];exact a3⟩,by rw[hb.cell (p:=⟨g,_,none⟩) lg];exact c0,by rw[hb.cell (p:=⟨g,_,none⟩) lg];exact c1,by rw[hb.cell (p:=⟨g,_,none⟩) lg];exact c2,by rw[hb.cell (p:=⟨g,_,none⟩) lg];exact c3⟩
      have lgr:g<wr.heap.size:=by omega
      have ngr:wr.heap.size≠g:=by omega
      go_upto_region 11 with fail
      go_cut [9] from 42 to 84 (fun v9 wx=>∃fb,v9=.pointer (some ⟨fb,0,none⟩)/\Hid (wx.heap[fb]? = some (zF6 Fn Fi Fv))/\Hid (Below wr.heap.size wr wx)/\wr.heap.size<=fb)
      case first =>
       go_region_held3 (fun w'=>(w'.cell? ⟨g,a*4,none⟩=some (.int .i64 n1k)/\w'.cell? ⟨g,a*4+1,none⟩=some (.string ⟨n1s.toArray⟩)/\w'.cell? ⟨g,a*4+2,none⟩=some (.int .i64 n1v)/\w'.cell? ⟨g,a*4+3,none⟩=some (.int .i64 n1p))/\w'.cell? ⟨g,(a+2)*4,none⟩=some (.int .i64 v1k)/\w'.cell? ⟨g,(a+2)*4+1,none⟩=some (.string ⟨v1s.toArray⟩)/\w'.cell? ⟨g,(a+2)*4+2,none⟩=some (.int .i64 v1v)/\w'.cell? ⟨g,(a+2)*4+3,none⟩=some (.int .i64 v1p)) (go_keep) (
        (go_at_call 85;refine(HFo.out _).mono ?_;rintro e w4 ⟨rfl,hb5⟩;first
         | (have hB4:Below wr.heap.size wr w4:=(pj (tg _ _)).trans hb5;obtain⟨⟨u0,u1,u2,u3⟩,u4,u5,u6,u7⟩:=HTc.out w4 hB4;have hs4:=hB4.size;have lg4:g<w4.heap.size:=(by omega);have ng4:w4.heap.size≠g:=(by omega))
         | (have hB4:Below wr.heap.size wr w4:=(pj (gb (j1 _) _)).trans (hb5.mono (ph (zV _ _)));have RZ:w4.heap[wr.heap.size]? = some (zF6 [] false 0):=(hb5.block _ (zV _ _)).trans (zG _ _);obtain⟨⟨u0,u1,u2,u3⟩,u4,u5,u6,u7⟩:=HTc.out w4 hB4;obtain⟨f0,f1,f2,f3,f4,f5⟩:=XB RZ)))
       all_goals
        go_wp2_with fail
        go_meet
        first
         | exact⟨wr.heap.size,rfl,zA (zF5 RZ),zA (((hB4.setCell (p:=⟨wr.heap.size,0,none⟩) (j1 _) _).setCell (p:=⟨wr.heap.size,1,none⟩) (j1 _) _).setCell (p:=⟨wr.heap.size,2,none⟩) (j1 _) _),j1 _⟩
         | exact⟨w4.heap.size,rfl,zA (zG _ _),zA (hB4.alloc hB4.size _),hB4.size⟩
      case rest =>
       obtain⟨fb,rfl,HFb,HBc,hfb⟩:=hcut;have HBw2:Hid (Below w2.heap.size w2 wc):=zLI.out.trans (HBc.out.mono zL8);have HBwc:Hid (Below w.heap.size w wc):=HB2.out.trans (HBw2.out.mono HB2.out.size);have HIc:=zA (HIr.out.below HBc.out);have HVc:=zA (HVr.out.below HBc.out);obtain⟨f0,f1,f2,-,-,-⟩:=XB HFb.out;clear a0 a1 a2 a3 c0 c1 c2 c3 HTc HFo HIr HVr zLI HBc hw2 hp2 ht2;go_wp2_with fail
       refine(HFi.out _ Fn HBwc.out).mono ?_;rintro e w5 ⟨rfl,hb5⟩;have HB5:Hid (Below w2.heap.size w2 w5):=HBw2.out.trans (hb5.mono HBw2.out.size);have HB5w:Hid (Below w.heap.size w w5):=HB2.out.trans (HB5.out.mono HB2.out.size);have HI5:=zA (HIc.out.below hb5);have HV5:=zA (HVc.out.below hb5);have HF5:Hid (w5.heap[fb]? = some (zF6 Fn Fi Fv)):=(hb5.block _ (zJ HFb.out)).trans HFb.out;obtain⟨f0,f1,f2,-,-,-⟩:=XB HF5.out;have hfl:=zJ HF5.out;have hR5:w5.heap[w.heap.size]? = some (.cells #[.slice none 0 0,.int .i64 0] 153 (0,0)):=(HB5.out.block _ (zJ HR2.out)).trans HR2.out
       have HFr:Hid (((w5.setCell ⟨w.heap.size,0,none⟩ (.slice none 0 0)).setCell ⟨w.heap.size,1,none⟩ (.int .i64 10)).heap[w.heap.size]? = some (.cells #[.slice none 0 0,.int .i64 10] 153 (0,0))):=by
        have q1:=tr w5 _ 0 _ _ (.slice none 0 0) hR5;have q2:=tr _ _ 1 _ _ (.int .i64 10) q1;unfold Hid;rw[q2];simp
       have HBf:Hid (Below w.heap.size w ((w5.setCell ⟨w.heap.size,0,none⟩ (.slice none 0 0)).setCell ⟨w.heap.size,1,none⟩ (.int .i64 10))):=(HB5w.out.setCell (by simp) _).setCell (by simp) _;have z0:w5.cell? ⟨w.heap.size,0,none⟩=some (.slice none 0 0):=(zB hR5 0).trans rfl;have z1:w5.cell? ⟨w.heap.size,1,none⟩=some (.int .i64 0):=(zB hR5 1).trans rfl;have y0:w5.frozen? ⟨w.heap.size,0,none⟩=false:=by simp[World.frozen?,hR5]
       have y1:w5.frozen? ⟨w.heap.size,1,none⟩=false:=by simp[World.frozen?,hR5]
       have HNone:Hid (tG P I P.length 0 (List.replicate I.length 0,List.replicate I.length false)=none->xD I f=([],10)):=fun hn=>by rw[HC.out];unfold Ue;rw[hn]
       have hpb:=oY Fn (I.map zQ.name) 0;rw[pi]at hpb
       change -1<=zH (I.map zQ.name) Fn/\zH (I.map zQ.name) Fn<((0:Nat):Int)+I.length at hpb
       clear hb5 HIc HVc HFb HBw2 HBwc hR5;generalize zH (I.map zQ.name) Fn=pl at *;by_cases p0:pl<0
       ·have HC10:Hid (xD I f=([],10)):=HNone.out (by have:=HE2.out;rw[tl p0]at this;exact this.symm)
        clear HE2 HNone
        go_upto_region 13 with fail
        go_quiet (fail)
        go_wp2_with fail
        refine pe (v:=.agg #[.slice none 0 0,.int .i64 10]) (results_cell_row Tryz.results60 _ _ w.heap.size 153 #[.slice none 0 0,.int .i64 10] (0,0) _ rfl HFr.out Tryz.underlying153 rfl nH) rfl (cI HC10.out rfl (xR HBf.out _))
       ·obtain⟨n,rfl⟩:∃n:Nat,pl=(n:Int):=⟨pl.toNat,by omega⟩
        have hn:n<I.length:=by omega
        have hnI:(n:Int)<(I.length:Int):=by omega
        have b0:decide ((n:Int)<0)=false:=by simp
        have gv:=HV5.out.cell (k:=n) (by rw[HLn.out.2];exact hn);have HE3:=HE2.out;rw[tb p0,Int.toNat_natCast]at HE3
        replace HE3:=zA HE3
        clear HE2 p0 hpb
        cases hgv:V.getD n false with
        | true =>
          rw[hgv]at gv;have HC10:Hid (xD I f=([],10)):=HNone.out (by have:=HE3.out;rw[hgv,tl rfl]at this;exact this.symm);clear HE3 HNone hgv
          go_upto_region 13 with fail
          go_quiet (fail)
          go_wp2_with fail
          refine pe (v:=.agg #[.slice none 0 0,.int .i64 10]) (results_cell_row Tryz.results60 _ _ w.heap.size 153 #[.slice none 0 0,.int .i64 10] (0,0) _ rfl HFr.out Tryz.underlying153 rfl nH) rfl (cI HC10.out rfl (xR HBf.out _))
        | false =>
          rw[hgv]at gv;have HE4:=HE3.out;rw[hgv,tb (by decide)]at HE4
          replace HE4:=zA HE4
          obtain⟨m0,mr⟩:=HX.out w5 HB5w.out;obtain⟨xg,rfl,i0⟩:=mr.cel.at ((zN uI 4 (fun _=>rfl) iI I n 0 hn (by decide)).trans rfl);have i1:=(mr.cel.at ((zN uI 4 (fun _=>rfl) iI I n 1 hn (by decide)).trans rfl)).elim fun g' h=>(show xg=g' by simpa using h.1) ▸ h.2;have i2:=(mr.cel.at ((zN uI 4 (fun _=>rfl) iI I n 2 hn (by decide)).trans rfl)).elim fun g' h=>(show xg=g' by simpa using h.1) ▸ h.2;have i3:=(mr.cel.at ((zN uI 4 (fun _=>rfl) iI I n 3 hn (by decide)).trans rfl)).elim fun g' h=>(show xg=g' by simpa using h.1) ▸ h.2;rw[l9]at i0;have HFt:Hid (∀w',Calls Tryz.prog 87 #[fJ ⟨Fn,Fi,Fv⟩,ZQ (I.getD n iI)] w' fun e w''=>e=.returned (.bool (bO ⟨Fn,Fi,Fv⟩ (I.getD n iI)))/\Below w'.heap.size w' w''):=fun w'=>zIZ w' ⟨Fn,Fi,Fv⟩ (I.getD n iI);clear HE3 hgv mr;generalize I.getD n iI=X at *;obtain⟨xn,xf,xl,xh⟩:=X;simp only[fJ,ZQ]at HFt i0 i1 i2 i3;generalize bO ⟨Fn,Fi,Fv⟩ ⟨xn,xf,xl,xh⟩=ft at *
          have HAf:Hid (∀w6,Below w5.heap.size w5 w6->((w6.cell? ⟨fb,0,none⟩=some (.string ⟨Fn.toArray⟩)/\w6.cell? ⟨fb,1,none⟩=some (.bool Fi)/\w6.cell? ⟨fb,2,none⟩=some (.int .i64 Fv))/\w6.cell? ⟨w2.heap.size+1,n,none⟩=some (.bool false)/\w6.cell? ⟨b,o,none⟩=some (.slice (some ⟨xg,0,none⟩) I.length xc)/\w6.cell? ⟨xg,n*4,none⟩=some (.string ⟨xn.toArray⟩)/\w6.cell? ⟨xg,n*4+1,none⟩=some (.bool xf)/\w6.cell? ⟨xg,n*4+2,none⟩=some (.int .i64 xl)/\w6.cell? ⟨xg,n*4+3,none⟩=some (.int .i64 xh))/\w6.heap[w.heap.size]? = some (.cells #[.slice none 0 0,.int .i64 0] 153 (0,0))):=fun w6 hb=>by
           have lx:=yF i0;refine⟨⟨⟨(hb.cell (p:=⟨fb,_,none⟩) hfl).trans f0,(hb.cell (p:=⟨fb,_,none⟩) hfl).trans f1,(hb.cell (p:=⟨fb,_,none⟩) hfl).trans f2⟩,(hb.cell (p:=⟨w2.heap.size+1,_,none⟩) (yF gv)).trans gv,(hb.cell (p:=⟨b,_,none⟩) (yF m0)).trans m0,(hb.cell (p:=⟨xg,_,none⟩) lx).trans i0,(hb.cell (p:=⟨xg,_,none⟩) lx).trans i1,(hb.cell (p:=⟨xg,_,none⟩) lx).trans i2,(hb.cell (p:=⟨xg,_,none⟩) lx).trans i3⟩,?_⟩;have lr:w.heap.size<w5.heap.size:=tj (zJ HR2.out) HB5.out.size;rw[hb.block _ lr];exact(HB5.out.block _ (zJ HR2.out)).trans HR2.out
          cases ft with
          | false =>
            have HC10:Hid (xD I f=([],10)):=HNone.out (by have:=HE4.out;rw[tl rfl]at this;exact this.symm);clear HE4 HNone HFr HBf z0 z1 y0 y1
            go_upto_region 13 with fail
            go_region_held3 (fun w'=>(w'.cell? ⟨fb,0,none⟩=some (.string ⟨Fn.toArray⟩)/\w'.cell? ⟨fb,1,none⟩=some (.bool Fi)/\w'.cell? ⟨fb,2,none⟩=some (.int .i64 Fv))/\w'.cell? ⟨w2.heap.size+1,n,none⟩=some (.bool false)/\w'.cell? ⟨b,o,none⟩=some (.slice (some ⟨xg,0,none⟩) I.length xc)/\w'.cell? ⟨xg,n*4,none⟩=some (.string ⟨xn.toArray⟩)/\w'.cell? ⟨xg,n*4+1,none⟩=some (.bool xf)/\w'.cell? ⟨xg,n*4+2,none⟩=some (.int .i64 xl)/\w'.cell? ⟨xg,n*4+3,none⟩=some (.int .i64 xh)) (go_keep) (
             (go_at_call 87;refine(HFt.out _).mono ?_;rintro e w6 ⟨rfl,hb6⟩;have hB6:Below w5.heap.size w5 w6:=(pj (tg _ _)).trans hb6;obtain⟨⟨⟨u0,u1,u2⟩,u3,u4,u5,u6,u7,u8⟩,hR6⟩:=HAf.out w6 hB6))
            all_goals
             have z0:w6.cell? ⟨w.heap.size,0,none⟩=some (.slice none 0 0):=(zB hR6 0).trans rfl;have z1:w6.cell? ⟨w.heap.size,1,none⟩=some (.int .i64 0):=(zB hR6 1).trans rfl;have y0:w6.frozen? ⟨w.heap.size,0,none⟩=false:=by simp[World.frozen?,hR6]
             have y1:w6.frozen? ⟨w.heap.size,1,none⟩=false:=by simp[World.frozen?,hR6]
             have HFr:Hid (((w6.setCell ⟨w.heap.size,0,none⟩ (.slice none 0 0)).setCell ⟨w.heap.size,1,none⟩ (.int .i64 10)).heap[w.heap.size]? = some (.cells #[.slice none 0 0,.int .i64 10] 153 (0,0))):=by
              have q1:=tr w6 _ 0 _ _ (.slice none 0 0) hR6;have q2:=tr _ _ 1 _ _ (.int .i64 10) q1;unfold Hid;rw[q2];simp
             have HBf:Hid (Below w.heap.size w ((w6.setCell ⟨w.heap.size,0,none⟩ (.slice none 0 0)).setCell ⟨w.heap.size,1,none⟩ (.int .i64 10))):=((HB5w.out.trans (hB6.mono HB5w.out.size)).setCell (by simp) _).setCell (by simp) _;clear hR6;go_wp2_with fail
             refine pe (v:=.agg #[.slice none 0 0,.int .i64 10]) (results_cell_row Tryz.results60 _ _ w.heap.size 153 #[.slice none 0 0,.int .i64 10] (0,0) _ rfl HFr.out Tryz.underlying153 rfl nH) rfl (cI HC10.out rfl HBf.out)
          | true =>
            have HE5:Hid (tG P I (P.length-(k+1)) (k+1) (L.set n Fv,V.set n true)=tG P I P.length 0 (List.replicate I.length 0,List.replicate I.length false)):=by have:=HE4.out;rw[tb (by decide)]at this;exact this
            have HLn2:Hid ((L.set n Fv).length=I.length/\(V.set n true).length=I.length):=by have:=HLn.out;unfold Hid;rw[List.length_set,List.length_set];exact this
            have zLL:Hid (∀w6,Below w5.heap.size w5 w6->(dJ ((w6.setCell ⟨w2.heap.size,n,none⟩ (.int .i64 Fv)).setCell ⟨w2.heap.size+1,n,none⟩ (.bool true)) w2.heap.size (L.set n Fv)/\jU ((w6.setCell ⟨w2.heap.size,n,none⟩ (.int .i64 Fv)).setCell ⟨w2.heap.size+1,n,none⟩ (.bool true)) (w2.heap.size+1) (V.set n true)/\Below w2.heap.size w2 ((w6.setCell ⟨w2.heap.size,n,none⟩ (.int .i64 Fv)).setCell ⟨w2.heap.size+1,n,none⟩ (.bool true)))/\w6.cell? ⟨w2.heap.size,n,none⟩=some (.int .i64 (L.getD n 0))/\w6.frozen? ⟨w2.heap.size,n,none⟩=false/\w6.frozen? ⟨w2.heap.size+1,n,none⟩=false):=fun w6 hb=>by
             have h6:=HI5.out.below hb;have v6:=HV5.out.below hb
             have v7:jU (w6.setCell ⟨w2.heap.size,n,none⟩ (.int .i64 Fv)) (w2.heap.size+1) V:=by
              show _=_;rw[ma _ _ _ _ (show w2.heap.size+1≠w2.heap.size by omega)];exact v6
             exact⟨⟨(h6.set n Fv).other (show w2.heap.size≠w2.heap.size+1 by omega) _,v7.set n true,((HB5.out.trans (hb.mono HB5.out.size)).setCell (j1 _) _).setCell (show w2.heap.size<=w2.heap.size+1 by omega) _⟩,h6.cell (by rw[HLn.out.1];exact hn),h6.free n,v6.free n⟩
            have nI:fb≠w2.heap.size:=fun e=>by
             have h1:=HF5.out;rw[e]at h1;have h2:w5.heap[w2.heap.size]? = _:=HI5.out;unfold zF6 at h1;rw[h1]at h2;simp at h2
            have nIB:w2.heap.size≠w2.heap.size+1:=by omega
            clear HE4 HNone HFr HBf z0 z1 y0 y1
            go_upto_region 13 with fail
            go_region_held3 (fun w'=>(w'.cell? ⟨fb,0,none⟩=some (.string ⟨Fn.toArray⟩)/\w'.cell? ⟨fb,1,none⟩=some (.bool Fi)/\w'.cell? ⟨fb,2,none⟩=some (.int .i64 Fv))/\w'.cell? ⟨w2.heap.size+1,n,none⟩=some (.bool false)/\w'.cell? ⟨b,o,none⟩=some (.slice (some ⟨xg,0,none⟩) I.length xc)/\w'.cell? ⟨xg,n*4,none⟩=some (.string ⟨xn.toArray⟩)/\w'.cell? ⟨xg,n*4+1,none⟩=some (.bool xf)/\w'.cell? ⟨xg,n*4+2,none⟩=some (.int .i64 xl)/\w'.cell? ⟨xg,n*4+3,none⟩=some (.int .i64 xh)) (go_keep) (
             (go_at_call 87;refine(HFt.out _).mono ?_;rintro e w6 ⟨rfl,hb6⟩;have hB6:Below w5.heap.size w5 w6:=(pj (tg _ _)).trans hb6;obtain⟨⟨⟨u0,u1,u2⟩,u3,u4,u5,u6,u7,u8⟩,-⟩:=HAf.out w6 hB6;obtain⟨⟨s1,s2,s3⟩,e1,e2,e3⟩:=zLL.out w6 hB6))
            all_goals
             have HS1:=zA s1;have HS2:=zA s2;have HS3:=zA s3;clear s1 s2 s3;go_wp2_with fail
             go_roundw
             case rel=>exact⟨k+1,_,_,by omega,by rw[show (k+1)*4=a+4 by omega];go_num,HLn2,HS1,HS2,HS3,HE5⟩
             case measure=>simp[intOf];omega
     ·have HN:Hid (tG P I P.length 0 (List.replicate I.length 0,List.replicate I.length false)=some (L,V)):=by have:=HE.out;rw[Bj P I _ k (L,V) zKZ]at this;exact this.symm
      have HCs:Hid (xD I f=if V.all id=true then (L,0) else ([],10)):=by unfold Hid;rw[HC.out];unfold Ue;rw[HN.out]
      have hb4:¬(((k*4:Nat):Int)+4<(P.length:Int)):=by omega
      obtain⟨wx,hwx⟩:∃wx,wx=wr:=⟨_,rfl⟩;rw[<-hwx]at HIr HVr zLI ⊢;clear hwx HE HN HC;have HBx:Hid (Below w.heap.size w wx):=HB2.out.trans (zLI.out.mono HB2.out.size);have hR5:wx.heap[w.heap.size]? = some (.cells #[.slice none 0 0,.int .i64 0] 153 (0,0)):=(zLI.out.block _ (zJ HR2.out)).trans HR2.out;have z0:wx.cell? ⟨w.heap.size,0,none⟩=some (.slice none 0 0):=(zB hR5 0).trans rfl;have z1:wx.cell? ⟨w.heap.size,1,none⟩=some (.int .i64 0):=(zB hR5 1).trans rfl;have y0:wx.frozen? ⟨w.heap.size,0,none⟩=false:=by simp[World.frozen?,hR5]
      have y1:wx.frozen? ⟨w.heap.size,1,none⟩=false:=by simp[World.frozen?,hR5]
      have HFr:Hid (∀v (x:Int),((wx.setCell ⟨w.heap.size,0,none⟩ v).setCell ⟨w.heap.size,1,none⟩ (.int .i64 x)).heap[w.heap.size]? = some (.cells #[v,.int .i64 x] 153 (0,0))):=fun v x=>by
       have q1:=tr wx _ 0 _ _ v hR5;have q2:=tr _ _ 1 _ _ (.int .i64 x) q1;rw[q2];simp
      have HBf:Hid (∀v (x:Int),Below w.heap.size w ((wx.setCell ⟨w.heap.size,0,none⟩ v).setCell ⟨w.heap.size,1,none⟩ (.int .i64 x))):=fun v x=>(HBx.out.setCell (by simp) _).setCell (by simp) _;have hVl:=HLn.out.2;have HCell:Hid (∀j,j<I.length->wx.cell? ⟨w2.heap.size+1,j,none⟩=some (.bool (V.getD j false))):=fun j hj=>HVr.out.cell (by rw[hVl];exact hj)
      have HGo:Hid (V.all id=true ↔ ∀j,j<I.length->V.getD j false=true):=by
       unfold Hid;rw[List.all_eq_true];constructor
       ·intro h j hj
        have hj':j<V.length:=by rw[hVl];exact hj
        have:=h (V.getD j false) (by rw[pd,pb hj'];exact dm hj');exact this
       ·intro h x hx
        obtain⟨j,hj,rfl⟩:=cq hx;have:=h j (by rw[<-hVl];exact hj);rw[pd,pb hj]at this;exact this
      have HInt:Hid (∀v (x:Int),jT ((wx.setCell ⟨w.heap.size,0,none⟩ v).setCell ⟨w.heap.size,1,none⟩ (.int .i64 x)) (some ⟨w2.heap.size,0,none⟩) L):=fun v x=>by
       have zL4:w2.heap.size≠w.heap.size:=by have:=zJ HR2.out;omega
       exact((HIr.out.other (p:=⟨w.heap.size,0,none⟩) zL4 v).other (p:=⟨w.heap.size,1,none⟩) zL4 (.int .i64 x)).ints (by rw[HLn.out.1];omega)
      have HLl:=zA HLn.out.1;clear hVl hR5 HLn HIr HVr;go_wp2_with fail
      go_loop [87] (fun jv=>∃(j:Nat),j<=I.length/\jv=.int .i64 j/\Hid (∀i,i<j->V.getD i false=true)) (fun jv=>I.length-(intOf jv).toNat)
      case atStart=>exact⟨0,p7 _,rfl,zA (fun i hi=>absurd hi (Nat.not_lt_zero _))⟩
      case round =>
       obtain⟨j,hj,rfl,HJ⟩:=hrel;by_cases hjl:j<I.length
       ·have hjI:(j:Int)<(I.length:Int):=by omega
        have gc:=HCell.out j hjl
        cases hv:V.getD j false with
        | true =>
          rw[hv]at gc
          have HJ2:Hid (∀i,i<j+1->V.getD i false=true):=fun i hi=>by
           rcases md i j with h1|h1
           ·exact HJ.out i h1
           ·obtain rfl:i=j:=by omega
            exact hv
          clear hv HJ;go_wp2_with fail
          go_round
          case rel=>exact⟨j+1,by omega,by go_num,HJ2⟩
          case measure=>simp[intOf];omega
        | false =>
          rw[hv]at gc
          have HC10:Hid (xD I f=([],10)):=by
           have:=HCs.out;rw[tb (fun h=>by have:=HGo.out.1 h j hjl;rw[hv]at this;exact Bool.noConfusion this)]at this;exact this
          clear hv HJ;go_wp2_with fail
          refine pe (v:=.agg #[.slice none 0 0,.int .i64 10]) (results_cell_row Tryz.results60 _ _ w.heap.size 153 #[.slice none 0 0,.int .i64 10] (0,0) _ rfl (HFr.out _ _) Tryz.underlying153 rfl nH) rfl (cI HC10.out rfl (HBf.out _ _))
       ·have hjN:¬(j:Int)<(I.length:Int):=by omega
        have HC0':Hid (xD I f=(L,0)):=by
         have:=HCs.out;rw[tl (HGo.out.2 fun i hi=>HJ.out i (by omega))]at this;exact this
        clear HJ;go_wp2_with fail
        refine pe (v:=.agg #[.slice (some ⟨w2.heap.size,0,none⟩) I.length I.length,.int .i64 0]) (results_cell_row Tryz.results60 _ _ w.heap.size 153 #[.slice (some ⟨w2.heap.size,0,none⟩) I.length I.length,.int .i64 0] (0,0) _ rfl (HFr.out _ _) Tryz.underlying153 rfl nH) rfl ?_;exact⟨some ⟨w2.heap.size,0,none⟩,I.length,by rw[HC0'.out,HLl.out],by rw[HC0'.out];exact HInt.out _ _,HBf.out _ _⟩
def CC(k:Int)(O:World->Value->Value->Prop)(w w':World)(e:Ending):Prop :=
 ∃va vn vc na nn nc,e=.returned (.agg #[.slice va vn vc,.slice na nn nc,.int .i64 k])/\(k≠0->va=none/\vn=0/\na=none/\nn=0)/\(k=0->O w' (.slice va vn vc) (.slice na nn nc))/\Below w.heap.size w w'
theorem D4:(Tryz.prog.info? 115).map (·.size)=some 3:=by kernel_rfl
theorem zIJ(w:World)(b:Nat)(f:Bs)(I:List zQ)(O:World->Value->Value->Prop)(h0:w.cell? ⟨b,0,none⟩=some (.bool true))(hC:∀w',Below w.heap.size w w'->Calls Tryz.prog 60 #[.string ⟨f.toArray⟩,.pointer (some ⟨b,1,none⟩)] w' fun e w''=>Kv I f w' w'' e)
 (hO:∀w' ia ic,(xD I f).2=0->Below w.heap.size w w'->jT w' ia (xD I f).1->Calls Tryz.prog 61 #[.pointer (some ⟨b,1,none⟩),.slice ia (xD I f).1.length ic] w' fun e w''=>∃va vn vc na nn nc,e=.returned (.agg #[.slice va vn vc,.slice na nn nc])/\O w'' (.slice va vn vc) (.slice na nn nc)/\Below w'.heap.size w' w'')
 (hK:∀w' B v n,O w' v n->w'.heap[B]? = some (.cells #[.slice none 0 0,.slice none 0 0,.int .i64 0] 115 (0,0))->∀a c d,O (((w'.setCell ⟨B,0,none⟩ a).setCell ⟨B,1,none⟩ c).setCell ⟨B,2,none⟩ d) v n) :
 Calls Tryz.prog 46 #[.pointer (some ⟨b,0,none⟩),.string ⟨f.toArray⟩] w fun e w'=>CC (xD I f).2 O w w' e:=by
 have HC:=zA hC;have HO:=zA hO;have HK:=zA hK;have lb:=yF h0;have nb:w.heap.size≠b:=by omega
 have HCs:Hid (∀w' w'' e,Kv I f w' w'' e->∃a c,e=.returned (.agg #[.slice a (xD I f).1.length c,.int .i64 (xD I f).2])/\jT w'' a (xD I f).1/\Below w'.heap.size w' w''):=fun _ _ _ h=>h;clear hC hO hK;generalize zLN:xD I f=cs at *;obtain⟨L,k⟩:=cs;simp only at HO HCs ⊢;clear zLN
 go_enter Tryz.func46,Tryz.ntmps46
 go_wp2_with fail
 refine(HC.out _ (gb (j1 _) _)).mono ?_;intro e w1 hci;obtain⟨a,c,rfl,hints,hb1⟩:=HCs.out _ _ _ hci;have HB1:Hid (Below w.heap.size w w1):=(gb (j1 _) _).trans (hb1.mono (by simp));have HR1:Hid (w1.heap[w.heap.size]? = some (.cells #[.slice none 0 0,.slice none 0 0,.int .i64 0] 115 (0,0))):=(hb1.block _ (zV _ _)).trans (zG _ _);have HI1:=zA hints;have hs1:=HB1.out.size;have lr1:=zJ HR1.out;have nr1:w1.heap.size≠w.heap.size:=by omega
 have nr1':w.heap.size≠w1.heap.size:=by omega
 clear hci hints hb1 HC HCs;by_cases k0:k=0
 ·subst k0
  have HO1:Hid (∀w',Below w1.heap.size w1 w'->Calls Tryz.prog 61 #[.pointer (some ⟨b,1,none⟩),.slice a L.length c] w' fun e w''=>∃va vn vc na nn nc,e=.returned (.agg #[.slice va vn vc,.slice na nn nc])/\O w'' (.slice va vn vc) (.slice na nn nc)/\Below w'.heap.size w' w''):=fun w' hb=>HO.out w' a c rfl (HB1.out.trans (hb.mono HB1.out.size)) (HI1.out.below hb)
  have HAf:Hid (∀ob w4,Below (w1.alloc ob).heap.size (w1.alloc ob) w4->w4.heap[w.heap.size]? = some (.cells #[.slice none 0 0,.slice none 0 0,.int .i64 0] 115 (0,0))/\w4.heap[w1.heap.size]? = some ob/\Below w.heap.size w w4):=fun ob w4 hb=>by
   refine⟨?_,(hb.block _ (zV _ _)).trans (zG _ _),(HB1.out.alloc HB1.out.size ob).trans (hb.mono (by simp;omega))⟩;rw[hb.block _ (by simp;omega)];exact zS HR1.out
  clear HO
  go_upto_region 6 with fail
  go_region_held3 (fun w'=>w'.cell? ⟨w1.heap.size,0,none⟩=some (.slice a L.length c)) (go_keep) (
   (go_at_call 61;refine(HO1.out _ (pj (gb (j1 _) _))).mono ?_;rintro e w4 ⟨va,vn,vc,na,nn,nc,rfl,hout,hb4⟩;obtain⟨hR4,hX4,hB4⟩:=HAf.out _ w4 ((pj (tg _ _)).trans hb4);have u0:w4.cell? ⟨w1.heap.size,0,none⟩=some (.slice a L.length c):=(zB hX4 0).trans rfl;have z0:w4.cell? ⟨w.heap.size,0,none⟩=some (.slice none 0 0):=(zB hR4 0).trans rfl;have z1:w4.cell? ⟨w.heap.size,1,none⟩=some (.slice none 0 0):=(zB hR4 1).trans rfl;have z2:w4.cell? ⟨w.heap.size,2,none⟩=some (.int .i64 0):=(zB hR4 2).trans rfl;have y0:w4.frozen? ⟨w.heap.size,0,none⟩=false:=(by simp[World.frozen?,hR4]);have y1:w4.frozen? ⟨w.heap.size,1,none⟩=false:=(by simp[World.frozen?,hR4]);have y2:w4.frozen? ⟨w.heap.size,2,none⟩=false:=(by simp[World.frozen?,hR4])))
  all_goals
   have HFr:Hid ((((w4.setCell ⟨w.heap.size,0,none⟩ (.slice va vn vc)).setCell ⟨w.heap.size,1,none⟩ (.slice na nn nc)).setCell ⟨w.heap.size,2,none⟩ (.int .i64 0)).heap[w.heap.size]? = some (.cells #[.slice va vn vc,.slice na nn nc,.int .i64 0] 115 (0,0))):=by
    have q1:=tr w4 _ 0 _ _ (.slice va vn vc) hR4;have q2:=tr _ _ 1 _ _ (.slice na nn nc) q1;have q3:=tr _ _ 2 _ _ (.int .i64 0) q2;unfold Hid;rw[q3];simp
   have HBf:Hid (Below w.heap.size w (((w4.setCell ⟨w.heap.size,0,none⟩ (.slice va vn vc)).setCell ⟨w.heap.size,1,none⟩ (.slice na nn nc)).setCell ⟨w.heap.size,2,none⟩ (.int .i64 0))):=((hB4.setCell (by simp) _).setCell (by simp) _).setCell (by simp) _;have HOf:=zA (HK.out w4 w.heap.size _ _ hout hR4 (.slice va vn vc) (.slice na nn nc) (.int .i64 0));clear hout hR4 hX4;go_wp2_with fail
   refine pe (v:=.agg #[.slice va vn vc,.slice na nn nc,.int .i64 0]) (results_cell_row Tryz.results46 _ _ w.heap.size 115 #[.slice va vn vc,.slice na nn nc,.int .i64 0] (0,0) _ rfl HFr.out Tryz.underlying115 rfl D4) rfl ⟨va,vn,vc,na,nn,nc,rfl,fun h=>absurd rfl h,fun _=>HOf.out,HBf.out⟩
 ·have bk:(k==0)=false:=by simpa using k0
  have bk':(k != 0)=true:=by simpa using k0
  have hR1:=HR1.out;have z0:w1.cell? ⟨w.heap.size,0,none⟩=some (.slice none 0 0):=(zB hR1 0).trans rfl;have z1:w1.cell? ⟨w.heap.size,1,none⟩=some (.slice none 0 0):=(zB hR1 1).trans rfl;have z2:w1.cell? ⟨w.heap.size,2,none⟩=some (.int .i64 0):=(zB hR1 2).trans rfl;have y0:w1.frozen? ⟨w.heap.size,0,none⟩=false:=by simp[World.frozen?,hR1]
  have y1:w1.frozen? ⟨w.heap.size,1,none⟩=false:=by simp[World.frozen?,hR1]
  have y2:w1.frozen? ⟨w.heap.size,2,none⟩=false:=by simp[World.frozen?,hR1]
  have HFr:Hid (∀ob,((((w1.setCell ⟨w.heap.size,0,none⟩ (.slice none 0 0)).setCell ⟨w.heap.size,1,none⟩ (.slice none 0 0)).setCell ⟨w.heap.size,2,none⟩ (.int .i64 k)).alloc ob).heap[w.heap.size]? = some (.cells #[.slice none 0 0,.slice none 0 0,.int .i64 k] 115 (0,0))):=fun ob=>by
   have q1:=tr w1 _ 0 _ _ (.slice none 0 0) hR1;have q2:=tr _ _ 1 _ _ (.slice none 0 0) q1;have q3:=tr _ _ 2 _ _ (.int .i64 k) q2;refine(zS (x:=.cells #[.slice none 0 0,.slice none 0 0,.int .i64 k] 115 (0,0)) ?_);rw[q3];simp
  have HBf:Hid (∀ob,Below w.heap.size w ((((w1.setCell ⟨w.heap.size,0,none⟩ (.slice none 0 0)).setCell ⟨w.heap.size,1,none⟩ (.slice none 0 0)).setCell ⟨w.heap.size,2,none⟩ (.int .i64 k)).alloc ob)):=fun ob=>(((HB1.out.setCell (by simp) _).setCell (by simp) _).setCell (by simp) _).alloc (by simp;omega) ob;clear hR1 HO HK;go_wp2_with fail
  refine pe (v:=.agg #[.slice none 0 0,.slice none 0 0,.int .i64 k]) (results_cell_row Tryz.results46 _ _ w.heap.size 115 #[.slice none 0 0,.slice none 0 0,.int .i64 k] (0,0) _ rfl (HFr.out _) Tryz.underlying115 rfl D4) rfl ⟨none,0,0,none,0,0,rfl,fun _=>⟨rfl,rfl,rfl,rfl⟩,fun h=>absurd h k0,HBf.out _⟩
theorem zG0(w:World)(b:Nat)(f:Bs)(k:Int)(O:World->Value->Value->Prop)(hO:∀w w' v n,O w v n->Below w.heap.size w w'->O w' v n)(h:Calls Tryz.prog 46 #[.pointer (some ⟨b,0,none⟩),.string ⟨f.toArray⟩] w fun e w'=>CC k O w w' e) :
 Calls Tryz.prog 15 #[.pointer (some ⟨b,0,none⟩),.string ⟨f.toArray⟩] w fun e w'=>∃va vn vc na nn nc,e=.returned (.tuple #[.slice na nn nc,.int .i64 k])/\(k≠0->na=none/\nn=0)/\(k=0->O w' (.slice va vn vc) (.slice na nn nc))/\Below w.heap.size w w':=by
 have H:=zA h;have HO:=zA hO;clear h hO
 go_enter Tryz.func15,Tryz.ntmps15
 go_wp2_with fail
 refine H.out.mono ?_;rintro e w1 ⟨va,vn,vc,na,nn,nc,rfl,h1,h2,hb⟩;have HB:=zA hb;have hs:=hb.size;have H1:=zA h1;have H2:=zA h2;clear hb H h1 h2;go_wp2_with fail
 go_quiet (fail)
 go_wp2_with fail
 go_ret2
 exact⟨va,vn,vc,na,nn,nc,rfl,fun hk=>⟨(H1.out hk).2.2.1,(H1.out hk).2.2.2⟩,fun hk=>HO.out _ _ _ _ (H2.out hk) (xR (gb (j1 _) _) _),xR (HB.out.alloc hs _) _⟩
theorem QJ{a b:Int}(ha : -9<=a/\a<=9)(hb : -B<=b/\b<=B) : -(9*B)<=a*b/\a*b<=9*B:=by
 have h:a = -9\/a = -8\/a = -7\/a = -6\/a = -5\/a = -4\/a = -3\/a = -2\/a = -1\/a=0\/a=1\/a=2\/a=3\/a=4\/a=5\/a=6\/a=7\/a=8\/a=9:=by omega
 rcases h with rfl|rfl|rfl|rfl|rfl|rfl|rfl|rfl|rfl|rfl|rfl|rfl|rfl|rfl|rfl|rfl|rfl|rfl|rfl <;> omega
theorem Xa{l:List Int}(hB:0<=B)(h:∀i,-B<=l.getD i 0/\l.getD i 0<=B)(a:Int) : -B<=qI l a/\qI l a<=B:=by
 unfold qI;split
 ·exact h _
 ·omega
def zj(p:lX):Prop:=(p.kind=1 -> -9999<=p.num/\p.num<=9999)/\(p.kind=2\/p.kind=3 -> -9<=p.num/\p.num<=9)
theorem ZN(hB:9999<=B)(hi:∀i,-B<=s.inputs.getD i 0/\s.inputs.getD i 0<=B)(hv:∀i,-B<=s.values.getD i 0/\s.values.getD i 0<=B){p:lX}(hp:zj p) : -(9*B)<=lQ s p/\lQ s p<=9*B:=by
 unfold lQ;by_cases k1:p.kind=1
 ·rw[tl k1];have:=hp.1 k1;omega
 ·rw[tb k1]
  by_cases k2:p.kind=2
  ·rw[tl k2];exact QJ (hp.2 (.inl k2)) (Xa (by omega) hi _)
  ·rw[tb k2]
   by_cases k3:p.kind=3
   ·rw[tl k3];exact QJ (hp.2 (.inr k3)) (Xa (by omega) hv _)
   ·rw[tb k3];omega
theorem KC(hB:9999<=B)(hi:∀i,-B<=s.inputs.getD i 0/\s.inputs.getD i 0<=B)(hv:∀i,-B<=s.values.getD i 0/\s.values.getD i 0<=B)(l:List lX):(∀p∈l,zj p)->∀n m:Int,-m<=n/\n<=m -> -(m+l.length*(9*B))<=bL s l n/\bL s l n<=m+l.length*(9*B):=by
 induction l with
 | nil=>intro _ n m h;rw[bL];simp;exact h
 | cons p r ih =>
   intro hp n m h;rw[bL];have h1:=ZN hB hi hv (hp p (by simp));have h2:=ih (fun q hq=>hp q (by simp[hq])) (n+lQ s p) (m+9*B) (by omega);simp only[pf];have e:((r.length+1:Nat):Int)*(9*B)=(r.length:Int)*(9*B)+9*B:=by rw[Int.natCast_add,Int.add_mul];simp
   rw[e];omega
theorem qs(ins cs:List Bs){x:xE}(hn:0<=x.num/\x.num<=9999)(hs:x.starred=true->x.num<=9):zj (xT ins cs x):=by
 have hk:(xT ins cs x).kind=JD ins x:=rfl;have hm:(xT ins cs x).num=if x.minus then -U4 x else U4 x:=rfl;by_cases h0:x.name=[]
 ·have h1:JD ins x=1:=by unfold JD;rw[tl h0]
  have h2:U4 x=x.num:=by unfold U4;rw[tl h0]
  refine⟨fun _=>?_,fun h=>?_⟩
  ·rw[hm,h2];split <;> omega
  ·rw[hk,h1]at h;omega
 ·have h1:JD ins x≠1:=by unfold JD;rw[tb h0];split <;> decide
  have h2:0<=U4 x/\U4 x<=9:=by
   unfold U4;rw[tb h0];by_cases h3:x.starred=true
   ·rw[tl h3];exact⟨hn.1,hs h3⟩
   ·rw[tb h3];decide
  refine⟨fun h=>absurd (hk ▸ h) h1,fun _=>?_⟩;rw[hm];split <;> omega
theorem UL(hB:9999<=B)(hi:∀i,-B<=s.inputs.getD i 0/\s.inputs.getD i 0<=B)(hv:∀i,-B<=s.values.getD i 0/\s.values.getD i 0<=B)(l:List lX)(hl:l.length<=4)(hp:∀p∈l,zj p) : -(36*B)<=eR s l/\eR s l<=36*B:=by
 have h:=KC hB hi hv l hp 0 0 (by omega);have e:(l.length:Int)*(9*B)<=4*(9*B):=Int.mul_le_mul_of_nonneg_right (by omega) (by omega);unfold eR;omega
structure wN(ls:List zE)(inp:List Int):Prop where
 num:∀x∈ls,x.kind=3->∀p∈x.sum,0<=p.num/\p.num<=9999
 inp:∀i,-9999<=inp.getD i 0/\inp.getD i 0<=9999
theorem qp{inp:List Int}(h:vL ls)(hs:wN ls inp){r:Nat}(hr:r<(fQ ls).length):(sP ls r).sum.length<=4/\∀p∈(sP ls r).sum,zj p:=by
 obtain⟨hm,hk⟩:=Bc (uh hr);obtain⟨h4,h9⟩:=h.sums hm hk;refine⟨by show (((fQ ls).getD r Ym).sum.map _).length<=4;rw[pi];exact h4,fun p hp=>?_⟩;obtain⟨q,hq,rfl⟩:=p9.1 hp;exact qs _ _ (hs.num _ hm hk q hq) (h9 q hq)
theorem KZ{H:Nat}{f:Nat->Int}(hB:0<=B)(h:∀c,-B<=f c/\f c<=B)(i:Nat) : -B<=((List.range H).map f).getD i 0/\((List.range H).map f).getD i 0<=B:=by
 by_cases hi:i<H
 ·simp[List.getD,hi];exact h i
 ·simp[List.getD,hi];omega
theorem GZ{inp:List Int}(h:vL ls)(hs:wN ls inp)(r:Nat)(f:Nat->Int)(B:Int)(hr:r<(vH ls inp h).n)(hB:9999<=B)(hf:∀c,-B<=f c/\f c<=B) : -(36*B)<=(vH ls inp h).sum r f/\(vH ls inp h).sum r f<=36*B:=by
 obtain⟨h1,h2⟩:=qp h hs hr;exact UL (s:=⟨inp,[],(List.range (zO ls).length).map f⟩) hB (fun i=>by have:=hs.inp i;show -B<=inp.getD i 0/\inp.getD i 0<=B;omega) (fun i=>KZ (by omega) hf i) _ h1 h2
theorem XR{inp:List Int}(h:vL ls)(hs:wN ls inp)(k c:Nat) : -(jF k)<=lL (vH ls inp h) k c/\lL (vH ls inp h) k c<=jF k:=UC _ (GZ h hs) k c
theorem FH(hB:9999<=B)(h9:9*B<=fM)(hi:∀i,-B<=s.inputs.getD i 0/\s.inputs.getD i 0<=B)(hv:∀i,-B<=s.values.getD i 0/\s.values.getD i 0<=B){l:List lX}(hl:l.length<=4)(hp:∀p∈l,zj p):YH s l:=⟨hl,fun p hq=>by
 have:=ZN hB hi hv (hp p hq);omega⟩
structure eL(F:List zE)(rs:List MX):Prop where
 calm:vL F
 rul:rs.map Prod.fst=uQ ((zX F).map zQ.name) ((yY F).map Prod.fst) F
theorem FX(h:vL F):(yY F).map Prod.fst=zO F:=by
 rw[iJ F h.heads h.nam];unfold XG;rw[List.map_map];refine List.ext_getElem (by simp) fun i h1 h2=>?_;simp only[List.getElem_map,List.getElem_range,Function.comp];rw[pd,pb h2];rfl
theorem Yr(h:vL F):(yY F).length=(zO F).length:=by rw[iJ F h.heads h.nam,GI]
theorem zI7(h:vL F){c:Nat}(hc:c<(zO F).length):(yY F).getD c ([],0)=((zO F).getD c [],dQ (qM (zO F) F gZ) c):=by
 rw[iJ F h.heads h.nam];unfold XG;simp[List.getD,hc]
theorem eL.len(h:eL F rs):rs.length=(fQ F).length:=by
 have:=congrArg List.length h.rul;rw[pi,rX,pi]at this;exact this
theorem eL.at(h:eL F rs){r:Nat}(hr:r<rs.length):(jH rs r).1=sP F r:=by
 have e:=congrArg (fun l=>l[r]?) h.rul;rw[rX,FX h.calm,List.getElem?_map,List.getElem?_map]at e;have hr2:r<(fQ F).length:=by rw[<-h.len];exact hr
 rw[pb hr,pb hr2]at e;simp only[Option.map_some,ld]at e;unfold jH sP;rw[pd,pb hr,pd,pb hr2];exact e
theorem eL.hear(h:eL F rs)(inp:List Int)(K:HK)(k1:K.R=rs.length)(k2:K.C=(yY F).length)(k3:K.inp=inp):DT K (vH F inp h.calm) rs (yB (uW (vD F) F gZ)):=by
 have hl:=h.len;have h8:=h.calm.rules;rw[<-Bd,<-hl,<-k1]at h8;have kC:K.C=(zO F).length:=by rw[k2,Yr h.calm]
 refine⟨by rw[k1,hl];rfl,fun r hr=>?_,fun r hr f v=>?_,fun r hr hh f=>?_,fun k r hk hr=>?_⟩
 ·rw[h.at (by omega)]
  exact(sJ (by omega)).1
 ·rw[h.at (by omega),k3,kC]
  exact XP (sP F r) _ inp v [] f f (fun _ _=>rfl)
 ·rw[h.at (by omega),k3,kC]
  exact YI (sP F r) _ inp hh [] f f (fun _ _=>rfl)
 ·rw[Jr]
  unfold nK;simp only[Int.toNat_natCast];rw[tu (by omega),tu (by omega),tu (by omega),tu (by omega)];simp
theorem eL.lev(h:eL F rs)(inp:List Int):∀c,c<(yY F).length->(vH F inp h.calm).lev c=((yY F).getD c ([],0)).2:=fun c hc=>by
 rw[Yr h.calm]at hc;rw[zI7 h.calm hc];rfl
theorem eL.nm(h:eL F rs)(inp:List Int):∀r c,r<(vH F inp h.calm).n->(vH F inp h.calm).nm r c->c<(yY F).length:=fun r c hr hn=>by
 rw[Yr h.calm];exact(B5 h.calm hr hn).1
theorem Bn:∀a b,a<=b->jF a<=jF b:=by
 intro a b h
 induction h with
 | refl=>exact lh _
 | step h ih=>rw[jF];rename_i m;have:=fS m;omega
theorem eL.ok(h:eL F rs){inp:List Int}(hs:wN F inp):∀S s,jD (vH F inp h.calm) S s->∀r,r<rs.length->YH ⟨inp,(List.range (yY F).length).map s.has,(List.range (yY F).length).map s.val⟩ (jH rs r).1.sum:=fun S s ho r hr=>by
 have hr2:r<(fQ F).length:=by rw[<-h.len];exact hr
 rw[h.at hr];obtain⟨m1,m2⟩:=qp h.calm hs hr2;have h9:9*jF 8<=fM:=by decide
 refine FH (fS 8) h9 (fun i=>?_) (fun i=>?_) m1 m2
 ·have:=hs.inp i;have:=fS 8
  show -jF 8<=inp.getD i 0/\inp.getD i 0<=jF 8;omega
 ·by_cases hi:i<(yY F).length
  ·have e:((List.range (yY F).length).map s.val).getD i 0=s.val i:=by simp[List.getD,hi]
   show -jF 8<=((List.range (yY F).length).map s.val).getD i 0/\((List.range (yY F).length).map s.val).getD i 0<=jF 8;rw[e];by_cases hS:S i
   ·rw[(ho.val i).1 hS]
    have hb:=XR h.calm hs ((vH F inp h.calm).lev i+1) i
    have hlv:(vH F inp h.calm).lev i+1<=8:=by
     have:dQ (qM (zO F) F gZ) i<=7:=QL _ 7 i;show dQ (qM (zO F) F gZ) i+1<=8;omega
    have:=Bn _ _ hlv;omega
   ·rw[(ho.val i).2 hS];have:=fS 8;omega
  ·have e:((List.range (yY F).length).map s.val).getD i 0=0:=by simp[List.getD,hi]
   show -jF 8<=((List.range (yY F).length).map s.val).getD i 0/\((List.range (yY F).length).map s.val).getD i 0<=jF 8;rw[e];have:=fS 8;omega
def zJM(rs:List MX)(s:vV):List Value:=(List.range rs.length).flatMap fun r=>[.string ⟨(jH rs r).1.label.toArray⟩,.int .i64 (s.vd r)]
def zGP(Cs:List (Bs × Nat))(s:vV):List Value:=(List.range Cs.length).flatMap fun c=>[.string ⟨(Cs.getD c ([],0)).1.toArray⟩,.int .i64 (s.st c),.int .i64 (s.av c)]
def wQ(rs:List MX)(Cs:List (Bs × Nat))(s:vV)(w:World)(v n:Value):Prop:=(∃a c,v=.slice a rs.length c/\yZ w 51 a (zJM rs s))/\(∃a c,n=.slice a Cs.length c/\yZ w 55 a (zGP Cs s))
theorem wQ.below{s:vV}{v n:Value}(h:wQ rs Cs s w v n)(hb:Below w.heap.size w w'):wQ rs Cs s w' v n:=by
 obtain⟨⟨a,c,e,h1⟩,⟨a',c',e',h2⟩⟩:=h;exact⟨⟨a,c,e,h1.below hb⟩,⟨a',c',e',h2.below hb⟩⟩
theorem wQ.keep{s:vV}{v n:Value}(h:wQ rs Cs s w v n){B:Nat}(hB:w.heap[B]? = some (.cells #[.slice none 0 0,.slice none 0 0,.int .i64 0] 115 (0,0)))(x y z:Value):wQ rs Cs s (((w.setCell ⟨B,0,none⟩ x).setCell ⟨B,1,none⟩ y).setCell ⟨B,2,none⟩ z) v n:=by
 have q1:=tr w _ 0 _ _ x hB;have q2:=tr _ _ 1 _ _ y q1;obtain⟨⟨a,c,e,h1⟩,⟨a',c',e',h2⟩⟩:=h;exact⟨⟨a,c,e,((h1.set hB (by decide)).set q1 (by decide)).set q2 (by decide)⟩,⟨a',c',e',((h2.set hB (by decide)).set q1 (by decide)).set q2 (by decide)⟩⟩
theorem QB{g n:Nat}{t:TypeId}{f:Nat->Value}{xs:List Value}(h:vY w g t n f)(hl:xs.length=n)(hx:∀j,j<n->xs[j]? = some (f j)):yZ w t (some ⟨g,0,none⟩) xs:=by
 obtain⟨cs,h1,h2⟩:=h;exact .inr ⟨g,cs,_,rfl,h1,fun j hj=>by rw[h2 j (by omega),hx j (by omega)]⟩
theorem zCE(rs:List MX)(s:vV)(j:Nat)(hj:j<2*rs.length):(zJM rs s)[j]? = some (if j%2=0 then .string ⟨(jH rs (j/2)).1.label.toArray⟩ else .int .i64 (s.vd (j/2))):=by
 have h:=zN (fun r=>[Value.string ⟨(jH rs r).1.label.toArray⟩,.int .i64 (s.vd r)]) 2 (fun _=>rfl) 0 (List.range rs.length) (j/2) (j%2) (by simp;omega) (by omega);rw[show j/2*2+j%2=j by omega,cO rs.length (j/2) (by omega)]at h;unfold zJM;rw[h];by_cases h0:j%2=0
 ·rw[h0];rfl
 ·rw[show j%2=1 by omega];rfl
theorem zFQ(Cs:List (Bs × Nat))(s:vV)(j:Nat)(hj:j<3*Cs.length):(zGP Cs s)[j]? = some (if j%3=0 then .string ⟨(Cs.getD (j/3) ([],0)).1.toArray⟩ else if j%3=1 then .int .i64 (s.st (j/3)) else .int .i64 (s.av (j/3))):=by
 have h:=zN (fun c=>[Value.string ⟨(Cs.getD c ([],0)).1.toArray⟩,.int .i64 (s.st c),.int .i64 (s.av c)]) 3 (fun _=>rfl) 0 (List.range Cs.length) (j/3) (j%3) (by simp;omega) (by omega);rw[show j/3*3+j%3=j by omega,cO Cs.length (j/3) (by omega)]at h;unfold zGP;rw[h];by_cases h0:j%3=0
 ·rw[h0];rfl
 ·rw[tb h0]
  by_cases h1:j%3=1
  ·rw[h1];rfl
  ·rw[tb h1,show j%3=2 by omega];rfl
theorem zCD(rs:List MX)(s:vV):(zJM rs s).length=2*rs.length:=by unfold zJM;rw[dC _ 2 (fun _=>rfl)];simp;omega
theorem zFP(Cs:List (Bs × Nat))(s:vV):(zGP Cs s).length=3*Cs.length:=by unfold zGP;rw[dC _ 3 (fun _=>rfl)];simp;omega
theorem zJH.out{A:pA}{e:Ending}(h:zJH A rs Cs w w' e):∃va vn vc na nn nc,e=.returned (.agg #[.slice va vn vc,.slice na nn nc])/\wQ rs Cs (xH A Cs.length Cs.length 0 h0) w' (.slice va vn vc) (.slice na nn nc)/\Below w.heap.size w w':=by
 obtain⟨K,k1,k2,k3,k4,rfl,hM,hb⟩:=h;refine⟨_,_,_,_,_,_,rfl,⟨⟨_,K.cD,by rw[k3],QB hM.rD (by rw[zCD,k3]) fun j hj=>?_⟩,⟨_,K.cN,by rw[k4],QB hM.rN (by rw[zFP,k4]) fun j hj=>?_⟩⟩,hb⟩
 ·rw[zCE rs _ j (by rw[<-k3];exact hj)];unfold zG2;rw[k1]
 ·rw[zFQ Cs _ j (by rw[<-k4];exact hj)];unfold zBK;rw[k2]
theorem zFV(w:World)(b o:Nat)(ia:Option Addr)(ic il:Nat)(ra ca:Option Addr)(rc cc:Nat)(R C:Nat)(hR:R=0)(hC:C=0)(hc0:w.cell? ⟨b,o+1,none⟩=some (.slice ca C cc))(hr0:w.cell? ⟨b,o+2,none⟩=some (.slice ra R rc)) :
 Calls Tryz.prog 61 #[.pointer (some ⟨b,o,none⟩),.slice ia il ic] w fun e w'=>e=.returned (.agg #[.slice none 0 0,.slice none 0 0])/\Below w.heap.size w w':=by
 have iR:¬((0:Int)<(R:Int)):=by omega
 have iC:¬((0:Int)<(C:Int)):=by omega
 have hbl:=yF hc0;have nb:w.heap.size≠b:=by omega
 have hmB:=run_make_row' (P:=Tryz.prog) 166 4 (.bool false) 1 Tryz.underlying166 dA rfl .i64 .i64 R (by omega) (by omega);have hmH:=run_make_row' (P:=Tryz.prog) 166 4 (.bool false) 1 Tryz.underlying166 dA rfl .i64 .i64 C (by omega) (by omega);have hmV:=run_make_row' (P:=Tryz.prog) 22 3 (.int .i64 0) 8 Tryz.underlying22 fZ rfl .i64 .i64 C (by omega) (by omega);rw[cU]at hmB hmH;rw[sF]at hmV;clear hR hC;have HCr:Hid (∀wr,Below w.heap.size w wr->wr.cell? ⟨b,o+2,none⟩=some (.slice ra R rc)/\wr.cell? ⟨b,o+1,none⟩=some (.slice ca C cc)):=fun wr hb=>⟨by rw[hb.cell (p:=⟨b,o+2,none⟩) (yF hr0)];exact hr0,by rw[hb.cell (p:=⟨b,o+1,none⟩) (yF hc0)];exact hc0⟩
 go_enter Tryz.func61,Tryz.ntmps61
 go_upto_region 3 with fail
 obtain⟨w3,hw3⟩:∃w3,w3=((w.alloc (Obj.cells #[Value.slice none 0 0,Value.slice none 0 0] 113)).alloc (Obj.cells (gC (List.replicate R false)) 4)).alloc (Obj.cells #[Value.pointer (some ⟨b,o,none⟩),Value.slice none 0 0,Value.slice none 0 0,Value.slice none 0 0,Value.slice (some ⟨w.heap.size+1,0,none⟩) R R,Value.slice none 0 0,Value.slice none 0 0] 206):=⟨_,rfl⟩;rw[<-hw3];have x0:w3.heap[w.heap.size]? = some (Obj.cells #[Value.slice none 0 0,Value.slice none 0 0] 113):=by rw[hw3];exact zS (zS (zG _ _))
 have x1:w3.heap[w.heap.size+1]? = some (Obj.cells (gC (List.replicate R false)) 4):=by rw[hw3];exact zS (yS _ _ _ (by simp))
 have x2:w3.heap[w.heap.size+1+1]? = some (Obj.cells #[Value.pointer (some ⟨b,o,none⟩),Value.slice none 0 0,Value.slice none 0 0,Value.slice none 0 0,Value.slice (some ⟨w.heap.size+1,0,none⟩) R R,Value.slice none 0 0,Value.slice none 0 0] 206):=by rw[hw3];exact yS _ _ _ (by simp)
 have hs3:w3.heap.size=w.heap.size+1+1+1:=by rw[hw3];simp
 have HB3:Hid (Below w.heap.size w w3):=by unfold Hid;rw[hw3];exact((gb (j1 _) _).alloc (by simp) _).alloc (by simp;omega) _
 have l2:w.heap.size+1+1<w3.heap.size:=by omega
 have HQ:Hid (∀A B:Obj,((w3.alloc A).alloc B).heap[w.heap.size+1+1]? = some (Obj.cells #[Value.pointer (some ⟨b,o,none⟩),Value.slice none 0 0,Value.slice none 0 0,Value.slice none 0 0,Value.slice (some ⟨w.heap.size+1,0,none⟩) R R,Value.slice none 0 0,Value.slice none 0 0] 206)):=fun A B=>zS (zS x2);have f21:∀A B:Obj,((w3.alloc A).alloc B).frozen? ⟨w.heap.size+1+1,1,none⟩=false:=fun A B=>by simp[World.frozen?,HQ.out A B]
 have f22:∀A B:Obj,((w3.alloc A).alloc B).frozen? ⟨w.heap.size+1+1,2,none⟩=false:=fun A B=>by simp[World.frozen?,HQ.out A B]
 have f23:∀A B:Obj,((w3.alloc A).alloc B).frozen? ⟨w.heap.size+1+1,3,none⟩=false:=fun A B=>by simp[World.frozen?,HQ.out A B]
 have c21:∀A B:Obj,((w3.alloc A).alloc B).cell? ⟨w.heap.size+1+1,1,none⟩=some (.slice none 0 0):=fun A B=>(zB (HQ.out A B) 1).trans rfl;have c22:∀A B:Obj,((w3.alloc A).alloc B).cell? ⟨w.heap.size+1+1,2,none⟩=some (.slice none 0 0):=fun A B=>(zB (HQ.out A B) 2).trans rfl;have c23:∀A B:Obj,((w3.alloc A).alloc B).cell? ⟨w.heap.size+1+1,3,none⟩=some (.slice none 0 0):=fun A B=>(zB (HQ.out A B) 3).trans rfl;clear hw3 hs3;have HX0:=zA x0;have HX1:=zA x1;have HX2:=zA x2
 go_cut [6] from 27 to 97 (fun v6 wx=>v6=.pointer (some ⟨w.heap.size+1+1,0,none⟩)/\∃gH gV,Hid (ZA w wx b o (.slice ia il ic) R C gH gV (.slice none 0 0) (.slice none 0 0)))
 case first =>
  go_region
  all_goals
   go_wp2_with fail
   go_meet
  ·exact⟨rfl,w3.heap.size,w3.heap.size+1,zA (ZA.fresh HX0.out HX1.out HX2.out HB3.out ((gb (j1 _) _).alloc (by simp) _) (zS (zG _ _)) (yS _ _ _ (by simp)) (by omega) (by omega) (by omega))⟩
  ·exact⟨rfl,w3.heap.size+1,w3.heap.size,zA (ZA.fresh HX0.out HX1.out HX2.out HB3.out ((gb (j1 _) _).alloc (by simp) _) (yS _ _ _ (by simp)) (zS (zG _ _)) (by omega) (by omega) (by omega))⟩
 case rest =>
  obtain⟨rfl,gH,gV,HS⟩:=hcut;clear HX0 HX1 HX2 HB3 x0 x1 x2 l2 HQ f21 f22 f23 c21 c22 c23 hmB hmH hmV;obtain⟨m1,m2⟩:=HCr.out wc HS.out.bel;have hd:=HS.out.hd;unfold jx at hd;have d5:wc.cell? ⟨w.heap.size+1+1,5,none⟩=some (.slice none 0 0):=(zB hd 5).trans rfl;have d6:wc.cell? ⟨w.heap.size+1+1,6,none⟩=some (.slice none 0 0):=(zB hd 6).trans rfl;have hres:=HS.out.res;have z0:wc.cell? ⟨w.heap.size,0,none⟩=some (.slice none 0 0):=(zB hres 0).trans rfl;have z1:wc.cell? ⟨w.heap.size,1,none⟩=some (.slice none 0 0):=(zB hres 1).trans rfl;have y0:wc.frozen? ⟨w.heap.size,0,none⟩=false:=by simp[World.frozen?,hres]
  have y1:wc.frozen? ⟨w.heap.size,1,none⟩=false:=by simp[World.frozen?,hres]
  have HFr:Hid (((wc.setCell ⟨w.heap.size,0,none⟩ (.slice none 0 0)).setCell ⟨w.heap.size,1,none⟩ (.slice none 0 0)).heap[w.heap.size]? = some (.cells #[.slice none 0 0,.slice none 0 0] 113 (0,0))):=by
   have q1:=tr wc _ 0 _ _ (.slice none 0 0) hres;have q2:=tr _ _ 1 _ _ (.slice none 0 0) q1;unfold Hid;rw[q2];simp
  have HBf:Hid (Below w.heap.size w ((wc.setCell ⟨w.heap.size,0,none⟩ (.slice none 0 0)).setCell ⟨w.heap.size,1,none⟩ (.slice none 0 0))):=(HS.out.bel.setCell (by simp) _).setCell (by simp) _;clear hd hres;go_wp2_with fail
  go_loop [39] (fun iv=>iv=.int .i64 0) (fun _=>0)
  case atStart=>rfl
  case round =>
   obtain rfl:=hrel;go_wp2_with fail
   go_loop [59] (fun iv=>iv=.int .i64 0) (fun _=>0)
   case atStart=>rfl
   case round =>
    obtain rfl:=hrel;go_wp2_with fail
    go_loop [11] (fun iv=>iv=.int .i64 0) (fun _=>0)
    case atStart=>rfl
    case round =>
     obtain rfl:=hrel;go_wp2_with fail
     refine pe (v:=.agg #[.slice none 0 0,.slice none 0 0]) (results_cell_row Tryz.results61 _ _ w.heap.size 113 #[.slice none 0 0,.slice none 0 0] (0,0) _ rfl HFr.out Tryz.underlying113 rfl V9) rfl ⟨rfl,HBf.out⟩
theorem bA.inpF{b:Nat}(h:bA w b F rs):zKS w b 1 (zX F):=by
 obtain⟨iv,cv,rv,h1,h2⟩:=h.there;obtain⟨a,c,e,hc⟩:=h2.inp;obtain⟨-,g1,-,-⟩:=Kd iv cv rv (yB (uW (vD F) F gZ));exact⟨⟨a,c,by rw[<-e];exact(zB h1 1).trans g1,hc⟩,h2.few1⟩
theorem bA.modA{b:Nat}(h:bA w b F rs)(hc:vL F):eL F rs:=⟨hc,h.rul⟩
theorem eL.few(h:eL F rs):rs.length<=8/\(yY F).length<=rs.length/\(0<rs.length->0<(yY F).length):=by
 have h1:=h.len;have h2:=h.calm.rules;have h3:=X2 F;rw[<-Bd]at h2 h3;rw[Yr h.calm];refine⟨by omega,by omega,fun h0=>?_⟩;have:=(sJ (ls:=F) (r:=0) (by omega)).2;omega
theorem bA.modF{b:Nat}(h:bA w b F rs)(hc:vL F){ia:Option Addr}{inp:List Int}(hi:jT w ia inp):zKR w b 1 ia inp rs (yB (uW (vD F) F gZ)) (yY F):=by
 obtain⟨iv,cv,rv,h1,h2⟩:=h.there;obtain⟨a,c,e,zLQ⟩:=h2.con;obtain⟨a',c',e',hrr⟩:=h2.rul;obtain⟨-,-,g2,g3,g4⟩:=Kd iv cv rv (yB (uW (vD F) F gZ));obtain⟨f1,f2,-⟩:=(h.modA hc).few;have hG:(yB (uW (vD F) F gZ)).length=64:=by unfold yB;rw[oD,lT];exact xK
 refine⟨⟨a,c,by rw[<-e];exact(zB h1 2).trans g2,zLQ⟩,⟨a',c',by rw[<-e'];exact(zB h1 3).trans g3,hrr⟩,h2.rows,fun k hk=>?_,hi,by omega,by omega⟩;rw[show 1+3+k=4+k by omega];exact(zB h1 (4+k)).trans (g4 k (by omega))
theorem GP(w:World)(b:Nat)(F:List zE)(rs:List MX)(f:Bs)(hmax:f.length<=maxLen)(hB:bA w b F rs)(hc:vL F)(hs:(xD (zX F) f).2=0->wN F (xD (zX F) f).1) :
 Calls Tryz.prog 46 #[.pointer (some ⟨b,0,none⟩),.string ⟨f.toArray⟩] w fun e w'=>CC (xD (zX F) f).2 (wQ rs (yY F) (xH (vH F (xD (zX F) f).1 hc) (yY F).length (yY F).length 0 h0)) w w' e:=by
 have h0:w.cell? ⟨b,0,none⟩=some (.bool true):=by
  obtain⟨iv,cv,rv,h1,_⟩:=hB.there;exact(zB h1 0).trans (Kd iv cv rv _).1
 have hA:=hB.modA hc;obtain⟨f1,f2,f3⟩:=hA.few;refine zIJ w b f (zX F) _ h0 (fun w' hb=>zFZ w' f hmax b 1 (zX F) (hB.below hb).inpF) (fun w' ia ic hk hb hi=>?_) (fun w' B v n ho hR a c d=>ho.keep hR a c d);have hF:=(hB.below hb).modF hc hi;by_cases hR:0<rs.length
 ·refine(Of_s w' b 1 ia ic _ rs _ (yY F) hF hR (f3 hR) (vH F (xD (zX F) f).1 hc) (fun K k1 k2 k3=>hA.hear _ K k1 k2 k3) (hA.lev _) (hA.nm _) (hA.ok (hs hk))).mono ?_
  intro e w'' h;exact h.out
 ·obtain⟨ca,cc,hc0,_⟩:=hF.con
  obtain⟨ra,rc,hr0,_⟩:=hF.rul;have e1:rs.length=0:=by omega
  have e2:(yY F).length=0:=by omega
  refine(zFV w' b 1 ia ic _ ra ca rc cc rs.length (yY F).length e1 e2 hc0 hr0).mono ?_;rintro e w'' ⟨rfl,hb'⟩;refine⟨none,0,0,none,0,0,rfl,⟨⟨none,0,by rw[e1],.inl ?_⟩,⟨none,0,by rw[e2],.inl ?_⟩⟩,hb'⟩
  ·unfold zJM;rw[e1];rfl
  ·unfold zGP;rw[e2];rfl
theorem GQ(w:World)(b:Nat)(F:List zE)(rs:List MX)(f:Bs)(hmax:f.length<=maxLen)(hB:bA w b F rs)(hc:vL F)(hs:(xD (zX F) f).2=0->wN F (xD (zX F) f).1) :
 Calls Tryz.prog 15 #[.pointer (some ⟨b,0,none⟩),.string ⟨f.toArray⟩] w fun e w'=>∃va vn vc na nn nc,e=.returned (.tuple #[.slice na nn nc,.int .i64 (xD (zX F) f).2])/\((xD (zX F) f).2≠0->na=none/\nn=0)/\((xD (zX F) f).2=0->wQ rs (yY F) (xH (vH F (xD (zX F) f).1 hc) (yY F).length (yY F).length 0 h0) w' (.slice va vn vc) (.slice na nn nc))/\Below w.heap.size w w' :=
 zG0 w b f _ _ (fun _ _ _ _ h hb=>h.below hb) (GP w b F rs f hmax hB hc hs)
end Go.Proofs.YtnbpdffdnphbeabGreatDoor
