import Derived.Test.YtnbpdffdnphbeabGreatDoorFView
set_option maxHeartbeats 4000000
set_option maxRecDepth 100000
namespace Go.Proofs.YtnbpdffdnphbeabGreatDoor
open Go.RowKit
variable{G:List Bool}{g:Nat}{w:World}
theorem zDX:(Tryz.prog.info? 46).map (·.size)=some 64:=by kernel_rfl
theorem aU(h:G.length=64):(Tryz.prog.info? 46).map (·.size)=some (gC G).size:=by rw[xK,h];exact zDX
def JH(w:World)(g:Nat)(G:List Bool):Prop:=w.heap[g]? = some (.cells (gC G) 46 (0,0))/\G.length=64
theorem JH.cell(h:JH w g G){k:Nat}(hk:k<64):w.cell? ⟨g,k,none⟩=some (.bool (G.getD k false)):=by
 simp only[World.cell?,h.1];exact ZC (by rw[h.2];exact hk)
theorem JH.set(h:JH w g G)(k:Nat):JH (w.setCell ⟨g,k,none⟩ (.bool true)) g (G.set k true):=by
 refine⟨?_,by rw[co];exact h.2⟩;rw[setCell_eq_setRow w g k _ _ _ _ h.1];have:=lq w g (gC G) ((gC G).setIfInBounds k (.bool true)) _ _ h.1;rw[this];congr 2
 simp[gC,List.map_set]
theorem JH.free(h:JH w g G)(k:Nat):w.frozen? ⟨g,k,none⟩=false:=by simp[World.frozen?,h.1]
structure zCM(w w':World)(G:List Bool):Prop where
 gr:JH w' (w.heap.size+1) G
 res:w'.heap[w.heap.size]? = some (.cells (gC gZ) 46 (0,0))
 bel:Below w.heap.size w w'
theorem zCM.set{w':World}(h:zCM w w' G)(k:Nat):zCM w (w'.setCell ⟨w.heap.size+1,k,none⟩ (.bool true)) (G.set k true) :=
 ⟨h.gr.set k,uQ h.res (by omega),h.bel.setCell (p:=⟨w.heap.size+1,k,none⟩) (by show w.heap.size<=w.heap.size+1;omega) _⟩
theorem Kt{M:zT}{rv hv:Value}(h:uT w g M.lo M.hi rv M.over hv):w.rangeAt g 7 (gC (jW M)).toList:=fun j u hu=>by
 have hl:=fO M
 have hj:j<64:=by
  have:=(List.getElem?_eq_some_iff.1 hu).1;rw[Array.length_toList,xK,hl]at this;exact this
 rw[d9,ZC (by omega)]at hu;have h1:=h.cells.2.2.2.1 (j/8) (j%8) (by omega) (by omega);have h2:=Ub M (a:=j/8) (b:=j%8) (by omega) (by omega);unfold gA at h2;rw[show j/8*8+j%8=j by omega]at h2;rw[h2]at hu;rw[<-hu,<-h1];congr 2
 omega
theorem FZ(w:World)(g:Nat)(M:zT)(hM:pC w g M) :
 Calls Tryz.prog 47 #[.pointer (some ⟨g,0,none⟩)] w fun e w'=>e=.returned (.agg (gC (zR (jW M))))/\Below w.heap.size w w':=by
 have hg:g<w.heap.size:=by obtain⟨_,_,hm⟩:=hM.mad;exact hm.lt
 have HRg:Hid (∀w',Below w.heap.size w w'->w'.rangeAt g 7 (gC (jW M)).toList):=fun w' hb=>by
  obtain⟨rv,hv,hm⟩:=(hM.below hb).mad;exact Kt hm
 have HB1:Hid (∀o,Below w.heap.size w (w.alloc o)):=fun o=>da (j1 _) o;have HLn:=zA (fO M);have HI:Hid ((Tryz.prog.info? 46).map (·.size)=some (gC (jW M)).toList.length):=by unfold Hid;rw[Array.length_toList];exact aU (fO M)
 clear hM
 go_enter Tryz.func47,Tryz.ntmps47
 go_upto_region 1 with fail
 go_cut [3] from 7 to 10 (fun p3 wx=>p3=.pointer (some ⟨w.heap.size+1,0,none⟩)/\Hid (zCM w wx (jW M)))
 case first =>
  go_wp2_with (first
   | (refine wpList_load_mid ?zEG 46 (.tmp 9) ?ho g 7 ?hx (gC (jW M)).toList _ (HRg.out _ (HB1.out _)) Tryz.underlying46 rfl HI.out ?_
      case ho=>rfl
      case zEG=>rfl
      case hx=>rfl)
   | (refine wpList_store_row ?zEG 46 (.tmp 3) (.tmp 10) ?ho (w.heap.size+1) (gC (jW M)) ?hx ?hy 46 (gC gZ) (heap_alloc2_new w _ _) (aU HLn.out) ?zEH (jL (jW M)) ?_
      case ho=>rfl
      case zEG=>rfl
      case hx=>rfl
      case hy=>rfl
      case zEH=>rw[xK,xK,yY,HLn.out]))
  go_meet
  refine⟨rfl,⟨⟨lq _ _ (gC gZ) _ _ _ (heap_alloc2_new w _ _),HLn.out⟩,KW (zZ (zH _ _)) (by omega),xC ?_ (by omega) _⟩⟩;exact(da (j1 _) _).alloc (p6 (zQ _ _)) _
 case rest =>
  obtain⟨rfl,HC⟩:=hcut;clear HRg hg HI;go_wp2_with fail
  go_loopw [4] (fun v4 wr=>∃(m:Nat) (F:List Bool),m<=8/\v4=.int .i64 m/\Hid (zCM w wr F)/\Hid (wA (512-m*64) (m*64) F=zR (jW M))) (fun v4 _=>8-(intOf v4).toNat)
  case atStart=>exact⟨0,jW M,by omega,rfl,HC,zA rfl⟩
  case round =>
   obtain⟨m,F,hm,rfl,HCm,HE⟩:=hrel;clear HC;by_cases zE9:m<8
   ·obtain⟨wm,rfl⟩:∃wm,wm=wr:=⟨_,rfl⟩
    have HEm:Hid (wA (512-(m*64+0*8)) (m*64+0*8) F=zR (jW M)):=by have:=HE.out;unfold Hid;simpa using this
    clear HE;go_wp2_with fail
    go_loopw [5] (fun v5 wr=>∃(f:Nat) (F:List Bool),f<=8/\v5=.int .i64 f/\Hid (zCM w wr F)/\Hid (wA (512-(m*64+f*8)) (m*64+f*8) F=zR (jW M))) (fun v5 _=>8-(intOf v5).toNat)
    case atStart=>exact⟨0,F,by omega,rfl,HCm,HEm⟩
    case round =>
     obtain⟨f,F2,hf,rfl,HCf,HE2⟩:=hrel;clear HCm HEm;by_cases hltf:f<8
     ·obtain⟨wf,rfl⟩:∃wf,wf=wr:=⟨_,rfl⟩
      go_wp2_with fail
      go_loopw [6] (fun v6 wr=>∃(t:Nat) (F:List Bool),t<=8/\v6=.int .i64 t/\Hid (zCM w wr F)/\Hid (wA (512-(m*64+f*8+t)) (m*64+f*8+t) F=zR (jW M))) (fun v6 _=>8-(intOf v6).toNat)
      case atStart=>exact⟨0,F2,by omega,rfl,HCf,HE2⟩
      case round =>
       obtain⟨t,F3,ht,rfl,HCt,HE3⟩:=hrel;clear HCf HE2;by_cases hltt:t<8
       ·have hE:=HE3.out
        rw[show 512-(m*64+f*8+t)=(512-(m*64+f*8+(t+1)))+1 by omega,wA]at hE
        have e1:wS (m*64+f*8+t) F3=if F3.getD (f*8+m) false&&F3.getD (m*8+t) false then F3.set (f*8+t) true else F3:=by
         unfold wS gA;rw[show (m*64+f*8+t)%64=f*8+t by omega,show (m*64+f*8+t)/64=m by omega,show (f*8+t)/8=f by omega,show (m*64+f*8+t)%8=t by omega]
        rw[e1]at hE;have HE4:=zA hE;have c1:=HCt.out.gr.cell (k:=f*8+m) (by omega);have c2:=HCt.out.gr.cell (k:=m*8+t) (by omega);have c3:=HCt.out.gr.cell (k:=f*8+t) (by omega);have hfz:=HCt.out.gr.free (f*8+t);clear hE e1 HE3;generalize F3.getD (f*8+m) false=z1 at *;generalize F3.getD (m*8+t) false=z2 at *;cases z1
        ·have HE5:Hid (wA (512-(m*64+f*8+(t+1))) (m*64+f*8+(t+1)) F3=zR (jW M)):=HE4.out
         clear HE4;go_wp2_with fail
         go_roundw
         case rel=>exact⟨t+1,F3,by omega,by go_num,HCt,HE5⟩
         case measure=>simp[intOf];omega
        ·cases z2
         ·have HE5:Hid (wA (512-(m*64+f*8+(t+1))) (m*64+f*8+(t+1)) F3=zR (jW M)):=HE4.out
          clear HE4;go_wp2_with fail
          go_roundw
          case rel=>exact⟨t+1,F3,by omega,by go_num,HCt,HE5⟩
          case measure=>simp[intOf];omega
         ·have HE5:Hid (wA (512-(m*64+f*8+(t+1))) (m*64+f*8+(t+1)) (F3.set (f*8+t) true)=zR (jW M)):=HE4.out
          clear HE4;go_wp2_with fail
          go_roundw
          case rel=>exact⟨t+1,F3.set (f*8+t) true,by omega,by go_num,zA (HCt.out.set _),HE5⟩
          case measure=>simp[intOf];omega
       ·obtain rfl:t=8:=by omega
        have HE5:Hid (wA (512-(m*64+(f+1)*8)) (m*64+(f+1)*8) F3=zR (jW M)):=by have:=HE3.out;unfold Hid;rw[show m*64+(f+1)*8=m*64+f*8+8 by omega];exact this
        clear HE3;go_wp2_with fail
        go_roundw
        case rel=>exact⟨f+1,F3,by omega,by go_num,HCt,HE5⟩
        case measure=>simp[intOf];omega
     ·obtain rfl:f=8:=by omega
      have HE5:Hid (wA (512-(m+1)*64) ((m+1)*64) F2=zR (jW M)):=by have:=HE2.out;unfold Hid;rw[show (m+1)*64=m*64+8*8 by omega];exact this
      clear HE2;go_wp2_with fail
      go_roundw
      case rel=>exact⟨m+1,F2,by omega,by go_num,HCf,HE5⟩
      case measure=>simp[intOf];omega
   ·obtain rfl:m=8:=by omega
    have HE5:Hid (F=zR (jW M)):=HE.out;clear HE
    go_wp2_with (first
     | (refine wpList_load_row ?zEG 46 (.tmp 3) ?ho (w.heap.size+1) ?hx 46 (gC F) (0,0) _ HCm.out.gr.1 Tryz.underlying46 rfl (aU HCm.out.gr.2) ?_
        case ho=>rfl
        case zEG=>rfl
        case hx=>rfl)
     | (refine wpList_store_row ?zEG 46 (.tmp 2) (.tmp 39) ?ho w.heap.size (gC F) ?hx ?hy 46 (gC gZ) HCm.out.res (aU HCm.out.gr.2) ?zEH (jL F) ?_
        case ho=>rfl
        case zEG=>rfl
        case hx=>rfl
        case hy=>rfl
        case zEH=>rw[xK,xK,yY,HCm.out.gr.2]))
    refine p5 (v:=.agg (gC F)) (results_cell_row Tryz.results47 _ _ w.heap.size 46 (gC F) (0,0) _ rfl (lq _ _ (gC gZ) _ _ _ HCm.out.res) Tryz.underlying46 rfl (aU HCm.out.gr.2)) rfl ⟨by rw[HE5.out],xC HCm.out.bel (j1 _) _⟩
theorem JH.below{w':World}(h:JH w g G)(hb:Below w.heap.size w w'):JH w' g G:=⟨(hb.block g (zL h.1)).trans h.1,h.2⟩
structure zE5(w:World)(gv gr i:Nat)(b:Bool)(hd:Int)(wh:Bool)(pa qa:Option Addr)(pn pc qn qc:Nat):Prop where
 c0:w.cell? ⟨gr,i*4,none⟩=some (.int .i64 hd)
 c1:w.cell? ⟨gr,i*4+1,none⟩=some (.bool wh)
 c2:w.cell? ⟨gr,i*4+2,none⟩=some (.slice pa pn pc)
 c3:w.cell? ⟨gr,i*4+3,none⟩=some (.slice qa qn qc)
 app:Calls Tryz.prog 34 #[.agg #[.int .i64 hd,.bool wh,.slice pa pn pc,.slice qa qn qc],.pointer (some ⟨gv,0,none⟩)] w fun e w'=>e=.returned (.bool b)/\Below w.heap.size w w'
theorem zDT{gv:Nat}{M:zT}{v:FV}(hM:pC w g M)(hO:yF M)(hV:mL w gv v){i:Nat}(hi:i<M.rules.length):∃gr rc hd wh pa qa pn pc qn qc,w.cell? ⟨g,6,none⟩=some (.slice (some ⟨gr,0,none⟩) M.rules.length rc)/\zE5 w gv gr i (bG v (M.rules.getD i oY)) hd wh pa qa pn pc qn qc:=by
 obtain⟨gr,rc,pa,pc,qa,qc,c6,⟨c0,c1,c2,c3⟩,hp,hq⟩:=hM.rule hi;exact⟨gr,rc,_,_,pa,qa,_,pc,_,qc,c6,c0,c1,c2,c3,Vq w gv v _ M.heads pa qa pc qc hV (hO.rules _ (tR oY hi)) hp hq⟩
end Go.Proofs.YtnbpdffdnphbeabGreatDoor
