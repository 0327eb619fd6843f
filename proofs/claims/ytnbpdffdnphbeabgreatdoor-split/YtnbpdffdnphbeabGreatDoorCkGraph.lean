import Derived.Test.YtnbpdffdnphbeabGreatDoorCkErr
import Derived.Deep.WholeRow
import Derived.Deep.CutRange
import Derived.Deep.DeepCutAuto
set_option maxHeartbeats 4000000
set_option maxRecDepth 100000
namespace Go.Proofs.YtnbpdffdnphbeabGreatDoor
open Go.RowKit
variable{G:List Bool}{g:Nat}{w:World}
def gC(G:List Bool):Array Value:=(G.map Value.bool).toArray
def eN(w:World)(g:Nat)(G:List Bool):Prop:=w.heap[g]? = some (.cells (gC G) 125 (0,0))/\G.length=64
theorem BX{k:Nat}(h:k<G.length):(gC G)[k]? = some (.bool (G.getD k false)):=by
 simp[gC,List.getD,h]
theorem eN.cell(h:eN w g G){k:Nat}(hk:k<64):w.cell? ⟨g,k,none⟩=some (.bool (G.getD k false)):=by
 simp only[World.cell?,h.1];exact BX (by rw[h.2];exact hk)
theorem eN.lt(h:eN w g G):g<w.heap.size:=by
 rcases md g w.heap.size with h1|h1
 ·exact h1
 ·have h2:=h.1;rw[mc h1]at h2;cases h2
theorem uG(G:List Bool):(gC G).size=G.length:=by simp[gC]
theorem lF(G:List Bool):(gC G).all (·.oneCell')=true:=by
 simp[gC,Value.oneCell']
theorem VP(w:World)(g:Nat)(G:List Bool)(h:eN w g G) :
 Calls Tryz.prog 119 #[.pointer (some ⟨g,0,none⟩)] w fun e w'=>e=.returned (.int .i64 (oQ G))/\w'=w:=by
 have HG:=zA h;have hg:=h.lt;clear h
 go_enter Tryz.func119,Tryz.ntmps119
 go_wp2_with fail
 go_loop [3] (fun iv=>∃(i:Nat),i<=8/\iv=.int .i64 i/\Hid (sZ G (8-i) i=oQ G)) (fun iv=>8-(intOf iv).toNat)
 case atStart=>exact⟨0,by omega,rfl,zA rfl⟩
 case round =>
  obtain⟨i,hi,rfl,HE⟩:=hrel;by_cases zKZ:i<8
  ·have hc:=HG.out.cell (k:=i*8+i) (by omega)
   have hE:=HE.out;rw[show 8-i=(8-(i+1))+1 by omega,sZ,show gA G i i=G.getD (i*8+i) false from rfl]at hE;have HE2:=zA hE;clear HE hE;generalize G.getD (i*8+i) false=z at *;cases z
   ·have HE3:Hid (sZ G (8-(i+1)) (i+1)=oQ G):=HE2.out
    clear HE2;go_wp2_with fail
    go_round
    case rel=>exact⟨i+1,by omega,by go_num,HE3⟩
    case measure=>simp[intOf];omega
   ·have HE3:Hid (i=oQ G):=HE2.out
    clear HE2;go_wp2_with fail
    go_ret
    exact⟨yP (by rw[<-HE3.out]),rfl⟩
  ·have HE3:Hid (8=oQ G):=by have:=HE.out;rw[show 8-i=0 by omega]at this;exact this
   clear HE;go_wp2_with fail
   go_ret
   exact⟨yP (by rw[<-HE3.out];rfl),rfl⟩
theorem zKE:(Tryz.prog.info? 125).map (·.size)=some 64:=by kernel_rfl
theorem kR(h:G.length=64):(Tryz.prog.info? 125).map (·.size)=some (gC G).size:=by rw[uG,h];exact zKE
def gZ:List Bool:=List.replicate 64 false
theorem xK:gZ.length=64:=by simp[gZ]
theorem jz{x:Obj}{k:Nat}{cs:Array Value}(h:w.heap[k]? = some x)(zL4:k≠g):(w.setRow g cs).heap[k]? = some x:=by
 unfold World.setRow;simp only[Array.getElem?_modify];rw[tb (fun e=>zL4 e.symm)];exact h
theorem xI{B:Nat}{a:World}(h:Below B a w)(hg:B<=g)(cs:Array Value):Below B a (w.setRow g cs) :=
 h.trans ⟨rfl,rfl,rfl,by unfold World.setRow;simp,fun k hk=>by unfold World.setRow;simp only[Array.getElem?_modify];rw[tb (by omega)]⟩
structure zJL(w w':World)(G:List Bool):Prop where
 gr:eN w' (w.heap.size+1) G
 res:w'.heap[w.heap.size]? = some (.cells (gC gZ) 125 (0,0))
 bel:Below w.heap.size w w'
theorem eN.set(h:eN w g G)(k:Nat):eN (w.setCell ⟨g,k,none⟩ (.bool true)) g (G.set k true):=by
 refine⟨?_,by rw[List.length_set];exact h.2⟩;rw[setCell_eq_setRow w g k _ _ _ _ h.1];have:=cg w g (gC G) ((gC G).setIfInBounds k (.bool true)) _ _ h.1;rw[this];congr 2
 simp[gC,List.map_set]
theorem zJL.set{w':World}(h:zJL w w' G)(k:Nat):zJL w (w'.setCell ⟨w.heap.size+1,k,none⟩ (.bool true)) (G.set k true) :=
 ⟨h.gr.set k,qO h.res (by omega),h.bel.setCell (p:=⟨w.heap.size+1,k,none⟩) (by show w.heap.size<=w.heap.size+1;omega) _⟩
theorem eN.free(h:eN w g G)(k:Nat):w.frozen? ⟨g,k,none⟩=false:=by simp[World.frozen?,h.1]
theorem Ua(w:World)(g:Nat)(G:List Bool)(h:eN w g G) :
 Calls Tryz.prog 118 #[.pointer (some ⟨g,0,none⟩)] w fun e w'=>e=.returned (.agg (gC (yB G)))/\Below w.heap.size w w':=by
 have HG:=zA h;have hg:=h.lt;clear h
 go_enter Tryz.func118,Tryz.ntmps118
 go_upto_region 1 with fail
 go_cut [3] from 7 to 9 (fun p3 wx=>p3=.pointer (some ⟨w.heap.size+1,0,none⟩)/\Hid (zJL w wx G))
 case first =>
  go_wp2_with (first
   | (refine wpList_load_row ?zLA 125 (.tmp 8) ?ho g ?hx 125 (gC G) (0,0) _ (zS HG.out.1) Tryz.underlying125 rfl (kR HG.out.2) ?_
      case ho=>rfl
      case zLA=>rfl
      case hx=>rfl)
   | (refine wpList_store_row ?zLA 125 (.tmp 3) (.tmp 9) ?ho (w.heap.size+1) (gC G) ?hx ?hy 125 (gC gZ) (heap_alloc2_new w _ _) (kR HG.out.2) ?zLB (lF G) ?_
      case ho=>rfl
      case zLA=>rfl
      case hx=>rfl
      case hy=>rfl
      case zLB=>rw[uG,uG,xK,HG.out.2]))
  go_meet
  refine⟨rfl,⟨⟨cg _ _ (gC gZ) _ _ _ (heap_alloc2_new w _ _),HG.out.2⟩,jz (zS (zG _ _)) (by omega),xI ?_ (by omega) _⟩⟩;exact(gb (j1 _) _).alloc (ph (zV _ _)) _
 case rest =>
  obtain⟨rfl,HC⟩:=hcut;have HGL:=zA HG.out.2;clear HG hg;go_wp2_with fail
  go_loopw [4] (fun v4 wr=>∃(m:Nat) (F:List Bool),m<=8/\v4=.int .i64 m/\Hid (zJL w wr F)/\Hid (wA (512-m*64) (m*64) F=yB G)) (fun v4 _=>8-(intOf v4).toNat)
  case atStart=>exact⟨0,G,by omega,rfl,HC,zA rfl⟩
  case round =>
   obtain⟨m,F,hm,rfl,HCm,HE⟩:=hrel;clear HC;by_cases zKZ:m<8
   ·obtain⟨wm,rfl⟩:∃wm,wm=wr:=⟨_,rfl⟩
    have HEm:Hid (wA (512-(m*64+0*8)) (m*64+0*8) F=yB G):=by have:=HE.out;unfold Hid;simpa using this
    clear HE;go_wp2_with fail
    go_loopw [5] (fun v5 wr=>∃(f:Nat) (F:List Bool),f<=8/\v5=.int .i64 f/\Hid (zJL w wr F)/\Hid (wA (512-(m*64+f*8)) (m*64+f*8) F=yB G)) (fun v5 _=>8-(intOf v5).toNat)
    case atStart=>exact⟨0,F,by omega,rfl,HCm,HEm⟩
    case round =>
     obtain⟨f,F2,hf,rfl,HCf,HE2⟩:=hrel;clear HCm HEm;by_cases hltf:f<8
     ·obtain⟨wf,rfl⟩:∃wf,wf=wr:=⟨_,rfl⟩
      go_wp2_with fail
      go_loopw [6] (fun v6 wr=>∃(t:Nat) (F:List Bool),t<=8/\v6=.int .i64 t/\Hid (zJL w wr F)/\Hid (wA (512-(m*64+f*8+t)) (m*64+f*8+t) F=yB G)) (fun v6 _=>8-(intOf v6).toNat)
      case atStart=>exact⟨0,F2,by omega,rfl,HCf,HE2⟩
      case round =>
       obtain⟨t,F3,ht,rfl,HCt,HE3⟩:=hrel;clear HCf HE2;by_cases hltt:t<8
       ·have hE:=HE3.out
        rw[show 512-(m*64+f*8+t)=(512-(m*64+f*8+(t+1)))+1 by omega,wA]at hE
        have e1:wS (m*64+f*8+t) F3=if F3.getD (f*8+m) false&&F3.getD (m*8+t) false then F3.set (f*8+t) true else F3:=by
         unfold wS gA;rw[show (m*64+f*8+t)%64=f*8+t by omega,show (m*64+f*8+t)/64=m by omega,show (f*8+t)/8=f by omega,show (m*64+f*8+t)%8=t by omega]
        rw[e1]at hE;have HE4:=zA hE;have c1:=HCt.out.gr.cell (k:=f*8+m) (by omega);have c2:=HCt.out.gr.cell (k:=m*8+t) (by omega);have c3:=HCt.out.gr.cell (k:=f*8+t) (by omega);have hfz:=HCt.out.gr.free (f*8+t);clear hE e1 HE3;generalize F3.getD (f*8+m) false=z1 at *;generalize F3.getD (m*8+t) false=z2 at *;cases z1
        ·have HE5:Hid (wA (512-(m*64+f*8+(t+1))) (m*64+f*8+(t+1)) F3=yB G):=HE4.out
         clear HE4;go_wp2_with fail
         go_roundw
         case rel=>exact⟨t+1,F3,by omega,by go_num,HCt,HE5⟩
         case measure=>simp[intOf];omega
        ·cases z2
         ·have HE5:Hid (wA (512-(m*64+f*8+(t+1))) (m*64+f*8+(t+1)) F3=yB G):=HE4.out
          clear HE4;go_wp2_with fail
          go_roundw
          case rel=>exact⟨t+1,F3,by omega,by go_num,HCt,HE5⟩
          case measure=>simp[intOf];omega
         ·have HE5:Hid (wA (512-(m*64+f*8+(t+1))) (m*64+f*8+(t+1)) (F3.set (f*8+t) true)=yB G):=HE4.out
          clear HE4;go_wp2_with fail
          go_roundw
          case rel=>exact⟨t+1,F3.set (f*8+t) true,by omega,by go_num,zA (HCt.out.set _),HE5⟩
          case measure=>simp[intOf];omega
       ·obtain rfl:t=8:=by omega
        have HE5:Hid (wA (512-(m*64+(f+1)*8)) (m*64+(f+1)*8) F3=yB G):=by have:=HE3.out;unfold Hid;rw[show m*64+(f+1)*8=m*64+f*8+8 by omega];exact this
        clear HE3;go_wp2_with fail
        go_roundw
        case rel=>exact⟨f+1,F3,by omega,by go_num,HCt,HE5⟩
        case measure=>simp[intOf];omega
     ·obtain rfl:f=8:=by omega
      have HE5:Hid (wA (512-(m+1)*64) ((m+1)*64) F2=yB G):=by have:=HE2.out;unfold Hid;rw[show (m+1)*64=m*64+8*8 by omega];exact this
      clear HE2;go_wp2_with fail
      go_roundw
      case rel=>exact⟨m+1,F2,by omega,by go_num,HCf,HE5⟩
      case measure=>simp[intOf];omega
   ·obtain rfl:m=8:=by omega
    have HE5:Hid (F=yB G):=HE.out;clear HE
    go_wp2_with (first
     | (refine wpList_load_row ?zLA 125 (.tmp 3) ?ho (w.heap.size+1) ?hx 125 (gC F) (0,0) _ HCm.out.gr.1 Tryz.underlying125 rfl (kR HCm.out.gr.2) ?_
        case ho=>rfl
        case zLA=>rfl
        case hx=>rfl)
     | (refine wpList_store_row ?zLA 125 (.tmp 2) (.tmp 41) ?ho w.heap.size (gC F) ?hx ?hy 125 (gC gZ) HCm.out.res (kR HCm.out.gr.2) ?zLB (lF F) ?_
        case ho=>rfl
        case zLA=>rfl
        case hx=>rfl
        case hy=>rfl
        case zLB=>rw[uG,uG,xK,HCm.out.gr.2]))
    refine pe (v:=.agg (gC F)) (results_cell_row Tryz.results118 _ _ w.heap.size 125 (gC F) (0,0) _ rfl (cg _ _ (gC gZ) _ _ _ HCm.out.res) Tryz.underlying125 rfl (kR HCm.out.gr.2)) rfl ⟨by rw[HE5.out],xI HCm.out.bel (j1 _) _⟩
theorem Jv(w:World)(g:Nat)(G:List Bool)(h:eN w g G) :
 Calls Tryz.prog 76 #[.pointer (some ⟨g,0,none⟩)] w fun e w'=>e=.returned (.bool (qS G))/\Below w.heap.size w w':=by
 have HG:=zA h;have HCh:=zA (Ua w g G h);have zL6:(yB G).length=64:=by unfold yB;rw[oD];exact h.2
 have HLn:=zA zL6;have HR:Hid (qS G=decide ((oQ (yB G):Int)<8)):=by unfold Hid qS;rw[decide_eq_decide];omega
 clear h zL6;generalize yB G=C at *
 go_enter Tryz.func76,Tryz.ntmps76
 go_wp2_with fail
 refine HCh.out.mono ?_;rintro e w1 ⟨rfl,hb1⟩;have HB1:=zA hb1;clear hb1
 go_wp2_with (refine wpList_store_row ?zLA 125 (.tmp 3) (.tmp 5) ?ho w1.heap.size (gC C) ?hx ?hy 125 (gC gZ) (zG w1 _) (kR HLn.out) ?zLB (lF C) ?_
              case ho=>rfl
              case zLA=>rfl
              case hx=>rfl
              case hy=>rfl
              case zLB=>rw[uG,uG,xK,HLn.out])
 refine(VP _ w1.heap.size C ⟨cg _ _ (gC gZ) _ _ _ (zG w1 _),HLn.out⟩).mono ?_;rintro e w2 ⟨rfl,hw⟩;have HB2:Hid (Below w.heap.size w w2):=by rw[hw];exact xI (HB1.out.alloc HB1.out.size _) HB1.out.size _
 clear hw;go_wp2_with fail
 go_ret
 exact⟨zF HR.out.symm,HB2.out⟩
theorem cC(k:Int)(w:World):Calls Tryz.prog 158 #[.int .i64 k] w fun e w'=>e=.returned (.bool (decide (0<=k)&&decide (k<8)))/\w'=w:=by
 by_cases h0:0<=k
 ·by_cases h8:k<8
  ·have HR:Hid ((decide (0<=k)&&decide (k<8))=true):=by unfold Hid;rw[tu h0,tu h8];rfl
   generalize (decide (0<=k)&&decide (k<8))=z at *
   go_enter Tryz.func158,Tryz.ntmps158
   go_wp2_with fail
   go_ret
   exact⟨zF HR.out.symm,rfl⟩
  ·have HR:Hid ((decide (0<=k)&&decide (k<8))=false):=by unfold Hid;rw[tu h0,ty h8];rfl
   generalize (decide (0<=k)&&decide (k<8))=z at *
   go_enter Tryz.func158,Tryz.ntmps158
   go_wp2_with fail
   go_ret
   exact⟨zF HR.out.symm,rfl⟩
 ·have HR:Hid ((decide (0<=k)&&decide (k<8))=false):=by unfold Hid;rw[ty h0];rfl
  generalize (decide (0<=k)&&decide (k<8))=z at *
  go_enter Tryz.func158,Tryz.ntmps158
  go_wp2_with fail
  go_ret
  exact⟨zF HR.out.symm,rfl⟩
def nP(G:List Bool)(a b:Int):List Bool:=if (0<=a/\a<8)/\(0<=b/\b<8) then G.set (a.toNat*8+b.toNat) true else G
theorem mE(G:List Bool)(a b:Int):(nP G a b).length=G.length:=by unfold nP;split <;> simp
structure qA(g:Nat)(w w':World):Prop where
 os:w'.os=w.os
 tape:w'.tape=w.tape
 output:w'.output=w.output
 size:w.heap.size<=w'.heap.size
 block:∀k,k<w.heap.size->k≠g->w'.heap[k]? = w.heap[k]?
theorem qA.refl(g:Nat)(w:World):qA g w w:=⟨rfl,rfl,rfl,j1 _,fun _ _ _=>rfl⟩
theorem qA.set(g k:Nat)(w:World)(v:Value):qA g w (w.setCell ⟨g,k,none⟩ v) :=
 ⟨rfl,rfl,rfl,by simp[World.setCell],fun i _ zL4=>lk _ _ _ _ zL4⟩
theorem zC1(w:World)(g:Nat)(G:List Bool)(a b:Int)(h:eN w g G) :
 Calls Tryz.prog 117 #[.pointer (some ⟨g,0,none⟩),.int .i64 a,.int .i64 b] w fun e w'=>e=.returned (.tuple #[])/\eN w' g (nP G a b)/\qA g w w':=by
 have HG:=zA h;have hg:=h.lt;have hfz:=fun k=>h.free k;have hcell:=fun k (hk:k<64)=>h.cell (k:=k) hk;clear h;by_cases ha:0<=a/\a<8
 ·obtain⟨a,rfl⟩:=cb ha.1
  have ha8:a<8:=by omega
  have b1:(decide ((0:Int)<=(a:Int))&&decide ((a:Int)<8))=true:=by rw[tu ha.1,tu ha.2];rfl
  by_cases hb:0<=b/\b<8
  ·obtain⟨b,rfl⟩:=cb hb.1
   have hb8:b<8:=by omega
   have b2:(decide ((0:Int)<=(b:Int))&&decide ((b:Int)<8))=true:=by rw[tu hb.1,tu hb.2];rfl
   have HA:Hid (nP G a b=G.set (a*8+b) true):=by unfold Hid nP;rw[tl ⟨ha,hb⟩];rfl
   have hc:=hcell (a*8+b) (by omega);have hz:=hfz (a*8+b);have H1:=zA (cC a w);have H2:=zA (cC b w);rw[b1]at H1;rw[b2]at H2;clear ha hb b1 b2 hcell hfz
   go_enter Tryz.func117,Tryz.ntmps117
   go_wp2_with fail
   refine H1.out.mono ?_;rintro e w1 ⟨rfl,hw⟩;obtain rfl:=hw.symm;go_wp2_with fail
   refine H2.out.mono ?_;rintro e w1 ⟨rfl,hw⟩;obtain rfl:=hw.symm;go_wp2_with fail
   go_end0
   exact⟨rfl,by rw[HA.out];exact HG.out.set _,qA.set _ _ _ _⟩
  ·have HA:Hid (nP G a b=G):=by unfold Hid nP;rw[tb (fun h=>hb h.2)]
   have b2:(decide ((0:Int)<=b)&&decide (b<8))=false:=by
    rw[fe];by_cases h0:0<=b
    ·exact .inr (ty (fun h=>hb ⟨h0,h⟩))
    ·exact .inl (ty h0)
   have H1:=zA (cC a w);have H2:=zA (cC b w);rw[b1]at H1;rw[b2]at H2;clear ha hb b1 b2 hcell hfz
   go_enter Tryz.func117,Tryz.ntmps117
   go_wp2_with fail
   refine H1.out.mono ?_;rintro e w1 ⟨rfl,hw⟩;obtain rfl:=hw.symm;go_wp2_with fail
   refine H2.out.mono ?_;rintro e w1 ⟨rfl,hw⟩;obtain rfl:=hw.symm;go_wp2_with fail
   go_end0
   exact⟨rfl,by rw[HA.out];exact HG.out,qA.refl _ _⟩
 ·have HA:Hid (nP G a b=G):=by unfold Hid nP;rw[tb (fun h=>ha h.1)]
  have b1:(decide ((0:Int)<=a)&&decide (a<8))=false:=by
   rw[fe];by_cases h0:0<=a
   ·exact .inr (ty (fun h=>ha ⟨h0,h⟩))
   ·exact .inl (ty h0)
  have H1:=zA (cC a w);rw[b1]at H1;clear ha b1 hcell hfz
  go_enter Tryz.func117,Tryz.ntmps117
  go_wp2_with fail
  refine H1.out.mono ?_;rintro e w1 ⟨rfl,hw⟩;obtain rfl:=hw.symm;go_wp2_with fail
  go_end0
  exact⟨rfl,by rw[HA.out];exact HG.out,qA.refl _ _⟩
end Go.Proofs.YtnbpdffdnphbeabGreatDoor
