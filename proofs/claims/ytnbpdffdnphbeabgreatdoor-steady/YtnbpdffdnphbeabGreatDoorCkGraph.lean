import Derived.Test.YtnbpdffdnphbeabGreatDoorCkErr
import Derived.Deep.WholeRow
import Derived.Deep.CutRange
import Derived.Deep.DeepCutAuto
open Go.Proofs.Tryz
set_option maxHeartbeats 4000000
set_option maxRecDepth 100000
namespace Go.Proofs.YtnbpdffdnphbeabGreatDoor
open Go.RowKit
variable{G:List Bool}{g:Nat}{w:World}
def gC(G:List Bool):Array Value:=(G.map Value.bool).toArray
def rL(w:World)(g:Nat)(G:List Bool):Prop:=w.heap[g]? = some (.cells (gC G) 125 (0,0))/\G.length=64
theorem Q9{k:Nat}(h:k<G.length):(gC G)[k]? = some (.bool (G.getD k false)):=by
 simp[gC,List.getD,h]
theorem rL.cell(h:rL w g G){k:Nat}(hk:k<64):w.cell? ⟨g,k,none⟩=some (.bool (G.getD k false)):=by
 simp only[World.cell?,h.1];exact Q9 (by rw[h.2];exact hk)
theorem rL.lt(h:rL w g G):g<w.heap.size:=by
 rcases mc g w.heap.size with h1|h1
 ·exact h1
 ·have h2:=h.1;rw[pw h1]at h2;cases h2
theorem xK(G:List Bool):(gC G).size=G.length:=by simp[gC]
theorem jW(G:List Bool):(gC G).all (·.oneCell')=true:=by
 simp[gC,Value.oneCell']
theorem YP(w:World)(g:Nat)(G:List Bool)(h:rL w g G) :
 Calls prog 119 #[.pointer (some ⟨g,0,none⟩)] w λe w'=>e=.returned (.int .i64 (lH G))/\w'=w:=by
 have HG:=zA h;have hg:=h.lt;clear h
 go_enter func119,ntmps119
 go_wp2_with fail
 go_loop [3] (λiv=>∃(i:Nat),i<=8/\iv=.int .i64 i/\Hid (eQ G (8-i) i=lH G)) (λiv=>8-(intOf iv).toNat)
 case atStart=>exact⟨0,by omega,rfl,zA rfl⟩
 case round =>
  obtain⟨i,hi,rfl,HE⟩:=hrel;by_cases aR:i<8
  ·have hc:=HG.out.cell (k:=i*8+i) (by omega)
   have hE:=HE.out;rw[show 8-i=(8-(i+1))+1 by omega,eQ,show gA G i i=G.getD (i*8+i) false from rfl]at hE;have aF:=zA hE;clear HE hE;generalize G.getD (i*8+i) false=z at *;cases z
   ·have aB:Hid (eQ G (8-(i+1)) (i+1)=lH G):=aF.out
    clear aF;go_wp2_with fail
    go_round
    case rel=>exact⟨i+1,by omega,by go_num,aB⟩
    case measure=>simp[intOf];omega
   ·have aB:Hid (i=lH G):=aF.out
    clear aF;go_wp2_with fail
    go_ret
    exact⟨yY (by rw[<-aB.out]),rfl⟩
  ·have aB:Hid (8=lH G):=by have:=HE.out;rw[show 8-i=0 by omega]at this;exact this
   clear HE;go_wp2_with fail
   go_ret
   exact⟨yY (by rw[<-aB.out];rfl),rfl⟩
theorem LV:(prog.info? 125).map (·.size)=some 64:=by kernel_rfl
theorem qF(h:G.length=64):(prog.info? 125).map (·.size)=some (gC G).size:=by rw[xK,h];exact LV
def gZ:List Bool:=List.replicate 64 false
theorem yX:gZ.length=64:=by simp[gZ]
theorem DB{x:Obj}{k:Nat}{cs:Array Value}(h:w.heap[k]? = some x)(aL:k≠g:=by omega):(w.setRow g cs).heap[k]? = some x:=by
 unfold World.setRow;simp only[Array.getElem?_modify];rw[tj (λe=>aL e.symm)];exact h
theorem yK{B:Nat}{a:World}(h:Below B a w)(hg:B<=g)(cs:Array Value):Below B a (w.setRow g cs) :=
 h.trans ⟨rfl,rfl,rfl,by unfold World.setRow;simp,λk hk=>by unfold World.setRow;simp only[Array.getElem?_modify];rw[i6]⟩
structure zNT(w w':World)(G:List Bool):Prop where
 gr:rL w' (w.heap.size+1) G
 res:w'.heap[w.heap.size]? = some (.cells (gC gZ) 125 (0,0))
 af:Below w.heap.size w w'
theorem rL.set(h:rL w g G)(k:Nat):rL (w.setCell ⟨g,k,none⟩ (.bool true)) g (G.set k true):=by
 refine⟨?_,by rw[List.length_set];exact h.2⟩;rw[setCell_eq_setRow w g k _ _ _ _ h.1];have:=l9 w g (gC G) ((gC G).setIfInBounds k (.bool true)) h.1;rw[this];congr 2
 simp[gC,List.map_set]
theorem zNT.set{w':World}(h:zNT w w' G)(k:Nat):zNT w (w'.setCell ⟨w.heap.size+1,k,none⟩ (.bool true)) (G.set k true) :=
 ⟨h.gr.set k,qU h.res (by omega),h.af.setCell (p:=⟨w.heap.size+1,k,none⟩) (by show w.heap.size<=w.heap.size+1;omega) _⟩
theorem rL.free(h:rL w g G)(k:Nat):w.frozen? ⟨g,k,none⟩=false:=by simp[World.frozen?,h.1]
theorem QP(w:World)(g:Nat)(G:List Bool)(h:rL w g G) :
 Calls prog 118 #[.pointer (some ⟨g,0,none⟩)] w λe w'=>e=.returned (.agg (gC (zT G)))/\Below w.heap.size w w':=by
 have HG:=zA h;have hg:=h.lt;clear h
 go_enter func118,ntmps118
 go_upto_region 1 with fail
 go_cut [3] from 7 to 9 (λp3 wx=>p3=.pointer (some ⟨w.heap.size+1,0,none⟩)/\Hid (zNT w wx G))
 case first =>
  go_wp2_with (first
   | (refine wpList_load_row ?aD 125 (.tmp 8) ?ho g ?hx 125 (gC G) (0,0) _ (yD HG.out.1) underlying125 rfl (qF HG.out.2) ?_
      case ho=>rfl
      case aD=>rfl
      case hx=>rfl)
   | (refine wpList_store_row ?aD 125 (.tmp 3) (.tmp 9) ?ho (w.heap.size+1) (gC G) ?hx ?hy 125 (gC gZ) (heap_alloc2_new w _ _) (qF HG.out.2) ?aI (jW G) ?_
      case ho=>rfl
      case aD=>rfl
      case hx=>rfl
      case hy=>rfl
      case aI=>rw[xK,xK,yX,HG.out.2]))
  go_meet
  refine⟨rfl,⟨⟨l9 _ _ (gC gZ) _ (heap_alloc2_new w _ _),HG.out.2⟩,DB (yD (zF _ _)),yK ?_ (by omega) _⟩⟩;exact(fk (tg _) _).alloc (p7 (zY _ _)) _
 case rest =>
  obtain⟨rfl,HC⟩:=hcut;have aW:=zA HG.out.2;clear HG hg;go_wp2_with fail
  go_loopw [4] (λv4 wr=>∃(m:Nat) (F:List Bool),m<=8/\v4=.int .i64 m/\Hid (zNT w wr F)/\Hid (wA (512-m*64) (m*64) F=zT G)) (λv4 _=>8-(intOf v4).toNat)
  case atStart=>exact⟨0,G,by omega,rfl,HC,zA rfl⟩
  case round =>
   obtain⟨m,F,hm,rfl,aC,HE⟩:=hrel;clear HC;by_cases aR:m<8
   ·obtain⟨wm,rfl⟩:∃wm,wm=wr:=⟨_,rfl⟩
    have aQ:Hid (wA (512-(m*64+0*8)) (m*64+0*8) F=zT G):=(by have:=HE.out;unfold Hid;simpa using this);clear HE;go_wp2_with fail
    go_loopw [5] (λv5 wr=>∃(f:Nat) (F:List Bool),f<=8/\v5=.int .i64 f/\Hid (zNT w wr F)/\Hid (wA (512-(m*64+f*8)) (m*64+f*8) F=zT G)) (λv5 _=>8-(intOf v5).toNat)
    case atStart=>exact⟨0,F,by omega,rfl,aC,aQ⟩
    case round =>
     obtain⟨f,F2,hf,rfl,aN,aF⟩:=hrel;clear aC aQ;by_cases aT:f<8
     ·obtain⟨wf,rfl⟩:∃wf,wf=wr:=⟨_,rfl⟩
      go_wp2_with fail
      go_loopw [6] (λv6 wr=>∃(t:Nat) (F:List Bool),t<=8/\v6=.int .i64 t/\Hid (zNT w wr F)/\Hid (wA (512-(m*64+f*8+t)) (m*64+f*8+t) F=zT G)) (λv6 _=>8-(intOf v6).toNat)
      case atStart=>exact⟨0,F2,by omega,rfl,aN,aF⟩
      case round =>
       obtain⟨t,F3,ht,rfl,aG,aB⟩:=hrel;clear aN aF;by_cases aS:t<8
       ·have hE:=aB.out
        rw[show 512-(m*64+f*8+t)=(512-(m*64+f*8+(t+1)))+1 by omega,wA]at hE
        have e1:wS (m*64+f*8+t) F3=if F3.getD (f*8+m) false&&F3.getD (m*8+t) false then F3.set (f*8+t) true else F3:=by
         unfold wS gA;rw[show (m*64+f*8+t)%64=f*8+t by omega,show (m*64+f*8+t)/64=m by omega,show (f*8+t)/8=f by omega,show (m*64+f*8+t)%8=t by omega]
        rw[e1]at hE;have aH:=zA hE;have c1:=aG.out.gr.cell (k:=f*8+m) (by omega);have c2:=aG.out.gr.cell (k:=m*8+t) (by omega);have c3:=aG.out.gr.cell (k:=f*8+t) (by omega);have aJ:=aG.out.gr.free (f*8+t);clear hE e1 aB;generalize F3.getD (f*8+m) false=z1 at *;generalize F3.getD (m*8+t) false=z2 at *;cases z1
        ·have aA:Hid (wA (512-(m*64+f*8+(t+1))) (m*64+f*8+(t+1)) F3=zT G):=aH.out
         clear aH;go_wp2_with fail
         go_roundw
         case rel=>exact⟨t+1,F3,by omega,by go_num,aG,aA⟩
         case measure=>simp[intOf];omega
        ·cases z2
         ·have aA:Hid (wA (512-(m*64+f*8+(t+1))) (m*64+f*8+(t+1)) F3=zT G):=aH.out
          clear aH;go_wp2_with fail
          go_roundw
          case rel=>exact⟨t+1,F3,by omega,by go_num,aG,aA⟩
          case measure=>simp[intOf];omega
         ·have aA:Hid (wA (512-(m*64+f*8+(t+1))) (m*64+f*8+(t+1)) (F3.set (f*8+t) true)=zT G):=aH.out
          clear aH;go_wp2_with fail
          go_roundw
          case rel=>exact⟨t+1,F3.set (f*8+t) true,by omega,by go_num,zA (aG.out.set _),aA⟩
          case measure=>simp[intOf];omega
       ·obtain rfl:t=8:=by omega
        have aA:Hid (wA (512-(m*64+(f+1)*8)) (m*64+(f+1)*8) F3=zT G):=(by have:=aB.out;unfold Hid;rw[show m*64+(f+1)*8=m*64+f*8+8 by omega];exact this);clear aB;go_wp2_with fail
        go_roundw
        case rel=>exact⟨f+1,F3,by omega,by go_num,aG,aA⟩
        case measure=>simp[intOf];omega
     ·obtain rfl:f=8:=by omega
      have aA:Hid (wA (512-(m+1)*64) ((m+1)*64) F2=zT G):=(by have:=aF.out;unfold Hid;rw[show (m+1)*64=m*64+8*8 by omega];exact this);clear aF;go_wp2_with fail
      go_roundw
      case rel=>exact⟨m+1,F2,by omega,by go_num,aN,aA⟩
      case measure=>simp[intOf];omega
   ·obtain rfl:m=8:=by omega
    have aA:Hid (F=zT G):=HE.out;clear HE
    go_wp2_with (first
     | (refine wpList_load_row ?aD 125 (.tmp 3) ?ho (w.heap.size+1) ?hx 125 (gC F) (0,0) _ aC.out.gr.1 underlying125 rfl (qF aC.out.gr.2) ?_
        case ho=>rfl
        case aD=>rfl
        case hx=>rfl)
     | (refine wpList_store_row ?aD 125 (.tmp 2) (.tmp 41) ?ho w.heap.size (gC F) ?hx ?hy 125 (gC gZ) aC.out.res (qF aC.out.gr.2) ?aI (jW F) ?_
        case ho=>rfl
        case aD=>rfl
        case hx=>rfl
        case hy=>rfl
        case aI=>rw[xK,xK,yX,aC.out.gr.2]))
    refine pe (v:=.agg (gC F)) (results_cell_row results118 _ _ w.heap.size 125 (gC F) (0,0) _ rfl (l9 _ _ (gC gZ) _ aC.out.res) underlying125 rfl (qF aC.out.gr.2)) rfl ⟨by rw[aA.out],yK aC.out.af (tg _) _⟩
theorem K2(w:World)(g:Nat)(G:List Bool)(h:rL w g G) :
 Calls prog 76 #[.pointer (some ⟨g,0,none⟩)] w λe w'=>e=.returned (.bool (jA G))/\Below w.heap.size w w':=by
 have HG:=zA h;have aU:=zA (QP w g G h);have aP:(zT G).length=64:=by unfold zT;rw[gW];exact h.2
 have aM:=zA aP;have HR:Hid (jA G=decide ((lH (zT G):Int)<8)):=by unfold Hid jA;rw[decide_eq_decide];omega
 clear h aP;generalize zT G=C at *
 go_enter func76,ntmps76
 go_wp2_with fail
 refine aU.out.mono ?_;rintro e w1 ⟨rfl,hb1⟩;have aO:=zA hb1;clear hb1
 go_wp2_with (refine wpList_store_row ?aD 125 (.tmp 3) (.tmp 5) ?ho w1.heap.size (gC C) ?hx ?hy 125 (gC gZ) (zF w1 _) (qF aM.out) ?aI (jW C) ?_
              case ho=>rfl
              case aD=>rfl
              case hx=>rfl
              case hy=>rfl
              case aI=>rw[xK,xK,yX,aM.out])
 refine(YP _ w1.heap.size C ⟨l9 _ _ (gC gZ) _ (zF w1 _),aM.out⟩).mono ?_;rintro e w2 ⟨rfl,hw⟩;have aV:Hid (Below w.heap.size w w2):=by rw[hw];exact yK (aO.out.alloc aO.out.size _) aO.out.size _
 clear hw;go_wp2_with fail
 go_ret
 exact⟨zG HR.out.symm,aV.out⟩
theorem dK(k:Int)(w:World):Calls prog 158 #[.int .i64 k] w λe w'=>e=.returned (.bool (decide (0<=k)&&decide (k<8)))/\w'=w:=by
 by_cases h0:0<=k
 ·by_cases h8:k<8
  ·have HR:Hid ((decide (0<=k)&&decide (k<8))=true):=by unfold Hid;rw[tz h0,tz h8];rfl
   generalize (decide (0<=k)&&decide (k<8))=z at *
   go_enter func158,ntmps158
   go_wp2_with fail
   go_ret
   exact⟨zG HR.out.symm,rfl⟩
  ·have HR:Hid ((decide (0<=k)&&decide (k<8))=false):=by unfold Hid;rw[tz h0,ty h8];rfl
   generalize (decide (0<=k)&&decide (k<8))=z at *
   go_enter func158,ntmps158
   go_wp2_with fail
   go_ret
   exact⟨zG HR.out.symm,rfl⟩
 ·have HR:Hid ((decide (0<=k)&&decide (k<8))=false):=by unfold Hid;rw[ty h0];rfl
  generalize (decide (0<=k)&&decide (k<8))=z at *
  go_enter func158,ntmps158
  go_wp2_with fail
  go_ret
  exact⟨zG HR.out.symm,rfl⟩
def oV(G:List Bool)(a b:Int):List Bool:=if (0<=a/\a<8)/\(0<=b/\b<8) then G.set (a.toNat*8+b.toNat) true else G
theorem lL(G:List Bool)(a b:Int):(oV G a b).length=G.length:=by unfold oV;split <;> simp
structure qY(g:Nat)(w w':World):Prop where
 os:w'.os=w.os
 tape:w'.tape=w.tape
 output:w'.output=w.output
 size:w.heap.size<=w'.heap.size
 block:∀k,k<w.heap.size->k≠g->w'.heap[k]? = w.heap[k]?
theorem qY.refl(g:Nat)(w:World):qY g w w:=⟨rfl,rfl,rfl,tg _,λ_ _ _=>rfl⟩
theorem qY.set(g k:Nat)(w:World)(v:Value):qY g w (w.setCell ⟨g,k,none⟩ v) :=
 ⟨rfl,rfl,rfl,by simp[World.setCell],λi _ aL=>l6 _ _ _ _ aL⟩
theorem Ei(w:World)(g:Nat)(G:List Bool)(a b:Int)(h:rL w g G) :
 Calls prog 117 #[.pointer (some ⟨g,0,none⟩),.int .i64 a,.int .i64 b] w λe w'=>e=.returned (.tuple #[])/\rL w' g (oV G a b)/\qY g w w':=by
 have HG:=zA h;have hg:=h.lt;have aJ:=λk=>h.free k;have aK:=λk (hk:k<64)=>h.cell (k:=k) hk;clear h;by_cases ha:0<=a/\a<8
 ·obtain⟨a,rfl⟩:=mz ha.1
  have aY:a<8:=by omega
  have b1:(decide ((0:Int)<=(a:Int))&&decide ((a:Int)<8))=true:=by rw[tz ha.1,tz ha.2];rfl
  by_cases hb:0<=b/\b<8
  ·obtain⟨b,rfl⟩:=mz hb.1
   have aX:b<8:=(by omega);have b2:(decide ((0:Int)<=(b:Int))&&decide ((b:Int)<8))=true:=(by rw[tz hb.1,tz hb.2];rfl);have HA:Hid (oV G a b=G.set (a*8+b) true):=(by unfold Hid oV;rw[tr ⟨ha,hb⟩];rfl);have hc:=aK (a*8+b) (by omega);have hz:=aJ (a*8+b);have H1:=zA (dK a w);have H2:=zA (dK b w);rw[b1]at H1;rw[b2]at H2;clear ha hb b1 b2 aK aJ
   go_enter func117,ntmps117
   go_wp2_with fail
   refine H1.out.mono ?_;rintro e w1 ⟨rfl,hw⟩;obtain rfl:=hw.symm;go_wp2_with fail
   refine H2.out.mono ?_;rintro e w1 ⟨rfl,hw⟩;obtain rfl:=hw.symm;go_wp2_with fail
   go_end0
   exact⟨rfl,by rw[HA.out];exact HG.out.set _,qY.set _ _ _ _⟩
  ·have HA:Hid (oV G a b=G):=by unfold Hid oV;rw[tj (λh=>hb h.2)]
   have b2:(decide ((0:Int)<=b)&&decide (b<8))=false:=by
    rw[fd];by_cases h0:0<=b
    ·exact .inr (ty (λh=>hb ⟨h0,h⟩))
    ·exact .inl (ty h0)
   have H1:=zA (dK a w);have H2:=zA (dK b w);rw[b1]at H1;rw[b2]at H2;clear ha hb b1 b2 aK aJ
   go_enter func117,ntmps117
   go_wp2_with fail
   refine H1.out.mono ?_;rintro e w1 ⟨rfl,hw⟩;obtain rfl:=hw.symm;go_wp2_with fail
   refine H2.out.mono ?_;rintro e w1 ⟨rfl,hw⟩;obtain rfl:=hw.symm;go_wp2_with fail
   go_end0
   exact⟨rfl,by rw[HA.out];exact HG.out,qY.refl _ _⟩
 ·have HA:Hid (oV G a b=G):=by unfold Hid oV;rw[tj (λh=>ha h.1)]
  have b1:(decide ((0:Int)<=a)&&decide (a<8))=false:=by
   rw[fd];by_cases h0:0<=a
   ·exact .inr (ty (λh=>ha ⟨h0,h⟩))
   ·exact .inl (ty h0)
  have H1:=zA (dK a w);rw[b1]at H1;clear ha b1 aK aJ
  go_enter func117,ntmps117
  go_wp2_with fail
  refine H1.out.mono ?_;rintro e w1 ⟨rfl,hw⟩;obtain rfl:=hw.symm;go_wp2_with fail
  go_end0
  exact⟨rfl,by rw[HA.out];exact HG.out,qY.refl _ _⟩
end Go.Proofs.YtnbpdffdnphbeabGreatDoor
