import Derived.Test.YtnbpdffdnphbeabGreatDoorFView
set_option maxHeartbeats 4000000
set_option maxRecDepth 100000
namespace Go.Proofs.YtnbpdffdnphbeabGreatDoor
open Go.RowKit
variable{G:List Bool}{g:Nat}{w:World}
theorem zJS:(Tryz.prog.info? 46).map (·.size)=some 64:=by kernel_rfl
theorem eE(h:G.length=64):(Tryz.prog.info? 46).map (·.size)=some (gC G).size:=by rw[xR,h];exact zJS
def zBA(w:World)(g:Nat)(G:List Bool):Prop:=w.heap[g]? = some (.cells (gC G) 46 (0,0))/\G.length=64
theorem zBA.cell(h:zBA w g G){k:Nat}(hk:k<64):w.cell? ⟨g,k,none⟩=some (.bool (G.getD k false)):=by
 simp only[World.cell?,h.1];exact Xu (by rw[h.2];exact hk)
theorem zBA.set(h:zBA w g G)(k:Nat):zBA (w.setCell ⟨g,k,none⟩ (.bool true)) g (G.set k true):=by
 refine⟨?_,by rw[List.length_set];exact h.2⟩;rw[setCell_eq_setRow w g k _ _ _ _ h.1];have:=bi w g (gC G) ((gC G).setIfInBounds k (.bool true)) _ _ h.1;rw[this];congr 2
 simp[gC,List.map_set]
theorem zBA.free(h:zBA w g G)(k:Nat):w.frozen? ⟨g,k,none⟩=false:=by simp[World.frozen?,h.1]
structure zIT(w w':World)(G:List Bool):Prop where
 gr:zBA w' (w.heap.size+1) G
 res:w'.heap[w.heap.size]? = some (.cells (gC gZ) 46 (0,0))
 bel:Below w.heap.size w w'
theorem zIT.set{w':World}(h:zIT w w' G)(k:Nat):zIT w (w'.setCell ⟨w.heap.size+1,k,none⟩ (.bool true)) (G.set k true) :=
 ⟨h.gr.set k,qE h.res (by omega),h.bel.setCell (p:=⟨w.heap.size+1,k,none⟩) (by show w.heap.size<=w.heap.size+1;omega) _⟩
theorem Be{M:yC}{rv hv:Value}(h:qH w g M.lo M.hi rv M.over hv):w.rangeAt g 7 (gC (kT M)).toList:=fun j u hu=>by
 have hl:=oJ M
 have hj:j<64:=by
  have:=(List.getElem?_eq_some_iff.1 hu).1;rw[Array.length_toList,xR,hl]at this;exact this
 rw[dt,Xu (by omega)]at hu;have h1:=h.cells.2.2.2.1 (j/8) (j%8) (by omega) (by omega);have h2:=CS M (a:=j/8) (b:=j%8) (by omega) (by omega);unfold gA at h2;rw[show j/8*8+j%8=j by omega]at h2;rw[h2]at hu;rw[<-hu,<-h1];congr 2
 omega
theorem jx(w:World)(g:Nat)(M:yC)(hM:pK w g M) :
 Calls Tryz.prog 47 #[.pointer (some ⟨g,0,none⟩)] w fun e w'=>e=.returned (.agg (gC (zS (kT M))))/\Below w.heap.size w w':=by
 have hg:g<w.heap.size:=by obtain⟨_,_,hm⟩:=hM.mad;exact hm.lt
 have HRg:Hid (∀w',Below w.heap.size w w'->w'.rangeAt g 7 (gC (kT M)).toList):=fun w' hb=>by
  obtain⟨rv,hv,hm⟩:=(hM.below hb).mad;exact Be hm
 have HB1:Hid (∀o,Below w.heap.size w (w.alloc o)):=fun o=>fj (j1 _) o;have HLn:=zA (oJ M);have HI:Hid ((Tryz.prog.info? 46).map (·.size)=some (gC (kT M)).toList.length):=by unfold Hid;rw[Array.length_toList];exact eE (oJ M)
 clear hM
 go_enter Tryz.func47,Tryz.ntmps47
 go_upto_region 1 with fail
 go_cut [3] from 7 to 10 (fun p3 wx=>p3=.pointer (some ⟨w.heap.size+1,0,none⟩)/\Hid (zIT w wx (kT M)))
 case first =>
  go_wp2_with (first
   | (refine wpList_load_mid ?zK9 46 (.tmp 9) ?ho g 7 ?hx (gC (kT M)).toList _ (HRg.out _ (HB1.out _)) Tryz.underlying46 rfl HI.out ?_
      case ho=>rfl
      case zK9=>rfl
      case hx=>rfl)
   | (refine wpList_store_row ?zK9 46 (.tmp 3) (.tmp 10) ?ho (w.heap.size+1) (gC (kT M)) ?hx ?hy 46 (gC gZ) (heap_alloc2_new w _ _) (eE HLn.out) ?zKC (tO (kT M)) ?_
      case ho=>rfl
      case zK9=>rfl
      case hx=>rfl
      case hy=>rfl
      case zKC=>rw[xR,xR,yY,HLn.out]))
  go_meet
  refine⟨rfl,⟨⟨bi _ _ (gC gZ) _ _ _ (heap_alloc2_new w _ _),HLn.out⟩,BD (zU (zG _ _)) (by omega),yT ?_ (by omega) _⟩⟩;exact(fj (j1 _) _).alloc (ph (zY _ _)) _
 case rest =>
  obtain⟨rfl,HC⟩:=hcut;clear HRg hg HI;go_wp2_with fail
  go_loopw [4] (fun v4 wr=>∃(m:Nat) (F:List Bool),m<=8/\v4=.int .i64 m/\Hid (zIT w wr F)/\Hid (wA (512-m*64) (m*64) F=zS (kT M))) (fun v4 _=>8-(intOf v4).toNat)
  case atStart=>exact⟨0,kT M,by omega,rfl,HC,zA rfl⟩
  case round =>
   obtain⟨m,F,hm,rfl,HCm,HE⟩:=hrel;clear HC;by_cases zK4:m<8
   ·obtain⟨wm,rfl⟩:∃wm,wm=wr:=⟨_,rfl⟩
    have HEm:Hid (wA (512-(m*64+0*8)) (m*64+0*8) F=zS (kT M)):=by have:=HE.out;unfold Hid;simpa using this
    clear HE;go_wp2_with fail
    go_loopw [5] (fun v5 wr=>∃(f:Nat) (F:List Bool),f<=8/\v5=.int .i64 f/\Hid (zIT w wr F)/\Hid (wA (512-(m*64+f*8)) (m*64+f*8) F=zS (kT M))) (fun v5 _=>8-(intOf v5).toNat)
    case atStart=>exact⟨0,F,by omega,rfl,HCm,HEm⟩
    case round =>
     obtain⟨f,F2,hf,rfl,HCf,HE2⟩:=hrel;clear HCm HEm;by_cases hltf:f<8
     ·obtain⟨wf,rfl⟩:∃wf,wf=wr:=⟨_,rfl⟩
      go_wp2_with fail
      go_loopw [6] (fun v6 wr=>∃(t:Nat) (F:List Bool),t<=8/\v6=.int .i64 t/\Hid (zIT w wr F)/\Hid (wA (512-(m*64+f*8+t)) (m*64+f*8+t) F=zS (kT M))) (fun v6 _=>8-(intOf v6).toNat)
      case atStart=>exact⟨0,F2,by omega,rfl,HCf,HE2⟩
      case round =>
       obtain⟨t,F3,ht,rfl,HCt,HE3⟩:=hrel;clear HCf HE2;by_cases hltt:t<8
       ·have hE:=HE3.out
        rw[show 512-(m*64+f*8+t)=(512-(m*64+f*8+(t+1)))+1 by omega,wA]at hE
        have e1:wS (m*64+f*8+t) F3=if F3.getD (f*8+m) false&&F3.getD (m*8+t) false then F3.set (f*8+t) true else F3:=by
         unfold wS gA;rw[show (m*64+f*8+t)%64=f*8+t by omega,show (m*64+f*8+t)/64=m by omega,show (f*8+t)/8=f by omega,show (m*64+f*8+t)%8=t by omega]
        rw[e1]at hE;have HE4:=zA hE;have c1:=HCt.out.gr.cell (k:=f*8+m) (by omega);have c2:=HCt.out.gr.cell (k:=m*8+t) (by omega);have c3:=HCt.out.gr.cell (k:=f*8+t) (by omega);have hfz:=HCt.out.gr.free (f*8+t);clear hE e1 HE3;generalize F3.getD (f*8+m) false=z1 at *;generalize F3.getD (m*8+t) false=z2 at *;cases z1
        ·have HE5:Hid (wA (512-(m*64+f*8+(t+1))) (m*64+f*8+(t+1)) F3=zS (kT M)):=HE4.out
         clear HE4;go_wp2_with fail
         go_roundw
         case rel=>exact⟨t+1,F3,by omega,by go_num,HCt,HE5⟩
         case measure=>simp[intOf];omega
        ·cases z2
         ·have HE5:Hid (wA (512-(m*64+f*8+(t+1))) (m*64+f*8+(t+1)) F3=zS (kT M)):=HE4.out
          clear HE4;go_wp2_with fail
          go_roundw
          case rel=>exact⟨t+1,F3,by omega,by go_num,HCt,HE5⟩
          case measure=>simp[intOf];omega
         ·have HE5:Hid (wA (512-(m*64+f*8+(t+1))) (m*64+f*8+(t+1)) (F3.set (f*8+t) true)=zS (kT M)):=HE4.out
          clear HE4;go_wp2_with fail
          go_roundw
          case rel=>exact⟨t+1,F3.set (f*8+t) true,by omega,by go_num,zA (HCt.out.set _),HE5⟩
          case measure=>simp[intOf];omega
       ·obtain rfl:t=8:=by omega
        have HE5:Hid (wA (512-(m*64+(f+1)*8)) (m*64+(f+1)*8) F3=zS (kT M)):=by have:=HE3.out;unfold Hid;rw[show m*64+(f+1)*8=m*64+f*8+8 by omega];exact this
        clear HE3;go_wp2_with fail
        go_roundw
        case rel=>exact⟨f+1,F3,by omega,by go_num,HCt,HE5⟩
        case measure=>simp[intOf];omega
     ·obtain rfl:f=8:=by omega
      have HE5:Hid (wA (512-(m+1)*64) ((m+1)*64) F2=zS (kT M)):=by have:=HE2.out;unfold Hid;rw[show (m+1)*64=m*64+8*8 by omega];exact this
      clear HE2;go_wp2_with fail
      go_roundw
      case rel=>exact⟨m+1,F2,by omega,by go_num,HCf,HE5⟩
      case measure=>simp[intOf];omega
   ·obtain rfl:m=8:=by omega
    have HE5:Hid (F=zS (kT M)):=HE.out;clear HE
    go_wp2_with (first
     | (refine wpList_load_row ?zK9 46 (.tmp 3) ?ho (w.heap.size+1) ?hx 46 (gC F) (0,0) _ HCm.out.gr.1 Tryz.underlying46 rfl (eE HCm.out.gr.2) ?_
        case ho=>rfl
        case zK9=>rfl
        case hx=>rfl)
     | (refine wpList_store_row ?zK9 46 (.tmp 2) (.tmp 39) ?ho w.heap.size (gC F) ?hx ?hy 46 (gC gZ) HCm.out.res (eE HCm.out.gr.2) ?zKC (tO F) ?_
        case ho=>rfl
        case zK9=>rfl
        case hx=>rfl
        case hy=>rfl
        case zKC=>rw[xR,xR,yY,HCm.out.gr.2]))
    refine pb (v:=.agg (gC F)) (results_cell_row Tryz.results47 _ _ w.heap.size 46 (gC F) (0,0) _ rfl (bi _ _ (gC gZ) _ _ _ HCm.out.res) Tryz.underlying46 rfl (eE HCm.out.gr.2)) rfl ⟨by rw[HE5.out],yT HCm.out.bel (j1 _) _⟩
def zII(M:yC)(G:List Bool)(i j:Nat):Bool:=decide (i≠j)&&(decide ((M.rules.getD i gE).head=(M.rules.getD j gE).head)&&(!gA G i j && !gA G j i))
theorem jw(w:World)(g:Nat)(M:yC)(G:List Bool)(i j:Nat)(hM:pK w g M)(hO:yD M)(hG:G.length=64)(hi:i<M.rules.length)(hj:j<M.rules.length) :
 Calls Tryz.prog 53 #[.pointer (some ⟨g,0,none⟩),.agg (gC G),.int .i64 (i:Int),.int .i64 (j:Int)] w fun e w'=>e=.returned (.bool (zII M G i j))/\Below w.heap.size w w':=by
 have h8:=hO.few;have HB:Hid (∀o,Below w.heap.size w (w.alloc o)):=fun o=>fj (j1 _) o;have HA:Hid (zII M G i j=(decide (i≠j)&&(decide ((M.rules.getD i gE).head=(M.rules.getD j gE).head)&&(!gA G i j && !gA G j i)))):=rfl;have hM1:=hM.below (HB.out (.cells (gC G) 46));obtain⟨gr,rc,-,-,-,-,c6,⟨ch,-,-,-⟩,-,-⟩:=hM1.rule hi;obtain⟨gr',rc',-,-,-,-,c6',⟨ch',-,-,-⟩,-,-⟩:=hM1.rule hj;have e6:=c6.symm.trans c6';obtain rfl:gr=gr':=by simpa using (dn e6 |> fun e=>by injection e with e1 _ _;simpa using e1)
 have HAr:zBA (w.alloc (.cells (gC G) 46)) w.heap.size G:=⟨zG _ _,hG⟩;have a1:=HAr.cell (k:=i*8+j) (by omega);have a2:=HAr.cell (k:=j*8+i) (by omega);have f1:gA G i j=G.getD (i*8+j) false:=rfl;have f2:gA G j i=G.getD (j*8+i) false:=rfl;rw[f1,f2]at HA;clear c6' e6 hM hM1 HAr f1 f2 hG;have i8:(i:Int)<8:=by omega
 have j8:(j:Int)<8:=by omega
 have il:(i:Int)<(M.rules.length:Int):=by omega
 have jl:(j:Int)<(M.rules.length:Int):=by omega
 generalize G.getD (i*8+j) false=z1 at *;generalize G.getD (j*8+i) false=z2 at *;generalize (M.rules.getD i gE).head=h1 at *;generalize (M.rules.getD j gE).head=h2 at *;generalize zII M G i j=ANS at *;by_cases k0:i=j
 ·subst k0
  have HZ:Hid (ANS=false):=by unfold Hid;rw[HA.out];simp
  have q1:((i:Int)==(i:Int))=true:=by simp
  have q2:((i:Int) != (i:Int))=false:=by simp
  clear HA
  go_enter Tryz.func53,Tryz.ntmps53
  go_upto_region 1 with fail
  go_region
  all_goals
   go_wp2_with fail
   go_ret
   exact⟨zF HZ.out.symm,by first|exact HB.out _|exact po (HB.out _)⟩
 ·have k1:¬(i:Int)=(j:Int):=by omega
  have q1:((i:Int)==(j:Int))=false:=by rw[mh];exact k1
  have q2:((i:Int) != (j:Int))=true:=by rw[bne_iff_ne];exact k1
  by_cases kh:h1=h2
  ·subst kh
   have r1:((h1:Int)==(h1:Int))=true:=by simp
   have HZ:Hid (ANS=(!z1 && !z2)):=by unfold Hid;rw[HA.out];simp[k0]
   clear HA
   go_enter Tryz.func53,Tryz.ntmps53
   go_upto_region 1 with fail
   cases z1 <;> cases z2
   all_goals
    go_region
    all_goals
     go_wp2_with fail
     go_ret
     exact⟨zF HZ.out.symm,by first|exact HB.out _|exact po (HB.out _)⟩
  ·have kh1:¬(h1:Int)=(h2:Int):=by omega
   have r1:((h1:Int)==(h2:Int))=false:=by rw[mh];exact kh1
   have HZ:Hid (ANS=false):=by unfold Hid;rw[HA.out];simp[kh]
   clear HA
   go_enter Tryz.func53,Tryz.ntmps53
   go_upto_region 1 with fail
   go_region
   all_goals
    go_wp2_with fail
    go_ret
    exact⟨zF HZ.out.symm,by first|exact HB.out _|exact po (HB.out _)⟩
theorem zCI:∀i,i<8->∀j,j<8->yZ 114 i=yZ 114 j->i=j:=by decide
theorem ZH(w:World)(g:Nat)(M:yC)(k:Nat)(hM:pK w g M)(hO:yD M)(hk:k<M.rules.length) :
 Calls Tryz.prog 33 #[.pointer (some ⟨g,0,none⟩),.string ⟨(yZ 114 k).toArray⟩] w fun e w'=>e=.returned (.int .i64 (k:Int))/\Below w.heap.size w w':=by
 have h8:=hO.few
 have HR:Hid (∀w',Below w.heap.size w w'->∃gr rc,w'.cell? ⟨g,6,none⟩=some (.slice (some ⟨gr,0,none⟩) M.rules.length rc)):=fun w' hb=>by
  obtain⟨gr,rc,-,-,-,-,c6,-⟩:=(hM.below hb).rule hk;exact⟨gr,rc,c6⟩
 have HNm:=zA lI;have zJZ:Hid (∀i,i<k->yZ 114 k≠yZ 114 i):=fun i hi e=>by have:=zCI k (by omega) i (by omega) e;omega
 have glt:g<w.heap.size:=by obtain⟨_,_,hm⟩:=hM.mad;exact hm.lt
 clear hM hO;generalize M.rules.length=n at *;generalize hnm:yZ 114 k=nm at *
 go_enter Tryz.func33,Tryz.ntmps33
 go_wp2_with fail
 go_loopw [5] (fun iv wr=>∃(i:Nat),i<=k/\iv=.int .i64 (i:Int)/\Hid (Below w.heap.size w wr)) (fun iv _=>k-(intOf iv).toNat)
 case atStart=>exact⟨0,ty _,rfl,zA (tg _ _)⟩
 case round =>
  obtain⟨i,hi,rfl,HB⟩:=hrel;obtain⟨gr,rc,c6⟩:=HR.out wr HB.out;have ii:(i:Int)<(n:Int):=by omega
  have HN:=zA (HNm.out wr 114 i (by omega));by_cases zK4:i<k
  ·have zK8:=zJZ.out i zK4
   generalize yZ 114 i=nx at *;have hq:(nm==nx)=false:=by simpa using zK8
   have HQ:Hid ((⟨nm.toArray⟩:ByteArray)≠⟨nx.toArray⟩):=fun e=>zK8 (by injection e with e;simpa using e);go_wp2_with fail
   refine HN.out.mono ?_;rintro e w4 ⟨rfl,hb4⟩;have HB4:Hid (Below w.heap.size w w4):=HB.out.trans (hb4.mono HB.out.size);clear hb4 HN;go_wp2_with fail
   go_roundw
   case rel=>exact⟨i+1,by omega,by go_num,HB4⟩
   case measure=>simp[intOf];omega
  ·obtain rfl:i=k:=by omega
   rw[hnm]at HN;go_wp2_with fail
   refine HN.out.mono ?_;rintro e w4 ⟨rfl,hb4⟩;have HB4:Hid (Below w.heap.size w w4):=HB.out.trans (hb4.mono HB.out.size);clear hb4 HN;go_wp2_with fail
   go_ret
   exact⟨rfl,HB4.out⟩
structure AppR(w:World)(gv gr i:Nat)(b:Bool)(hd:Int)(wh:Bool)(pa qa:Option Addr)(pn pc qn qc:Nat):Prop where
 c0:w.cell? ⟨gr,i*4,none⟩=some (.int .i64 hd)
 c1:w.cell? ⟨gr,i*4+1,none⟩=some (.bool wh)
 c2:w.cell? ⟨gr,i*4+2,none⟩=some (.slice pa pn pc)
 c3:w.cell? ⟨gr,i*4+3,none⟩=some (.slice qa qn qc)
 app:Calls Tryz.prog 34 #[.agg #[.int .i64 hd,.bool wh,.slice pa pn pc,.slice qa qn qc],.pointer (some ⟨gv,0,none⟩)] w fun e w'=>e=.returned (.bool b)/\Below w.heap.size w w'
theorem zFU{gv:Nat}{M:yC}{v:FV}(hM:pK w g M)(hO:yD M)(hV:nV w gv v){i:Nat}(hi:i<M.rules.length):∃gr rc hd wh pa qa pn pc qn qc,w.cell? ⟨g,6,none⟩=some (.slice (some ⟨gr,0,none⟩) M.rules.length rc)/\AppR w gv gr i (nF v (M.rules.getD i gE)) hd wh pa qa pn pc qn qc:=by
 obtain⟨gr,rc,pa,pc,qa,qc,c6,⟨c0,c1,c2,c3⟩,hp,hq⟩:=hM.rule hi;exact⟨gr,rc,_,_,pa,qa,_,pc,_,qc,c6,c0,c1,c2,c3,Cc w gv v _ M.heads pa qa pc qc hV (hO.rules _ (tN gE hi)) hp hq⟩
def zIW(n:Nat)(nm:Nat->Bs)(z:Nat->Int):List Value:=(List.range n).flatMap fun j=>[.string ⟨(nm j).toArray⟩,.int .i64 (z j)]
theorem Yb{n k:Nat}(nm:Nat->Bs)(z:Nat->Int)(hk:k<n):(zIW n nm z)[k*2]? = some (.string ⟨(nm k).toArray⟩)/\(zIW n nm z)[k*2+1]? = some (.int .i64 (z k)):=by
 have hl:k<(List.range n).length:=by simpa using hk
 have e:(List.range n).getD k 0=k:=by simp[List.getD,hk]
 have h0:=zN (fun j:Nat=>([.string ⟨(nm j).toArray⟩,.int .i64 (z j)]:List Value)) 2 (fun _=>rfl) 0 (List.range n) k 0 hl (by decide);have h1:=zN (fun j:Nat=>([.string ⟨(nm j).toArray⟩,.int .i64 (z j)]:List Value)) 2 (fun _=>rfl) 0 (List.range n) k 1 hl (by decide);rw[e]at h0 h1;exact⟨h0,h1⟩
theorem vw{l:List Nat}(h:l.Nodup){i j:Nat}(hi:i<l.length)(hj:j<l.length)(e:l.getD i 0=l.getD j 0):i=j:=by
 have h1:=List.pairwise_iff_getElem.1 h;simp only[List.getD,p9 hi,p9 hj,Option.getD_some]at e;rcases Nat.lt_trichotomy i j with h2|h2|h2
 ·exact absurd e (h1 i j hi hj h2)
 ·exact h2
 ·exact absurd e.symm (h1 j i hj hi h2)
theorem Cb(w:World)(g:Nat)(M:yC)(nm:Nat->Bs)(z:Nat->Int)(sa:Option Addr)(sc:Nat)(hM:pK w g M)(hO:yD M)(hS:kS w sa (zIW (5+M.heads.length) nm z))
 (hn1:∀i,i<5->nm i=yK i) (hn2:∀k,k<M.heads.length->nm (5+k)=yZ 99 (M.heads.getD k 0)) (hz1:∀i,i<3->M.lo i<=z i/\z i<=M.hi i) (hz2:∀i,3<=i->z i=0\/z i=1) :
 Calls Tryz.prog 52 #[.pointer (some ⟨g,0,none⟩),.slice sa (5+M.heads.length) sc] w fun e w'=>∃gv v,e=.returned (.tuple #[.pointer (some ⟨gv,0,none⟩),.bool true])/\nV w' gv v/\(∀i,i<5->v.inn i=z i)/\(∀k,k<M.heads.length->v.has (M.heads.getD k 0)=decide (z (5+k)=1))/\Below w.heap.size w w':=by
 have hnd:M.heads.Nodup:=by rw[hO.heads];exact dY _
 have hh4:∀x∈M.heads,x<4:=fun x hx=>by
  rw[hO.heads]at hx;rcases(pI (M.rules.map vP.head) [] (x:=x)).1 hx with h1|h1
  ·cases h1
  ·obtain⟨r,hr,rfl⟩:=p8.1 h1;exact(hO.rules r hr).head
 have hhl:M.heads.length<=4:=by
  have:=List.Nodup.length_le_of_subset hnd (l₂:=List.range 4) (fun x hx=>pq.2 (hh4 x hx));simpa using this
 obtain⟨gs,rfl⟩:∃gs,sa=some ⟨gs,0,none⟩:=by
  obtain⟨gs,e,-⟩:=hS.at (Yb nm z (k:=0) (by omega)).1;exact⟨gs,e⟩
 have HSc:Hid (∀w',Below w.heap.size w w'->∀k,k<5+M.heads.length->w'.cell? ⟨gs,k*2,none⟩=some (.string ⟨(nm k).toArray⟩)/\w'.cell? ⟨gs,k*2+1,none⟩=some (.int .i64 (z k))):=fun w' hb k hk=>by
  obtain⟨g1,e1,c1⟩:=(hS.below hb).at (Yb nm z hk).1;obtain⟨g2,e2,c2⟩:=(hS.below hb).at (Yb nm z hk).2;obtain rfl:gs=g1:=by simpa using e1
  obtain rfl:gs=g2:=by simpa using e2
  exact⟨c1,c2⟩
 have HMd:Hid (∀w',Below w.heap.size w w'->∃rv ha hc,qH w' g M.lo M.hi rv M.over (.slice ha M.heads.length hc)/\xG w' 3 ha (dV M.heads)):=fun w' hb=>by
  obtain⟨ra,ha,rc,hc,xs,h1,h2,h3,h4,h5⟩:=(hM.below hb).mem;exact⟨_,ha,hc,h2,h5⟩
 have hgs:gs<w.heap.size:=by
  obtain⟨g1,e1,c1⟩:=hS.at (Yb nm z (k:=0) (by omega)).1;obtain rfl:gs=g1:=by simpa using e1
  exact yF c1
 have HKp:Hid (∀(w4:World) (o o2:Nat) (q u:Value),w4.cell? ⟨gs,o2,none⟩=some u->(w4.setCell ⟨w.heap.size,o,none⟩ q).drew.cell? ⟨gs,o2,none⟩=some u):=fun w4 o o2 q u h=>by
  have hb:Below w.heap.size w4 (w4.setCell ⟨w.heap.size,o,none⟩ q).drew:=po ((tg w.heap.size w4).setCell (p:=⟨w.heap.size,o,none⟩) (j1 _) q);exact(hb.cell (p:=⟨gs,o2,none⟩) hgs).trans h
 have HN1:=zA hn1;have HN2:=zA hn2;have HZ1:=zA hz1;have HZ2:=zA hz2;have HNu:=zA hO.nums;have HNd:=zA hnd;have HH4:Hid (∀k,k<M.heads.length->M.heads.getD k 0<4):=fun k hk=>hh4 _ (tN 0 hk);have zKR:=zA lV;have HNm:=zA lI;have glt:g<w.heap.size:=by obtain⟨_,_,hm⟩:=hM.mad;exact hm.lt
 clear hM hO hS hn1 hn2 hz1 hz2 hnd hh4;obtain⟨n5,hn5⟩:∃n5,n5=5+M.heads.length:=⟨_,rfl⟩;rw[<-hn5];have q5:((n5:Int) != 5+(M.heads.length:Int))=false:=by rw[bne_eq_false_iff_eq];omega
 have q6:((n5:Int)==5+(M.heads.length:Int))=true:=by rw[beq_iff_eq];omega
 have HN5:=zA hn5;clear hn5
 go_enter Tryz.func52,Tryz.ntmps52
 go_upto_region 2 with fail
 have HV0:=zA (Yt w);have HB0:Hid (Below w.heap.size w (w.alloc (.cells #[.int .i64 0,.int .i64 0,.int .i64 0,.int .i64 0,.int .i64 0,.bool false,.bool false,.bool false,.bool false,.int .i64 0,.int .i64 0,.int .i64 0,.int .i64 0] 110))):=fj (j1 _) _;generalize w.alloc (.cells #[.int .i64 0,.int .i64 0,.int .i64 0,.int .i64 0,.int .i64 0,.bool false,.bool false,.bool false,.bool false,.int .i64 0,.int .i64 0,.int .i64 0,.int .i64 0] 110)=w0 at *;obtain⟨rv,ha,hc,hmad,-⟩:=HMd.out w0 HB0.out;have c71:=hmad.cells.2.2.2.2;clear hmad;go_wp2_with fail
 go_loopw [7] (fun iv wr=>∃(i:Nat) (v:FV),i<=5/\iv=.int .i64 (i:Int)/\Hid (nV wr w.heap.size v)/\Hid (∀j,j<i->v.inn j=z j)/\Hid (Below w.heap.size w wr)) (fun iv _=>5-(intOf iv).toNat)
 case atStart=>exact⟨0,_,ty _,rfl,HV0,zA (fun j hj=>by omega),HB0⟩
 case round =>
  clear HV0 HB0 c71;obtain⟨i,v,hi5,rfl,HV,HI,HB⟩:=hrel;by_cases zK4:i<5
  ·have c1:(i:Int)<5:=by omega
   have il:(i:Int)<(n5:Int):=by have:=HN5.out;omega
   obtain⟨s0,s1⟩:=HSc.out wr HB.out i (by omega);rw[HN1.out i zK4]at s0;have HIp:=zA (fun w'=>zKR.out w' i zK4);have fz:=HV.out.free i;have m0:=HV.out.cells.1 i zK4;have zKN:Hid (∀w' q,nV w' w.heap.size v->nV (w'.setCell ⟨w.heap.size,i,none⟩ (.int .i64 q)) w.heap.size ⟨nP v.inn i q,v.has,v.val⟩):=fun w' q h=>h.setI i zK4 q
   have HNx:Hid (∀j,j<i+1->(⟨nP v.inn i (z i),v.has,v.val⟩:FV).inn j=z j):=fun j hj=>by
    show nP v.inn i (z i) j=z j;by_cases e:j=i
    ·subst e;exact aA _ _ _
    ·rw[Yx e];exact HI.out j (by omega)
   have hzi:∃lo hi:Int,(lo<=z i/\z i<=hi)/\((i<3/\wr.cell? ⟨g,i,none⟩=some (.int .i64 lo)/\wr.cell? ⟨g,3+i,none⟩=some (.int .i64 hi))\/(¬i<3/\lo=0/\hi=1)):=by
    by_cases h3:i<3
    ·obtain⟨rv,ha,hc,hmad,-⟩:=HMd.out wr HB.out
     exact⟨_,_,HZ1.out i h3,.inl ⟨h3,hmad.cells.1 i h3,hmad.cells.2.1 i h3⟩⟩
    ·exact⟨0,1,by have:=HZ2.out i (by omega);omega,.inr ⟨h3,rfl,rfl⟩⟩
   obtain⟨lo,hi,⟨hz1,hz2⟩,hzc⟩:=hzi;generalize yK i=inm at *;generalize z i=zi at *;have t1:(inm==inm)=true:=by simp
   have t2:(inm != inm)=false:=by simp
   have k1:decide (zi<lo)=false:=tq (by omega);have k2:decide (hi<zi)=false:=tq (by omega);have k3:¬zi<lo:=by omega
   have k4:¬hi<zi:=by omega
   clear hz1 hz2
   have HCs:Hid (∀w',Below wr.heap.size wr w'->w'.cell? ⟨gs,i*2,none⟩=some (.string ⟨inm.toArray⟩)/\w'.cell? ⟨gs,i*2+1,none⟩=some (.int .i64 zi)):=fun w' hb=>by
    have h1:=(hb.cell (p:=⟨gs,i*2,none⟩) (yF s0)).trans s0;have h2:=(hb.cell (p:=⟨gs,i*2+1,none⟩) (yF s1)).trans s1;exact⟨h1,h2⟩
   go_upto_if 29 with fail
   go_cut [8,9] from 24 to 78 (fun v8 v9 wx=>v8=.int .i64 lo/\v9=.int .i64 hi/\wx=wr)
   case first =>
    rcases hzc with ⟨h3,m1,m2⟩|⟨h3,rfl,rfl⟩
    ·have c3:(i:Int)<3:=by omega
     go_wp2_with fail
     go_meet
     exact⟨rfl,rfl,rfl⟩
    ·have c3:¬(i:Int)<3:=by omega
     go_wp2_with fail
     go_meet
     exact⟨rfl,rfl,rfl⟩
   case rest =>
    obtain⟨rfl,rfl,rfl⟩:=hcut;clear hzc
    go_upto_region 12 with fail
    go_region_held3 (fun w'=>w'.cell? ⟨gs,i*2,none⟩=some (.string ⟨inm.toArray⟩)/\w'.cell? ⟨gs,i*2+1,none⟩=some (.int .i64 zi)) (go_keep) (
     (go_at_call 44;refine(HIp.out _).mono ?_;rintro e w4 ⟨rfl,hb4⟩;have hB4:Below wc.heap.size wc w4:=(po (tg _ _)).trans hb4;obtain⟨s0,s1⟩:=HCs.out w4 hB4))
    all_goals
     have HB4:Hid (Below w.heap.size w w4):=HB.out.trans (hB4.mono HB.out.size);have HV4:=zA (HV.out.below hB4);have fz4:=HV4.out.free i;have m4:=HV4.out.cells.1 i zK4;clear hb4 hB4
     go_upto_region 14 with fail
     go_region_held3 (fun w'=>w'.cell? ⟨gs,i*2+1,none⟩=some (.int .i64 zi)) (first|exact HKp.out _ _ _ _ _ s1|go_keep) (fail)
     all_goals
      go_wp2_with fail
      go_roundw
      case rel=>exact⟨i+1,_,by omega,by go_num,zA (zKN.out _ _ HV4.out).drew,HNx,zA (po (HB4.out.setCell (j1 _) _))⟩
      case measure=>simp[intOf];omega
  ·obtain rfl:i=5:=by omega
   have c1:¬((5:Nat):Int)<5:=by omega
   go_wp2_with fail
   go_loopw [10] (fun kv wr=>∃(k:Nat) (v:FV),k<=M.heads.length/\kv=.int .i64 (k:Int)/\Hid (nV wr w.heap.size v)/\Hid (∀j,j<5->v.inn j=z j)/\Hid (∀j,j<k->v.has (M.heads.getD j 0)=decide (z (5+j)=1))/\Hid (Below w.heap.size w wr)) (fun kv _=>M.heads.length-(intOf kv).toNat)
   case atStart=>exact⟨0,v,ty _,rfl,HV,HI,zA (fun j hj=>by omega),HB⟩
   case round =>
    clear HV HI HB;obtain⟨k,v,hk,rfl,HV,HI,HH,HB⟩:=hrel;obtain⟨rv,ha,hc,hmad,hlow⟩:=HMd.out wr HB.out;have c71:=hmad.cells.2.2.2.2;clear hmad;by_cases zKJ:k<M.heads.length
    ·have c2:(k:Int)<(M.heads.length:Int):=by omega
     have kl:5+(k:Int)<(n5:Int):=by have:=HN5.out;omega
     have hget:(dV M.heads)[k]? = some (.int .i64 ((M.heads.getD k 0:Nat):Int)):=by unfold dV;simp[List.getD,zKJ]
     obtain⟨gh,e0,ch⟩:=hlow.cel.at hget;subst e0;obtain⟨s0,s1⟩:=HSc.out wr HB.out (5+k) (by omega);rw[HN2.out k zKJ]at s0;have hd4:=HH4.out k zKJ
     have HNx:Hid (∀j,j<k+1->(⟨v.inn,nP v.has (M.heads.getD k 0) (decide (z (5+k)=1)),v.val⟩:FV).has (M.heads.getD j 0)=decide (z (5+j)=1)):=fun j hj=>by
      by_cases e:j=k
      ·subst e;exact aA _ _ _
      ·refine(Yx fun h=>e ?_).trans (HH.out j (by omega))
       exact vw HNd.out (by omega) zKJ h
     have hz01:=HZ2.out (5+k) (by omega);have zKN:Hid (∀w' q,nV w' w.heap.size v->nV (w'.setCell ⟨w.heap.size,5+M.heads.getD k 0,none⟩ (.bool q)) w.heap.size ⟨v.inn,nP v.has (M.heads.getD k 0) q,v.val⟩):=fun w' q h=>h.setH _ hd4 q;have HKn:=zA (fun w'=>HNm.out w' 99 (M.heads.getD k 0) (by omega));have HVc:Hid (∀w',Below wr.heap.size wr w'->w'.frozen? ⟨w.heap.size,5+M.heads.getD k 0,none⟩=false/\w'.cell? ⟨w.heap.size,5+M.heads.getD k 0,none⟩=some (.bool (v.has (M.heads.getD k 0)))):=fun w' hb=>⟨(HV.out.below hb).free _,(HV.out.below hb).cells.2.1 _ hd4⟩;have d4:((M.heads.getD k 0:Nat):Int)<4:=by omega
     have HC0:Hid (∀w',Below wr.heap.size wr w'->w'.cell? ⟨g,71,none⟩=some (.slice (some ⟨gh,0,none⟩) M.heads.length hc)/\w'.cell? ⟨gh,k,none⟩=some (.int .i64 ((M.heads.getD k 0:Nat):Int))):=fun w' hb=>⟨(hb.cell (p:=⟨g,71,none⟩) (yF c71)).trans c71,(hb.cell (p:=⟨gh,k,none⟩) (yF ch)).trans ch⟩;generalize yZ 99 (M.heads.getD k 0)=cnm at *;generalize hd:M.heads.getD k 0=dd at *;generalize z (5+k)=zk at *;have t1:(cnm==cnm)=true:=by simp
     have t2:(cnm != cnm)=false:=by simp
     have k1:decide (zk<0)=false:=tq (by omega);have k2:decide (1<zk)=false:=tq (by omega);have k3:¬zk<0:=by omega
     have k4:¬ 1<zk:=by omega
     have hgh:gh<w.heap.size:=by
      obtain⟨rv',ha',hc',hmad',hlow'⟩:=HMd.out w (tg _ _);have e1:=hmad'.cells.2.2.2.2;have e2:=(HB.out.cell (p:=⟨g,71,none⟩) glt).trans e1;have e3:=e2.symm.trans c71;have e4:=dn e3;injection e4 with e5 _ _
      obtain⟨g',e6,c6⟩:=hlow'.cel.at hget;rw[e5]at e6;obtain rfl:gh=g':=by simpa using e6
      exact yF c6
     go_upto_region 19 with fail
     have hws:=HV.out.lt;have x0:(wr.alloc (.cells #[.string ⟨cnm.toArray⟩,.int .i64 zk] 95)).cell? ⟨wr.heap.size,0,none⟩=some (.string ⟨cnm.toArray⟩):=zB (zG _ _) 0;have x1:(wr.alloc (.cells #[.string ⟨cnm.toArray⟩,.int .i64 zk] 95)).cell? ⟨wr.heap.size,1,none⟩=some (.int .i64 zk):=zB (zG _ _) 1;have HBz:Hid (Below wr.heap.size wr (wr.alloc (.cells #[.string ⟨cnm.toArray⟩,.int .i64 zk] 95))):=fj (j1 _) _;obtain⟨y2,y3⟩:=HC0.out _ HBz.out;generalize wr.alloc (.cells #[.string ⟨cnm.toArray⟩,.int .i64 zk] 95)=wz at *;have HC4:Hid (∀w',Below wz.heap.size wz w'->w'.cell? ⟨wr.heap.size,0,none⟩=some (.string ⟨cnm.toArray⟩)/\w'.cell? ⟨wr.heap.size,1,none⟩=some (.int .i64 zk)/\w'.cell? ⟨g,71,none⟩=some (.slice (some ⟨gh,0,none⟩) M.heads.length hc)/\w'.cell? ⟨gh,k,none⟩=some (.int .i64 (dd:Int))):=fun w' hb=>⟨(hb.cell (p:=⟨wr.heap.size,0,none⟩) (yF x0)).trans x0,(hb.cell (p:=⟨wr.heap.size,1,none⟩) (yF x1)).trans x1,(hb.cell (p:=⟨g,71,none⟩) (yF y2)).trans y2,(hb.cell (p:=⟨gh,k,none⟩) (yF y3)).trans y3⟩;clear s0 s1 c71 ch HC0 HSc HMd HN1 HN2 HZ1 HZ2 HNu zKR HNm
     go_region_held3 (fun w'=>w'.cell? ⟨wr.heap.size,0,none⟩=some (.string ⟨cnm.toArray⟩)/\w'.cell? ⟨wr.heap.size,1,none⟩=some (.int .i64 zk)/\w'.cell? ⟨g,71,none⟩=some (.slice (some ⟨gh,0,none⟩) M.heads.length hc)/\w'.cell? ⟨gh,k,none⟩=some (.int .i64 (dd:Int))) (go_keep) (
      (go_at_call 19;refine(HKn.out _).mono ?_;rintro e w4 ⟨rfl,hb4⟩;have hB4:Below wz.heap.size wz w4:=(po (tg _ _)).trans hb4;obtain⟨x0,x1,y2,y3⟩:=HC4.out w4 hB4))
     all_goals
      have hBr:Below wr.heap.size wr w4:=HBz.out.trans (hB4.mono HBz.out.size);have HB4:Hid (Below w.heap.size w w4):=HB.out.trans (hBr.mono HB.out.size);have HV4:=zA (HV.out.below hBr);obtain⟨fz4,m4⟩:=HVc.out w4 hBr
      have HK3:Hid (∀q:Value,(w4.setCell ⟨w.heap.size,5+dd,none⟩ q).drew.cell? ⟨wr.heap.size,1,none⟩=some (.int .i64 zk)/\(w4.setCell ⟨w.heap.size,5+dd,none⟩ q).drew.cell? ⟨g,71,none⟩=some (.slice (some ⟨gh,0,none⟩) M.heads.length hc)/\(w4.setCell ⟨w.heap.size,5+dd,none⟩ q).drew.cell? ⟨gh,k,none⟩=some (.int .i64 (dd:Int))):=fun q=>by
       have hb:Below w.heap.size w4 (w4.setCell ⟨w.heap.size,5+dd,none⟩ q).drew:=po ((tg w.heap.size w4).setCell (p:=⟨w.heap.size,5+dd,none⟩) (j1 _) q);refine⟨?_,(hb.cell (p:=⟨g,71,none⟩) glt).trans y2,(hb.cell (p:=⟨gh,k,none⟩) hgh).trans y3⟩
       have e1:(w4.setCell ⟨w.heap.size,5+dd,none⟩ q).drew.cell? ⟨wr.heap.size,1,none⟩=w4.cell? ⟨wr.heap.size,1,none⟩:=by
        show (w4.setCell ⟨w.heap.size,5+dd,none⟩ q).cell? ⟨wr.heap.size,1,none⟩=_;unfold World.cell?;rw[lk _ _ _ _ (show wr.heap.size≠(⟨w.heap.size,5+dd,none⟩:Addr).block by show wr.heap.size≠w.heap.size;omega)]
       exact e1.trans x1
      clear hb4 hB4 hBr
      go_upto_region 21 with fail
      go_region_held3 (fun w'=>w'.cell? ⟨wr.heap.size,1,none⟩=some (.int .i64 zk)/\w'.cell? ⟨g,71,none⟩=some (.slice (some ⟨gh,0,none⟩) M.heads.length hc)/\w'.cell? ⟨gh,k,none⟩=some (.int .i64 (dd:Int))) (first|exact HK3.out _|go_keep) (fail)
      all_goals
       go_wp2_with fail
       go_roundw
       case rel=>exact⟨k+1,_,by omega,by go_num,zA (zKN.out _ _ HV4.out).drew,HI,HNx,zA (po (HB4.out.setCell (j1 _) _))⟩
       case measure=>simp[intOf];omega
    ·obtain rfl:k=M.heads.length:=by omega
     have c2:¬(M.heads.length:Int)<(M.heads.length:Int):=by omega
     go_wp2_with fail
     go_ret2
     first
      | exact⟨w.heap.size,v,rfl,HV.out,HI.out,HH.out,HB.out⟩
      | exact⟨w.heap.size,rfl,v,HV.out,HI.out,HH.out,HB.out⟩
def zG1(M:yC)(w w':World)(e:Ending):Prop:=∃(i j:Nat) (nm:Nat->Bs) (z:Nat->Int) (la sa:Option Addr) (sc:Nat),e=.returned (.tuple #[.slice la 2 2,.slice sa (5+M.heads.length:Nat) sc,.int .i64 0])/\(i<j/\j<M.rules.length/\zII M (zS (kT M)) i j=true)/\kS w' la [.string ⟨(yZ 114 i).toArray⟩,.string ⟨(yZ 114 j).toArray⟩]/\kS w' sa (zIW (5+M.heads.length) nm z) /\
 ((∀i,i<5->nm i=yK i)/\(∀k,k<M.heads.length->nm (5+k)=yZ 99 (M.heads.getD k 0))/\(∀i,i<3->M.lo i<=z i/\z i<=M.hi i)/\(∀i,3<=i->z i=0\/z i=1)) /\
 (∀v:FV,(∀i,i<5->v.inn i=z i)->(∀k,k<M.heads.length->v.has (M.heads.getD k 0)=decide (z (5+k)=1))->nF v (M.rules.getD i gE)=true/\nF v (M.rules.getD j gE)=true)/\Below w.heap.size w w'
theorem jn(w:World)(g:Nat)(M:yC)(src:Bs)(hM:pK w g M)(hO:yD M)(hC:Calls Tryz.prog 29 #[.string ⟨src.toArray⟩] w fun e w'=>zG1 M w w' e) :
 Calls Tryz.prog 28 #[.pointer (some ⟨g,0,none⟩),.string ⟨src.toArray⟩] w fun e w'=>e=.returned (.bool true)/\Below w.heap.size w w':=by
 have HC:=zA hC;have HMb:=zA (fun w' (hb:Below w.heap.size w w')=>hM.below hb);have HO:=zA hO;have hAl:(zS (kT M)).length=64:=by unfold zS;rw[dR];exact oJ M
 have HAl:=zA hAl;clear hC hM hO hAl
 go_enter Tryz.func28,Tryz.ntmps28
 go_wp2_with fail
 refine HC.out.mono ?_;rintro e w1 ⟨i,j,nm,z,la,sa,sc,rfl,⟨hij,hjn,a1⟩,hla,hsa,⟨n1,n2,n3,n4⟩,happ,hb1⟩;have HB1:=zA hb1;have HSe:=zA (Cb w1 g M nm z sa sc (HMb.out w1 hb1) HO.out hsa n1 n2 n3 n4);have HLa:=zA (fun w' (hb:Below w1.heap.size w1 w')=>hla.below hb);have HAp:=zA happ;clear hb1 hla hsa n1 n2 n3 n4 happ HC;go_wp2_with fail
 refine HSe.out.mono ?_;rintro e w2 ⟨gv,v,rfl,hv,hv1,hv2,hb2⟩;obtain⟨a2,a3⟩:=HAp.out v hv1 hv2;have HB2:Hid (Below w.heap.size w w2):=HB1.out.trans (hb2.mono HB1.out.size);have hla2:=HLa.out w2 hb2;obtain⟨gl,e0,l0⟩:=hla2.at (j:=0) rfl;obtain⟨gl',e1,l1⟩:=hla2.at (j:=1) rfl;subst e0;obtain rfl:gl=gl':=by simpa using e1
 have HVb:=zA (fun w' (hb:Below w2.heap.size w2 w')=>hv.below hb);have HN1:=zA (fun w' (hb:Below w.heap.size w w')=>ZH w' g M i (HMb.out w' hb) HO.out (by omega));have HN2:=zA (fun w' (hb:Below w.heap.size w w')=>ZH w' g M j (HMb.out w' hb) HO.out hjn);have HAb:=zA (fun w' (hb:Below w.heap.size w w')=>jx w' g M (HMb.out w' hb));have HApt:=zA (fun w' (hb:Below w.heap.size w w')=>jw w' g M (zS (kT M)) i j (HMb.out w' hb) HO.out HAl.out (by omega) hjn);have HR1:=zA (fun w' (hb:Below w.heap.size w w') (h2:Below w2.heap.size w2 w')=>zFU (HMb.out w' hb) HO.out (HVb.out w' h2) (i:=i) (by omega));have HR2:=zA (fun w' (hb:Below w.heap.size w w') (h2:Below w2.heap.size w2 w')=>zFU (HMb.out w' hb) HO.out (HVb.out w' h2) (i:=j) hjn);rw[a1]at HApt;rw[a2]at HR1;rw[a3]at HR2;have il:(i:Int)<(M.rules.length:Int):=by omega
 have jl:(j:Int)<(M.rules.length:Int):=by omega
 have ij:¬(j:Int)<=(i:Int):=by omega
 have i0:¬(i:Int)<0:=by omega
 have HL1:Hid (∀w',Below w2.heap.size w2 w'->w'.cell? ⟨gl,1,none⟩=some (.string ⟨(yZ 114 j).toArray⟩)):=fun w' hb=>(hb.cell (p:=⟨gl,1,none⟩) (yF l1)).trans l1;clear hb2 hla2 a1 a2 a3 hv hv1 hv2 HAp HLa HSe HB1 e1 HVb;generalize zS (kT M)=AA at *;generalize M.rules.length=n at *;generalize yZ 114 i=ni at *;generalize yZ 114 j=nj at *;go_wp2_with fail
 refine(HN1.out _ HB2.out).mono ?_;rintro e w3 ⟨rfl,hb3⟩;have HB3:Hid (Below w.heap.size w w3):=HB2.out.trans (hb3.mono HB2.out.size);have H23:=zA hb3;have l1:=HL1.out w3 hb3;clear hb3 l0 HN1;go_wp2_with fail
 refine(HN2.out _ HB3.out).mono ?_;rintro e w4 ⟨rfl,hb4⟩;have HB4:Hid (Below w.heap.size w w4):=HB3.out.trans (hb4.mono HB3.out.size);have H24:Hid (Below w2.heap.size w2 w4):=H23.out.trans (hb4.mono H23.out.size);clear hb4 l1 HN2 H23 HB3 HL1;go_wp2_with fail
 refine(HAb.out _ HB4.out).mono ?_;rintro e w5 ⟨rfl,hb5⟩;have HB5:Hid (Below w.heap.size w w5):=HB4.out.trans (hb5.mono HB4.out.size);have H25:Hid (Below w2.heap.size w2 w5):=H24.out.trans (hb5.mono H24.out.size);have hs5:=HB5.out.size;have hs25:=H25.out.size;have zKN:Hid ((w5.alloc (.cells (gC gZ) 46)).heap[w5.heap.size]? = some (.cells (gC gZ) 46 (0,0))):=zG _ _;have HAr:Hid (zBA ((w5.alloc (.cells (gC gZ) 46)).setRow w5.heap.size (gC AA)) w5.heap.size AA):=⟨bi _ _ _ _ _ _ zKN.out,HAl.out⟩;have HB6:Hid (Below w.heap.size w ((w5.alloc (.cells (gC gZ) 46)).setRow w5.heap.size (gC AA))):=yT (HB5.out.alloc hs5 _) hs5 _;have H26:Hid (Below w2.heap.size w2 ((w5.alloc (.cells (gC gZ) 46)).setRow w5.heap.size (gC AA))):=yT (H25.out.alloc hs25 _) hs25 _;clear hb5 HAb H24 HB4
 go_wp2_with (first
  | (refine wpList_store_row ?zK9 46 (.tmp 12) (.tmp 57) ?ho w5.heap.size (gC AA) ?hx ?hy 46 (gC gZ) zKN.out (eE HAl.out) ?zKC (tO AA) ?_
     case ho=>rfl
     case zK9=>rfl
     case hx=>rfl
     case hy=>rfl
     case zKC=>rw[xR,xR,yY,HAl.out])
  | (refine wpList_load_row ?zK9 46 (.tmp 12) ?ho w5.heap.size ?hx 46 (gC AA) (0,0) _ HAr.out.1 Tryz.underlying46 rfl (eE HAl.out) ?_
     case ho=>rfl
     case zK9=>rfl
     case hx=>rfl))
 refine(HApt.out _ HB6.out).mono ?_;rintro e w7 ⟨rfl,hb7⟩;have HB7:Hid (Below w.heap.size w w7):=HB6.out.trans (hb7.mono HB6.out.size);have H27:Hid (Below w2.heap.size w2 w7):=H26.out.trans (hb7.mono H26.out.size);clear hb7 HApt HB6 H26 HAr zKN HB5 H25;obtain⟨gr,rc,hd,wh,pa,qa,pn,pc,qn,qc,c6,p0,p1,p2,p3,hcal⟩:=HR1.out w7 HB7.out H27.out;have HCl:=zA hcal;clear hcal HR1;go_wp2_with fail
 refine HCl.out.mono ?_;rintro e w8 ⟨rfl,hb8⟩;have HB8:Hid (Below w.heap.size w w8):=HB7.out.trans (hb8.mono HB7.out.size);have H28:Hid (Below w2.heap.size w2 w8):=H27.out.trans (hb8.mono H27.out.size);clear hb8 HCl HB7 H27 c6 p0 p1 p2 p3;obtain⟨gr,rc,hd,wh,pa,qa,pn,pc,qn,qc,c6,p0,p1,p2,p3,hcal⟩:=HR2.out w8 HB8.out H28.out;have HCl:=zA hcal;clear hcal HR2;go_wp2_with fail
 refine HCl.out.mono ?_;rintro e w9 ⟨rfl,hb9⟩;have HB9:Hid (Below w.heap.size w w9):=HB8.out.trans (hb9.mono HB8.out.size);clear hb9 HCl HB8 H28 c6 p0 p1 p2 p3;go_wp2_with fail
 go_ret
 exact⟨rfl,HB9.out⟩
def zF3(M:yC):Prop:=∃i j,i<j/\j<M.rules.length/\zII M (zS (kT M)) i j=true/\∃v,mG M v/\nF v (M.rules.getD i gE)=true/\nF v (M.rules.getD j gE)=true
def zB0(M:yC)(w w':World)(e:Ending):Prop:=(e=.returned (.tuple #[.slice none 0 0,.slice none 0 0,.int .i64 9])/\¬zF3 M/\Below w.heap.size w w')\/(zF3 M/\zG1 M w w' e)
end Go.Proofs.YtnbpdffdnphbeabGreatDoor
