import Derived.Test.YtnbpdffdnphbeabGreatDoorFView
open Go.Proofs.Tryz
set_option maxHeartbeats 4000000
set_option maxRecDepth 100000
namespace Go.Proofs.YtnbpdffdnphbeabGreatDoor
open Go.RowKit
variable{G:List Bool}{g:Nat}{w:World}
theorem LQ:(prog.info? 46).map (·.size)=some 64:=by kernel_rfl
theorem wQ(h:G.length=64):(prog.info? 46).map (·.size)=some (gC G).size:=by rw[xK,h];exact LQ
def o9(w:World)(g:Nat)(G:List Bool):Prop:=w.heap[g]? = some (.cells (gC G) 46 (0,0))/\G.length=64
theorem o9.cell(h:o9 w g G){k:Nat}(hk:k<64):w.cell? ⟨g,k,none⟩=some (.bool (G.getD k false)):=by
 simp only[World.cell?,h.1];exact Q9 (by rw[h.2];exact hk)
theorem o9.set(h:o9 w g G)(k:Nat):o9 (w.setCell ⟨g,k,none⟩ (.bool true)) g (G.set k true):=by
 refine⟨?_,by rw[List.length_set];exact h.2⟩;rw[setCell_eq_setRow w g k _ _ _ _ h.1];have:=l9 w g (gC G) ((gC G).setIfInBounds k (.bool true)) h.1;rw[this];congr 2
 simp[gC,List.map_set]
theorem o9.free(h:o9 w g G)(k:Nat):w.frozen? ⟨g,k,none⟩=false:=by simp[World.frozen?,h.1]
structure zNV(w w':World)(G:List Bool):Prop where
 gr:o9 w' (w.heap.size+1) G
 res:w'.heap[w.heap.size]? = some (.cells (gC gZ) 46 (0,0))
 af:Below w.heap.size w w'
theorem zNV.set{w':World}(h:zNV w w' G)(k:Nat):zNV w (w'.setCell ⟨w.heap.size+1,k,none⟩ (.bool true)) (G.set k true) :=
 ⟨h.gr.set k,qU h.res (by omega),h.af.setCell (p:=⟨w.heap.size+1,k,none⟩) (by show w.heap.size<=w.heap.size+1;omega) _⟩
theorem CT{M:yO}{rv hv:Value}(h:kH w g M.lo M.hi rv M.over hv):w.rangeAt g 7 (gC (tH M)).toList:=λj u hu=>by
 have hl:=sA M
 have hj:j<64:=by
  have:=(dl.1 hu).1;rw[Array.length_toList,xK,hl]at this;exact this
 rw[da,Q9 (by omega)]at hu;have h1:=h.cells.2.2.2.1 (j/8) (j%8) (by omega) (by omega);have h2:=FK M (a:=j/8) (b:=j%8) (by omega) (by omega);unfold gA at h2;rw[show j/8*8+j%8=j by omega]at h2;rw[h2]at hu;rw[<-hu,<-h1];congr 2
 omega
theorem P8(w:World)(g:Nat)(M:yO)(hM:bF w g M) :
 Calls prog 47 #[.pointer (some ⟨g,0,none⟩)] w λe w'=>e=.returned (.agg (gC (zT (tH M))))/\Below w.heap.size w w':=by
 have hg:g<w.heap.size:=by obtain⟨_,_,hm⟩:=hM.ep;exact hm.lt
 have b3:Hid (∀w',Below w.heap.size w w'->w'.rangeAt g 7 (gC (tH M)).toList):=λw' hb=>by
  obtain⟨rv,hv,hm⟩:=(hM.below hb).ep;exact CT hm
 have ak:Hid (∀o,Below w.heap.size w (w.alloc o)):=λo=>fk (tg _) o;have bV:=zA (sA M);have HI:Hid ((prog.info? 46).map (·.size)=some (gC (tH M)).toList.length):=by unfold Hid;rw[Array.length_toList];exact wQ (sA M)
 clear hM
 go_enter func47,ntmps47
 go_upto_region 1 with fail
 go_cut [3] from 7 to 10 (λp3 wx=>p3=.pointer (some ⟨w.heap.size+1,0,none⟩)/\Hid (zNV w wx (tH M)))
 case first =>
  go_wp2_with (first
   | (refine wpList_load_mid ?aD 46 (.tmp 9) ?ho g 7 ?hx (gC (tH M)).toList _ (b3.out _ (ak.out _)) underlying46 rfl HI.out ?_
      case ho=>rfl
      case aD=>rfl
      case hx=>rfl)
   | (refine wpList_store_row ?aD 46 (.tmp 3) (.tmp 10) ?ho (w.heap.size+1) (gC (tH M)) ?hx ?hy 46 (gC gZ) (heap_alloc2_new w _ _) (wQ bV.out) ?aU (jW (tH M)) ?_
      case ho=>rfl
      case aD=>rfl
      case hx=>rfl
      case hy=>rfl
      case aU=>rw[xK,xK,yX,bV.out]))
  go_meet
  refine⟨rfl,⟨⟨l9 _ _ (gC gZ) _ (heap_alloc2_new w _ _),bV.out⟩,DB (yD (zF _ _)),yK ?_ (by omega) _⟩⟩;exact(fk (tg _) _).alloc (p7 (zY _ _)) _
 case rest =>
  obtain⟨rfl,HC⟩:=hcut;clear b3 hg HI;go_wp2_with fail
  go_loopw [4] (λv4 wr=>∃(m:Nat) (F:List Bool),m<=8/\v4=.int .i64 m/\Hid (zNV w wr F)/\Hid (wA (512-m*64) (m*64) F=zT (tH M))) (λv4 _=>8-(intOf v4).toNat)
  case atStart=>exact⟨0,tH M,by omega,rfl,HC,zA rfl⟩
  case round =>
   obtain⟨m,F,hm,rfl,aI,HE⟩:=hrel;clear HC;by_cases aJ:m<8
   ·obtain⟨wm,rfl⟩:∃wm,wm=wr:=⟨_,rfl⟩
    have b7:Hid (wA (512-(m*64+0*8)) (m*64+0*8) F=zT (tH M)):=(by have:=HE.out;unfold Hid;simpa using this);clear HE;go_wp2_with fail
    go_loopw [5] (λv5 wr=>∃(f:Nat) (F:List Bool),f<=8/\v5=.int .i64 f/\Hid (zNV w wr F)/\Hid (wA (512-(m*64+f*8)) (m*64+f*8) F=zT (tH M))) (λv5 _=>8-(intOf v5).toNat)
    case atStart=>exact⟨0,F,by omega,rfl,aI,b7⟩
    case round =>
     obtain⟨f,F2,hf,rfl,bW,a7⟩:=hrel;clear aI b7;by_cases cH:f<8
     ·obtain⟨wf,rfl⟩:∃wf,wf=wr:=⟨_,rfl⟩
      go_wp2_with fail
      go_loopw [6] (λv6 wr=>∃(t:Nat) (F:List Bool),t<=8/\v6=.int .i64 t/\Hid (zNV w wr F)/\Hid (wA (512-(m*64+f*8+t)) (m*64+f*8+t) F=zT (tH M))) (λv6 _=>8-(intOf v6).toNat)
      case atStart=>exact⟨0,F2,by omega,rfl,bW,a7⟩
      case round =>
       obtain⟨t,F3,ht,rfl,aL,a6⟩:=hrel;clear bW a7;by_cases cG:t<8
       ·have hE:=a6.out
        rw[show 512-(m*64+f*8+t)=(512-(m*64+f*8+(t+1)))+1 by omega,wA]at hE
        have e1:wS (m*64+f*8+t) F3=if F3.getD (f*8+m) false&&F3.getD (m*8+t) false then F3.set (f*8+t) true else F3:=by
         unfold wS gA;rw[show (m*64+f*8+t)%64=f*8+t by omega,show (m*64+f*8+t)/64=m by omega,show (f*8+t)/8=f by omega,show (m*64+f*8+t)%8=t by omega]
        rw[e1]at hE;have aS:=zA hE;have c1:=aL.out.gr.cell (k:=f*8+m) (by omega);have c2:=aL.out.gr.cell (k:=m*8+t) (by omega);have c3:=aL.out.gr.cell (k:=f*8+t) (by omega);have cg:=aL.out.gr.free (f*8+t);clear hE e1 a6;generalize F3.getD (f*8+m) false=z1 at *;generalize F3.getD (m*8+t) false=z2 at *;cases z1
        ·have aH:Hid (wA (512-(m*64+f*8+(t+1))) (m*64+f*8+(t+1)) F3=zT (tH M)):=aS.out
         clear aS;go_wp2_with fail
         go_roundw
         case rel=>exact⟨t+1,F3,by omega,by go_num,aL,aH⟩
         case measure=>simp[intOf];omega
        ·cases z2
         ·have aH:Hid (wA (512-(m*64+f*8+(t+1))) (m*64+f*8+(t+1)) F3=zT (tH M)):=aS.out
          clear aS;go_wp2_with fail
          go_roundw
          case rel=>exact⟨t+1,F3,by omega,by go_num,aL,aH⟩
          case measure=>simp[intOf];omega
         ·have aH:Hid (wA (512-(m*64+f*8+(t+1))) (m*64+f*8+(t+1)) (F3.set (f*8+t) true)=zT (tH M)):=aS.out
          clear aS;go_wp2_with fail
          go_roundw
          case rel=>exact⟨t+1,F3.set (f*8+t) true,by omega,by go_num,zA (aL.out.set _),aH⟩
          case measure=>simp[intOf];omega
       ·obtain rfl:t=8:=by omega
        have aH:Hid (wA (512-(m*64+(f+1)*8)) (m*64+(f+1)*8) F3=zT (tH M)):=(by have:=a6.out;unfold Hid;rw[show m*64+(f+1)*8=m*64+f*8+8 by omega];exact this);clear a6;go_wp2_with fail
        go_roundw
        case rel=>exact⟨f+1,F3,by omega,by go_num,aL,aH⟩
        case measure=>simp[intOf];omega
     ·obtain rfl:f=8:=by omega
      have aH:Hid (wA (512-(m+1)*64) ((m+1)*64) F2=zT (tH M)):=(by have:=a7.out;unfold Hid;rw[show (m+1)*64=m*64+8*8 by omega];exact this);clear a7;go_wp2_with fail
      go_roundw
      case rel=>exact⟨m+1,F2,by omega,by go_num,bW,aH⟩
      case measure=>simp[intOf];omega
   ·obtain rfl:m=8:=by omega
    have aH:Hid (F=zT (tH M)):=HE.out;clear HE
    go_wp2_with (first
     | (refine wpList_load_row ?aD 46 (.tmp 3) ?ho (w.heap.size+1) ?hx 46 (gC F) (0,0) _ aI.out.gr.1 underlying46 rfl (wQ aI.out.gr.2) ?_
        case ho=>rfl
        case aD=>rfl
        case hx=>rfl)
     | (refine wpList_store_row ?aD 46 (.tmp 2) (.tmp 39) ?ho w.heap.size (gC F) ?hx ?hy 46 (gC gZ) aI.out.res (wQ aI.out.gr.2) ?aU (jW F) ?_
        case ho=>rfl
        case aD=>rfl
        case hx=>rfl
        case hy=>rfl
        case aU=>rw[xK,xK,yX,aI.out.gr.2]))
    refine pe (v:=.agg (gC F)) (results_cell_row results47 _ _ w.heap.size 46 (gC F) (0,0) _ rfl (l9 _ _ (gC gZ) _ aI.out.res) underlying46 rfl (wQ aI.out.gr.2)) rfl ⟨by rw[aH.out],yK aI.out.af (tg _) _⟩
def AO(M:yO)(G:List Bool)(i j:Nat):Bool:=decide (i≠j)&&(decide ((M.rules.getD i oA).head=(M.rules.getD j oA).head)&&(!gA G i j && !gA G j i))
theorem P9(w:World)(g:Nat)(M:yO)(G:List Bool)(i j:Nat)(hM:bF w g M)(hO:yR M)(hG:G.length=64)(hi:i<M.rules.length)(hj:j<M.rules.length) :
 Calls prog 53 #[.pointer (some ⟨g,0,none⟩),.agg (gC G),.int .i64 (i:Int),.int .i64 (j:Int)] w λe w'=>e=.returned (.bool (AO M G i j))/\Below w.heap.size w w':=by
 have h8:=hO.aj;have HB:Hid (∀o,Below w.heap.size w (w.alloc o)):=λo=>fk (tg _) o;have HA:Hid (AO M G i j=(decide (i≠j)&&(decide ((M.rules.getD i oA).head=(M.rules.getD j oA).head)&&(!gA G i j && !gA G j i)))):=rfl;have bN:=hM.below (HB.out (.cells (gC G) 46));obtain⟨gr,rc,-,-,-,-,c6,⟨ch,-,-,-⟩,-,-⟩:=bN.rule hi;obtain⟨cK,cZ,-,-,-,-,bx,⟨ck,-,-,-⟩,-,-⟩:=bN.rule hj;have e6:=c6.symm.trans bx;obtain rfl:gr=cK:=by simpa using (Option.some.inj e6 |> λe=>by injection e with e1 _ _;simpa using e1)
 have aT:o9 (w.alloc (.cells (gC G) 46)) w.heap.size G:=⟨zF _ _,hG⟩;have a1:=aT.cell (k:=i*8+j) (by omega);have a2:=aT.cell (k:=j*8+i) (by omega);have f1:gA G i j=G.getD (i*8+j) false:=rfl;have f2:gA G j i=G.getD (j*8+i) false:=rfl;rw[f1,f2]at HA;clear bx e6 hM bN aT f1 f2 hG;have i8:(i:Int)<8:=by omega
 have j8:(j:Int)<8:=by omega
 have il:(i:Int)<(M.rules.length:Int):=by omega
 have jl:(j:Int)<(M.rules.length:Int):=by omega
 generalize G.getD (i*8+j) false=z1 at *;generalize G.getD (j*8+i) false=z2 at *;generalize (M.rules.getD i oA).head=h1 at *;generalize (M.rules.getD j oA).head=h2 at *;generalize AO M G i j=bh at *;by_cases k0:i=j
 ·subst k0
  have HZ:Hid (bh=false):=by unfold Hid;rw[HA.out];simp
  have q1:((i:Int)==(i:Int))=true:=by simp
  have q2:((i:Int) != (i:Int))=false:=by simp
  clear HA
  go_enter func53,ntmps53
  go_upto_region 1 with fail
  go_region
  all_goals
   go_wp2_with fail
   go_ret
   exact⟨zG HZ.out.symm,by first|exact HB.out _|exact md (HB.out _)⟩
 ·have k1:¬(i:Int)=(j:Int):=by omega
  have q1:((i:Int)==(j:Int))=false:=by rw[lj];exact k1
  have q2:((i:Int) != (j:Int))=true:=by rw[bne_iff_ne];exact k1
  by_cases kh:h1=h2
  ·subst kh
   have r1:((h1:Int)==(h1:Int))=true:=(by simp);have HZ:Hid (bh=(!z1 && !z2)):=(by unfold Hid;rw[HA.out];simp[k0]);clear HA
   go_enter func53,ntmps53
   go_upto_region 1 with fail
   cases z1 <;> cases z2
   all_goals
    go_region
    all_goals
     go_wp2_with fail
     go_ret
     exact⟨zG HZ.out.symm,by first|exact HB.out _|exact md (HB.out _)⟩
  ·have cC:¬(h1:Int)=(h2:Int):=by omega
   have r1:((h1:Int)==(h2:Int))=false:=(by rw[lj];exact cC);have HZ:Hid (bh=false):=(by unfold Hid;rw[HA.out];simp[kh]);clear HA
   go_enter func53,ntmps53
   go_upto_region 1 with fail
   go_region
   all_goals
    go_wp2_with fail
    go_ret
    exact⟨zG HZ.out.symm,by first|exact HB.out _|exact md (HB.out _)⟩
theorem Od:∀i,i<8->∀j,j<8->xU 114 i=xU 114 j->i=j:=by decide
theorem YS(w:World)(g:Nat)(M:yO)(k:Nat)(hM:bF w g M)(hO:yR M)(hk:k<M.rules.length) :
 Calls prog 33 #[.pointer (some ⟨g,0,none⟩),.string ⟨(xU 114 k).toArray⟩] w λe w'=>e=.returned (.int .i64 (k:Int))/\Below w.heap.size w w':=by
 have h8:=hO.aj
 have HR:Hid (∀w',Below w.heap.size w w'->∃gr rc,w'.cell? ⟨g,6,none⟩=some (.slice (some ⟨gr,0,none⟩) M.rules.length rc)):=λw' hb=>by
  obtain⟨gr,rc,-,-,-,-,c6,-⟩:=(hM.below hb).rule hk;exact⟨gr,rc,c6⟩
 have az:=zA bR;have zO1:Hid (∀i,i<k->xU 114 k≠xU 114 i):=λi hi e=>by have:=Od k (by omega) i (by omega) e;omega
 have ey:g<w.heap.size:=by obtain⟨_,_,hm⟩:=hM.ep;exact hm.lt
 clear hM hO;generalize M.rules.length=n at *;generalize cF:xU 114 k=nm at *
 go_enter func33,ntmps33
 go_wp2_with fail
 go_loopw [5] (λiv wr=>∃(i:Nat),i<=k/\iv=.int .i64 (i:Int)/\Hid (Below w.heap.size w wr)) (λiv _=>k-(intOf iv).toNat)
 case atStart=>exact⟨0,p8,rfl,zA (tl _ _)⟩
 case round =>
  obtain⟨i,hi,rfl,HB⟩:=hrel;obtain⟨gr,rc,c6⟩:=HR.out wr HB.out;have ii:(i:Int)<(n:Int):=by omega
  have HN:=zA (az.out wr 114 i (by omega));by_cases aJ:i<k
  ·have bk:=zO1.out i aJ
   generalize xU 114 i=nx at *;have hq:(nm==nx)=false:=by simpa using bk
   have HQ:Hid ((⟨nm.toArray⟩:ByteArray)≠⟨nx.toArray⟩):=λe=>bk (by injection e with e;simpa using e);go_wp2_with fail
   refine HN.out.mono ?_;rintro e w4 ⟨rfl,aB⟩;have aC:Hid (Below w.heap.size w w4):=HB.out.trans (aB.mono HB.out.size);clear aB HN;go_wp2_with fail
   go_roundw
   case rel=>exact⟨i+1,by omega,by go_num,aC⟩
   case measure=>simp[intOf];omega
  ·obtain rfl:i=k:=by omega
   rw[cF]at HN;go_wp2_with fail
   refine HN.out.mono ?_;rintro e w4 ⟨rfl,aB⟩;have aC:Hid (Below w.heap.size w w4):=HB.out.trans (aB.mono HB.out.size);clear aB HN;go_wp2_with fail
   go_ret
   exact⟨rfl,aC.out⟩
structure AppR(w:World)(gv gr i:Nat)(b:Bool)(hd:Int)(wh:Bool)(pa qa:Option Addr)(pn pc qn qc:Nat):Prop where
 c0:w.cell? ⟨gr,i*4,none⟩=some (.int .i64 hd)
 c1:w.cell? ⟨gr,i*4+1,none⟩=some (.bool wh)
 c2:w.cell? ⟨gr,i*4+2,none⟩=some (.slice pa pn pc)
 c3:w.cell? ⟨gr,i*4+3,none⟩=some (.slice qa qn qc)
 app:Calls prog 34 #[.agg #[.int .i64 hd,.bool wh,.slice pa pn pc,.slice qa qn qc],.pointer (some ⟨gv,0,none⟩)] w λe w'=>e=.returned (.bool b)/\Below w.heap.size w w'
theorem ID{gv:Nat}{M:yO}{v:FV}(hM:bF w g M)(hO:yR M)(hV:wY w gv v){i:Nat}(hi:i<M.rules.length):∃gr rc hd wh pa qa pn pc qn qc,w.cell? ⟨g,6,none⟩=some (.slice (some ⟨gr,0,none⟩) M.rules.length rc)/\AppR w gv gr i (ZN v (M.rules.getD i oA)) hd wh pa qa pn pc qn qc:=by
 obtain⟨gr,rc,pa,pc,qa,qc,c6,⟨c0,c1,c2,c3⟩,hp,hq⟩:=hM.rule hi;exact⟨gr,rc,_,_,pa,qa,_,pc,_,qc,c6,c0,c1,c2,c3,DY w gv v _ M.aa pa qa pc qc hV (hO.rules _ (pS oA hi)) hp hq⟩
def CJ(n:Nat)(nm:Nat->Bs)(z:Nat->Int):List Value:=(List.range n).flatMap λj=>[.string ⟨(nm j).toArray⟩,.int .i64 (z j)]
theorem Zi{n k:Nat}(nm:Nat->Bs)(z:Nat->Int)(hk:k<n):(CJ n nm z)[k*2]? = some (.string ⟨(nm k).toArray⟩)/\(CJ n nm z)[k*2+1]? = some (.int .i64 (z k)):=by
 have hl:k<(List.range n).length:=by simpa using hk
 have e:(List.range n).getD k 0=k:=by simp[List.getD,hk]
 have h0:=zV (λj:Nat=>([.string ⟨(nm j).toArray⟩,.int .i64 (z j)]:List Value)) 2 (λ_=>rfl) 0 (List.range n) k 0 hl (by decide);have h1:=zV (λj:Nat=>([.string ⟨(nm j).toArray⟩,.int .i64 (z j)]:List Value)) 2 (λ_=>rfl) 0 (List.range n) k 1 hl (by decide);rw[e]at h0 h1;exact⟨h0,h1⟩
theorem SM{l:List Nat}(h:l.Nodup){i j:Nat}(hi:i<l.length)(hj:j<l.length)(e:l.getD i 0=l.getD j 0):i=j:=by
 have h1:=List.pairwise_iff_getElem.1 h;simp only[List.getD,pm hi,pm hj,Option.getD_some]at e;rcases Nat.lt_trichotomy i j with h2|h2|h2
 ·exact x' e (h1 i j hi hj h2)
 ·exact h2
 ·exact x' e.symm (h1 j i hj hi h2)
theorem DX(w:World)(g:Nat)(M:yO)(nm:Nat->Bs)(z:Nat->Int)(sa:Option Addr)(sc:Nat)(hM:bF w g M)(hO:yR M)(hS:kQ w sa (CJ (5+M.aa.length) nm z))
 (bq:∀i,i<5->nm i=xC i) (bp:∀k,k<M.aa.length->nm (5+k)=xU 99 (M.aa.getD k 0)) (hz1:∀i,i<3->M.lo i<=z i/\z i<=M.hi i) (av:∀i,3<=i->z i=0\/z i=1) :
 Calls prog 52 #[.pointer (some ⟨g,0,none⟩),.slice sa (5+M.aa.length) sc] w λe w'=>∃gv v,e=.returned (.tuple #[.pointer (some ⟨gv,0,none⟩),.bool true])/\wY w' gv v/\(∀i,i<5->v.ar i=z i)/\(∀k,k<M.aa.length->v.has (M.aa.getD k 0)=decide (z (5+k)=1))/\Below w.heap.size w w':=by
 have hnd:M.aa.Nodup:=by rw[hO.aa];exact eW _
 have bI:∀x∈M.aa,x<4:=λx hx=>by
  rw[hO.aa]at hx;rcases(dP (M.rules.map vR.head) [] (x:=x)).1 hx with h1|h1
  ·cases h1
  ·obtain⟨r,hr,rfl⟩:=pd.1 h1;exact(hO.rules r hr).head
 have cf:M.aa.length<=4:=by
  have:=List.Nodup.length_le_of_subset hnd (l₂:=List.range 4) (λx hx=>me.2 (bI x hx));simpa using this
 obtain⟨gs,rfl⟩:∃gs,sa=some ⟨gs,0,none⟩:=by
  obtain⟨gs,e,-⟩:=hS.at (Zi nm z (k:=0) (by omega)).1;exact⟨gs,e⟩
 have bQ:Hid (∀w',Below w.heap.size w w'->∀k,k<5+M.aa.length->w'.cell? ⟨gs,k*2,none⟩=some (.string ⟨(nm k).toArray⟩)/\w'.cell? ⟨gs,k*2+1,none⟩=some (.int .i64 (z k))):=λw' hb k hk=>by
  obtain⟨g1,e1,c1⟩:=(hS.below hb).at (Zi nm z hk).1;obtain⟨g2,e2,c2⟩:=(hS.below hb).at (Zi nm z hk).2;obtain rfl:gs=g1:=by simpa using e1
  obtain rfl:gs=g2:=by simpa using e2
  exact⟨c1,c2⟩
 have ah:Hid (∀w',Below w.heap.size w w'->∃rv ha hc,kH w' g M.lo M.hi rv M.over (.slice ha M.aa.length hc)/\xX w' 3 ha (fO M.aa)):=λw' hb=>by
  obtain⟨ra,ha,rc,hc,xs,h1,h2,h3,h4,h5⟩:=(hM.below hb).mem;exact⟨_,ha,hc,h2,h5⟩
 have cI:gs<w.heap.size:=by
  obtain⟨g1,e1,c1⟩:=hS.at (Zi nm z (k:=0) (by omega)).1;obtain rfl:gs=g1:=by simpa using e1
  exact yJ c1
 have cQ:Hid (∀(w4:World) (o o2:Nat) (q u:Value),w4.cell? ⟨gs,o2,none⟩=some u->(w4.setCell ⟨w.heap.size,o,none⟩ q).drew.cell? ⟨gs,o2,none⟩=some u):=λw4 o o2 q u h=>by
  have hb:Below w.heap.size w4 (w4.setCell ⟨w.heap.size,o,none⟩ q).drew:=md ((tl w.heap.size w4).setCell (p:=⟨w.heap.size,o,none⟩) (tg _) q);exact(hb.cell (p:=⟨gs,o2,none⟩) cI).trans h
 have ag:=zA bq;have ae:=zA bp;have bz:=zA hz1;have bO:=zA av;have cO:=zA hO.au;have cP:=zA hnd;have cU:Hid (∀k,k<M.aa.length->M.aa.getD k 0<4):=λk hk=>bI _ (pS 0 hk);have bj:=zA fG;have az:=zA bR;have ey:g<w.heap.size:=by obtain⟨_,_,hm⟩:=hM.ep;exact hm.lt
 clear hM hO hS bq bp hz1 av hnd bI;obtain⟨n5,bE⟩:∃n5,n5=5+M.aa.length:=⟨_,rfl⟩;rw[<-bE];have q5:((n5:Int) != 5+(M.aa.length:Int))=false:=by rw[bne_eq_false_iff_eq];omega
 have q6:((n5:Int)==5+(M.aa.length:Int))=true:=by rw[beq_iff_eq];omega
 have b4:=zA bE;clear bE
 go_enter func52,ntmps52
 go_upto_region 2 with fail
 have b1:=zA (Ci w);have ba:Hid (Below w.heap.size w (w.alloc (.cells #[.int .i64 0,.int .i64 0,.int .i64 0,.int .i64 0,.int .i64 0,.bool false,.bool false,.bool false,.bool false,.int .i64 0,.int .i64 0,.int .i64 0,.int .i64 0] 110))):=fk (tg _) _;generalize w.alloc (.cells #[.int .i64 0,.int .i64 0,.int .i64 0,.int .i64 0,.int .i64 0,.bool false,.bool false,.bool false,.bool false,.int .i64 0,.int .i64 0,.int .i64 0,.int .i64 0] 110)=w0 at *;obtain⟨rv,ha,hc,aA,-⟩:=ah.out w0 ba.out;have aR:=aA.cells.2.2.2.2;clear aA;go_wp2_with fail
 go_loopw [7] (λiv wr=>∃(i:Nat) (v:FV),i<=5/\iv=.int .i64 (i:Int)/\Hid (wY wr w.heap.size v)/\Hid (∀j,j<i->v.ar j=z j)/\Hid (Below w.heap.size w wr)) (λiv _=>5-(intOf iv).toNat)
 case atStart=>exact⟨0,_,p8,rfl,b1,zA (λj hj=>by omega),ba⟩
 case round =>
  clear b1 ba aR;obtain⟨i,v,cd,rfl,HV,HI,HB⟩:=hrel;by_cases aJ:i<5
  ·have c1:(i:Int)<5:=by omega
   have il:(i:Int)<(n5:Int):=(by have:=b4.out;omega);obtain⟨s0,s1⟩:=bQ.out wr HB.out i (by omega);rw[ag.out i aJ]at s0;have cT:=zA (λw'=>bj.out w' i aJ);have fz:=HV.out.free i;have m0:=HV.out.cells.1 i aJ;have aM:Hid (∀w' q,wY w' w.heap.size v->wY (w'.setCell ⟨w.heap.size,i,none⟩ (.int .i64 q)) w.heap.size ⟨ZY v.ar i q,v.has,v.val⟩):=λw' q h=>h.hY i aJ q
   have bU:Hid (∀j,j<i+1->(⟨ZY v.ar i (z i),v.has,v.val⟩:FV).ar j=z j):=λj hj=>by
    show ZY v.ar i (z i) j=z j;by_cases e:j=i
    ·subst e;exact ZX _ _ _
    ·rw[KA e];exact HI.out j (by omega)
   have cD:∃lo hi:Int,(lo<=z i/\z i<=hi)/\((i<3/\wr.cell? ⟨g,i,none⟩=some (.int .i64 lo)/\wr.cell? ⟨g,3+i,none⟩=some (.int .i64 hi))\/(¬i<3/\lo=0/\hi=1)):=by
    by_cases h3:i<3
    ·obtain⟨rv,ha,hc,aA,-⟩:=ah.out wr HB.out
     exact⟨_,_,bz.out i h3,.inl ⟨h3,aA.cells.1 i h3,aA.cells.2.1 i h3⟩⟩
    ·exact⟨0,1,by have:=bO.out i (by omega);omega,.inr ⟨h3,rfl,rfl⟩⟩
   obtain⟨lo,hi,⟨hz1,av⟩,bl⟩:=cD;generalize xC i=aQ at *;generalize z i=zi at *;have t1:(aQ==aQ)=true:=by simp
   have t2:(aQ != aQ)=false:=(by simp);have k1:decide (zi<lo)=false:=ty (by omega);have k2:decide (hi<zi)=false:=ty (by omega);have k3:¬zi<lo:=(by omega);have k4:¬hi<zi:=(by omega);clear hz1 av
   have cV:Hid (∀w',Below wr.heap.size wr w'->w'.cell? ⟨gs,i*2,none⟩=some (.string ⟨aQ.toArray⟩)/\w'.cell? ⟨gs,i*2+1,none⟩=some (.int .i64 zi)):=λw' hb=>by
    have h1:=(hb.cell (p:=⟨gs,i*2,none⟩) (yJ s0)).trans s0;have h2:=(hb.cell (p:=⟨gs,i*2+1,none⟩) (yJ s1)).trans s1;exact⟨h1,h2⟩
   go_upto_if 29 with fail
   go_cut [8,9] from 24 to 78 (λv8 v9 wx=>v8=.int .i64 lo/\v9=.int .i64 hi/\wx=wr)
   case first =>
    rcases bl with ⟨h3,m1,m2⟩|⟨h3,rfl,rfl⟩
    ·have c3:(i:Int)<3:=by omega
     go_wp2_with fail
     go_meet
     exact⟨rfl,rfl,rfl⟩
    ·have c3:¬(i:Int)<3:=by omega
     go_wp2_with fail
     go_meet
     exact⟨rfl,rfl,rfl⟩
   case rest =>
    obtain⟨rfl,rfl,rfl⟩:=hcut;clear bl
    go_upto_region 12 with fail
    go_region_held3 (λw'=>w'.cell? ⟨gs,i*2,none⟩=some (.string ⟨aQ.toArray⟩)/\w'.cell? ⟨gs,i*2+1,none⟩=some (.int .i64 zi)) (go_keep) (
     (go_at_call 44;refine(cT.out _).mono ?_;rintro e w4 ⟨rfl,aB⟩;have aK:Below wc.heap.size wc w4:=(md (tl _ _)).trans aB;obtain⟨s0,s1⟩:=cV.out w4 aK))
    all_goals
     have aC:Hid (Below w.heap.size w w4):=HB.out.trans (aK.mono HB.out.size);have aZ:=zA (HV.out.below aK);have cM:=aZ.out.free i;have m4:=aZ.out.cells.1 i aJ;clear aB aK
     go_upto_region 14 with fail
     go_region_held3 (λw'=>w'.cell? ⟨gs,i*2+1,none⟩=some (.int .i64 zi)) (first|exact cQ.out _ _ _ _ _ s1|go_keep) (fail)
     all_goals
      go_wp2_with fail
      go_roundw
      case rel=>exact⟨i+1,_,by omega,by go_num,zA (aM.out _ _ aZ.out).drew,bU,zA (md (aC.out.setCell (tg _) _))⟩
      case measure=>simp[intOf];omega
  ·obtain rfl:i=5:=by omega
   have c1:¬((5:Nat):Int)<5:=by omega
   go_wp2_with fail
   go_loopw [10] (λkv wr=>∃(k:Nat) (v:FV),k<=M.aa.length/\kv=.int .i64 (k:Int)/\Hid (wY wr w.heap.size v)/\Hid (∀j,j<5->v.ar j=z j)/\Hid (∀j,j<k->v.has (M.aa.getD j 0)=decide (z (5+j)=1))/\Hid (Below w.heap.size w wr)) (λkv _=>M.aa.length-(intOf kv).toNat)
   case atStart=>exact⟨0,v,p8,rfl,HV,HI,zA (λj hj=>by omega),HB⟩
   case round =>
    clear HV HI HB;obtain⟨k,v,hk,rfl,HV,HI,HH,HB⟩:=hrel;obtain⟨rv,ha,hc,aA,bG⟩:=ah.out wr HB.out;have aR:=aA.cells.2.2.2.2;clear aA;by_cases aq:k<M.aa.length
    ·have c2:(k:Int)<(M.aa.length:Int):=by omega
     have kl:5+(k:Int)<(n5:Int):=(by have:=b4.out;omega);have aY:(fO M.aa)[k]? = some (.int .i64 ((M.aa.getD k 0:Nat):Int)):=(by unfold fO;simp[List.getD,aq]);obtain⟨gh,e0,ch⟩:=bG.ay.at aY;subst e0;obtain⟨s0,s1⟩:=bQ.out wr HB.out (5+k) (by omega);rw[ae.out k aq]at s0;have bt:=cU.out k aq
     have bU:Hid (∀j,j<k+1->(⟨v.ar,ZY v.has (M.aa.getD k 0) (decide (z (5+k)=1)),v.val⟩:FV).has (M.aa.getD j 0)=decide (z (5+j)=1)):=λj hj=>by
      by_cases e:j=k
      ·subst e;exact ZX _ _ _
      ·refine(KA λh=>e ?_).trans (HH.out j (by omega))
       exact SM cP.out (by omega) aq h
     have cE:=bO.out (5+k) (by omega);have aM:Hid (∀w' q,wY w' w.heap.size v->wY (w'.setCell ⟨w.heap.size,5+M.aa.getD k 0,none⟩ (.bool q)) w.heap.size ⟨v.ar,ZY v.has (M.aa.getD k 0) q,v.val⟩):=λw' q h=>h.gu _ bt q;have cR:=zA (λw'=>az.out w' 99 (M.aa.getD k 0) (by omega));have cN:Hid (∀w',Below wr.heap.size wr w'->w'.frozen? ⟨w.heap.size,5+M.aa.getD k 0,none⟩=false/\w'.cell? ⟨w.heap.size,5+M.aa.getD k 0,none⟩=some (.bool (v.has (M.aa.getD k 0)))):=λw' hb=>⟨(HV.out.below hb).free _,(HV.out.below hb).cells.2.1 _ bt⟩;have d4:((M.aa.getD k 0:Nat):Int)<4:=(by omega);have b8:Hid (∀w',Below wr.heap.size wr w'->w'.cell? ⟨g,71,none⟩=some (.slice (some ⟨gh,0,none⟩) M.aa.length hc)/\w'.cell? ⟨gh,k,none⟩=some (.int .i64 ((M.aa.getD k 0:Nat):Int))):=λw' hb=>⟨(hb.cell (p:=⟨g,71,none⟩) (yJ aR)).trans aR,(hb.cell (p:=⟨gh,k,none⟩) (yJ ch)).trans ch⟩;generalize xU 99 (M.aa.getD k 0)=aG at *;generalize hd:M.aa.getD k 0=dd at *;generalize z (5+k)=zk at *;have t1:(aG==aG)=true:=(by simp);have t2:(aG != aG)=false:=(by simp);have k1:decide (zk<0)=false:=ty (by omega);have k2:decide (1<zk)=false:=ty (by omega);have k3:¬zk<0:=(by omega);have k4:¬ 1<zk:=by omega
     have cJ:gh<w.heap.size:=by
      obtain⟨cY,ha',cj,aW,aX⟩:=ah.out w (tl _ _);have e1:=aW.cells.2.2.2.2;have e2:=(HB.out.cell (p:=⟨g,71,none⟩) ey).trans e1;have e3:=e2.symm.trans aR;have e4:=Option.some.inj e3;injection e4 with e5 _ _
      obtain⟨g',e6,c6⟩:=aX.ay.at aY;rw[e5]at e6;obtain rfl:gh=g':=by simpa using e6
      exact yJ c6
     go_upto_region 19 with fail
     have cb:=HV.out.lt;have x0:(wr.alloc (.cells #[.string ⟨aG.toArray⟩,.int .i64 zk] 95)).cell? ⟨wr.heap.size,0,none⟩=some (.string ⟨aG.toArray⟩):=zC (zF _ _) 0;have x1:(wr.alloc (.cells #[.string ⟨aG.toArray⟩,.int .i64 zk] 95)).cell? ⟨wr.heap.size,1,none⟩=some (.int .i64 zk):=zC (zF _ _) 1;have bX:Hid (Below wr.heap.size wr (wr.alloc (.cells #[.string ⟨aG.toArray⟩,.int .i64 zk] 95))):=fk (tg _) _;obtain⟨y2,y3⟩:=b8.out _ bX.out;generalize wr.alloc (.cells #[.string ⟨aG.toArray⟩,.int .i64 zk] 95)=wz at *;have cW:Hid (∀w',Below wz.heap.size wz w'->w'.cell? ⟨wr.heap.size,0,none⟩=some (.string ⟨aG.toArray⟩)/\w'.cell? ⟨wr.heap.size,1,none⟩=some (.int .i64 zk)/\w'.cell? ⟨g,71,none⟩=some (.slice (some ⟨gh,0,none⟩) M.aa.length hc)/\w'.cell? ⟨gh,k,none⟩=some (.int .i64 (dd:Int))):=λw' hb=>⟨(hb.cell (p:=⟨wr.heap.size,0,none⟩) (yJ x0)).trans x0,(hb.cell (p:=⟨wr.heap.size,1,none⟩) (yJ x1)).trans x1,(hb.cell (p:=⟨g,71,none⟩) (yJ y2)).trans y2,(hb.cell (p:=⟨gh,k,none⟩) (yJ y3)).trans y3⟩;clear s0 s1 aR ch b8 bQ ah ag ae bz bO cO bj az
     go_region_held3 (λw'=>w'.cell? ⟨wr.heap.size,0,none⟩=some (.string ⟨aG.toArray⟩)/\w'.cell? ⟨wr.heap.size,1,none⟩=some (.int .i64 zk)/\w'.cell? ⟨g,71,none⟩=some (.slice (some ⟨gh,0,none⟩) M.aa.length hc)/\w'.cell? ⟨gh,k,none⟩=some (.int .i64 (dd:Int))) (go_keep) (
      (go_at_call 19;refine(cR.out _).mono ?_;rintro e w4 ⟨rfl,aB⟩;have aK:Below wz.heap.size wz w4:=(md (tl _ _)).trans aB;obtain⟨x0,x1,y2,y3⟩:=cW.out w4 aK))
     all_goals
      have ax:Below wr.heap.size wr w4:=bX.out.trans (aK.mono bX.out.size);have aC:Hid (Below w.heap.size w w4):=HB.out.trans (ax.mono HB.out.size);have aZ:=zA (HV.out.below ax);obtain⟨cM,m4⟩:=cN.out w4 ax
      have cS:Hid (∀q:Value,(w4.setCell ⟨w.heap.size,5+dd,none⟩ q).drew.cell? ⟨wr.heap.size,1,none⟩=some (.int .i64 zk)/\(w4.setCell ⟨w.heap.size,5+dd,none⟩ q).drew.cell? ⟨g,71,none⟩=some (.slice (some ⟨gh,0,none⟩) M.aa.length hc)/\(w4.setCell ⟨w.heap.size,5+dd,none⟩ q).drew.cell? ⟨gh,k,none⟩=some (.int .i64 (dd:Int))):=λq=>by
       have hb:Below w.heap.size w4 (w4.setCell ⟨w.heap.size,5+dd,none⟩ q).drew:=md ((tl w.heap.size w4).setCell (p:=⟨w.heap.size,5+dd,none⟩) (tg _) q);refine⟨?_,(hb.cell (p:=⟨g,71,none⟩) ey).trans y2,(hb.cell (p:=⟨gh,k,none⟩) cJ).trans y3⟩
       have e1:(w4.setCell ⟨w.heap.size,5+dd,none⟩ q).drew.cell? ⟨wr.heap.size,1,none⟩=w4.cell? ⟨wr.heap.size,1,none⟩:=by
        show (w4.setCell ⟨w.heap.size,5+dd,none⟩ q).cell? ⟨wr.heap.size,1,none⟩=_;unfold World.cell?;rw[l6 _ _ _ _ (show wr.heap.size≠(⟨w.heap.size,5+dd,none⟩:Addr).block by show wr.heap.size≠w.heap.size;omega)]
       exact e1.trans x1
      clear aB aK ax
      go_upto_region 21 with fail
      go_region_held3 (λw'=>w'.cell? ⟨wr.heap.size,1,none⟩=some (.int .i64 zk)/\w'.cell? ⟨g,71,none⟩=some (.slice (some ⟨gh,0,none⟩) M.aa.length hc)/\w'.cell? ⟨gh,k,none⟩=some (.int .i64 (dd:Int))) (first|exact cS.out _|go_keep) (fail)
      all_goals
       go_wp2_with fail
       go_roundw
       case rel=>exact⟨k+1,_,by omega,by go_num,zA (aM.out _ _ aZ.out).drew,HI,bU,zA (md (aC.out.setCell (tg _) _))⟩
       case measure=>simp[intOf];omega
    ·obtain rfl:k=M.aa.length:=by omega
     have c2:¬(M.aa.length:Int)<(M.aa.length:Int):=by omega
     go_wp2_with fail
     go_ret2
     first
      | exact⟨w.heap.size,v,rfl,HV.out,HI.out,HH.out,HB.out⟩
      | exact⟨w.heap.size,rfl,v,HV.out,HI.out,HH.out,HB.out⟩
def El(M:yO)(w w':World)(e:Ending):Prop:=∃(i j:Nat) (nm:Nat->Bs) (z:Nat->Int) (la sa:Option Addr) (sc:Nat),e=.returned (.tuple #[.slice la 2 2,.slice sa (5+M.aa.length:Nat) sc,.int .i64 0])/\(i<j/\j<M.rules.length/\AO M (zT (tH M)) i j=true)/\kQ w' la [.string ⟨(xU 114 i).toArray⟩,.string ⟨(xU 114 j).toArray⟩]/\kQ w' sa (CJ (5+M.aa.length) nm z) /\
 ((∀i,i<5->nm i=xC i)/\(∀k,k<M.aa.length->nm (5+k)=xU 99 (M.aa.getD k 0))/\(∀i,i<3->M.lo i<=z i/\z i<=M.hi i)/\(∀i,3<=i->z i=0\/z i=1)) /\
 (∀v:FV,(∀i,i<5->v.ar i=z i)->(∀k,k<M.aa.length->v.has (M.aa.getD k 0)=decide (z (5+k)=1))->ZN v (M.rules.getD i oA)=true/\ZN v (M.rules.getD j oA)=true)/\Below w.heap.size w w'
theorem RG(w:World)(g:Nat)(M:yO)(src:Bs)(hM:bF w g M)(hO:yR M)(hC:Calls prog 29 #[.string ⟨src.toArray⟩] w λe w'=>El M w w' e) :
 Calls prog 28 #[.pointer (some ⟨g,0,none⟩),.string ⟨src.toArray⟩] w λe w'=>e=.returned (.bool true)/\Below w.heap.size w w':=by
 have HC:=zA hC;have aO:=zA (λw' (hb:Below w.heap.size w w')=>hM.below hb);have HO:=zA hO;have bw:(zT (tH M)).length=64:=by unfold zT;rw[gW];exact sA M
 have ao:=zA bw;clear hC hM hO bw
 go_enter func28,ntmps28
 go_wp2_with fail
 refine HC.out.mono ?_;rintro e w1 ⟨i,j,nm,z,la,sa,sc,rfl,⟨cc,bH,a1⟩,br,bn,⟨n1,n2,n3,n4⟩,su,hb1⟩;have ak:=zA hb1;have b2:=zA (DX w1 g M nm z sa sc (aO.out w1 hb1) HO.out bn n1 n2 n3 n4);have b5:=zA (λw' (hb:Below w1.heap.size w1 w')=>br.below hb);have b9:=zA su;clear hb1 br bn n1 n2 n3 n4 su HC;go_wp2_with fail
 refine b2.out.mono ?_;rintro e w2 ⟨gv,v,rfl,hv,hv1,bm,bM⟩;obtain⟨a2,a3⟩:=b9.out v hv1 bm;have bZ:Hid (Below w.heap.size w w2):=ak.out.trans (bM.mono ak.out.size);have aN:=b5.out w2 bM;obtain⟨gl,e0,l0⟩:=aN.at (j:=0) rfl;obtain⟨cL,e1,l1⟩:=aN.at (j:=1) rfl;subst e0;obtain rfl:gl=cL:=by simpa using e1
 have bP:=zA (λw' (hb:Below w2.heap.size w2 w')=>hv.below hb);have ag:=zA (λw' (hb:Below w.heap.size w w')=>YS w' g M i (aO.out w' hb) HO.out (by omega));have ae:=zA (λw' (hb:Below w.heap.size w w')=>YS w' g M j (aO.out w' hb) HO.out bH);have cA:=zA (λw' (hb:Below w.heap.size w w')=>P8 w' g M (aO.out w' hb));have aP:=zA (λw' (hb:Below w.heap.size w w')=>P9 w' g M (zT (tH M)) i j (aO.out w' hb) HO.out ao.out (by omega) bH);have bT:=zA (λw' (hb:Below w.heap.size w w') (h2:Below w2.heap.size w2 w')=>ID (aO.out w' hb) HO.out (bP.out w' h2) (i:=i) (by omega));have bS:=zA (λw' (hb:Below w.heap.size w w') (h2:Below w2.heap.size w2 w')=>ID (aO.out w' hb) HO.out (bP.out w' h2) (i:=j) bH);rw[a1]at aP;rw[a2]at bT;rw[a3]at bS;have il:(i:Int)<(M.rules.length:Int):=by omega
 have jl:(j:Int)<(M.rules.length:Int):=by omega
 have ij:¬(j:Int)<=(i:Int):=by omega
 have i0:¬(i:Int)<0:=by omega
 have b6:Hid (∀w',Below w2.heap.size w2 w'->w'.cell? ⟨gl,1,none⟩=some (.string ⟨(xU 114 j).toArray⟩)):=λw' hb=>(hb.cell (p:=⟨gl,1,none⟩) (yJ l1)).trans l1;clear bM aN a1 a2 a3 hv hv1 bm b9 b5 b2 ak e1 bP;generalize zT (tH M)=AA at *;generalize M.rules.length=n at *;generalize xU 114 i=ni at *;generalize xU 114 j=nj at *;go_wp2_with fail
 refine(ag.out _ bZ.out).mono ?_;rintro e w3 ⟨rfl,aw⟩;have bC:Hid (Below w.heap.size w w3):=bZ.out.trans (aw.mono bZ.out.size);have bg:=zA aw;have l1:=b6.out w3 aw;clear aw l0 ag;go_wp2_with fail
 refine(ae.out _ bC.out).mono ?_;rintro e w4 ⟨rfl,aB⟩;have aC:Hid (Below w.heap.size w w4):=bC.out.trans (aB.mono bC.out.size);have bf:Hid (Below w2.heap.size w2 w4):=bg.out.trans (aB.mono bg.out.size);clear aB l1 ae bg bC b6;go_wp2_with fail
 refine(cA.out _ aC.out).mono ?_;rintro e w5 ⟨rfl,bL⟩;have bY:Hid (Below w.heap.size w w5):=aC.out.trans (bL.mono aC.out.size);have bc:Hid (Below w2.heap.size w2 w5):=bf.out.trans (bL.mono bf.out.size);have bo:=bY.out.size;have aV:=bc.out.size;have aM:Hid ((w5.alloc (.cells (gC gZ) 46)).heap[w5.heap.size]? = some (.cells (gC gZ) 46 (0,0))):=zF _ _;have aT:Hid (o9 ((w5.alloc (.cells (gC gZ) 46)).setRow w5.heap.size (gC AA)) w5.heap.size AA):=⟨l9 _ _ _ _ aM.out,ao.out⟩;have bB:Hid (Below w.heap.size w ((w5.alloc (.cells (gC gZ) 46)).setRow w5.heap.size (gC AA))):=yK (bY.out.alloc bo _) bo _;have bb:Hid (Below w2.heap.size w2 ((w5.alloc (.cells (gC gZ) 46)).setRow w5.heap.size (gC AA))):=yK (bc.out.alloc aV _) aV _;clear bL cA bf aC
 go_wp2_with (first
  | (refine wpList_store_row ?aD 46 (.tmp 12) (.tmp 57) ?ho w5.heap.size (gC AA) ?hx ?hy 46 (gC gZ) aM.out (wQ ao.out) ?aU (jW AA) ?_
     case ho=>rfl
     case aD=>rfl
     case hx=>rfl
     case hy=>rfl
     case aU=>rw[xK,xK,yX,ao.out])
  | (refine wpList_load_row ?aD 46 (.tmp 12) ?ho w5.heap.size ?hx 46 (gC AA) (0,0) _ aT.out.1 underlying46 rfl (wQ ao.out) ?_
     case ho=>rfl
     case aD=>rfl
     case hx=>rfl))
 refine(aP.out _ bB.out).mono ?_;rintro e w7 ⟨rfl,bK⟩;have bA:Hid (Below w.heap.size w w7):=bB.out.trans (bK.mono bB.out.size);have bD:Hid (Below w2.heap.size w2 w7):=bb.out.trans (bK.mono bb.out.size);clear bK aP bB bb aT aM bY bc;obtain⟨gr,rc,hd,wh,pa,qa,pn,pc,qn,qc,c6,p0,p1,p2,p3,aF⟩:=bT.out w7 bA.out bD.out;have ai:=zA aF;clear aF bT;go_wp2_with fail
 refine ai.out.mono ?_;rintro e w8 ⟨rfl,bJ⟩;have a8:Hid (Below w.heap.size w w8):=bA.out.trans (bJ.mono bA.out.size);have cB:Hid (Below w2.heap.size w2 w8):=bD.out.trans (bJ.mono bD.out.size);clear bJ ai bA bD c6 p0 p1 p2 p3;obtain⟨gr,rc,hd,wh,pa,qa,pn,pc,qn,qc,c6,p0,p1,p2,p3,aF⟩:=bS.out w8 a8.out cB.out;have ai:=zA aF;clear aF bS;go_wp2_with fail
 refine ai.out.mono ?_;rintro e w9 ⟨rfl,bu⟩;have cX:Hid (Below w.heap.size w w9):=a8.out.trans (bu.mono a8.out.size);clear bu ai a8 cB c6 p0 p1 p2 p3;go_wp2_with fail
 go_ret
 exact⟨rfl,cX.out⟩
def Fq(M:yO):Prop:=∃i j,i<j/\j<M.rules.length/\AO M (zT (tH M)) i j=true/\∃v,BK M v/\ZN v (M.rules.getD i oA)=true/\ZN v (M.rules.getD j oA)=true
def LN(M:yO)(w w':World)(e:Ending):Prop:=Below w.heap.size w w'/\((∃b:Nat,e=.returned (.tuple #[.pointer (some ⟨b,0,none⟩),.int .i64 0])/\¬Fq M)\/(e=.returned (.tuple #[.pointer none,.int .i64 8])/\Fq M))
def IW(M:yO)(w w':World)(e:Ending):Prop:=(e=.returned (.tuple #[.slice none 0 0,.slice none 0 0,.int .i64 9])/\¬Fq M/\Below w.heap.size w w')\/(Fq M/\El M w w' e)
end Go.Proofs.YtnbpdffdnphbeabGreatDoor
