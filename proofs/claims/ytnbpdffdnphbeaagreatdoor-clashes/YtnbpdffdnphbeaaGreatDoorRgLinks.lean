import Derived.Test.YtnbpdffdnphbeaaGreatDoorPWalk
set_option maxHeartbeats 4000000
set_option maxRecDepth 100000
namespace Go.Proofs.YtnbpdffdnphbeaaGreatDoor
open Go.RowKit
variable{names:List Bs}{S:List Nat}{g B:Nat}{a:Option Addr}{v:Value}{w' w:World}
theorem vW{i:Nat}(h:w.cell? ⟨g,i,none⟩=some v):g<w.heap.size:=by
 rcases po g w.heap.size with h1|h1
 ·exact h1
 ·rw[World.cell?,pj (by simpa using h1)]at h;cases h
theorem oS.keepB(h:oS w a names)(hb:Below B w w')(hB:w.heap.size<=B):oS w' a names :=
 ⟨fun h0=>let ⟨g,e,p⟩:=h.blk h0;⟨g,e,fun j hj=>by rw[hb.cell (p:=⟨g,j,none⟩) (ti (vW (p j hj)) hB)];exact p j hj⟩,h.few⟩
theorem zH1.below{L:List Nat}(h:zH1 w a L)(hb:Below B w w')(hB:w.heap.size<=B):zH1 w' a L :=
 ⟨fun h0=>let ⟨g,e,p⟩:=h.blk h0;⟨g,e,fun j hj=>by rw[hb.cell (p:=⟨g,j,none⟩) (ti (vW (p j hj)) hB)];exact p j hj⟩⟩
def lC(S:List Nat):Array Value:=(jt S).toArray
def lZ:List Nat:=List.replicate 8 0
theorem Zl(S:List Nat):(lC S).size=S.length:=by simp[lC,jt]
theorem jp(S:List Nat):(lC S).all (·.oneCell')=true:=by simp[lC,jt,Value.oneCell']
theorem zGG{k:Nat}(h:k<S.length):(lC S)[k]? = some (.int .i64 ((S.getD k 0:Nat):Int)):=by
 simp[lC,jt,List.getD,h]
def xe(w:World)(g:Nat)(S:List Nat):Prop:=w.heap[g]? = some (.cells (lC S) 318 (0,0))/\S.length=8
theorem xe.cell(h:xe w g S){k:Nat}(hk:k<8):w.cell? ⟨g,k,none⟩=some (.int .i64 ((S.getD k 0:Nat):Int)):=by
 simp only[World.cell?,h.1];exact zGG (by rw[h.2];exact hk)
theorem xe.free(h:xe w g S)(k:Nat):w.frozen? ⟨g,k,none⟩=false:=by simp[World.frozen?,h.1]
theorem xe.set(h:xe w g S)(k v:Nat):xe (w.setCell ⟨g,k,none⟩ (.int .i64 (v:Nat))) g (S.set k v):=by
 refine⟨?_,by rw[List.length_set];exact h.2⟩;rw[setCell_eq_setRow w g k _ _ _ _ h.1];have:=ly w g (lC S) ((lC S).setIfInBounds k (.int .i64 (v:Nat))) _ _ h.1;rw[this];congr 2
 simp[lC,jt,List.map_set]
theorem zHW:(Tryz.prog.info? 318).map (·.size)=some 8:=by kernel_rfl
theorem XS(h:S.length=8):(Tryz.prog.info? 318).map (·.size)=some (lC S).size:=by rw[Zl,h];exact zHW
theorem K0(w:World)(g:Nat)(G:List Bool)(S:List Nat)(a:Nat)(ha:a<8)(h:iY w g G)(hS:S.length=8)(hm:∀z,z<8->S.getD z 0<=100) :
 Calls Tryz.prog 230 #[.pointer (some ⟨g,0,none⟩),.agg (lC S),.int .i64 a] w fun e w'=>e=.returned (.int .i64 (iK (gA G a) (fun z=>S.getD z 0) 8 0 0:Nat))/\Below w.heap.size w w':=by
 have HSm:Hid (xe (w.alloc (.cells (lC S) 318)) w.heap.size S):=⟨zM _ _,hS⟩;have HGm:Hid (iY (w.alloc (.cells (lC S) 318)) g G):=h.new _;have HBl:Hid (Below w.heap.size w (w.alloc (.cells (lC S) 318))):=ge (t9 _) _;have HMx:=zA hm;clear h hS hm
 go_enter Tryz.func230,Tryz.ntmps230
 go_wp2_with fail
 generalize w.alloc (.cells (lC S) 318)=w1 at *;generalize hb:w.heap.size=b at *;have HB:=zA hb;clear hb
 go_loop [7,8] (fun lv kv=>∃(k acc:Nat),k<=8/\acc<=101/\lv=.int .i64 acc/\kv=.int .i64 k/\Hid (iK (gA G a) (fun z=>S.getD z 0) (8-k) k acc=iK (gA G a) (fun z=>S.getD z 0) 8 0 0)) (fun _ kv=>8-(intOf kv).toNat)
 case atStart=>exact⟨0,0,by omega,by omega,rfl,rfl,zA rfl⟩
 case round =>
  obtain⟨k,acc,hk,hacc,rfl,rfl,HE⟩:=hrel;by_cases zI6:k<8
  ·have c1:=HGm.out.cell (k:=a*8+k) (by omega)
   have c2:=HSm.out.cell (k:=k) zI6;have hmx:=HMx.out k zI6;have hE:=HE.out;rw[show 8-k=(8-(k+1))+1 by omega,iK,show gA G a k=G.getD (a*8+k) false from rfl]at hE;have HE2:Hid (iK (gA G a) (fun z=>S.getD z 0) (8-(k+1)) (k+1) (if G.getD (a*8+k) false&&decide (acc<=S.getD k 0) then S.getD k 0+1 else acc)=iK (gA G a) (fun z=>S.getD z 0) 8 0 0):=hE;clear HE hE;generalize G.getD (a*8+k) false=z1 at *;generalize S.getD k 0=s at *;cases z1
   ·have HE3:Hid (iK (gA G a) (fun z=>S.getD z 0) (8-(k+1)) (k+1) acc=iK (gA G a) (fun z=>S.getD z 0) 8 0 0):=HE2.out
    clear HE2;go_wp2_with fail
    go_round
    case rel=>exact⟨k+1,acc,by omega,hacc,rfl,by go_num,HE3⟩
    case measure=>simp[intOf];omega
   ·by_cases k1:acc<=s
    ·have HE3:Hid (iK (gA G a) (fun z=>S.getD z 0) (8-(k+1)) (k+1) (s+1)=iK (gA G a) (fun z=>S.getD z 0) 8 0 0):=by have:=HE2.out;rw[tm k1]at this;exact this
     have i1:(acc:Int)<=(s:Int):=by omega
     clear HE2;go_wp2_with fail
     go_round
     case rel=>exact⟨k+1,s+1,by omega,by omega,by go_num,by go_num,HE3⟩
     case measure=>simp[intOf];omega
    ·have HE3:Hid (iK (gA G a) (fun z=>S.getD z 0) (8-(k+1)) (k+1) acc=iK (gA G a) (fun z=>S.getD z 0) 8 0 0):=by have:=HE2.out;rw[th k1]at this;exact this
     have i1:¬(acc:Int)<=(s:Int):=by omega
     clear HE2;go_wp2_with fail
     go_round
     case rel=>exact⟨k+1,acc,by omega,hacc,rfl,by go_num,HE3⟩
     case measure=>simp[intOf];omega
  ·have HE3:Hid (acc=iK (gA G a) (fun z=>S.getD z 0) 8 0 0):=by have:=HE.out;rw[show 8-k=0 by omega]at this;exact this
   clear HE;go_wp2_with fail
   go_ret
   exact⟨zY (congrArg (fun n:Nat=>(n:Int)) HE3.out),by rw[HB.out];exact HBl.out⟩
structure KV(w w':World)(S:List Nat):Prop where
 lv:xe w' (w.heap.size+1) S
 res:w'.heap[w.heap.size]? = some (.cells (lC lZ) 318 (0,0))
 bel:Below w.heap.size w w'
theorem KV.set(h:KV w w' S)(k v:Nat):KV w (w'.setCell ⟨w.heap.size+1,k,none⟩ (.int .i64 (v:Nat))) (S.set k v) :=
 ⟨h.lv.set k v,kR h.res (by omega),h.bel.setCell (p:=⟨w.heap.size+1,k,none⟩) (by show w.heap.size<=w.heap.size+1;omega) _⟩
theorem xe.lt(h:xe w g S):g<w.heap.size:=by
 rcases po g w.heap.size with h1|h1
 ·exact h1
 ·have h2:=h.1;rw[pj h1]at h2;cases h2
theorem KV.keep{w'':World}(h:KV w w' S)(hb:Below w'.heap.size w' w''):KV w w'' S :=
 ⟨⟨by rw[hb.block _ h.lv.lt];exact h.lv.1,h.lv.2⟩,by rw[hb.block _ (Nat.lt_of_succ_lt h.lv.lt)];exact h.res,h.bel.trans (hb.mono h.bel.size)⟩
theorem zGA(z:Nat):lZ.getD z 0=0:=by
 unfold lZ;by_cases h:z<8
 ·simp only[List.getD,List.getElem?_replicate,h,if_true,Option.getD_some]
 ·simp only[List.getD,List.getElem?_replicate,h,if_false,Option.getD_none]
theorem x8(w:World)(g:Nat)(G:List Bool)(h:iY w g G) :
 Calls Tryz.prog 183 #[.pointer (some ⟨g,0,none⟩)] w fun e w'=>e=.returned (.agg (lC (pO G)))/\Below w.heap.size w w':=by
 have HG:=zA h;have hg:=h.lt;clear h
 go_enter Tryz.func183,Tryz.ntmps183
 go_upto_region 1 with fail
 go_cut [3] from 6 to 7 (fun p3 wx=>p3=.pointer (some ⟨w.heap.size+1,0,none⟩)/\Hid (KV w wx lZ))
 case first =>
  go_wp2_with fail
  go_meet
  refine⟨rfl,⟨⟨heap_alloc2_new w _ _,rfl⟩,yJ (zM _ _),?_⟩⟩;exact(ge (t9 _) _).alloc (p8 (yL _ _)) _
 case rest =>
  obtain⟨rfl,HC⟩:=hcut;go_wp2_with fail
  go_loopw [4] (fun v4 wr=>∃(r:Nat) (S:List Nat),1<=r/\r<=8/\v4=.int .i64 r/\Hid (KV w wr S)/\Hid (∀z,z<8->S.getD z 0<=(r-1)*8)/\Hid (X1 G (8-r) S=pO G)) (fun v4 _=>8-(intOf v4).toNat)
  case atStart=>exact⟨1,lZ,by omega,by omega,rfl,HC,zA (fun z _=>by rw[zGA];exact tr _),zA rfl⟩
  case round =>
   obtain⟨r,S,hr1,hr8,rfl,HCr,HMr,HE⟩:=hrel;clear HC;by_cases zI6:r<8
   ·have HE2:Hid (X1 G (8-(r+1)) (FU G 8 0 S)=pO G):=by have:=HE.out;rw[show 8-r=(8-(r+1))+1 by omega,X1]at this;exact this
    obtain⟨wm,rfl⟩:∃wm,wm=wr:=⟨_,rfl⟩;have i1:(r:Int)<8:=by omega
    clear HE;go_wp2_with fail
    go_loopw [5] (fun v5 wr=>∃(a:Nat) (S':List Nat),a<=8/\v5=.int .i64 a/\Hid (KV w wr S')/\Hid (∀z,z<8->S'.getD z 0<=(r-1)*8+a)/\Hid (FU G (8-a) a S'=FU G 8 0 S)) (fun v5 _=>8-(intOf v5).toNat)
    case atStart=>exact⟨0,S,by omega,rfl,HCr,HMr,zA rfl⟩
    case round =>
     obtain⟨a,S',ha,rfl,HCa,HMa,HEa⟩:=hrel;by_cases hlta:a<8
     ·have hE:=HEa.out
      rw[show 8-a=(8-(a+1))+1 by omega,FU]at hE;have hgr:iY wr g G:=⟨by rw[HCa.out.bel.block g hg];exact HG.out.1,HG.out.2⟩;have HCl:=zA (K0 wr g G S' a hlta hgr HCa.out.lv.2 (fun z hz=>by have:=HMa.out z hz;omega))
      have hbd:iK (gA G a) (fun z=>S'.getD z 0) 8 0 0<=(r-1)*8+(a+1):=by
       have:=kf (gA G a) (fun z=>S'.getD z 0) ((r-1)*8+a) 8 0 0 (tr _) (fun z _ hz=>HMa.out z (by omega));omega
      have HE3:=zA hE;clear hE HEa hgr;generalize iK (gA G a) (fun z=>S'.getD z 0) 8 0 0=m at *;have i2:(a:Int)<8:=by omega
      have zIR:=HCa.out.lv.cell hlta
      go_wp2_with (refine wpList_load_row ?zIM 318 (.tmp 3) ?ho (w.heap.size+1) ?hx 318 (lC S') (0,0) _ HCa.out.lv.1 Tryz.underlying318 rfl (XS HCa.out.lv.2) ?_
                   case ho=>rfl
                   case zIM=>rfl
                   case hx=>rfl)
      refine HCl.out.mono ?_;rintro e w1 ⟨rfl,hb1⟩;have HC1:=zA (HCa.out.keep hb1);clear hb1 zIR;have c3:=HC1.out.lv.cell hlta;have hfz:=HC1.out.lv.free a;go_wp2_with fail
      go_roundw
      case rel=>exact⟨a+1,S'.set a m,by omega,by go_num,zA (HC1.out.set a m),zA (fun z hz=>by
       rw[ZR S' a m z (by rw[HCa.out.lv.2];exact hlta)];split
       ·exact hbd
       ·have:=HMa.out z hz;omega),HE3⟩
      case measure=>simp[intOf];omega
     ·obtain rfl:a=8:=by omega
      have HE4:Hid (X1 G (8-(r+1)) S'=pO G):=by have h1:=HEa.out;have h2:S'=FU G 8 0 S:=h1;unfold Hid;rw[h2];exact HE2.out
      clear HEa HE2;go_wp2_with fail
      go_roundw
      case rel=>exact⟨r+1,S',by omega,by omega,by go_num,HCa,zA (fun z hz=>by have:=HMa.out z hz;omega),HE4⟩
      case measure=>simp[intOf];omega
   ·obtain rfl:r=8:=by omega
    have HE5:Hid (S=pO G):=HE.out;clear HE
    go_wp2_with (first
     | (refine wpList_load_row ?zIM 318 (.tmp 3) ?ho (w.heap.size+1) ?hx 318 (lC S) (0,0) _ HCr.out.lv.1 Tryz.underlying318 rfl (XS HCr.out.lv.2) ?_
        case ho=>rfl
        case zIM=>rfl
        case hx=>rfl)
     | (refine wpList_store_row ?zIM 318 (.tmp 2) (.tmp 21) ?ho w.heap.size (lC S) ?hx ?hy 318 (lC lZ) HCr.out.res (XS HCr.out.lv.2) ?zIL (jp S) ?_
        case ho=>rfl
        case zIM=>rfl
        case hx=>rfl
        case hy=>rfl
        case zIL=>rw[Zl,Zl,HCr.out.lv.2];rfl))
    refine ph (v:=.agg (lC S)) (results_cell_row Tryz.results183 _ _ w.heap.size 318 (lC S) (0,0) _ rfl (ly _ _ (lC lZ) _ _ _ HCr.out.res) Tryz.underlying318 rfl (XS HCr.out.lv.2)) rfl ⟨by rw[HE5.out],xL HCr.out.bel (t9 _) _⟩
def Yx(L:List (Bs × Nat)):List Value:=L.flatMap fun x=>[.string ⟨x.1.toArray⟩,.int .i64 (x.2:Nat)]
theorem VJ(L:List (Bs × Nat))(x:Bs × Nat):Yx (L++[x])=Yx L++[.string ⟨x.1.toArray⟩,.int .i64 (x.2:Nat)]:=by simp[Yx]
theorem DS:(Tryz.prog.info? 122).map (fun i=>(i.zero,i.size,i.bytes))=some (some (.agg #[.string ⟨#[]⟩,.int .i64 0]),2,24):=by kernel_rfl
def aV(S:List Nat):List Bs->Nat->List (Bs × Nat)->List (Bs × Nat)
 | [],_,acc=>acc
 | n::r,i,acc=>aV S r (i+1) (if i<8 then acc++[(n,S.getD i 0)] else acc)
def uI(ls:List zF):List (Bs × Nat):=aV (pO (mA (zT ls) ls gZ)) (zT ls) 0 []
theorem G2(S:List Nat)(hd:List Bs)(i:Nat)(acc:List (Bs × Nat))(h:i<hd.length):aV S (hd.drop i) i acc=aV S (hd.drop (i+1)) (i+1) (if i<8 then acc++[(hd.getD i [],S.getD i 0)] else acc):=by
 rw[pb h,aV];simp[List.getD,h]
def KM(w:World)(a:Option Addr)(names:List Bs):Prop:=names=[]\/∃g cs fz,a=some ⟨g,0,none⟩/\w.heap[g]? = some (.cells cs 9 fz)/\∀i,i<names.length->cs[i]? = some (.string ⟨(names.getD i []).toArray⟩)
theorem qg(h:w.ownsRow B 9 1 v names.length (mG names)):∃a c,v=.slice a names.length c/\KM w a names:=by
 rcases h.2 with ⟨h1,h2⟩|⟨g,cap,yW,h1,_,h3,_,_,_,h7⟩
 ·exact⟨none,0,by rw[h1,h2],.inl (mu h2)⟩
 ·exact⟨some ⟨g,0,none⟩,cap,h1,.inr ⟨g,yW,_,rfl,h3,fun i hi=>(zD h3 i).symm.trans (xB h3 (n:=names.length*1) h7 (Vn names i hi))⟩⟩
theorem yH{e:TypeId}{size:Nat}{n:Nat}{xs:List Value}(h:w.ownsRow B e size v n xs):∃a c,v=.slice a n c:=by
 rcases h.2 with ⟨h1,h2⟩|⟨g,cap,yW,h1,_⟩
 ·exact⟨none,0,by rw[h1,h2]⟩
 ·exact⟨_,_,h1⟩
theorem yK{o:Obj}(h:w.heap[g]? = some o):g<w.heap.size:=by
 rcases po g w.heap.size with h1|h1
 ·exact h1
 ·rw[pj h1]at h;cases h
theorem KM.new(h:KM w a names)(o:Obj):KM (w.alloc o) a names:=by
 rcases h with h|⟨g,cs,fz,h1,h2,h3⟩
 ·exact .inl h
 ·exact .inr ⟨g,cs,fz,h1,yJ h2,h3⟩
theorem KM.grown{n:Nat}{xs:List Value}(h:KM w a names)(zI8:w.ownsRow B 122 2 v n xs)(hg:w.grownBy w' v.ownBlock):KM w' a names:=by
 rcases h with h|⟨g,cs,fz,h1,h2,h3⟩
 ·exact .inl h
 ·refine .inr ⟨g,cs,fz,h1,?_,h3⟩
  rw[hg.block g (yK h2) (fun e=>?_)]
  ·exact h2
  ·rcases zI8.2 with ⟨k1,_⟩|⟨g',cap,yW,k1,_,k3,_⟩
   ·rw[k1]at e;simp[Value.ownBlock]at e
   ·rw[k1]at e;simp[Value.ownBlock]at e
    subst e;rw[h2]at k3;simp at k3
theorem x7(w:World)(a:Option Addr)(c:Nat)(ls:List LX)(h:pG w a ls) :
 Calls Tryz.prog 118 #[.slice a ls.length c] w fun e w'=>∃v,e=.returned v/\w'.ownsRow w.heap.size 122 2 v (uI (fs ls)).length (Yx (uI (fs ls)))/\Below w.heap.size w w':=by
 obtain⟨i0,hi0,hz0,hz1,hz2⟩:=dp DS;have zII:=h.few;have HNm:=zA (UQ w a c ls h);have HCn:=zA (fun w' (hb:Below w.heap.size w w')=>eH w' a c ls (h.below hb (t9 _)));have HGL:Hid ((mA (zT (fs ls)) (fs ls) gZ).length=64):=by unfold Hid;rw[Zc];exact vE
 have HRr:Hid (uI (fs ls)=aV (pO (mA (zT (fs ls)) (fs ls) gZ)) (zT (fs ls)) 0 []):=rfl;obtain⟨B,hB⟩:∃B,B=w.heap.size:=⟨_,rfl⟩;have HB0:=zA hB;rw[<-hB]at HCn HNm ⊢;clear h hB;generalize mA (zT (fs ls)) (fs ls) gZ=Gn at *;generalize zT (fs ls)=hd at *;generalize uI (fs ls)=ans at *;have HLv:=zA (fun w' g (hg:iY w' g Gn)=>x8 w' g Gn hg);have HSl:=zA (VS Gn);generalize pO Gn=S at *
 go_enter Tryz.func118,Tryz.ntmps118
 go_wp2_with fail
 refine HNm.out.mono ?_;rintro e w1 ⟨rfl,hb1⟩;have hs1:=hb1.size;rw[<-HB0.out]at hs1;have HB1:=zA hb1;clear hb1
 go_wp2_with (refine wpList_store_row ?zIM 94 (.tmp 3) (.tmp 9) ?ho w1.heap.size (gC Gn) ?hx ?hy 94 (gC gZ) (zM w1 _) (jU HGL.out) ?zIL (cB Gn) ?_
              case ho=>rfl
              case zIM=>rfl
              case hx=>rfl
              case hy=>rfl
              case zIL=>rw[uY,uY,vE,HGL.out])
 refine(HLv.out _ w1.heap.size ⟨ly _ _ (gC gZ) _ _ _ (zM w1 _),HGL.out⟩).mono ?_;rintro e w2 ⟨rfl,hb2⟩;have HBm:Hid (Below B w ((w1.alloc (.cells (gC gZ) 94 (0,0))).setRow w1.heap.size (gC Gn))):=xL (HB1.out.alloc hs1 _) hs1 _;have HB2:Hid (Below B w w2):=HBm.out.trans (hb2.mono (by have:=HBm.out.size;rw[<-HB0.out]at this;exact this));have hs2:=HB2.out.size;rw[<-HB0.out]at hs2;clear hb2 HBm HB1;have HBl:Hid (Below B w ((w2.alloc (.cells (lC lZ) 318 (0,0))).setRow w2.heap.size (lC S))):=xL (HB2.out.alloc hs2 _) hs2 _;have HLm:Hid (xe ((w2.alloc (.cells (lC lZ) 318 (0,0))).setRow w2.heap.size (lC S)) w2.heap.size S):=⟨ly _ _ (lC lZ) _ _ _ (zM w2 _),HSl.out⟩
 go_wp2_with (refine wpList_store_row ?zIM 318 (.tmp 4) (.tmp 10) ?ho w2.heap.size (lC S) ?hx ?hy 318 (lC lZ) (zM w2 _) (XS HSl.out) ?zIL (jp S) ?_
              case ho=>rfl
              case zIM=>rfl
              case hx=>rfl
              case hy=>rfl
              case zIL=>rw[Zl,Zl,HSl.out];rfl)
 have hwl:((w2.alloc (.cells (lC lZ) 318 (0,0))).setRow w2.heap.size (lC S)).heap.size=w2.heap.size+1:=by unfold World.setRow;simp
 have eZ:lC lZ = #[.int .i64 0,.int .i64 0,.int .i64 0,.int .i64 0,.int .i64 0,.int .i64 0,.int .i64 0,.int .i64 0]:=rfl;rw[eZ]at HBl HLm hwl;clear eZ;generalize (w2.alloc (.cells #[.int .i64 0,.int .i64 0,.int .i64 0,.int .i64 0,.int .i64 0,.int .i64 0,.int .i64 0,.int .i64 0] 318 (0,0))).setRow w2.heap.size (lC S)=wL at *;generalize w2.heap.size=lb at *;have hsL:=HBl.out.size;rw[<-HB0.out]at hsL;have hlbL:=HLm.out.lt;have HO0:Hid ((wL.alloc (.cells #[] 122)).ownsRow wL.heap.size 122 2 (.slice (some ⟨lb+1,0,none⟩) 0 0) 0 []):=by rw[<-hwl];exact⟨rfl,.inr ⟨wL.heap.size,0,#[],rfl,t9 _,zM _ _,t9 _,tr _,rfl,rfl⟩⟩
 refine(HCn.out _ (HBl.out.alloc hsL _)).mono ?_;rintro e w4 ⟨v2,rfl,zIX,hl4,hb4⟩;obtain⟨na,nc,rfl,hsb⟩:=qg zIX;have HO4:=zA (kI HO0.out hb4);have HB4:Hid (Below wL.heap.size wL w4):=(ge (t9 _) _).trans (hb4.mono (p8 (yL _ _)));have HSb:=zA hsb;have HR2:Hid (aV S hd 0 []=ans):=HRr.out.symm;clear zIX hb4 hsb HO0 HRr HB2;go_wp2_with fail
 go_loopw [5,15] (fun ov iv wr=>∃(i:Nat) (acc:List (Bs × Nat)),i<=hd.length/\acc.length<=i/\iv=.int .i64 i/\Hid (wr.ownsRow wL.heap.size 122 2 ov acc.length (Yx acc))/\Hid (Below wL.heap.size wL wr)/\Hid (KM wr na hd)/\Hid (aV S (hd.drop i) i acc=ans)) (fun _ iv _=>hd.length-(intOf iv).toNat)
 case atStart=>exact⟨0,[],tr _,t9 _,rfl,HO4,HB4,HSb,HR2⟩
 case round =>
  obtain⟨i,acc,hi,hacc,rfl,HO,HBr,HSr,HE⟩:=hrel;have zIE:wL.heap.size<=wr.heap.size:=HBr.out.size;by_cases zI6:i<hd.length
  ·obtain⟨g,cs,fz,rfl,hblk,hcs⟩:∃g cs fz,na=some ⟨g,0,none⟩/\wr.heap[g]? = some (.cells cs 9 fz)/\∀i,i<hd.length->cs[i]? = some (.string ⟨(hd.getD i []).toArray⟩):=by
    rcases HSr.out with h|h
    ·rw[h]at zI6;simp at zI6
    ·exact h
   have hc:=(zD hblk i).trans (hcs i zI6);have hE:=HE.out;rw[G2 S hd i acc zI6]at hE;have HE2:=zA hE;obtain⟨oa,oc,rfl⟩:=yH HO.out;clear HE hE hcs hblk;generalize hd.getD i []=s at *;by_cases k1:i<8
   ·have hlv:wr.cell? ⟨lb,i,none⟩=some (.int .i64 ((S.getD i 0:Nat):Int)):=by
     rw[HBr.out.cell (p:=⟨lb,i,none⟩) hlbL];exact HLm.out.cell k1
    have HE3:Hid (aV S (hd.drop (i+1)) (i+1) (acc++[(s,S.getD i 0)])=ans):=by have:=HE2.out;rw[tl k1]at this;exact this
    clear HE2;generalize S.getD i 0=sv at *
    go_wp2_with (at_builtin;refine wpList_append_own _ rfl _ _ 26 rfl wL.heap.size 122 i0 _ 2 24 Tryz.underlying26 hi0 hz0 hz1 hz2 rfl (by decide) _ _ _ rfl (HO.out.alloc _) ⟨wr.heap.size,0,none⟩ 1 1 [.string ⟨s.toArray⟩,.int .i64 (sv:Nat)] rfl rfl ?c1 ?c2 ?c3 ?c4 ?c5 ?_)
    case c1=>exact zZ _ _ _ _ rfl
    case c2=>intro u hu;simp at hu;rcases hu with rfl|rfl <;> rfl
    case c3=>unfold maxLen;omega
    case c4=>omega
    case c5=>simp;omega
    intro v' w5 zI9 zI7 _;have HS5:Hid (KM w5 (some ⟨g,0,none⟩) hd):=(HSr.out.new _).grown (HO.out.alloc _) zI7;have HB5:Hid (Below wL.heap.size wL w5):=(HBr.out.alloc zIE _).grown zI7 (by simp;omega) (zN HO.out);have HO5:Hid (w5.ownsRow wL.heap.size 122 2 v' (acc++[(s,sv)]).length (Yx (acc++[(s,sv)]))):=by unfold Hid;rw[VJ,hwl];simpa[hwl] using zI9
    clear zI7 zI9;go_wp2_with fail
    go_roundw
    case rel=>exact⟨i+1,acc++[(s,sv)],by omega,by simp;omega,by go_num,HO5,HB5,HS5,HE3⟩
    case measure=>simp[intOf];omega
   ·have HE3:Hid (aV S (hd.drop (i+1)) (i+1) acc=ans):=by have:=HE2.out;rw[tg k1]at this;exact this
    have i1:¬(i:Int)<8:=by omega
    clear HE2;go_wp2_with fail
    go_roundw
    case rel=>exact⟨i+1,acc,by omega,by omega,by go_num,HO,HBr,HSr,HE3⟩
    case measure=>simp[intOf];omega
  ·have HE3:Hid (ans=acc):=by have:=HE.out;rw[tu (by omega)]at this;exact this.symm
   clear HE;go_wp2_with fail
   go_ret
   refine⟨_,rfl,?_,?_⟩
   ·rw[HE3.out];exact xC HO.out hsL
   ·exact HBl.out.trans (HBr.out.mono hsL)
end Go.Proofs.YtnbpdffdnphbeaaGreatDoor
