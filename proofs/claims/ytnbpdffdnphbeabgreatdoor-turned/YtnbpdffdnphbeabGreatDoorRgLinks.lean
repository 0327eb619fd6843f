import Derived.Test.YtnbpdffdnphbeabGreatDoorPWalk
import Derived.Test.YtnbpdffdnphbeabGreatDoorPRing
set_option maxHeartbeats 4000000
set_option maxRecDepth 100000
namespace Go.Proofs.YtnbpdffdnphbeabGreatDoor
open Go.RowKit
variable{zLI:List Bs}{S:List Nat}{B g:Nat}{v:Value}{w' w:World}
theorem yF{i:Nat}(h:w.cell? ⟨g,i,none⟩=some v):g<w.heap.size:=by
 rcases me g w.heap.size with h1|h1
 ·exact h1
 ·rw[World.cell?,md (by simpa using h1)]at h;cases h
def lC(S:List Nat):Array Value:=(zAE S).toArray
def lZ:List Nat:=List.replicate 8 0
theorem wQ(S:List Nat):(lC S).size=S.length:=by simp[lC,zAE]
theorem zAA(S:List Nat):(lC S).all (·.oneCell')=true:=by simp[lC,zAE,Value.oneCell']
theorem zJ3{k:Nat}(h:k<S.length):(lC S)[k]? = some (.int .i64 ((S.getD k 0:Nat):Int)):=by
 simp[lC,zAE,List.getD,h]
def vo(w:World)(g:Nat)(S:List Nat):Prop:=w.heap[g]? = some (.cells (lC S) 257 (0,0))/\S.length=8
theorem vo.cell(h:vo w g S){k:Nat}(hk:k<8):w.cell? ⟨g,k,none⟩=some (.int .i64 ((S.getD k 0:Nat):Int)):=by
 simp only[World.cell?,h.1];exact zJ3 (by rw[h.2];exact hk)
theorem vo.free(h:vo w g S)(k:Nat):w.frozen? ⟨g,k,none⟩=false:=by simp[World.frozen?,h.1]
theorem vo.set(h:vo w g S)(k v:Nat):vo (w.setCell ⟨g,k,none⟩ (.int .i64 (v:Nat))) g (S.set k v):=by
 refine⟨?_,by rw[List.length_set];exact h.2⟩;rw[setCell_eq_setRow w g k _ _ _ _ h.1];have:=cf w g (lC S) ((lC S).setIfInBounds k (.int .i64 (v:Nat))) _ _ h.1;rw[this];congr 2
 simp[lC,zAE,List.map_set]
theorem zKU:(Tryz.prog.info? 257).map (·.size)=some 8:=by kernel_rfl
theorem XB(h:S.length=8):(Tryz.prog.info? 257).map (·.size)=some (lC S).size:=by rw[wQ,h];exact zKU
theorem Kk(w:World)(g:Nat)(G:List Bool)(S:List Nat)(a:Nat)(ha:a<8)(h:iL w g G)(hS:S.length=8)(hm:∀z,z<8->S.getD z 0<=100) :
 Calls Tryz.prog 171 #[.pointer (some ⟨g,0,none⟩),.agg (lC S),.int .i64 a] w fun e w'=>e=.returned (.int .i64 (aI (gA G a) (fun z=>S.getD z 0) 8 0 0:Nat))/\Below w.heap.size w w':=by
 have HSm:Hid (vo (w.alloc (.cells (lC S) 257)) w.heap.size S):=⟨zG _ _,hS⟩;have HGm:Hid (iL (w.alloc (.cells (lC S) 257)) g G):=h.new _;have HBl:Hid (Below w.heap.size w (w.alloc (.cells (lC S) 257))):=fw (j1 _) _;have HMx:=zA hm;clear h hS hm
 go_enter Tryz.func171,Tryz.ntmps171
 go_wp2_with fail
 generalize w.alloc (.cells (lC S) 257)=w1 at *;generalize hb:w.heap.size=b at *;have HB:=zA hb;clear hb
 go_loop [7,8] (fun lv kv=>∃(k acc:Nat),k<=8/\acc<=101/\lv=.int .i64 acc/\kv=.int .i64 k/\Hid (aI (gA G a) (fun z=>S.getD z 0) (8-k) k acc=aI (gA G a) (fun z=>S.getD z 0) 8 0 0)) (fun _ kv=>8-(intOf kv).toNat)
 case atStart=>exact⟨0,0,by omega,by omega,rfl,rfl,zA rfl⟩
 case round =>
  obtain⟨k,acc,hk,hacc,rfl,rfl,HE⟩:=hrel;by_cases zLL:k<8
  ·have c1:=HGm.out.cell (k:=a*8+k) (by omega)
   have c2:=HSm.out.cell (k:=k) zLL;have hmx:=HMx.out k zLL;have hE:=HE.out;rw[show 8-k=(8-(k+1))+1 by omega,aI,show gA G a k=G.getD (a*8+k) false from rfl]at hE;have HE2:Hid (aI (gA G a) (fun z=>S.getD z 0) (8-(k+1)) (k+1) (if G.getD (a*8+k) false&&decide (acc<=S.getD k 0) then S.getD k 0+1 else acc)=aI (gA G a) (fun z=>S.getD z 0) 8 0 0):=hE;clear HE hE;generalize G.getD (a*8+k) false=z1 at *;generalize S.getD k 0=s at *;cases z1
   ·have HE3:Hid (aI (gA G a) (fun z=>S.getD z 0) (8-(k+1)) (k+1) acc=aI (gA G a) (fun z=>S.getD z 0) 8 0 0):=HE2.out
    clear HE2;go_wp2_with fail
    go_round
    case rel=>exact⟨k+1,acc,by omega,hacc,rfl,by go_num,HE3⟩
    case measure=>simp[intOf];omega
   ·by_cases k1:acc<=s
    ·have HE3:Hid (aI (gA G a) (fun z=>S.getD z 0) (8-(k+1)) (k+1) (s+1)=aI (gA G a) (fun z=>S.getD z 0) 8 0 0):=by have:=HE2.out;rw[tr k1]at this;exact this
     have i1:(acc:Int)<=(s:Int):=by omega
     clear HE2;go_wp2_with fail
     go_round
     case rel=>exact⟨k+1,s+1,by omega,by omega,by go_num,by go_num,HE3⟩
     case measure=>simp[intOf];omega
    ·have HE3:Hid (aI (gA G a) (fun z=>S.getD z 0) (8-(k+1)) (k+1) acc=aI (gA G a) (fun z=>S.getD z 0) 8 0 0):=by have:=HE2.out;rw[tu k1]at this;exact this
     have i1:¬(acc:Int)<=(s:Int):=by omega
     clear HE2;go_wp2_with fail
     go_round
     case rel=>exact⟨k+1,acc,by omega,hacc,rfl,by go_num,HE3⟩
     case measure=>simp[intOf];omega
  ·have HE3:Hid (acc=aI (gA G a) (fun z=>S.getD z 0) 8 0 0):=by have:=HE.out;rw[show 8-k=0 by omega]at this;exact this
   clear HE;go_wp2_with fail
   go_ret
   exact⟨yP (congrArg (fun n:Nat=>(n:Int)) HE3.out),by rw[HB.out];exact HBl.out⟩
structure KI(w w':World)(S:List Nat):Prop where
 lv:vo w' (w.heap.size+1) S
 res:w'.heap[w.heap.size]? = some (.cells (lC lZ) 257 (0,0))
 bel:Below w.heap.size w w'
theorem KI.set(h:KI w w' S)(k v:Nat):KI w (w'.setCell ⟨w.heap.size+1,k,none⟩ (.int .i64 (v:Nat))) (S.set k v) :=
 ⟨h.lv.set k v,qP h.res (by omega),h.bel.setCell (p:=⟨w.heap.size+1,k,none⟩) (by show w.heap.size<=w.heap.size+1;omega) _⟩
theorem vo.lt(h:vo w g S):g<w.heap.size:=by
 rcases me g w.heap.size with h1|h1
 ·exact h1
 ·have h2:=h.1;rw[md h1]at h2;cases h2
theorem KI.keep{w'':World}(h:KI w w' S)(hb:Below w'.heap.size w' w''):KI w w'' S :=
 ⟨⟨by rw[hb.block _ h.lv.lt];exact h.lv.1,h.lv.2⟩,by rw[hb.block _ (Nat.lt_of_succ_lt h.lv.lt)];exact h.res,h.bel.trans (hb.mono h.bel.size)⟩
theorem zJ2(z:Nat):lZ.getD z 0=0:=by
 unfold lZ;by_cases h:z<8
 ·simp only[List.getD,co,h,dw,Option.getD_some]
 ·simp only[List.getD,co,h,if_false,Option.getD_none]
theorem vf(w:World)(g:Nat)(G:List Bool)(h:iL w g G) :
 Calls Tryz.prog 136 #[.pointer (some ⟨g,0,none⟩)] w fun e w'=>e=.returned (.agg (lC (tK G)))/\Below w.heap.size w w':=by
 have HG:=zA h;have hg:=h.lt;clear h
 go_enter Tryz.func136,Tryz.ntmps136
 go_upto_region 1 with fail
 go_cut [3] from 6 to 7 (fun p3 wx=>p3=.pointer (some ⟨w.heap.size+1,0,none⟩)/\Hid (KI w wx lZ))
 case first =>
  go_wp2_with fail
  go_meet
  refine⟨rfl,⟨⟨heap_alloc2_new w _ _,rfl⟩,zT (zG _ _),?_⟩⟩;exact(fw (j1 _) _).alloc (pf (zX _ _)) _
 case rest =>
  obtain⟨rfl,HC⟩:=hcut;go_wp2_with fail
  go_loopw [4] (fun v4 wr=>∃(r:Nat) (S:List Nat),1<=r/\r<=8/\v4=.int .i64 r/\Hid (KI w wr S)/\Hid (∀z,z<8->S.getD z 0<=(r-1)*8)/\Hid (Xj G (8-r) S=tK G)) (fun v4 _=>8-(intOf v4).toNat)
  case atStart=>exact⟨1,lZ,by omega,by omega,rfl,HC,zA (fun z _=>by rw[zJ2];exact tx _),zA rfl⟩
  case round =>
   obtain⟨r,S,hr1,hr8,rfl,HCr,HMr,HE⟩:=hrel;clear HC;by_cases zLL:r<8
   ·have HE2:Hid (Xj G (8-(r+1)) (Gp G 8 0 S)=tK G):=by have:=HE.out;rw[show 8-r=(8-(r+1))+1 by omega,Xj]at this;exact this
    obtain⟨wm,rfl⟩:∃wm,wm=wr:=⟨_,rfl⟩;have i1:(r:Int)<8:=by omega
    clear HE;go_wp2_with fail
    go_loopw [5] (fun v5 wr=>∃(a:Nat) (S':List Nat),a<=8/\v5=.int .i64 a/\Hid (KI w wr S')/\Hid (∀z,z<8->S'.getD z 0<=(r-1)*8+a)/\Hid (Gp G (8-a) a S'=Gp G 8 0 S)) (fun v5 _=>8-(intOf v5).toNat)
    case atStart=>exact⟨0,S,by omega,rfl,HCr,HMr,zA rfl⟩
    case round =>
     obtain⟨a,S',ha,rfl,HCa,HMa,HEa⟩:=hrel;by_cases hlta:a<8
     ·have hE:=HEa.out
      rw[show 8-a=(8-(a+1))+1 by omega,Gp]at hE;have hgr:iL wr g G:=⟨by rw[HCa.out.bel.block g hg];exact HG.out.1,HG.out.2⟩;have HCl:=zA (Kk wr g G S' a hlta hgr HCa.out.lv.2 (fun z hz=>by have:=HMa.out z hz;omega))
      have hbd:aI (gA G a) (fun z=>S'.getD z 0) 8 0 0<=(r-1)*8+(a+1):=by
       have:=ji (gA G a) (fun z=>S'.getD z 0) ((r-1)*8+a) 8 0 0 (tx _) (fun z _ hz=>HMa.out z (by omega));omega
      have HE3:=zA hE;clear hE HEa hgr;generalize aI (gA G a) (fun z=>S'.getD z 0) 8 0 0=m at *;have i2:(a:Int)<8:=by omega
      have hcell:=HCa.out.lv.cell hlta
      go_wp2_with (refine wpList_load_row ?zLS 257 (.tmp 3) ?ho (w.heap.size+1) ?hx 257 (lC S') (0,0) _ HCa.out.lv.1 Tryz.underlying257 rfl (XB HCa.out.lv.2) ?_
                   case ho=>rfl
                   case zLS=>rfl
                   case hx=>rfl)
      refine HCl.out.mono ?_;rintro e w1 ⟨rfl,hb1⟩;have HC1:=zA (HCa.out.keep hb1);clear hb1 hcell;have c3:=HC1.out.lv.cell hlta;have hfz:=HC1.out.lv.free a;go_wp2_with fail
      go_roundw
      case rel=>exact⟨a+1,S'.set a m,by omega,by go_num,zA (HC1.out.set a m),zA (fun z hz=>by
       rw[ZI S' a m z (by rw[HCa.out.lv.2];exact hlta)];split
       ·exact hbd
       ·have:=HMa.out z hz;omega),HE3⟩
      case measure=>simp[intOf];omega
     ·obtain rfl:a=8:=by omega
      have HE4:Hid (Xj G (8-(r+1)) S'=tK G):=by have h1:=HEa.out;have h2:S'=Gp G 8 0 S:=h1;unfold Hid;rw[h2];exact HE2.out
      clear HEa HE2;go_wp2_with fail
      go_roundw
      case rel=>exact⟨r+1,S',by omega,by omega,by go_num,HCa,zA (fun z hz=>by have:=HMa.out z hz;omega),HE4⟩
      case measure=>simp[intOf];omega
   ·obtain rfl:r=8:=by omega
    have HE5:Hid (S=tK G):=HE.out;clear HE
    go_wp2_with (first
     | (refine wpList_load_row ?zLS 257 (.tmp 3) ?ho (w.heap.size+1) ?hx 257 (lC S) (0,0) _ HCr.out.lv.1 Tryz.underlying257 rfl (XB HCr.out.lv.2) ?_
        case ho=>rfl
        case zLS=>rfl
        case hx=>rfl)
     | (refine wpList_store_row ?zLS 257 (.tmp 2) (.tmp 21) ?ho w.heap.size (lC S) ?hx ?hy 257 (lC lZ) HCr.out.res (XB HCr.out.lv.2) ?zLU (zAA S) ?_
        case ho=>rfl
        case zLS=>rfl
        case hx=>rfl
        case hy=>rfl
        case zLU=>rw[wQ,wQ,HCr.out.lv.2];rfl))
    refine pd (v:=.agg (lC S)) (results_cell_row Tryz.results136 _ _ w.heap.size 257 (lC S) (0,0) _ rfl (cf _ _ (lC lZ) _ _ _ HCr.out.res) Tryz.underlying257 rfl (XB HCr.out.lv.2)) rfl ⟨by rw[HE5.out],xD HCr.out.bel (j1 _) _⟩
def ZA(L:List (Bs × Nat)):List Value:=L.flatMap fun x=>[.string ⟨x.1.toArray⟩,.int .i64 (x.2:Nat)]
theorem VH(L:List (Bs × Nat))(x:Bs × Nat):ZA (L++[x])=ZA L++[.string ⟨x.1.toArray⟩,.int .i64 (x.2:Nat)]:=by simp[ZA]
theorem DQ:(Tryz.prog.info? 208).map (fun i=>(i.zero,i.size,i.bytes))=some (some (.agg #[.string ⟨#[]⟩,.int .i64 0]),2,24):=by kernel_rfl
def aJ(S:List Nat):List Bs->Nat->List (Bs × Nat)->List (Bs × Nat)
 | [],_,acc=>acc
 | n::r,i,acc=>aJ S r (i+1) (if i<8 then acc++[(n,S.getD i 0)] else acc)
def xE(ls:List zE):List (Bs × Nat):=aJ (tK (qN (zJ ls) ls gZ)) (zJ ls) 0 []
theorem G9(S:List Nat)(hd:List Bs)(i:Nat)(acc:List (Bs × Nat))(h:i<hd.length):aJ S (hd.drop i) i acc=aJ S (hd.drop (i+1)) (i+1) (if i<8 then acc++[(hd.getD i [],S.getD i 0)] else acc):=by
 rw[pq h,aJ];simp[List.getD,h]
def K6(w:World)(a:Option Addr)(zLI:List Bs):Prop:=zLI=[]\/∃g cs fz,a=some ⟨g,0,none⟩/\w.heap[g]? = some (.cells cs 9 fz)/\∀i,i<zLI.length->cs[i]? = some (.string ⟨(zLI.getD i []).toArray⟩)
theorem j9(h:w.ownsRow B 9 1 v zLI.length (vJ zLI)):∃a c,v=.slice a zLI.length c/\K6 w a zLI:=by
 rcases h.2 with ⟨h1,h2⟩|⟨g,cap,yL,h1,_,h3,_,_,_,h7⟩
 ·exact⟨none,0,by rw[h1,h2],.inl (l9 h2)⟩
 ·exact⟨some ⟨g,0,none⟩,cap,h1,.inr ⟨g,yL,_,rfl,h3,fun i hi=>(zB h3 i).symm.trans (xP h3 (n:=zLI.length*1) h7 (Xc zLI i hi))⟩⟩
theorem zP{e:TypeId}{size:Nat}{n:Nat}{xs:List Value}(h:w.ownsRow B e size v n xs):∃a c,v=.slice a n c:=by
 rcases h.2 with ⟨h1,h2⟩|⟨g,cap,yL,h1,_⟩
 ·exact⟨none,0,by rw[h1,h2]⟩
 ·exact⟨_,_,h1⟩
theorem zM{o:Obj}(h:w.heap[g]? = some o):g<w.heap.size:=by
 rcases me g w.heap.size with h1|h1
 ·exact h1
 ·rw[md h1]at h;cases h
theorem K6.new{a:Option Addr}(h:K6 w a zLI)(o:Obj):K6 (w.alloc o) a zLI:=by
 rcases h with h|⟨g,cs,fz,h1,h2,h3⟩
 ·exact .inl h
 ·exact .inr ⟨g,cs,fz,h1,zT h2,h3⟩
theorem K6.grown{a:Option Addr}{n:Nat}{xs:List Value}(h:K6 w a zLI)(zLM:w.ownsRow B 208 2 v n xs)(hg:w.grownBy w' v.ownBlock):K6 w' a zLI:=by
 rcases h with h|⟨g,cs,fz,h1,h2,h3⟩
 ·exact .inl h
 ·refine .inr ⟨g,cs,fz,h1,?_,h3⟩
  rw[hg.block g (zM h2) (fun e=>?_)]
  ·exact h2
  ·rcases zLM.2 with ⟨k1,_⟩|⟨g',cap,yL,k1,_,k3,_⟩
   ·rw[k1]at e;simp[Value.ownBlock]at e
   ·rw[k1]at e;simp[Value.ownBlock]at e
    subst e;rw[h2]at k3;simp at k3
theorem ve(w:World)(a:Option Addr)(c:Nat)(ls:List LX)(h:tC w a ls) :
 Calls Tryz.prog 91 #[.slice a ls.length c] w fun e w'=>∃v,e=.returned v/\w'.ownsRow w.heap.size 208 2 v (xE (fs ls)).length (ZA (xE (fs ls)))/\Below w.heap.size w w':=by
 obtain⟨i0,hi0,hz0,hz1,hz2⟩:=info_parts DQ;have zLX:=h.few;have HNm:=zA (UI w a c ls h);have HCn:=zA (fun w' (hb:Below w.heap.size w w')=>aW w' a c ls (h.below hb (j1 _)));have HGL:Hid ((qN (zJ (fs ls)) (fs ls) gZ).length=64):=by unfold Hid;rw[fV];exact xG
 have HRr:Hid (xE (fs ls)=aJ (tK (qN (zJ (fs ls)) (fs ls) gZ)) (zJ (fs ls)) 0 []):=rfl;obtain⟨B,hB⟩:∃B,B=w.heap.size:=⟨_,rfl⟩;have HB0:=zA hB;rw[<-hB]at HCn HNm ⊢;clear h hB;generalize qN (zJ (fs ls)) (fs ls) gZ=Gn at *;generalize zJ (fs ls)=hd at *;generalize xE (fs ls)=ans at *;have HLv:=zA (fun w' g (hg:iL w' g Gn)=>vf w' g Gn hg);have HSl:=zA (VM Gn);generalize tK Gn=S at *
 go_enter Tryz.func91,Tryz.ntmps91
 go_wp2_with fail
 refine HNm.out.mono ?_;rintro e w1 ⟨rfl,hb1⟩;have hs1:=hb1.size;rw[<-HB0.out]at hs1;have HB1:=zA hb1;clear hb1
 go_wp2_with (refine wpList_store_row ?zLS 125 (.tmp 3) (.tmp 9) ?ho w1.heap.size (gC Gn) ?hx ?hy 125 (gC gZ) (zG w1 _) (kW HGL.out) ?zLU (lH Gn) ?_
              case ho=>rfl
              case zLS=>rfl
              case hx=>rfl
              case hy=>rfl
              case zLU=>rw[uJ,uJ,xG,HGL.out])
 refine(HLv.out _ w1.heap.size ⟨cf _ _ (gC gZ) _ _ _ (zG w1 _),HGL.out⟩).mono ?_;rintro e w2 ⟨rfl,hb2⟩;have HBm:Hid (Below B w ((w1.alloc (.cells (gC gZ) 125 (0,0))).setRow w1.heap.size (gC Gn))):=xD (HB1.out.alloc hs1 _) hs1 _;have HB2:Hid (Below B w w2):=HBm.out.trans (hb2.mono (by have:=HBm.out.size;rw[<-HB0.out]at this;exact this));have hs2:=HB2.out.size;rw[<-HB0.out]at hs2;clear hb2 HBm HB1;have HBl:Hid (Below B w ((w2.alloc (.cells (lC lZ) 257 (0,0))).setRow w2.heap.size (lC S))):=xD (HB2.out.alloc hs2 _) hs2 _;have HLm:Hid (vo ((w2.alloc (.cells (lC lZ) 257 (0,0))).setRow w2.heap.size (lC S)) w2.heap.size S):=⟨cf _ _ (lC lZ) _ _ _ (zG w2 _),HSl.out⟩
 go_wp2_with (refine wpList_store_row ?zLS 257 (.tmp 4) (.tmp 10) ?ho w2.heap.size (lC S) ?hx ?hy 257 (lC lZ) (zG w2 _) (XB HSl.out) ?zLU (zAA S) ?_
              case ho=>rfl
              case zLS=>rfl
              case hx=>rfl
              case hy=>rfl
              case zLU=>rw[wQ,wQ,HSl.out];rfl)
 have hwl:((w2.alloc (.cells (lC lZ) 257 (0,0))).setRow w2.heap.size (lC S)).heap.size=w2.heap.size+1:=by unfold World.setRow;simp
 have eZ:lC lZ = #[.int .i64 0,.int .i64 0,.int .i64 0,.int .i64 0,.int .i64 0,.int .i64 0,.int .i64 0,.int .i64 0]:=rfl;rw[eZ]at HBl HLm hwl;clear eZ;generalize (w2.alloc (.cells #[.int .i64 0,.int .i64 0,.int .i64 0,.int .i64 0,.int .i64 0,.int .i64 0,.int .i64 0,.int .i64 0] 257 (0,0))).setRow w2.heap.size (lC S)=wL at *;generalize w2.heap.size=lb at *;have hsL:=HBl.out.size;rw[<-HB0.out]at hsL;have hlbL:=HLm.out.lt;have HO0:Hid ((wL.alloc (.cells #[] 208)).ownsRow wL.heap.size 208 2 (.slice (some ⟨lb+1,0,none⟩) 0 0) 0 []):=by rw[<-hwl];exact⟨rfl,.inr ⟨wL.heap.size,0,#[],rfl,j1 _,zG _ _,j1 _,tx _,rfl,rfl⟩⟩
 refine(HCn.out _ (HBl.out.alloc hsL _)).mono ?_;rintro e w4 ⟨v2,rfl,hown4,hl4,hb4⟩;obtain⟨na,nc,rfl,hsb⟩:=j9 hown4;have HO4:=zA (pB HO0.out hb4);have HB4:Hid (Below wL.heap.size wL w4):=(fw (j1 _) _).trans (hb4.mono (pf (zX _ _)));have HSb:=zA hsb;have HR2:Hid (aJ S hd 0 []=ans):=HRr.out.symm;clear hown4 hb4 hsb HO0 HRr HB2;go_wp2_with fail
 go_loopw [5,15] (fun ov iv wr=>∃(i:Nat) (acc:List (Bs × Nat)),i<=hd.length/\acc.length<=i/\iv=.int .i64 i/\Hid (wr.ownsRow wL.heap.size 208 2 ov acc.length (ZA acc))/\Hid (Below wL.heap.size wL wr)/\Hid (K6 wr na hd)/\Hid (aJ S (hd.drop i) i acc=ans)) (fun _ iv _=>hd.length-(intOf iv).toNat)
 case atStart=>exact⟨0,[],tx _,j1 _,rfl,HO4,HB4,HSb,HR2⟩
 case round =>
  obtain⟨i,acc,hi,hacc,rfl,HO,zM1,HSr,HE⟩:=hrel;have zLV:wL.heap.size<=wr.heap.size:=zM1.out.size;by_cases zLL:i<hd.length
  ·obtain⟨g,cs,fz,rfl,hblk,zM8⟩:∃g cs fz,na=some ⟨g,0,none⟩/\wr.heap[g]? = some (.cells cs 9 fz)/\∀i,i<hd.length->cs[i]? = some (.string ⟨(hd.getD i []).toArray⟩):=by
    rcases HSr.out with h|h
    ·rw[h]at zLL;simp at zLL
    ·exact h
   have hc:=(zB hblk i).trans (zM8 i zLL);have hE:=HE.out;rw[G9 S hd i acc zLL]at hE;have HE2:=zA hE;obtain⟨oa,oc,rfl⟩:=zP HO.out;clear HE hE zM8 hblk;generalize hd.getD i []=s at *;by_cases k1:i<8
   ·have hlv:wr.cell? ⟨lb,i,none⟩=some (.int .i64 ((S.getD i 0:Nat):Int)):=by
     rw[zM1.out.cell (p:=⟨lb,i,none⟩) hlbL];exact HLm.out.cell k1
    have HE3:Hid (aJ S (hd.drop (i+1)) (i+1) (acc++[(s,S.getD i 0)])=ans):=by have:=HE2.out;rw[tl k1]at this;exact this
    clear HE2;generalize S.getD i 0=sv at *
    go_wp2_with (at_builtin;refine wpList_append_own _ rfl _ _ 122 rfl wL.heap.size 208 i0 _ 2 24 Tryz.underlying122 hi0 hz0 hz1 hz2 rfl (by decide) _ _ _ rfl (HO.out.alloc _) ⟨wr.heap.size,0,none⟩ 1 1 [.string ⟨s.toArray⟩,.int .i64 (sv:Nat)] rfl rfl ?c1 ?c2 ?c3 ?c4 ?c5 ?_)
    case c1=>exact zN _ _ _ _ rfl
    case c2=>intro u hu;simp at hu;rcases hu with rfl|rfl <;> rfl
    case c3=>unfold maxLen;omega
    case c4=>omega
    case c5=>simp;omega
    intro v' w5 zLR zLN _;have HS5:Hid (K6 w5 (some ⟨g,0,none⟩) hd):=(HSr.out.new _).grown (HO.out.alloc _) zLN;have HB5:Hid (Below wL.heap.size wL w5):=(zM1.out.alloc zLV _).grown zLN (by simp;omega) (zS HO.out);have HO5:Hid (w5.ownsRow wL.heap.size 208 2 v' (acc++[(s,sv)]).length (ZA (acc++[(s,sv)]))):=by unfold Hid;rw[VH,hwl];simpa[hwl] using zLR
    clear zLN zLR;go_wp2_with fail
    go_roundw
    case rel=>exact⟨i+1,acc++[(s,sv)],by omega,by simp;omega,by go_num,HO5,HB5,HS5,HE3⟩
    case measure=>simp[intOf];omega
   ·have HE3:Hid (aJ S (hd.drop (i+1)) (i+1) acc=ans):=by have:=HE2.out;rw[tb k1]at this;exact this
    have i1:¬(i:Int)<8:=by omega
    clear HE2;go_wp2_with fail
    go_roundw
    case rel=>exact⟨i+1,acc,by omega,by omega,by go_num,HO,zM1,HSr,HE3⟩
    case measure=>simp[intOf];omega
  ·have HE3:Hid (ans=acc):=by have:=HE.out;rw[ph (by omega)]at this;exact this.symm
   clear HE;go_wp2_with fail
   go_ret
   refine⟨_,rfl,?_,?_⟩
   ·rw[HE3.out];exact yS HO.out hsL
   ·exact HBl.out.trans (zM1.out.mono hsL)
theorem BQ(hn:zLI.Nodup){a b:Nat}(ha:a<zLI.length)(hb:b<zLI.length)(e:zLI.getD a []=zLI.getD b []):a=b:=by
 have h1:=(XV hn (zLI.getD b []) a).2 ⟨ha,e⟩;have h2:=(XV hn (zLI.getD b []) b).2 ⟨hb,rfl⟩;omega
def Qd(ls:List zE):List (Bs × Nat):=(List.range (zJ ls).length).map fun i=>((zJ ls).getD i [],dP (qN (zJ ls) ls gZ) i)
theorem ju(S:List Nat)(hd:List Bs):∀i acc,i+hd.length<=8->aJ S hd i acc=acc++(List.range hd.length).map (fun j=>(hd.getD j [],S.getD (i+j) 0)):=by
 induction hd with
 | nil=>intro i acc _;simp[aJ]
 | cons n r ih =>
   intro i acc h;simp only[p9]at h;rw[aJ,tl (by omega),ih (i+1) _ (by omega),p9,List.range_succ_eq_map,dc,List.map_map,pr];congr 1
   simp only[List.singleton_append,List.getD_cons_zero,ld,List.cons.injEq,true_and];refine List.map_congr_left (fun j _=>?_);simp only[Function.comp,Nat.succ_eq_add_one,List.getD_cons_succ];rw[show i+1+j=i+(j+1) by omega]
theorem wN(ls:List zE)(h8:(zJ ls).length<=8)(hr:qV (qN (zJ ls) ls gZ)=false):xE ls=Qd ls:=by
 unfold xE Qd;rw[ju _ _ 0 [] (by omega),da];refine List.map_congr_left (fun j hj=>?_);have hj8:j<8:=by have:=pm.1 hj;omega
 rw[cr,Ce (by rw[fV];exact xG) hr j hj8]
theorem yq(ls:List zE):(Qd ls).length=(zJ ls).length:=by simp[Qd]
theorem zF2(L:List (Bs × Nat)):∀i,i<L.length->(ZA L)[i*2]? = some (.string ⟨(L.getD i ([],0)).1.toArray⟩)/\(ZA L)[i*2+1]? = some (.int .i64 (((L.getD i ([],0)).2:Nat):Int)):=by
 induction L with
 | nil=>intro i h;simp at h
 | cons x r ih =>
   intro i h;have e:ZA (x::r)=.string ⟨x.1.toArray⟩::.int .i64 (x.2:Nat)::ZA r:=by simp[ZA]
   rw[e]
   cases i with
   | zero=>simp[List.getD]
   | succ i =>
     have:=ih i (by simpa using h);rw[show (i+1)*2=i*2+1+1 by omega];simp only[cx,List.getD_cons_succ];exact this
end Go.Proofs.YtnbpdffdnphbeabGreatDoor
