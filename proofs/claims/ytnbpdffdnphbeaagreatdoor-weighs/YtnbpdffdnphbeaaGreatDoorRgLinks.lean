import Derived.Test.YtnbpdffdnphbeaaGreatDoorPWalk
set_option maxHeartbeats 4000000
set_option maxRecDepth 100000
namespace Go.Proofs.YtnbpdffdnphbeaaGreatDoor
open Go.RowKit
theorem xJ{w:World}{g i:Nat}{v:Value}(h:w.cell? ⟨g,i,none⟩=some v):g<w.heap.size:=by
 rcases Nat.lt_or_ge g w.heap.size with h1|h1
 ·exact h1
 ·rw[World.cell?,Array.getElem?_eq_none (by simpa using h1)]at h;cases h
theorem aG.keepB{w w':World}{B:Nat}{a:Option Addr}{names:List Bs}(h:aG w a names)(hb:Below B w w')(hB:w.heap.size<=B):aG w' a names :=
 ⟨fun h0=>let ⟨g,e,p⟩:=h.blk h0;⟨g,e,fun j hj=>by rw[hb.cell (p:=⟨g,j,none⟩) (Nat.lt_of_lt_of_le (xJ (p j hj)) hB)];exact p j hj⟩,h.few⟩
theorem zEY.below{w w':World}{B:Nat}{a:Option Addr}{L:List Nat}(h:zEY w a L)(hb:Below B w w')(hB:w.heap.size<=B):zEY w' a L :=
 ⟨fun h0=>let ⟨g,e,p⟩:=h.blk h0;⟨g,e,fun j hj=>by rw[hb.cell (p:=⟨g,j,none⟩) (Nat.lt_of_lt_of_le (xJ (p j hj)) hB)];exact p j hj⟩⟩
def lC(S:List Nat):Array Value:=(u9 S).toArray
def lZ:List Nat:=List.replicate 8 0
theorem wY(S:List Nat):(lC S).size=S.length:=by simp[lC,u9]
theorem vx(S:List Nat):(lC S).all (·.oneCell')=true:=by simp[lC,u9,Value.oneCell']
theorem zE6{S:List Nat}{k:Nat}(h:k<S.length):(lC S)[k]? = some (.int .i64 ((S.getD k 0:Nat):Int)):=by
 simp[lC,u9,List.getD,h]
def GC(w:World)(g:Nat)(S:List Nat):Prop:=w.heap[g]? = some (.cells (lC S) 318 (0,0))/\S.length=8
theorem GC.cell{w:World}{g:Nat}{S:List Nat}(h:GC w g S){k:Nat}(hk:k<8):w.cell? ⟨g,k,none⟩=some (.int .i64 ((S.getD k 0:Nat):Int)):=by
 simp only[World.cell?,h.1];exact zE6 (by rw[h.2];exact hk)
theorem GC.free{w:World}{g:Nat}{S:List Nat}(h:GC w g S)(k:Nat):w.frozen? ⟨g,k,none⟩=false:=by simp[World.frozen?,h.1]
theorem GC.set{w:World}{g:Nat}{S:List Nat}(h:GC w g S)(k v:Nat):GC (w.setCell ⟨g,k,none⟩ (.int .i64 (v:Nat))) g (S.set k v):=by
 refine⟨?_,by rw[List.length_set];exact h.2⟩;rw[setCell_eq_setRow w g k _ _ _ _ h.1];have:=setRow_heap w g (lC S) ((lC S).setIfInBounds k (.int .i64 (v:Nat))) _ _ h.1;rw[this];congr 2
 simp[lC,u9,List.map_set]
theorem zFO:(Tryz.prog.info? 318).map (·.size)=some 8:=by kernel_rfl
theorem X5{S:List Nat}(h:S.length=8):(Tryz.prog.info? 318).map (·.size)=some (lC S).size:=by rw[wY,h];exact zFO
theorem JK(w:World)(g:Nat)(G:List Bool)(S:List Nat)(a:Nat)(ha:a<8)(h:iQ w g G)(hS:S.length=8)(hm:∀z,z<8->S.getD z 0<=100) :
 Calls Tryz.prog 230 #[.pointer (some ⟨g,0,none⟩),.agg (lC S),.int .i64 a] w fun e w'=>e=.returned (.int .i64 (eA (gA G a) (fun z=>S.getD z 0) 8 0 0:Nat))/\Below w.heap.size w w':=by
 have HSm:Hid (GC (w.alloc (.cells (lC S) 318)) w.heap.size S):=⟨zS _ _,hS⟩;have HGm:Hid (iQ (w.alloc (.cells (lC S) 318)) g G):=h.new _;have HBl:Hid (Below w.heap.size w (w.alloc (.cells (lC S) 318))):=(Below.refl _ _).alloc (Nat.le_refl _) _;have HMx:=zA hm;clear h hS hm
 go_enter Tryz.func230,Tryz.ntmps230
 go_wp2_with fail
 generalize w.alloc (.cells (lC S) 318)=w1 at *;generalize hb:w.heap.size=b at *;have HB:=zA hb;clear hb
 go_loop [7,8] (fun lv kv=>∃(k acc:Nat),k<=8/\acc<=101/\lv=.int .i64 acc/\kv=.int .i64 k/\Hid (eA (gA G a) (fun z=>S.getD z 0) (8-k) k acc=eA (gA G a) (fun z=>S.getD z 0) 8 0 0)) (fun _ kv=>8-(intOf kv).toNat)
 case atStart=>exact⟨0,0,by omega,by omega,rfl,rfl,zA rfl⟩
 case round =>
  obtain⟨k,acc,hk,hacc,rfl,rfl,HE⟩:=hrel;by_cases zFZ:k<8
  ·have c1:=HGm.out.cell (k:=a*8+k) (by omega)
   have c2:=HSm.out.cell (k:=k) zFZ;have hmx:=HMx.out k zFZ;have hE:=HE.out;rw[show 8-k=(8-(k+1))+1 by omega,eA,show gA G a k=G.getD (a*8+k) false from rfl]at hE;have HE2:Hid (eA (gA G a) (fun z=>S.getD z 0) (8-(k+1)) (k+1) (if G.getD (a*8+k) false&&decide (acc<=S.getD k 0) then S.getD k 0+1 else acc)=eA (gA G a) (fun z=>S.getD z 0) 8 0 0):=hE;clear HE hE;generalize G.getD (a*8+k) false=z1 at *;generalize S.getD k 0=s at *;cases z1
   ·have HE3:Hid (eA (gA G a) (fun z=>S.getD z 0) (8-(k+1)) (k+1) acc=eA (gA G a) (fun z=>S.getD z 0) 8 0 0):=HE2.out
    clear HE2;go_wp2_with fail
    go_round
    case rel=>exact⟨k+1,acc,by omega,hacc,rfl,by go_num,HE3⟩
    case measure=>simp[intOf];omega
   ·by_cases k1:acc<=s
    ·have HE3:Hid (eA (gA G a) (fun z=>S.getD z 0) (8-(k+1)) (k+1) (s+1)=eA (gA G a) (fun z=>S.getD z 0) 8 0 0):=by have:=HE2.out;rw[decide_eq_true k1]at this;exact this
     have i1:(acc:Int)<=(s:Int):=by omega
     clear HE2;go_wp2_with fail
     go_round
     case rel=>exact⟨k+1,s+1,by omega,by omega,by go_num,by go_num,HE3⟩
     case measure=>simp[intOf];omega
    ·have HE3:Hid (eA (gA G a) (fun z=>S.getD z 0) (8-(k+1)) (k+1) acc=eA (gA G a) (fun z=>S.getD z 0) 8 0 0):=by have:=HE2.out;rw[decide_eq_false k1]at this;exact this
     have i1:¬(acc:Int)<=(s:Int):=by omega
     clear HE2;go_wp2_with fail
     go_round
     case rel=>exact⟨k+1,acc,by omega,hacc,rfl,by go_num,HE3⟩
     case measure=>simp[intOf];omega
  ·have HE3:Hid (acc=eA (gA G a) (fun z=>S.getD z 0) 8 0 0):=by have:=HE.out;rw[show 8-k=0 by omega]at this;exact this
   clear HE;go_wp2_with fail
   go_ret
   exact⟨yA (congrArg (fun n:Nat=>(n:Int)) HE3.out),by rw[HB.out];exact HBl.out⟩
structure Kh(w w':World)(S:List Nat):Prop where
 lv:GC w' (w.heap.size+1) S
 res:w'.heap[w.heap.size]? = some (.cells (lC lZ) 318 (0,0))
 bel:Below w.heap.size w w'
theorem Kh.set{w w':World}{S:List Nat}(h:Kh w w' S)(k v:Nat):Kh w (w'.setCell ⟨w.heap.size+1,k,none⟩ (.int .i64 (v:Nat))) (S.set k v) :=
 ⟨h.lv.set k v,xD h.res (by omega),h.bel.setCell (p:=⟨w.heap.size+1,k,none⟩) (by show w.heap.size<=w.heap.size+1;omega) _⟩
theorem GC.lt{w:World}{g:Nat}{S:List Nat}(h:GC w g S):g<w.heap.size:=by
 rcases Nat.lt_or_ge g w.heap.size with h1|h1
 ·exact h1
 ·have h2:=h.1;rw[Array.getElem?_eq_none h1]at h2;cases h2
theorem Kh.keep{w w' w'':World}{S:List Nat}(h:Kh w w' S)(hb:Below w'.heap.size w' w''):Kh w w'' S :=
 ⟨⟨by rw[hb.block _ h.lv.lt];exact h.lv.1,h.lv.2⟩,by rw[hb.block _ (Nat.lt_of_succ_lt h.lv.lt)];exact h.res,h.bel.trans (hb.mono h.bel.size)⟩
theorem zE0(z:Nat):lZ.getD z 0=0:=by
 unfold lZ;by_cases h:z<8
 ·simp only[List.getD,List.getElem?_replicate,h,if_true,Option.getD_some]
 ·simp only[List.getD,List.getElem?_replicate,h,if_false,Option.getD_none]
theorem G7(w:World)(g:Nat)(G:List Bool)(h:iQ w g G) :
 Calls Tryz.prog 183 #[.pointer (some ⟨g,0,none⟩)] w fun e w'=>e=.returned (.agg (lC (pF G)))/\Below w.heap.size w w':=by
 have HG:=zA h;have hg:=h.lt;clear h
 go_enter Tryz.func183,Tryz.ntmps183
 go_upto_region 1 with fail
 go_cut [3] from 6 to 7 (fun p3 wx=>p3=.pointer (some ⟨w.heap.size+1,0,none⟩)/\Hid (Kh w wx lZ))
 case first =>
  go_wp2_with fail
  go_meet
  refine⟨rfl,⟨⟨heap_alloc2_new w _ _,rfl⟩,zQ (zS _ _),?_⟩⟩;exact((Below.refl _ _).alloc (Nat.le_refl _) _).alloc (Nat.le_of_lt (zD _ _)) _
 case rest =>
  obtain⟨rfl,HC⟩:=hcut;go_wp2_with fail
  go_loopw [4] (fun v4 wr=>∃(r:Nat) (S:List Nat),1<=r/\r<=8/\v4=.int .i64 r/\Hid (Kh w wr S)/\Hid (∀z,z<8->S.getD z 0<=(r-1)*8)/\Hid (Xc G (8-r) S=pF G)) (fun v4 _=>8-(intOf v4).toNat)
  case atStart=>exact⟨1,lZ,by omega,by omega,rfl,HC,zA (fun z _=>by rw[zE0];exact Nat.zero_le _),zA rfl⟩
  case round =>
   obtain⟨r,S,hr1,hr8,rfl,HCr,HMr,HE⟩:=hrel;clear HC;by_cases zFZ:r<8
   ·have HE2:Hid (Xc G (8-(r+1)) (DG G 8 0 S)=pF G):=by have:=HE.out;rw[show 8-r=(8-(r+1))+1 by omega,Xc]at this;exact this
    obtain⟨wm,rfl⟩:∃wm,wm=wr:=⟨_,rfl⟩;have i1:(r:Int)<8:=by omega
    clear HE;go_wp2_with fail
    go_loopw [5] (fun v5 wr=>∃(a:Nat) (S':List Nat),a<=8/\v5=.int .i64 a/\Hid (Kh w wr S')/\Hid (∀z,z<8->S'.getD z 0<=(r-1)*8+a)/\Hid (DG G (8-a) a S'=DG G 8 0 S)) (fun v5 _=>8-(intOf v5).toNat)
    case atStart=>exact⟨0,S,by omega,rfl,HCr,HMr,zA rfl⟩
    case round =>
     obtain⟨a,S',ha,rfl,HCa,HMa,HEa⟩:=hrel;by_cases hlta:a<8
     ·have hE:=HEa.out
      rw[show 8-a=(8-(a+1))+1 by omega,DG]at hE;have hgr:iQ wr g G:=⟨by rw[HCa.out.bel.block g hg];exact HG.out.1,HG.out.2⟩;have HCl:=zA (JK wr g G S' a hlta hgr HCa.out.lv.2 (fun z hz=>by have:=HMa.out z hz;omega))
      have hbd:eA (gA G a) (fun z=>S'.getD z 0) 8 0 0<=(r-1)*8+(a+1):=by
       have:=yz (gA G a) (fun z=>S'.getD z 0) ((r-1)*8+a) 8 0 0 (Nat.zero_le _) (fun z _ hz=>HMa.out z (by omega));omega
      have HE3:=zA hE;clear hE HEa hgr;generalize eA (gA G a) (fun z=>S'.getD z 0) 8 0 0=m at *;have i2:(a:Int)<8:=by omega
      have zGI:=HCa.out.lv.cell hlta
      go_wp2_with (refine wpList_load_row ?zGC 318 (.tmp 3) ?ho (w.heap.size+1) ?hx 318 (lC S') (0,0) _ HCa.out.lv.1 Tryz.underlying318 rfl (X5 HCa.out.lv.2) ?_
                   case ho=>rfl
                   case zGC=>rfl
                   case hx=>rfl)
      refine HCl.out.mono ?_;rintro e w1 ⟨rfl,hb1⟩;have HC1:=zA (HCa.out.keep hb1);clear hb1 zGI;have c3:=HC1.out.lv.cell hlta;have hfz:=HC1.out.lv.free a;go_wp2_with fail
      go_roundw
      case rel=>exact⟨a+1,S'.set a m,by omega,by go_num,zA (HC1.out.set a m),zA (fun z hz=>by
       rw[Z9 S' a m z (by rw[HCa.out.lv.2];exact hlta)];split
       ·exact hbd
       ·have:=HMa.out z hz;omega),HE3⟩
      case measure=>simp[intOf];omega
     ·obtain rfl:a=8:=by omega
      have HE4:Hid (Xc G (8-(r+1)) S'=pF G):=by have h1:=HEa.out;have h2:S'=DG G 8 0 S:=h1;unfold Hid;rw[h2];exact HE2.out
      clear HEa HE2;go_wp2_with fail
      go_roundw
      case rel=>exact⟨r+1,S',by omega,by omega,by go_num,HCa,zA (fun z hz=>by have:=HMa.out z hz;omega),HE4⟩
      case measure=>simp[intOf];omega
   ·obtain rfl:r=8:=by omega
    have HE5:Hid (S=pF G):=HE.out;clear HE
    go_wp2_with (first
     | (refine wpList_load_row ?zGC 318 (.tmp 3) ?ho (w.heap.size+1) ?hx 318 (lC S) (0,0) _ HCr.out.lv.1 Tryz.underlying318 rfl (X5 HCr.out.lv.2) ?_
        case ho=>rfl
        case zGC=>rfl
        case hx=>rfl)
     | (refine wpList_store_row ?zGC 318 (.tmp 2) (.tmp 21) ?ho w.heap.size (lC S) ?hx ?hy 318 (lC lZ) HCr.out.res (X5 HCr.out.lv.2) ?zGF (vx S) ?_
        case ho=>rfl
        case zGC=>rfl
        case hx=>rfl
        case hy=>rfl
        case zGF=>rw[wY,wY,HCr.out.lv.2];rfl))
    refine bodyPost_ret (v:=.agg (lC S)) (results_cell_row Tryz.results183 _ _ w.heap.size 318 (lC S) (0,0) _ rfl (setRow_heap _ _ (lC lZ) _ _ _ HCr.out.res) Tryz.underlying318 rfl (X5 HCr.out.lv.2)) rfl ⟨by rw[HE5.out],xX HCr.out.bel (Nat.le_refl _) _⟩
def Yr(L:List (Bs × Nat)):List Value:=L.flatMap fun x=>[.string ⟨x.1.toArray⟩,.int .i64 (x.2:Nat)]
theorem KS(L:List (Bs × Nat))(x:Bs × Nat):Yr (L++[x])=Yr L++[.string ⟨x.1.toArray⟩,.int .i64 (x.2:Nat)]:=by simp[Yr]
theorem CW:(Tryz.prog.info? 122).map (fun i=>(i.zero,i.size,i.bytes))=some (some (.agg #[.string ⟨#[]⟩,.int .i64 0]),2,24):=by kernel_rfl
def eB(S:List Nat):List Bs->Nat->List (Bs × Nat)->List (Bs × Nat)
 | [],_,acc=>acc
 | n::r,i,acc=>eB S r (i+1) (if i<8 then acc++[(n,S.getD i 0)] else acc)
def vW(ls:List zH):List (Bs × Nat):=eB (pF (kE (zJ ls) ls gZ)) (zJ ls) 0 []
theorem Fg(S:List Nat)(hd:List Bs)(i:Nat)(acc:List (Bs × Nat))(h:i<hd.length):eB S (hd.drop i) i acc=eB S (hd.drop (i+1)) (i+1) (if i<8 then acc++[(hd.getD i [],S.getD i 0)] else acc):=by
 rw[List.drop_eq_getElem_cons h,eB];simp[List.getD,h]
def Kc(w:World)(a:Option Addr)(names:List Bs):Prop:=names=[]\/∃g cs fz,a=some ⟨g,0,none⟩/\w.heap[g]? = some (.cells cs 9 fz)/\∀i,i<names.length->cs[i]? = some (.string ⟨(names.getD i []).toArray⟩)
theorem yi{w:World}{B:Nat}{v:Value}{names:List Bs}(h:w.ownsRow B 9 1 v names.length (pY names)):∃a c,v=.slice a names.length c/\Kc w a names:=by
 rcases h.2 with ⟨h1,h2⟩|⟨g,cap,yP,h1,_,h3,_,_,_,h7⟩
 ·exact⟨none,0,by rw[h1,h2],.inl (List.eq_nil_of_length_eq_zero h2)⟩
 ·exact⟨some ⟨g,0,none⟩,cap,h1,.inr ⟨g,yP,_,rfl,h3,fun i hi=>(zF h3 i).symm.trans (xQ h3 (n:=names.length*1) h7 (Kz names i hi))⟩⟩
theorem vN{w:World}{B:Nat}{e:TypeId}{size:Nat}{v:Value}{n:Nat}{xs:List Value}(h:w.ownsRow B e size v n xs):∃a c,v=.slice a n c:=by
 rcases h.2 with ⟨h1,h2⟩|⟨g,cap,yP,h1,_⟩
 ·exact⟨none,0,by rw[h1,h2]⟩
 ·exact⟨_,_,h1⟩
theorem yD{w:World}{g:Nat}{o:Obj}(h:w.heap[g]? = some o):g<w.heap.size:=by
 rcases Nat.lt_or_ge g w.heap.size with h1|h1
 ·exact h1
 ·rw[Array.getElem?_eq_none h1]at h;cases h
theorem Kc.new{w:World}{a:Option Addr}{names:List Bs}(h:Kc w a names)(o:Obj):Kc (w.alloc o) a names:=by
 rcases h with h|⟨g,cs,fz,h1,h2,h3⟩
 ·exact .inl h
 ·exact .inr ⟨g,cs,fz,h1,zQ h2,h3⟩
theorem Kc.grown{w w':World}{a:Option Addr}{names:List Bs}{B:Nat}{v:Value}{n:Nat}{xs:List Value}(h:Kc w a names)(zG1:w.ownsRow B 122 2 v n xs)(hg:w.grownBy w' v.ownBlock):Kc w' a names:=by
 rcases h with h|⟨g,cs,fz,h1,h2,h3⟩
 ·exact .inl h
 ·refine .inr ⟨g,cs,fz,h1,?_,h3⟩
  rw[hg.block g (yD h2) (fun e=>?_)]
  ·exact h2
  ·rcases zG1.2 with ⟨k1,_⟩|⟨g',cap,yP,k1,_,k3,_⟩
   ·rw[k1]at e;simp[Value.ownBlock]at e
   ·rw[k1]at e;simp[Value.ownBlock]at e
    subst e;rw[h2]at k3;simp at k3
theorem G6(w:World)(a:Option Addr)(c:Nat)(ls:List LX)(h:pB w a ls) :
 Calls Tryz.prog 118 #[.slice a ls.length c] w fun e w'=>∃v,e=.returned v/\w'.ownsRow w.heap.size 122 2 v (vW (fs ls)).length (Yr (vW (fs ls)))/\Below w.heap.size w w':=by
 obtain⟨i0,hi0,hz0,hz1,hz2⟩:=info_parts CW;have zGH:=h.few;have HNm:=zA (Ub w a c ls h);have HCn:=zA (fun w' (hb:Below w.heap.size w w')=>eO w' a c ls (h.below hb (Nat.le_refl _)));have HGL:Hid ((kE (zJ (fs ls)) (fs ls) gZ).length=64):=by unfold Hid;rw[nS];exact xP
 have HRr:Hid (vW (fs ls)=eB (pF (kE (zJ (fs ls)) (fs ls) gZ)) (zJ (fs ls)) 0 []):=rfl;obtain⟨B,hB⟩:∃B,B=w.heap.size:=⟨_,rfl⟩;have HB0:=zA hB;rw[<-hB]at HCn HNm ⊢;clear h hB;generalize kE (zJ (fs ls)) (fs ls) gZ=Gn at *;generalize zJ (fs ls)=hd at *;generalize vW (fs ls)=ans at *;have HLv:=zA (fun w' g (hg:iQ w' g Gn)=>G7 w' g Gn hg);have HSl:=zA (Vb Gn);generalize pF Gn=S at *
 go_enter Tryz.func118,Tryz.ntmps118
 go_wp2_with fail
 refine HNm.out.mono ?_;rintro e w1 ⟨rfl,hb1⟩;have hs1:=hb1.size;rw[<-HB0.out]at hs1;have HB1:=zA hb1;clear hb1
 go_wp2_with (refine wpList_store_row ?zGC 94 (.tmp 3) (.tmp 9) ?ho w1.heap.size (gC Gn) ?hx ?hy 94 (gC gZ) (zS w1 _) (jL HGL.out) ?zGF (bS Gn) ?_
              case ho=>rfl
              case zGC=>rfl
              case hx=>rfl
              case hy=>rfl
              case zGF=>rw[uR,uR,xP,HGL.out])
 refine(HLv.out _ w1.heap.size ⟨setRow_heap _ _ (gC gZ) _ _ _ (zS w1 _),HGL.out⟩).mono ?_;rintro e w2 ⟨rfl,hb2⟩;have HBm:Hid (Below B w ((w1.alloc (.cells (gC gZ) 94 (0,0))).setRow w1.heap.size (gC Gn))):=xX (HB1.out.alloc hs1 _) hs1 _;have HB2:Hid (Below B w w2):=HBm.out.trans (hb2.mono (by have:=HBm.out.size;rw[<-HB0.out]at this;exact this));have hs2:=HB2.out.size;rw[<-HB0.out]at hs2;clear hb2 HBm HB1;have HBl:Hid (Below B w ((w2.alloc (.cells (lC lZ) 318 (0,0))).setRow w2.heap.size (lC S))):=xX (HB2.out.alloc hs2 _) hs2 _;have HLm:Hid (GC ((w2.alloc (.cells (lC lZ) 318 (0,0))).setRow w2.heap.size (lC S)) w2.heap.size S):=⟨setRow_heap _ _ (lC lZ) _ _ _ (zS w2 _),HSl.out⟩
 go_wp2_with (refine wpList_store_row ?zGC 318 (.tmp 4) (.tmp 10) ?ho w2.heap.size (lC S) ?hx ?hy 318 (lC lZ) (zS w2 _) (X5 HSl.out) ?zGF (vx S) ?_
              case ho=>rfl
              case zGC=>rfl
              case hx=>rfl
              case hy=>rfl
              case zGF=>rw[wY,wY,HSl.out];rfl)
 have hwl:((w2.alloc (.cells (lC lZ) 318 (0,0))).setRow w2.heap.size (lC S)).heap.size=w2.heap.size+1:=by unfold World.setRow;simp
 have eZ:lC lZ = #[.int .i64 0,.int .i64 0,.int .i64 0,.int .i64 0,.int .i64 0,.int .i64 0,.int .i64 0,.int .i64 0]:=rfl;rw[eZ]at HBl HLm hwl;clear eZ;generalize (w2.alloc (.cells #[.int .i64 0,.int .i64 0,.int .i64 0,.int .i64 0,.int .i64 0,.int .i64 0,.int .i64 0,.int .i64 0] 318 (0,0))).setRow w2.heap.size (lC S)=wL at *;generalize w2.heap.size=lb at *;have hsL:=HBl.out.size;rw[<-HB0.out]at hsL;have hlbL:=HLm.out.lt;have HO0:Hid ((wL.alloc (.cells #[] 122)).ownsRow wL.heap.size 122 2 (.slice (some ⟨lb+1,0,none⟩) 0 0) 0 []):=by rw[<-hwl];exact⟨rfl,.inr ⟨wL.heap.size,0,#[],rfl,Nat.le_refl _,zS _ _,Nat.le_refl _,Nat.zero_le _,rfl,rfl⟩⟩
 refine(HCn.out _ (HBl.out.alloc hsL _)).mono ?_;rintro e w4 ⟨v2,rfl,zGP,hl4,hb4⟩;obtain⟨na,nc,rfl,hsb⟩:=yi zGP;have HO4:=zA (uV HO0.out hb4);have HB4:Hid (Below wL.heap.size wL w4):=((Below.refl _ _).alloc (Nat.le_refl _) _).trans (hb4.mono (Nat.le_of_lt (zD _ _)));have HSb:=zA hsb;have HR2:Hid (eB S hd 0 []=ans):=HRr.out.symm;clear zGP hb4 hsb HO0 HRr HB2;go_wp2_with fail
 go_loopw [5,15] (fun ov iv wr=>∃(i:Nat) (acc:List (Bs × Nat)),i<=hd.length/\acc.length<=i/\iv=.int .i64 i/\Hid (wr.ownsRow wL.heap.size 122 2 ov acc.length (Yr acc))/\Hid (Below wL.heap.size wL wr)/\Hid (Kc wr na hd)/\Hid (eB S (hd.drop i) i acc=ans)) (fun _ iv _=>hd.length-(intOf iv).toNat)
 case atStart=>exact⟨0,[],Nat.zero_le _,Nat.le_refl _,rfl,HO4,HB4,HSb,HR2⟩
 case round =>
  obtain⟨i,acc,hi,hacc,rfl,HO,zGQ,HSr,HE⟩:=hrel;have zGL:wL.heap.size<=wr.heap.size:=zGQ.out.size;by_cases zFZ:i<hd.length
  ·obtain⟨g,cs,fz,rfl,hblk,hcs⟩:∃g cs fz,na=some ⟨g,0,none⟩/\wr.heap[g]? = some (.cells cs 9 fz)/\∀i,i<hd.length->cs[i]? = some (.string ⟨(hd.getD i []).toArray⟩):=by
    rcases HSr.out with h|h
    ·rw[h]at zFZ;simp at zFZ
    ·exact h
   have hc:=(zF hblk i).trans (hcs i zFZ);have hE:=HE.out;rw[Fg S hd i acc zFZ]at hE;have HE2:=zA hE;obtain⟨oa,oc,rfl⟩:=vN HO.out;clear HE hE hcs hblk;generalize hd.getD i []=s at *;by_cases k1:i<8
   ·have hlv:wr.cell? ⟨lb,i,none⟩=some (.int .i64 ((S.getD i 0:Nat):Int)):=by
     rw[zGQ.out.cell (p:=⟨lb,i,none⟩) hlbL];exact HLm.out.cell k1
    have HE3:Hid (eB S (hd.drop (i+1)) (i+1) (acc++[(s,S.getD i 0)])=ans):=by have:=HE2.out;rw[if_pos k1]at this;exact this
    clear HE2;generalize S.getD i 0=sv at *
    go_wp2_with (at_builtin;refine wpList_append_own _ rfl _ _ 26 rfl wL.heap.size 122 i0 _ 2 24 Tryz.underlying26 hi0 hz0 hz1 hz2 rfl (by decide) _ _ _ rfl (HO.out.alloc _) ⟨wr.heap.size,0,none⟩ 1 1 [.string ⟨s.toArray⟩,.int .i64 (sv:Nat)] rfl rfl ?c1 ?c2 ?c3 ?c4 ?c5 ?_)
    case c1=>exact xI _ _ _ _ rfl
    case c2=>intro u hu;simp at hu;rcases hu with rfl|rfl <;> rfl
    case c3=>unfold maxLen;omega
    case c4=>omega
    case c5=>simp;omega
    intro v' w5 zG2 zG0 _;have HS5:Hid (Kc w5 (some ⟨g,0,none⟩) hd):=(HSr.out.new _).grown (HO.out.alloc _) zG0;have HB5:Hid (Below wL.heap.size wL w5):=(zGQ.out.alloc zGL _).grown zG0 (by simp;omega) (zZ HO.out);have HO5:Hid (w5.ownsRow wL.heap.size 122 2 v' (acc++[(s,sv)]).length (Yr (acc++[(s,sv)]))):=by unfold Hid;rw[KS,hwl];simpa[hwl] using zG2
    clear zG0 zG2;go_wp2_with fail
    go_roundw
    case rel=>exact⟨i+1,acc++[(s,sv)],by omega,by simp;omega,by go_num,HO5,HB5,HS5,HE3⟩
    case measure=>simp[intOf];omega
   ·have HE3:Hid (eB S (hd.drop (i+1)) (i+1) acc=ans):=by have:=HE2.out;rw[if_neg k1]at this;exact this
    have i1:¬(i:Int)<8:=by omega
    clear HE2;go_wp2_with fail
    go_roundw
    case rel=>exact⟨i+1,acc,by omega,by omega,by go_num,HO,zGQ,HSr,HE3⟩
    case measure=>simp[intOf];omega
  ·have HE3:Hid (ans=acc):=by have:=HE.out;rw[List.drop_eq_nil_of_le (by omega)]at this;exact this.symm
   clear HE;go_wp2_with fail
   go_ret
   refine⟨_,rfl,?_,?_⟩
   ·rw[HE3.out];exact uD HO.out hsL
   ·exact HBl.out.trans (zGQ.out.mono hsL)
end Go.Proofs.YtnbpdffdnphbeaaGreatDoor
