import Derived.Test.YtnbpdffdnphbeabGreatDoorPWalk
import Derived.Test.YtnbpdffdnphbeabGreatDoorPRing
set_option maxHeartbeats 4000000
set_option maxRecDepth 100000
namespace Go.Proofs.YtnbpdffdnphbeabGreatDoor
open Go.RowKit
variable{zKX:List Bs}{S:List Nat}{B g:Nat}{v:Value}{w' w:World}
theorem yF{i:Nat}(h:w.cell? ⟨g,i,none⟩=some v):g<w.heap.size:=by
 rcases md g w.heap.size with h1|h1
 ·exact h1
 ·rw[World.cell?,mc (by simpa using h1)]at h;cases h
def lC(S:List Nat):Array Value:=(jf S).toArray
def lZ:List Nat:=List.replicate 8 0
theorem iP(S:List Nat):(lC S).size=S.length:=by simp[lC,jf]
theorem jb(S:List Nat):(lC S).all (·.oneCell')=true:=by simp[lC,jf,Value.oneCell']
theorem zIC{k:Nat}(h:k<S.length):(lC S)[k]? = some (.int .i64 ((S.getD k 0:Nat):Int)):=by
 simp[lC,jf,List.getD,h]
def zw(w:World)(g:Nat)(S:List Nat):Prop:=w.heap[g]? = some (.cells (lC S) 257 (0,0))/\S.length=8
theorem zw.cell(h:zw w g S){k:Nat}(hk:k<8):w.cell? ⟨g,k,none⟩=some (.int .i64 ((S.getD k 0:Nat):Int)):=by
 simp only[World.cell?,h.1];exact zIC (by rw[h.2];exact hk)
theorem zw.free(h:zw w g S)(k:Nat):w.frozen? ⟨g,k,none⟩=false:=by simp[World.frozen?,h.1]
theorem zw.set(h:zw w g S)(k v:Nat):zw (w.setCell ⟨g,k,none⟩ (.int .i64 (v:Nat))) g (S.set k v):=by
 refine⟨?_,by rw[List.length_set];exact h.2⟩;rw[setCell_eq_setRow w g k _ _ _ _ h.1];have:=cg w g (lC S) ((lC S).setIfInBounds k (.int .i64 (v:Nat))) _ _ h.1;rw[this];congr 2
 simp[lC,jf,List.map_set]
theorem zK8:(Tryz.prog.info? 257).map (·.size)=some 8:=by kernel_rfl
theorem Xr(h:S.length=8):(Tryz.prog.info? 257).map (·.size)=some (lC S).size:=by rw[iP,h];exact zK8
theorem JJ(w:World)(g:Nat)(G:List Bool)(S:List Nat)(a:Nat)(ha:a<8)(h:eN w g G)(hS:S.length=8)(hm:∀z,z<8->S.getD z 0<=100) :
 Calls Tryz.prog 171 #[.pointer (some ⟨g,0,none⟩),.agg (lC S),.int .i64 a] w fun e w'=>e=.returned (.int .i64 (sO (gA G a) (fun z=>S.getD z 0) 8 0 0:Nat))/\Below w.heap.size w w':=by
 have HSm:Hid (zw (w.alloc (.cells (lC S) 257)) w.heap.size S):=⟨zG _ _,hS⟩;have HGm:Hid (eN (w.alloc (.cells (lC S) 257)) g G):=h.new _;have HBl:Hid (Below w.heap.size w (w.alloc (.cells (lC S) 257))):=gb (j1 _) _;have HMx:=zA hm;clear h hS hm
 go_enter Tryz.func171,Tryz.ntmps171
 go_wp2_with fail
 generalize w.alloc (.cells (lC S) 257)=w1 at *;generalize hb:w.heap.size=b at *;have HB:=zA hb;clear hb
 go_loop [7,8] (fun lv kv=>∃(k acc:Nat),k<=8/\acc<=101/\lv=.int .i64 acc/\kv=.int .i64 k/\Hid (sO (gA G a) (fun z=>S.getD z 0) (8-k) k acc=sO (gA G a) (fun z=>S.getD z 0) 8 0 0)) (fun _ kv=>8-(intOf kv).toNat)
 case atStart=>exact⟨0,0,by omega,by omega,rfl,rfl,zA rfl⟩
 case round =>
  obtain⟨k,acc,hk,hacc,rfl,rfl,HE⟩:=hrel;by_cases zKZ:k<8
  ·have c1:=HGm.out.cell (k:=a*8+k) (by omega)
   have c2:=HSm.out.cell (k:=k) zKZ;have hmx:=HMx.out k zKZ;have hE:=HE.out;rw[show 8-k=(8-(k+1))+1 by omega,sO,show gA G a k=G.getD (a*8+k) false from rfl]at hE;have HE2:Hid (sO (gA G a) (fun z=>S.getD z 0) (8-(k+1)) (k+1) (if G.getD (a*8+k) false&&decide (acc<=S.getD k 0) then S.getD k 0+1 else acc)=sO (gA G a) (fun z=>S.getD z 0) 8 0 0):=hE;clear HE hE;generalize G.getD (a*8+k) false=z1 at *;generalize S.getD k 0=s at *;cases z1
   ·have HE3:Hid (sO (gA G a) (fun z=>S.getD z 0) (8-(k+1)) (k+1) acc=sO (gA G a) (fun z=>S.getD z 0) 8 0 0):=HE2.out
    clear HE2;go_wp2_with fail
    go_round
    case rel=>exact⟨k+1,acc,by omega,hacc,rfl,by go_num,HE3⟩
    case measure=>simp[intOf];omega
   ·by_cases k1:acc<=s
    ·have HE3:Hid (sO (gA G a) (fun z=>S.getD z 0) (8-(k+1)) (k+1) (s+1)=sO (gA G a) (fun z=>S.getD z 0) 8 0 0):=by have:=HE2.out;rw[tu k1]at this;exact this
     have i1:(acc:Int)<=(s:Int):=by omega
     clear HE2;go_wp2_with fail
     go_round
     case rel=>exact⟨k+1,s+1,by omega,by omega,by go_num,by go_num,HE3⟩
     case measure=>simp[intOf];omega
    ·have HE3:Hid (sO (gA G a) (fun z=>S.getD z 0) (8-(k+1)) (k+1) acc=sO (gA G a) (fun z=>S.getD z 0) 8 0 0):=by have:=HE2.out;rw[ty k1]at this;exact this
     have i1:¬(acc:Int)<=(s:Int):=by omega
     clear HE2;go_wp2_with fail
     go_round
     case rel=>exact⟨k+1,acc,by omega,hacc,rfl,by go_num,HE3⟩
     case measure=>simp[intOf];omega
  ·have HE3:Hid (acc=sO (gA G a) (fun z=>S.getD z 0) 8 0 0):=by have:=HE.out;rw[show 8-k=0 by omega]at this;exact this
   clear HE;go_wp2_with fail
   go_ret
   exact⟨yP (congrArg (fun n:Nat=>(n:Int)) HE3.out),by rw[HB.out];exact HBl.out⟩
structure Ks(w w':World)(S:List Nat):Prop where
 lv:zw w' (w.heap.size+1) S
 res:w'.heap[w.heap.size]? = some (.cells (lC lZ) 257 (0,0))
 bel:Below w.heap.size w w'
theorem Ks.set(h:Ks w w' S)(k v:Nat):Ks w (w'.setCell ⟨w.heap.size+1,k,none⟩ (.int .i64 (v:Nat))) (S.set k v) :=
 ⟨h.lv.set k v,qO h.res (by omega),h.bel.setCell (p:=⟨w.heap.size+1,k,none⟩) (by show w.heap.size<=w.heap.size+1;omega) _⟩
theorem zw.lt(h:zw w g S):g<w.heap.size:=by
 rcases md g w.heap.size with h1|h1
 ·exact h1
 ·have h2:=h.1;rw[mc h1]at h2;cases h2
theorem Ks.keep{w'':World}(h:Ks w w' S)(hb:Below w'.heap.size w' w''):Ks w w'' S :=
 ⟨⟨by rw[hb.block _ h.lv.lt];exact h.lv.1,h.lv.2⟩,by rw[hb.block _ (Nat.lt_of_succ_lt h.lv.lt)];exact h.res,h.bel.trans (hb.mono h.bel.size)⟩
theorem zIB(z:Nat):lZ.getD z 0=0:=by
 unfold lZ;by_cases h:z<8
 ·simp only[List.getD,bt,h,dt,Option.getD_some]
 ·simp only[List.getD,bt,h,if_false,Option.getD_none]
theorem zp(w:World)(g:Nat)(G:List Bool)(h:eN w g G) :
 Calls Tryz.prog 136 #[.pointer (some ⟨g,0,none⟩)] w fun e w'=>e=.returned (.agg (lC (tC G)))/\Below w.heap.size w w':=by
 have HG:=zA h;have hg:=h.lt;clear h
 go_enter Tryz.func136,Tryz.ntmps136
 go_upto_region 1 with fail
 go_cut [3] from 6 to 7 (fun p3 wx=>p3=.pointer (some ⟨w.heap.size+1,0,none⟩)/\Hid (Ks w wx lZ))
 case first =>
  go_wp2_with fail
  go_meet
  refine⟨rfl,⟨⟨heap_alloc2_new w _ _,rfl⟩,zS (zG _ _),?_⟩⟩;exact(gb (j1 _) _).alloc (ph (zV _ _)) _
 case rest =>
  obtain⟨rfl,HC⟩:=hcut;go_wp2_with fail
  go_loopw [4] (fun v4 wr=>∃(r:Nat) (S:List Nat),1<=r/\r<=8/\v4=.int .i64 r/\Hid (Ks w wr S)/\Hid (∀z,z<8->S.getD z 0<=(r-1)*8)/\Hid (YP G (8-r) S=tC G)) (fun v4 _=>8-(intOf v4).toNat)
  case atStart=>exact⟨1,lZ,by omega,by omega,rfl,HC,zA (fun z _=>by rw[zIB];exact p7 _),zA rfl⟩
  case round =>
   obtain⟨r,S,hr1,hr8,rfl,HCr,HMr,HE⟩:=hrel;clear HC;by_cases zKZ:r<8
   ·have HE2:Hid (YP G (8-(r+1)) (FD G 8 0 S)=tC G):=by have:=HE.out;rw[show 8-r=(8-(r+1))+1 by omega,YP]at this;exact this
    obtain⟨wm,rfl⟩:∃wm,wm=wr:=⟨_,rfl⟩;have i1:(r:Int)<8:=by omega
    clear HE;go_wp2_with fail
    go_loopw [5] (fun v5 wr=>∃(a:Nat) (S':List Nat),a<=8/\v5=.int .i64 a/\Hid (Ks w wr S')/\Hid (∀z,z<8->S'.getD z 0<=(r-1)*8+a)/\Hid (FD G (8-a) a S'=FD G 8 0 S)) (fun v5 _=>8-(intOf v5).toNat)
    case atStart=>exact⟨0,S,by omega,rfl,HCr,HMr,zA rfl⟩
    case round =>
     obtain⟨a,S',ha,rfl,HCa,HMa,HEa⟩:=hrel;by_cases hlta:a<8
     ·have hE:=HEa.out
      rw[show 8-a=(8-(a+1))+1 by omega,FD]at hE;have hgr:eN wr g G:=⟨by rw[HCa.out.bel.block g hg];exact HG.out.1,HG.out.2⟩;have HCl:=zA (JJ wr g G S' a hlta hgr HCa.out.lv.2 (fun z hz=>by have:=HMa.out z hz;omega))
      have hbd:sO (gA G a) (fun z=>S'.getD z 0) 8 0 0<=(r-1)*8+(a+1):=by
       have:=qm (gA G a) (fun z=>S'.getD z 0) ((r-1)*8+a) 8 0 0 (p7 _) (fun z _ hz=>HMa.out z (by omega));omega
      have HE3:=zA hE;clear hE HEa hgr;generalize sO (gA G a) (fun z=>S'.getD z 0) 8 0 0=m at *;have i2:(a:Int)<8:=by omega
      have hcell:=HCa.out.lv.cell hlta
      go_wp2_with (refine wpList_load_row ?zLA 257 (.tmp 3) ?ho (w.heap.size+1) ?hx 257 (lC S') (0,0) _ HCa.out.lv.1 Tryz.underlying257 rfl (Xr HCa.out.lv.2) ?_
                   case ho=>rfl
                   case zLA=>rfl
                   case hx=>rfl)
      refine HCl.out.mono ?_;rintro e w1 ⟨rfl,hb1⟩;have HC1:=zA (HCa.out.keep hb1);clear hb1 hcell;have c3:=HC1.out.lv.cell hlta;have hfz:=HC1.out.lv.free a;go_wp2_with fail
      go_roundw
      case rel=>exact⟨a+1,S'.set a m,by omega,by go_num,zA (HC1.out.set a m),zA (fun z hz=>by
       rw[Zq S' a m z (by rw[HCa.out.lv.2];exact hlta)];split
       ·exact hbd
       ·have:=HMa.out z hz;omega),HE3⟩
      case measure=>simp[intOf];omega
     ·obtain rfl:a=8:=by omega
      have HE4:Hid (YP G (8-(r+1)) S'=tC G):=by have h1:=HEa.out;have h2:S'=FD G 8 0 S:=h1;unfold Hid;rw[h2];exact HE2.out
      clear HEa HE2;go_wp2_with fail
      go_roundw
      case rel=>exact⟨r+1,S',by omega,by omega,by go_num,HCa,zA (fun z hz=>by have:=HMa.out z hz;omega),HE4⟩
      case measure=>simp[intOf];omega
   ·obtain rfl:r=8:=by omega
    have HE5:Hid (S=tC G):=HE.out;clear HE
    go_wp2_with (first
     | (refine wpList_load_row ?zLA 257 (.tmp 3) ?ho (w.heap.size+1) ?hx 257 (lC S) (0,0) _ HCr.out.lv.1 Tryz.underlying257 rfl (Xr HCr.out.lv.2) ?_
        case ho=>rfl
        case zLA=>rfl
        case hx=>rfl)
     | (refine wpList_store_row ?zLA 257 (.tmp 2) (.tmp 21) ?ho w.heap.size (lC S) ?hx ?hy 257 (lC lZ) HCr.out.res (Xr HCr.out.lv.2) ?zLB (jb S) ?_
        case ho=>rfl
        case zLA=>rfl
        case hx=>rfl
        case hy=>rfl
        case zLB=>rw[iP,iP,HCr.out.lv.2];rfl))
    refine pe (v:=.agg (lC S)) (results_cell_row Tryz.results136 _ _ w.heap.size 257 (lC S) (0,0) _ rfl (cg _ _ (lC lZ) _ _ _ HCr.out.res) Tryz.underlying257 rfl (Xr HCr.out.lv.2)) rfl ⟨by rw[HE5.out],xI HCr.out.bel (j1 _) _⟩
def Zj(L:List (Bs × Nat)):List Value:=L.flatMap fun x=>[.string ⟨x.1.toArray⟩,.int .i64 (x.2:Nat)]
theorem Vs(L:List (Bs × Nat))(x:Bs × Nat):Zj (L++[x])=Zj L++[.string ⟨x.1.toArray⟩,.int .i64 (x.2:Nat)]:=by simp[Zj]
theorem D3:(Tryz.prog.info? 208).map (fun i=>(i.zero,i.size,i.bytes))=some (some (.agg #[.string ⟨#[]⟩,.int .i64 0]),2,24):=by kernel_rfl
def sQ(S:List Nat):List Bs->Nat->List (Bs × Nat)->List (Bs × Nat)
 | [],_,acc=>acc
 | n::r,i,acc=>sQ S r (i+1) (if i<8 then acc++[(n,S.getD i 0)] else acc)
def yY(ls:List zE):List (Bs × Nat):=sQ (tC (qM (zO ls) ls gZ)) (zO ls) 0 []
theorem FY(S:List Nat)(hd:List Bs)(i:Nat)(acc:List (Bs × Nat))(h:i<hd.length):sQ S (hd.drop i) i acc=sQ S (hd.drop (i+1)) (i+1) (if i<8 then acc++[(hd.getD i [],S.getD i 0)] else acc):=by
 rw[po h,sQ];simp[List.getD,h]
def Ki(w:World)(a:Option Addr)(zKX:List Bs):Prop:=zKX=[]\/∃g cs fz,a=some ⟨g,0,none⟩/\w.heap[g]? = some (.cells cs 9 fz)/\∀i,i<zKX.length->cs[i]? = some (.string ⟨(zKX.getD i []).toArray⟩)
theorem uw(h:w.ownsRow B 9 1 v zKX.length (vE zKX)):∃a c,v=.slice a zKX.length c/\Ki w a zKX:=by
 rcases h.2 with ⟨h1,h2⟩|⟨g,cap,yK,h1,_,h3,_,_,_,h7⟩
 ·exact⟨none,0,by rw[h1,h2],.inl (my h2)⟩
 ·exact⟨some ⟨g,0,none⟩,cap,h1,.inr ⟨g,yK,_,rfl,h3,fun i hi=>(zB h3 i).symm.trans (xO h3 (n:=zKX.length*1) h7 (YJ zKX i hi))⟩⟩
theorem zP{e:TypeId}{size:Nat}{n:Nat}{xs:List Value}(h:w.ownsRow B e size v n xs):∃a c,v=.slice a n c:=by
 rcases h.2 with ⟨h1,h2⟩|⟨g,cap,yK,h1,_⟩
 ·exact⟨none,0,by rw[h1,h2]⟩
 ·exact⟨_,_,h1⟩
theorem zJ{o:Obj}(h:w.heap[g]? = some o):g<w.heap.size:=by
 rcases md g w.heap.size with h1|h1
 ·exact h1
 ·rw[mc h1]at h;cases h
theorem Ki.new{a:Option Addr}(h:Ki w a zKX)(o:Obj):Ki (w.alloc o) a zKX:=by
 rcases h with h|⟨g,cs,fz,h1,h2,h3⟩
 ·exact .inl h
 ·exact .inr ⟨g,cs,fz,h1,zS h2,h3⟩
theorem Ki.grown{a:Option Addr}{n:Nat}{xs:List Value}(h:Ki w a zKX)(zL1:w.ownsRow B 208 2 v n xs)(hg:w.grownBy w' v.ownBlock):Ki w' a zKX:=by
 rcases h with h|⟨g,cs,fz,h1,h2,h3⟩
 ·exact .inl h
 ·refine .inr ⟨g,cs,fz,h1,?_,h3⟩
  rw[hg.block g (zJ h2) (fun e=>?_)]
  ·exact h2
  ·rcases zL1.2 with ⟨k1,_⟩|⟨g',cap,yK,k1,_,k3,_⟩
   ·rw[k1]at e;simp[Value.ownBlock]at e
   ·rw[k1]at e;simp[Value.ownBlock]at e
    subst e;rw[h2]at k3;simp at k3
theorem zo(w:World)(a:Option Addr)(c:Nat)(ls:List LX)(h:jS w a ls) :
 Calls Tryz.prog 91 #[.slice a ls.length c] w fun e w'=>∃v,e=.returned v/\w'.ownsRow w.heap.size 208 2 v (yY (fs ls)).length (Zj (yY (fs ls)))/\Below w.heap.size w w':=by
 obtain⟨i0,hi0,hz0,hz1,hz2⟩:=info_parts D3;have zLE:=h.few;have HNm:=zA (Ux w a c ls h);have HCn:=zA (fun w' (hb:Below w.heap.size w w')=>aE w' a c ls (h.below hb (j1 _)));have HGL:Hid ((qM (zO (fs ls)) (fs ls) gZ).length=64):=by unfold Hid;rw[fT];exact xK
 have HRr:Hid (yY (fs ls)=sQ (tC (qM (zO (fs ls)) (fs ls) gZ)) (zO (fs ls)) 0 []):=rfl;obtain⟨B,hB⟩:∃B,B=w.heap.size:=⟨_,rfl⟩;have HB0:=zA hB;rw[<-hB]at HCn HNm ⊢;clear h hB;generalize qM (zO (fs ls)) (fs ls) gZ=Gn at *;generalize zO (fs ls)=hd at *;generalize yY (fs ls)=ans at *;have HLv:=zA (fun w' g (hg:eN w' g Gn)=>zp w' g Gn hg);have HSl:=zA (Vy Gn);generalize tC Gn=S at *
 go_enter Tryz.func91,Tryz.ntmps91
 go_wp2_with fail
 refine HNm.out.mono ?_;rintro e w1 ⟨rfl,hb1⟩;have hs1:=hb1.size;rw[<-HB0.out]at hs1;have HB1:=zA hb1;clear hb1
 go_wp2_with (refine wpList_store_row ?zLA 125 (.tmp 3) (.tmp 9) ?ho w1.heap.size (gC Gn) ?hx ?hy 125 (gC gZ) (zG w1 _) (kR HGL.out) ?zLB (lF Gn) ?_
              case ho=>rfl
              case zLA=>rfl
              case hx=>rfl
              case hy=>rfl
              case zLB=>rw[uG,uG,xK,HGL.out])
 refine(HLv.out _ w1.heap.size ⟨cg _ _ (gC gZ) _ _ _ (zG w1 _),HGL.out⟩).mono ?_;rintro e w2 ⟨rfl,hb2⟩;have HBm:Hid (Below B w ((w1.alloc (.cells (gC gZ) 125 (0,0))).setRow w1.heap.size (gC Gn))):=xI (HB1.out.alloc hs1 _) hs1 _;have HB2:Hid (Below B w w2):=HBm.out.trans (hb2.mono (by have:=HBm.out.size;rw[<-HB0.out]at this;exact this));have hs2:=HB2.out.size;rw[<-HB0.out]at hs2;clear hb2 HBm HB1;have HBl:Hid (Below B w ((w2.alloc (.cells (lC lZ) 257 (0,0))).setRow w2.heap.size (lC S))):=xI (HB2.out.alloc hs2 _) hs2 _;have HLm:Hid (zw ((w2.alloc (.cells (lC lZ) 257 (0,0))).setRow w2.heap.size (lC S)) w2.heap.size S):=⟨cg _ _ (lC lZ) _ _ _ (zG w2 _),HSl.out⟩
 go_wp2_with (refine wpList_store_row ?zLA 257 (.tmp 4) (.tmp 10) ?ho w2.heap.size (lC S) ?hx ?hy 257 (lC lZ) (zG w2 _) (Xr HSl.out) ?zLB (jb S) ?_
              case ho=>rfl
              case zLA=>rfl
              case hx=>rfl
              case hy=>rfl
              case zLB=>rw[iP,iP,HSl.out];rfl)
 have hwl:((w2.alloc (.cells (lC lZ) 257 (0,0))).setRow w2.heap.size (lC S)).heap.size=w2.heap.size+1:=by unfold World.setRow;simp
 have eZ:lC lZ = #[.int .i64 0,.int .i64 0,.int .i64 0,.int .i64 0,.int .i64 0,.int .i64 0,.int .i64 0,.int .i64 0]:=rfl;rw[eZ]at HBl HLm hwl;clear eZ;generalize (w2.alloc (.cells #[.int .i64 0,.int .i64 0,.int .i64 0,.int .i64 0,.int .i64 0,.int .i64 0,.int .i64 0,.int .i64 0] 257 (0,0))).setRow w2.heap.size (lC S)=wL at *;generalize w2.heap.size=lb at *;have hsL:=HBl.out.size;rw[<-HB0.out]at hsL;have hlbL:=HLm.out.lt;have HO0:Hid ((wL.alloc (.cells #[] 208)).ownsRow wL.heap.size 208 2 (.slice (some ⟨lb+1,0,none⟩) 0 0) 0 []):=by rw[<-hwl];exact⟨rfl,.inr ⟨wL.heap.size,0,#[],rfl,j1 _,zG _ _,j1 _,p7 _,rfl,rfl⟩⟩
 refine(HCn.out _ (HBl.out.alloc hsL _)).mono ?_;rintro e w4 ⟨v2,rfl,hown4,hl4,hb4⟩;obtain⟨na,nc,rfl,hsb⟩:=uw hown4;have HO4:=zA (tV HO0.out hb4);have HB4:Hid (Below wL.heap.size wL w4):=(gb (j1 _) _).trans (hb4.mono (ph (zV _ _)));have HSb:=zA hsb;have HR2:Hid (sQ S hd 0 []=ans):=HRr.out.symm;clear hown4 hb4 hsb HO0 HRr HB2;go_wp2_with fail
 go_loopw [5,15] (fun ov iv wr=>∃(i:Nat) (acc:List (Bs × Nat)),i<=hd.length/\acc.length<=i/\iv=.int .i64 i/\Hid (wr.ownsRow wL.heap.size 208 2 ov acc.length (Zj acc))/\Hid (Below wL.heap.size wL wr)/\Hid (Ki wr na hd)/\Hid (sQ S (hd.drop i) i acc=ans)) (fun _ iv _=>hd.length-(intOf iv).toNat)
 case atStart=>exact⟨0,[],p7 _,j1 _,rfl,HO4,HB4,HSb,HR2⟩
 case round =>
  obtain⟨i,acc,hi,hacc,rfl,HO,zLI,HSr,HE⟩:=hrel;have zLD:wL.heap.size<=wr.heap.size:=zLI.out.size;by_cases zKZ:i<hd.length
  ·obtain⟨g,cs,fz,rfl,hblk,zLN⟩:∃g cs fz,na=some ⟨g,0,none⟩/\wr.heap[g]? = some (.cells cs 9 fz)/\∀i,i<hd.length->cs[i]? = some (.string ⟨(hd.getD i []).toArray⟩):=by
    rcases HSr.out with h|h
    ·rw[h]at zKZ;simp at zKZ
    ·exact h
   have hc:=(zB hblk i).trans (zLN i zKZ);have hE:=HE.out;rw[FY S hd i acc zKZ]at hE;have HE2:=zA hE;obtain⟨oa,oc,rfl⟩:=zP HO.out;clear HE hE zLN hblk;generalize hd.getD i []=s at *;by_cases k1:i<8
   ·have hlv:wr.cell? ⟨lb,i,none⟩=some (.int .i64 ((S.getD i 0:Nat):Int)):=by
     rw[zLI.out.cell (p:=⟨lb,i,none⟩) hlbL];exact HLm.out.cell k1
    have HE3:Hid (sQ S (hd.drop (i+1)) (i+1) (acc++[(s,S.getD i 0)])=ans):=by have:=HE2.out;rw[tl k1]at this;exact this
    clear HE2;generalize S.getD i 0=sv at *
    go_wp2_with (at_builtin;refine wpList_append_own _ rfl _ _ 122 rfl wL.heap.size 208 i0 _ 2 24 Tryz.underlying122 hi0 hz0 hz1 hz2 rfl (by decide) _ _ _ rfl (HO.out.alloc _) ⟨wr.heap.size,0,none⟩ 1 1 [.string ⟨s.toArray⟩,.int .i64 (sv:Nat)] rfl rfl ?c1 ?c2 ?c3 ?c4 ?c5 ?_)
    case c1=>exact zM _ _ _ _ rfl
    case c2=>intro u hu;simp at hu;rcases hu with rfl|rfl <;> rfl
    case c3=>unfold maxLen;omega
    case c4=>omega
    case c5=>simp;omega
    intro v' w5 zL5 zL2 _;have HS5:Hid (Ki w5 (some ⟨g,0,none⟩) hd):=(HSr.out.new _).grown (HO.out.alloc _) zL2;have HB5:Hid (Below wL.heap.size wL w5):=(zLI.out.alloc zLD _).grown zL2 (by simp;omega) (zU HO.out);have HO5:Hid (w5.ownsRow wL.heap.size 208 2 v' (acc++[(s,sv)]).length (Zj (acc++[(s,sv)]))):=by unfold Hid;rw[Vs,hwl];simpa[hwl] using zL5
    clear zL2 zL5;go_wp2_with fail
    go_roundw
    case rel=>exact⟨i+1,acc++[(s,sv)],by omega,by simp;omega,by go_num,HO5,HB5,HS5,HE3⟩
    case measure=>simp[intOf];omega
   ·have HE3:Hid (sQ S (hd.drop (i+1)) (i+1) acc=ans):=by have:=HE2.out;rw[tb k1]at this;exact this
    have i1:¬(i:Int)<8:=by omega
    clear HE2;go_wp2_with fail
    go_roundw
    case rel=>exact⟨i+1,acc,by omega,by omega,by go_num,HO,zLI,HSr,HE3⟩
    case measure=>simp[intOf];omega
  ·have HE3:Hid (ans=acc):=by have:=HE.out;rw[pm (by omega)]at this;exact this.symm
   clear HE;go_wp2_with fail
   go_ret
   refine⟨_,rfl,?_,?_⟩
   ·rw[HE3.out];exact yT HO.out hsL
   ·exact HBl.out.trans (zLI.out.mono hsL)
theorem B2(hn:zKX.Nodup){a b:Nat}(ha:a<zKX.length)(hb:b<zKX.length)(e:zKX.getD a []=zKX.getD b []):a=b:=by
 have h1:=(X8 hn (zKX.getD b []) a).2 ⟨ha,e⟩;have h2:=(X8 hn (zKX.getD b []) b).2 ⟨hb,rfl⟩;omega
def XG(ls:List zE):List (Bs × Nat):=(List.range (zO ls).length).map fun i=>((zO ls).getD i [],dQ (qM (zO ls) ls gZ) i)
theorem kj(S:List Nat)(hd:List Bs):∀i acc,i+hd.length<=8->sQ S hd i acc=acc++(List.range hd.length).map (fun j=>(hd.getD j [],S.getD (i+j) 0)):=by
 induction hd with
 | nil=>intro i acc _;simp[sQ]
 | cons n r ih =>
   intro i acc h;simp only[pf]at h;rw[sQ,tl (by omega),ih (i+1) _ (by omega),pf,List.range_succ_eq_map,da,List.map_map,pt];congr 1
   simp only[List.singleton_append,List.getD_cons_zero,l9,List.cons.injEq,true_and];refine List.map_congr_left (fun j _=>?_);simp only[Function.comp,Nat.succ_eq_add_one,List.getD_cons_succ];rw[show i+1+j=i+(j+1) by omega]
theorem iJ(ls:List zE)(h8:(zO ls).length<=8)(hr:qS (qM (zO ls) ls gZ)=false):yY ls=XG ls:=by
 unfold yY XG;rw[kj _ _ 0 [] (by omega),db];refine List.map_congr_left (fun j hj=>?_);have hj8:j<8:=by have:=py.1 hj;omega
 rw[cx,BI (by rw[fT];exact xK) hr j hj8]
theorem GI(ls:List zE):(XG ls).length=(zO ls).length:=by simp[XG]
theorem zED(L:List (Bs × Nat)):∀i,i<L.length->(Zj L)[i*2]? = some (.string ⟨(L.getD i ([],0)).1.toArray⟩)/\(Zj L)[i*2+1]? = some (.int .i64 (((L.getD i ([],0)).2:Nat):Int)):=by
 induction L with
 | nil=>intro i h;simp at h
 | cons x r ih =>
   intro i h;have e:Zj (x::r)=.string ⟨x.1.toArray⟩::.int .i64 (x.2:Nat)::Zj r:=by simp[Zj]
   rw[e]
   cases i with
   | zero=>simp[List.getD]
   | succ i =>
     have:=ih i (by simpa using h);rw[show (i+1)*2=i*2+1+1 by omega];simp only[co,List.getD_cons_succ];exact this
end Go.Proofs.YtnbpdffdnphbeabGreatDoor
