import Derived.Test.YtnbpdffdnphbeaaGreatDoorCkLines
set_option maxHeartbeats 2000000
namespace Go.Proofs.YtnbpdffdnphbeaaGreatDoor
open Go.RowKit
def ja(f:FuncId)(args:Array Value)(w:World)(v:Value):Prop:=∀w',Below w.heap.size w w'->Calls Tryz.prog f args w' fun e w''=>e=.returned v/\Below w'.heap.size w' w''
theorem ja.at{f:FuncId}{args:Array Value}{w:World}{v:Value}(h:ja f args w v){w':World}(hb:Below w.heap.size w w'):ja f args w' v:=fun w'' h2=>h w'' (hb.trans (h2.mono hb.size))
theorem nX{w:World}{a:Option Addr}{ls:List LX}(h:pB w a ls)(c:Nat)(k:Int)(nm:Bs):ja 219 #[.slice a ls.length c,.int .i64 k,.string ⟨nm.toArray⟩] w (.bool (uJ (fs ls) k nm)) :=
 fun w' hb=>FC w' a c ls k nm (h.below hb (Nat.le_refl _))
theorem Z7{w:World}{a:Option Addr}{ls:List LX}(h:pB w a ls)(c:Nat)(k:Int)(nm:Bs)(i:Nat)(hi:i<ls.length):ja 219 #[.slice a i c,.int .i64 k,.string ⟨nm.toArray⟩] w (.bool (uJ ((fs ls).take i) k nm)):=by
 have:=nX (h.take i) c k nm;rw[List.length_take,Nat.min_eq_left (by omega),show fs (ls.take i)=(fs ls).take i from List.map_take ..]at this;exact this
theorem JO{w:World}{a:Option Addr}{ls:List LX}(h:pB w a ls)(c:Nat)(nm:Bs):ja 220 #[.slice a ls.length c,.string ⟨nm.toArray⟩] w (.bool (jZ (fs ls) nm)) :=
 fun w' hb=>X7 w' a c ls nm (h.below hb (Nat.le_refl _))
theorem XJ{w:World}{a:Option Addr}{ls:List LX}(h:pB w a ls)(c:Nat)(nm:Bs):ja 223 #[.slice a ls.length c,.string ⟨nm.toArray⟩] w (.int .i64 (vP (fs ls) nm)) :=
 fun w' hb=>BR w' a c ls nm (h.below hb (Nat.le_refl _))
theorem Ve(w:World)(a:Option Addr)(n c:Nat)(nm:Bs)(p q:Bool)(h1:ja 219 #[.slice a n c,.int .i64 1,.string ⟨nm.toArray⟩] w (.bool p))(h2:ja 220 #[.slice a n c,.string ⟨nm.toArray⟩] w (.bool q)) :
 Calls Tryz.prog 221 #[.slice a n c,.string ⟨nm.toArray⟩] w fun e w'=>e=.returned (.bool (p || q))/\Below w.heap.size w w':=by
 have H1:=zA h1;have H2:=zA h2;clear h1 h2;cases p
 ·go_enter Tryz.func221,Tryz.ntmps221
  go_wp2_with fail
  refine(H1.out _ (Below.refl _ _)).mono ?_;rintro e w1 ⟨rfl,hb1⟩;have HB1:=zA hb1;clear hb1;go_wp2_with fail
  refine(H2.out _ HB1.out).mono ?_;rintro e w2 ⟨rfl,hb2⟩;have HB2:Hid (Below w.heap.size w w2):=HB1.out.trans (hb2.mono HB1.out.size);clear hb2;go_wp2_with fail
  go_ret
  exact⟨rfl,HB2.out⟩
 ·go_enter Tryz.func221,Tryz.ntmps221
  go_wp2_with fail
  refine(H1.out _ (Below.refl _ _)).mono ?_;rintro e w1 ⟨rfl,hb1⟩;have HB1:=zA hb1;clear hb1;go_wp2_with fail
  go_ret
  exact⟨rfl,HB1.out⟩
theorem Vf{w:World}{a:Option Addr}{ls:List LX}(h:pB w a ls)(c:Nat)(nm:Bs):ja 221 #[.slice a ls.length c,.string ⟨nm.toArray⟩] w (.bool (YM (fs ls) nm)) :=
 fun w' hb=>Ve w' a ls.length c nm _ _ ((nX h c 1 nm).at hb) ((JO h c nm).at hb)
theorem uK{w w1:World}{o:Obj}(h:Below (w.alloc o).heap.size (w.alloc o) w1):Below w.heap.size w w1:=((Below.refl _ _).alloc (Nat.le_refl _) o).trans (h.mono (Nat.le_of_lt (zD _ _)))
theorem dH{w w1:World}{cs:Array Value}{T:TypeId}{fz:Nat × Nat}(h:Below (w.alloc (.cells cs T fz)).heap.size (w.alloc (.cells cs T fz)) w1)(j:Nat):w1.cell? ⟨w.heap.size,j,none⟩=cs[j]? := by
 have h1:w1.heap[w.heap.size]? = some (.cells cs T fz):=by rw[h.block _ (zD _ _)];exact zS _ _
 simp only[World.cell?,h1];rfl
theorem Qp(w:World)(a:Option Addr)(c:Nat)(ls:List LX)(x:yB)(h:pB w a ls) :
 Calls Tryz.prog 222 #[.slice a ls.length c,jH x] w fun e w'=>e=.returned (.bool (uM (fs ls) x))/\Below w.heap.size w w':=by
 obtain⟨kd,le,ri,nm,mk,ot,nu⟩:=x;have HC:=zA (JO h c nm);have HF:=zA (nX h c 2 nm);have HN:=zA (nX h c 1 nm);have HO:=zA (nX h c 1 ot);have zGG:=h.few;clear h;unfold jH;by_cases k5:kd=5
 ·have HR:Hid (uM (fs ls) ⟨kd,le,ri,nm,mk,ot,nu⟩=jZ (fs ls) nm):=by unfold Hid uM;rw[if_pos k5]
  have b5:(kd==5)=true:=by simpa using k5
  clear k5 HF HN HO
  go_enter Tryz.func222,Tryz.ntmps222
  go_wp2_with fail
  refine(HC.out _ ((Below.refl _ _).alloc (Nat.le_refl _) _)).mono ?_;rintro e w1 ⟨rfl,hb1⟩;have HB1:Hid (Below w.heap.size w w1):=uK hb1;clear hb1;go_wp2_with fail
  go_ret
  exact⟨zE HR.out.symm,HB1.out⟩
 have b5:(kd==5)=false:=by simpa using k5
 by_cases k6:kd=6
 ·have HR:Hid (uM (fs ls) ⟨kd,le,ri,nm,mk,ot,nu⟩=uJ (fs ls) 2 nm):=by unfold Hid uM;rw[if_neg k5,if_pos k6]
  have b6:(kd==6)=true:=by simpa using k6
  clear k5 k6 HC HN HO
  go_enter Tryz.func222,Tryz.ntmps222
  go_wp2_with fail
  refine(HF.out _ ((Below.refl _ _).alloc (Nat.le_refl _) _)).mono ?_;rintro e w1 ⟨rfl,hb1⟩;have HB1:Hid (Below w.heap.size w w1):=uK hb1;clear hb1;go_wp2_with fail
  go_ret
  exact⟨zE HR.out.symm,HB1.out⟩
 have b6:(kd==6)=false:=by simpa using k6
 by_cases k7:kd=7
 ·have HR:Hid (uM (fs ls) ⟨kd,le,ri,nm,mk,ot,nu⟩=((decide (ot=[]) || uJ (fs ls) 1 ot)&&uJ (fs ls) 1 nm)):=by unfold Hid uM;rw[if_neg k5,if_neg k6,if_pos k7]
  have b7:(kd==7)=true:=by simpa using k7
  clear k5 k6 HC HF;generalize uJ (fs ls) 1 ot=p at *;generalize uJ (fs ls) 1 nm=q at *;by_cases ko:ot=[]
  ·have HR2:Hid (uM (fs ls) ⟨kd,le,ri,nm,mk,ot,nu⟩=q):=by unfold Hid;rw[HR.out,decide_eq_true ko];rfl
   have bo:(ot==[])=true:=by simpa using ko
   clear HR ko k7
   go_enter Tryz.func222,Tryz.ntmps222
   go_wp2_with fail
   refine(HN.out _ ((Below.refl _ _).alloc (Nat.le_refl _) _)).mono ?_;rintro e w1 ⟨rfl,hb1⟩;have HB1:Hid (Below w.heap.size w w1):=uK hb1;clear hb1;go_wp2_with fail
   go_ret
   exact⟨zE HR2.out.symm,HB1.out⟩
  ·have HR2:Hid (uM (fs ls) ⟨kd,le,ri,nm,mk,ot,nu⟩=(p&&q)):=by unfold Hid;rw[HR.out,decide_eq_false ko];rfl
   have bo:(ot==[])=false:=by simpa using ko
   clear HR ko k7;cases p
   ·go_enter Tryz.func222,Tryz.ntmps222
    go_wp2_with fail
    refine(HO.out _ ((Below.refl _ _).alloc (Nat.le_refl _) _)).mono ?_;rintro e w1 ⟨rfl,hb1⟩;have HB1:Hid (Below w.heap.size w w1):=uK hb1;clear hb1;go_wp2_with fail
    go_ret
    exact⟨zE HR2.out.symm,HB1.out⟩
   ·go_enter Tryz.func222,Tryz.ntmps222
    go_wp2_with fail
    refine(HO.out _ ((Below.refl _ _).alloc (Nat.le_refl _) _)).mono ?_;rintro e w1 ⟨rfl,hb1⟩;have HB1:Hid (Below w.heap.size w w1):=uK hb1;have q1:=dH hb1;clear hb1;go_wp2_with fail
    refine(HN.out _ HB1.out).mono ?_;rintro e w2 ⟨rfl,hb2⟩;have HB2:Hid (Below w.heap.size w w2):=HB1.out.trans (hb2.mono HB1.out.size);clear hb2;go_wp2_with fail
    go_ret
    exact⟨zE HR2.out.symm,HB2.out⟩
 ·have HR:Hid (uM (fs ls) ⟨kd,le,ri,nm,mk,ot,nu⟩=true):=by unfold Hid uM;rw[if_neg k5,if_neg k6,if_neg k7]
  have b7:(kd==7)=false:=by simpa using k7
  clear k5 k6 k7 HC HF HN HO
  go_enter Tryz.func222,Tryz.ntmps222
  go_wp2_with fail
  go_ret
  exact⟨zE HR.out.symm,(Below.refl _ _).alloc (Nat.le_refl _) _⟩
theorem Qq{w:World}{a:Option Addr}{ls:List LX}(h:pB w a ls)(c:Nat)(x:yB):ja 222 #[.slice a ls.length c,jH x] w (.bool (uM (fs ls) x)) :=
 fun w' hb=>Qp w' a c ls x (h.below hb (Nat.le_refl _))
theorem Zd(w:World)(a:Option Addr)(c:Nat)(ls:List LX)(i:Nat)(hi:i<ls.length)(hc:ls.length<=c)(h:pB w a ls) :
 Calls Tryz.prog 163 #[.slice a ls.length c,.int .i64 i] w fun e w'=>e=.returned (.int .i64 (bA (fs ls) i))/\Below w.heap.size w w':=by
 have zGG:=h.few;have HR:Hid (bA (fs ls) i=if uJ ((fs ls).take i) 1 (mW ls i).1.name || (uJ ((fs ls).take i) 2 (mW ls i).1.name || jZ (fs ls) (mW ls i).1.name) then 4 else 0):=by unfold Hid bA;rw[tZ]
 have H1:=zA (Z7 h c 1 (mW ls i).1.name i hi);have H2:=zA (Z7 h c 2 (mW ls i).1.name i hi);have H3:=zA (JO h c (mW ls i).1.name);obtain⟨gl,sa,sn,sc,na,nn,nc,rfl,hgl,⟨c0,c1,c2,c3,c4,c5,c6,c7,c8,c9,c10⟩,_,_⟩:=h.line hi;clear h c0 c2 c3 c4 c5 c6 c7 c8 c9 c10;generalize (mW ls i).1.name=nm at *;generalize uJ ((fs ls).take i) 1 nm=p at *;generalize uJ ((fs ls).take i) 2 nm=q at *;generalize jZ (fs ls) nm=r at *;cases p
 ·cases q
  ·go_enter Tryz.func163,Tryz.ntmps163
   go_wp2_with fail
   refine(H1.out _ (Below.refl _ _)).mono ?_;rintro e w1 ⟨rfl,hb1⟩;have HB1:=zA hb1;clear hb1;go_wp2_with fail
   refine(H2.out _ HB1.out).mono ?_;rintro e w2 ⟨rfl,hb2⟩;have HB2:Hid (Below w.heap.size w w2):=HB1.out.trans (hb2.mono HB1.out.size);clear hb2;go_wp2_with fail
   refine(H3.out _ HB2.out).mono ?_;rintro e w3 ⟨rfl,hb3⟩;have HB3:Hid (Below w.heap.size w w3):=HB2.out.trans (hb3.mono HB2.out.size);clear hb3;cases r
   ·go_wp2_with fail
    go_ret
    exact⟨yA HR.out.symm,HB3.out⟩
   ·go_wp2_with fail
    go_ret
    exact⟨yA HR.out.symm,HB3.out⟩
  ·go_enter Tryz.func163,Tryz.ntmps163
   go_wp2_with fail
   refine(H1.out _ (Below.refl _ _)).mono ?_;rintro e w1 ⟨rfl,hb1⟩;have HB1:=zA hb1;clear hb1;go_wp2_with fail
   refine(H2.out _ HB1.out).mono ?_;rintro e w2 ⟨rfl,hb2⟩;have HB2:Hid (Below w.heap.size w w2):=HB1.out.trans (hb2.mono HB1.out.size);clear hb2;go_wp2_with fail
   go_ret
   exact⟨yA HR.out.symm,HB2.out⟩
 ·go_enter Tryz.func163,Tryz.ntmps163
  go_wp2_with fail
  refine(H1.out _ (Below.refl _ _)).mono ?_;rintro e w1 ⟨rfl,hb1⟩;have HB1:=zA hb1;clear hb1;go_wp2_with fail
  go_ret
  exact⟨yA HR.out.symm,HB1.out⟩
def vW(nm:Bs):List Bs->Nat->Int
 | [],_ => -1
 | x::r,i=>if x=nm then (i:Int) else vW nm r (i+1)
def zM(names:List Bs)(nm:Bs):Int:=vW nm names 0
def uO:List zH->List Bs->List Bs
 | [],acc=>acc
 | x::r,acc=>uO r (if x.kind=3/\zM acc x.conc<0 then acc++[x.conc] else acc)
def zI(ls:List zH):List Bs:=uO ls []
def kZ:List zH->List Bs->List Bs
 | [],acc=>acc
 | x::r,acc=>kZ r (if x.kind=3 then acc++[x.name] else acc)
def xA(ls:List zH):List Bs:=kZ ls []
theorem sZ(nm:Bs)(l:List Bs):∀i:Nat,-1<=vW nm l i/\vW nm l i<(i:Int)+l.length:=by
 induction l with
 | nil=>intro i;simp[vW];omega
 | cons x r ih=>intro i;rw[vW];split
                ·simp;omega
                ·have:=ih (i+1);simp only[List.length_cons];omega
theorem oT(nm:Bs)(l:List Bs)(i:Nat)(h:i<l.length):vW nm (l.drop i) i=if l.getD i []=nm then (i:Int) else vW nm (l.drop (i+1)) (i+1):=by
 rw[List.drop_eq_getElem_cons h,vW];simp[List.getD,h]
theorem Vq(ls:List zH)(i:Nat)(acc:List Bs)(h:i<ls.length):uO (ls.drop i) acc=uO (ls.drop (i+1)) (if (lA ls i).kind=3/\zM acc (lA ls i).conc<0 then acc++[(lA ls i).conc] else acc):=by
 rw[List.drop_eq_getElem_cons h,uO];simp[lA,List.getD,h]
theorem B5(ls:List zH)(i:Nat)(acc:List Bs)(h:i<ls.length):kZ (ls.drop i) acc=kZ (ls.drop (i+1)) (if (lA ls i).kind=3 then acc++[(lA ls i).name] else acc):=by
 rw[List.drop_eq_getElem_cons h,kZ];simp[lA,List.getD,h]
def pY(l:List Bs):List Value:=l.map fun s=>Value.string ⟨s.toArray⟩
structure aI(w:World)(a:Option Addr)(names:List Bs):Prop where
 blk:0<names.length->∃g,a=some ⟨g,0,none⟩/\∀i,i<names.length->w.cell? ⟨g,i,none⟩=some (.string ⟨(names.getD i []).toArray⟩)
 few:names.length<=10000
theorem Ky(names:List Bs)(i:Nat)(h:i<names.length):(pY names)[i]? = some (.string ⟨(names.getD i []).toArray⟩):=by
 simp[pY,List.getD,h]
theorem oK{w:World}{B:Nat}{v:Value}{names:List Bs}(h:w.ownsRow B 9 1 v names.length (pY names))(hf:names.length<=10000):∃a c,v=.slice a names.length c/\aI w a names:=by
 rcases h.2 with ⟨h1,h2⟩|⟨g,cap,yO,h1,_,h3,_,_,_,h7⟩
 ·exact⟨none,0,by rw[h1,h2],⟨fun h0=>by omega,hf⟩⟩
 ·refine⟨some ⟨g,0,none⟩,cap,h1,⟨fun _=>⟨g,rfl,fun i hi=>xQ h3 (n:=names.length*1) h7 (Ky names i hi)⟩,hf⟩⟩
theorem XI(w:World)(a:Option Addr)(c:Nat)(names:List Bs)(nm:Bs)(h:aI w a names) :
 Calls Tryz.prog 167 #[.slice a names.length c,.string ⟨nm.toArray⟩] w fun e w'=>e=.returned (.int .i64 (zM names nm))/\w'=w:=by
 have HS:=zA h;have zGG:=h.few;clear h
 go_enter Tryz.func167,Tryz.ntmps167
 go_wp2_with fail
 go_loop [9] (fun iv=>∃(i:Nat),i<=names.length/\iv=.int .i64 i/\Hid (vW nm (names.drop i) i=zM names nm)) (fun iv=>names.length-(intOf iv).toNat)
 case atStart=>exact⟨0,Nat.zero_le _,rfl,zA rfl⟩
 case round =>
  obtain⟨i,hi,rfl,HE⟩:=hrel;by_cases zFY:i<names.length
  ·obtain⟨g,rfl,hcs⟩:=HS.out.blk (by omega)
   have hc:=hcs i zFY;have hE:=HE.out;rw[oT nm names i zFY]at hE;have HE2:=zA hE;clear HE hE hcs;generalize names.getD i []=s at *;by_cases k1:s=nm
   ·have HE3:Hid (zM names nm=i):=by have:=HE2.out;rw[if_pos k1]at this;exact this.symm
    have b1:(s==nm)=true:=by simpa using k1
    clear HE2 k1;go_wp2_with fail
    go_ret
    exact⟨yA HE3.out.symm,rfl⟩
   ·have HE3:Hid (vW nm (names.drop (i+1)) (i+1)=zM names nm):=by have:=HE2.out;rw[if_neg k1]at this;exact this
    have b1:(s==nm)=false:=by simpa using k1
    clear HE2 k1;go_wp2_with fail
    go_round
    case rel=>exact⟨i+1,by omega,by go_num,HE3⟩
    case measure=>simp[intOf];omega
  ·have HE3:Hid (zM names nm = -1):=by have:=HE.out;rw[List.drop_eq_nil_of_le (by omega)]at this;exact this.symm
   clear HE;go_wp2_with fail
   go_ret
   exact⟨yA HE3.out.symm,rfl⟩
theorem Ze:(Tryz.prog.info? 9).map (fun i=>(i.zero,i.size,i.bytes))=some (some (.string ⟨#[]⟩),1,16):=by kernel_rfl
theorem dO(l:List Bs)(s:Bs):pY (l++[s])=pY l++[.string ⟨s.toArray⟩]:=by simp[pY]
theorem eT(w:World)(a:Option Addr)(c:Nat)(ls:List LX)(h:pB w a ls) :
 Calls Tryz.prog 166 #[.slice a ls.length c] w fun e w'=>∃v,e=.returned v/\w'.ownsRow w.heap.size 9 1 v (zI (fs ls)).length (pY (zI (fs ls)))/\(zI (fs ls)).length<=ls.length/\Below w.heap.size w w':=by
 obtain⟨i0,hi0,hz0,hz1,hz2⟩:=info_parts Ze;have HL:=zA h;have zGG:=h.few;obtain⟨B,hB⟩:∃B,B=w.heap.size:=⟨_,rfl⟩;have HB0:=zA hB;clear h hB
 go_enter Tryz.func166,Tryz.ntmps166
 go_wp2_with fail
 go_loopw [3,9] (fun ov iv wr=>∃(i:Nat) (acc:List Bs),i<=ls.length/\acc.length<=i/\iv=.int .i64 i/\Hid (wr.ownsRow B 9 1 ov acc.length (pY acc))/\Hid (Below B w wr)/\Hid (uO ((fs ls).drop i) acc=zI (fs ls))) (fun _ iv _=>ls.length-(intOf iv).toNat)
 case atStart=>exact⟨0,[],Nat.zero_le _,Nat.le_refl _,rfl,zA ⟨rfl,.inr ⟨w.heap.size,0,#[],rfl,by rw[HB0.out];exact Nat.le_refl _,zS _ _,Nat.le_refl _,Nat.zero_le _,rfl,rfl⟩⟩,zA ((Below.refl _ _).alloc (by rw[HB0.out];exact Nat.le_refl _) _),zA rfl⟩
 case round =>
  obtain⟨i,acc,hi,hacc,rfl,HO,HB,HE⟩:=hrel;by_cases zFY:i<ls.length
  ·obtain⟨gl,sa,sn,sc,na,nn,nc,rfl,hgl,⟨c0,c1,c2,c3,c4,c5,c6,c7,c8,c9,c10⟩,_,_⟩:=(HL.out.below HB.out (by rw[HB0.out];exact Nat.le_refl _)).line zFY
   have hE:=HE.out;rw[Vq _ i _ (by simpa using zFY),tZ]at hE;have HE2:=zA hE;have zG8:B<=wr.heap.size:=by have:=HB.out.size;have h2:=HB0.out;omega
   obtain⟨oa,oc,rfl,hstr⟩:=oK HO.out (by omega);have HF:=zA (fun w' (hb:Below wr.heap.size wr w') nm=>XI w' oa oc acc nm ⟨fun h0=>let ⟨g,e,p⟩:=hstr.blk h0;⟨g,e,fun j hj=>by rw[hb.cell (p:=⟨g,j,none⟩) (by rcases Nat.lt_or_ge g wr.heap.size with h1|h1;exact h1;have:=p j hj;rw[World.cell?,Array.getElem?_eq_none (by simpa using h1)]at this;cases this)];exact p j hj⟩,hstr.few⟩);clear HE hE hstr;generalize (mW ls i).1=x at *;obtain⟨kd,n1,lo,hi',cc,S,N,ro,te,de,lw⟩:=x;simp only at c0 c1 c2 c3 c4 c5 c6 c7 c8 c9 c10;by_cases k1:kd=3
   ·have b1:(kd==3)=true:=by simpa using k1
    by_cases k2:zM acc cc<0
    ·have HE3:Hid (uO ((fs ls).drop (i+1)) (acc++[cc])=zI (fs ls)):=by have:=HE2.out;rw[if_pos ⟨k1,k2⟩]at this;exact this
     clear HE2 k1;go_wp2_with fail
     refine(HF.out _ ((Below.refl _ _).alloc (Nat.le_refl _) _) cc).mono ?_;rintro e w1 ⟨rfl,hw⟩;obtain rfl:=hw.symm
     go_wp2_with (at_builtin;refine wpList_append_own _ rfl _ _ 37 rfl B 9 i0 _ 1 16 Tryz.underlying37 hi0 hz0 hz1 hz2 rfl (by decide) _ _ _ rfl ((HO.out.alloc _).alloc _) ⟨wr.heap.size+1,0,none⟩ 1 1 [.string ⟨cc.toArray⟩] rfl rfl ?c1 ?c2 ?c3 ?c4 ?c5 ?_)
     case c1=>exact World.news_of_block (heap_alloc2_new wr _ _)
     case c2=>intro u hu;simp at hu;subst hu;rfl
     case c3=>unfold maxLen;omega
     case c4=>omega
     case c5=>simp;omega
     intro v' w2 zG1 zFZ _;have HB2:Hid (Below B w w2):=((HB.out.alloc zG8 _).alloc (Nat.le_trans zG8 (Nat.le_of_lt (zD _ _))) _).grown zFZ (by simp;omega) (zZ HO.out);have HO2:Hid (w2.ownsRow B 9 1 v' (acc++[cc]).length (pY (acc++[cc]))):=by unfold Hid;rw[dO];simpa using zG1
     clear zFZ zG1;go_wp2_with fail
     go_roundw
     case rel=>exact⟨i+1,acc++[cc],by omega,by simp;omega,by go_num,HO2,HB2,HE3⟩
     case measure=>simp[intOf];omega
    ·have HE3:Hid (uO ((fs ls).drop (i+1)) acc=zI (fs ls)):=by have:=HE2.out;rw[if_neg (fun h=>k2 h.2)]at this;exact this
     have k3:decide (zM acc cc<0)=false:=decide_eq_false k2;clear HE2 k1;go_wp2_with fail
     refine(HF.out _ ((Below.refl _ _).alloc (Nat.le_refl _) _) cc).mono ?_;rintro e w1 ⟨rfl,hw⟩;obtain rfl:=hw.symm;go_wp2_with fail
     go_roundw
     case rel=>exact⟨i+1,acc,by omega,by omega,by go_num,zA (HO.out.alloc _),zA (HB.out.alloc zG8 _),HE3⟩
     case measure=>simp[intOf];omega
   ·have HE3:Hid (uO ((fs ls).drop (i+1)) acc=zI (fs ls)):=by have:=HE2.out;rw[if_neg (fun h=>k1 h.1)]at this;exact this
    have b1:(kd==3)=false:=by simpa using k1
    clear HE2 k1;go_wp2_with fail
    go_roundw
    case rel=>exact⟨i+1,acc,by omega,by omega,by go_num,zA (HO.out.alloc _),zA (HB.out.alloc zG8 _),HE3⟩
    case measure=>simp[intOf];omega
  ·have HE3:Hid (acc=zI (fs ls)):=by have:=HE.out;rw[List.drop_eq_nil_of_le (by simp;omega)]at this;exact this
   clear HE;go_wp2_with fail
   go_ret
   exact⟨_,rfl,by rw[<-HE3.out,<-HB0.out];exact HO.out,by rw[<-HE3.out];omega,by rw[<-HB0.out];exact HB.out⟩
theorem Jz(w:World)(a:Option Addr)(c:Nat)(ls:List LX)(h:pB w a ls) :
 Calls Tryz.prog 171 #[.slice a ls.length c] w fun e w'=>∃v,e=.returned v/\w'.ownsRow w.heap.size 9 1 v (xA (fs ls)).length (pY (xA (fs ls)))/\(xA (fs ls)).length<=ls.length/\Below w.heap.size w w':=by
 obtain⟨i0,hi0,hz0,hz1,hz2⟩:=info_parts Ze;have HL:=zA h;have zGG:=h.few;obtain⟨B,hB⟩:∃B,B=w.heap.size:=⟨_,rfl⟩;have HB0:=zA hB;clear h hB
 go_enter Tryz.func171,Tryz.ntmps171
 go_wp2_with fail
 go_loopw [3,9] (fun ov iv wr=>∃(i:Nat) (acc:List Bs),i<=ls.length/\acc.length<=i/\iv=.int .i64 i/\Hid (wr.ownsRow B 9 1 ov acc.length (pY acc))/\Hid (Below B w wr)/\Hid (kZ ((fs ls).drop i) acc=xA (fs ls))) (fun _ iv _=>ls.length-(intOf iv).toNat)
 case atStart=>exact⟨0,[],Nat.zero_le _,Nat.le_refl _,rfl,zA ⟨rfl,.inr ⟨w.heap.size,0,#[],rfl,by rw[HB0.out];exact Nat.le_refl _,zS _ _,Nat.le_refl _,Nat.zero_le _,rfl,rfl⟩⟩,zA ((Below.refl _ _).alloc (by rw[HB0.out];exact Nat.le_refl _) _),zA rfl⟩
 case round =>
  obtain⟨i,acc,hi,hacc,rfl,HO,HB,HE⟩:=hrel;by_cases zFY:i<ls.length
  ·obtain⟨gl,sa,sn,sc,na,nn,nc,rfl,hgl,⟨c0,c1,c2,c3,c4,c5,c6,c7,c8,c9,c10⟩,_,_⟩:=(HL.out.below HB.out (by rw[HB0.out];exact Nat.le_refl _)).line zFY
   have hE:=HE.out;rw[B5 _ i _ (by simpa using zFY),tZ]at hE;have HE2:=zA hE;have zG8:B<=wr.heap.size:=by have:=HB.out.size;have h2:=HB0.out;omega
   clear HE hE;generalize (mW ls i).1=x at *;obtain⟨kd,n1,lo,hi',cc,S,N,ro,te,de,lw⟩:=x;simp only at c0 c1 c2 c3 c4 c5 c6 c7 c8 c9 c10;by_cases k1:kd=3
   ·have b1:(kd==3)=true:=by simpa using k1
    have HE3:Hid (kZ ((fs ls).drop (i+1)) (acc++[n1])=xA (fs ls)):=by have:=HE2.out;rw[if_pos k1]at this;exact this
    clear HE2 k1
    go_wp2_with (at_builtin;refine wpList_append_own _ rfl _ _ 37 rfl B 9 i0 _ 1 16 Tryz.underlying37 hi0 hz0 hz1 hz2 rfl (by decide) _ _ _ rfl ((HO.out.alloc _).alloc _) ⟨wr.heap.size+1,0,none⟩ 1 1 [.string ⟨n1.toArray⟩] rfl rfl ?c1 ?c2 ?c3 ?c4 ?c5 ?_)
    case c1=>exact World.news_of_block (heap_alloc2_new wr _ _)
    case c2=>intro u hu;simp at hu;subst hu;rfl
    case c3=>unfold maxLen;omega
    case c4=>omega
    case c5=>simp;omega
    intro v' w2 zG1 zFZ _;have HB2:Hid (Below B w w2):=((HB.out.alloc zG8 _).alloc (Nat.le_trans zG8 (Nat.le_of_lt (zD _ _))) _).grown zFZ (by simp;omega) (zZ HO.out);have HO2:Hid (w2.ownsRow B 9 1 v' (acc++[n1]).length (pY (acc++[n1]))):=by unfold Hid;rw[dO];simpa using zG1
    clear zFZ zG1;go_wp2_with fail
    go_roundw
    case rel=>exact⟨i+1,acc++[n1],by omega,by simp;omega,by go_num,HO2,HB2,HE3⟩
    case measure=>simp[intOf];omega
   ·have HE3:Hid (kZ ((fs ls).drop (i+1)) acc=xA (fs ls)):=by have:=HE2.out;rw[if_neg k1]at this;exact this
    have b1:(kd==3)=false:=by simpa using k1
    clear HE2 k1;go_wp2_with fail
    go_roundw
    case rel=>exact⟨i+1,acc,by omega,by omega,by go_num,zA (HO.out.alloc _),zA (HB.out.alloc zG8 _),HE3⟩
    case measure=>simp[intOf];omega
  ·have HE3:Hid (acc=xA (fs ls)):=by have:=HE.out;rw[List.drop_eq_nil_of_le (by simp;omega)]at this;exact this
   clear HE;go_wp2_with fail
   go_ret
   exact⟨_,rfl,by rw[<-HE3.out,<-HB0.out];exact HO.out,by rw[<-HE3.out];omega,by rw[<-HB0.out];exact HB.out⟩
end Go.Proofs.YtnbpdffdnphbeaaGreatDoor
