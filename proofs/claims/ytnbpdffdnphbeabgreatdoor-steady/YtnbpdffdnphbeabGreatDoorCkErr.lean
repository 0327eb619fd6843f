import Derived.Test.YtnbpdffdnphbeabGreatDoorCkLines
open Go.Proofs.Tryz
set_option maxHeartbeats 2000000
namespace Go.Proofs.YtnbpdffdnphbeabGreatDoor
open Go.RowKit
variable{ls:List LX}{a:Option Addr}{w:World}(nm:Bs)(l:List Bs)
def nt(f:FuncId)(args:Array Value)(w:World)(v:Value):Prop:=∀w',Below w.heap.size w w'->Calls prog f args w' λe w''=>e=.returned v/\Below w'.heap.size w' w''
theorem nt.at{f:FuncId}{args:Array Value}{v:Value}(h:nt f args w v){w':World}(hb:Below w.heap.size w w'):nt f args w' v:=λw'' h2=>h w'' (hb.trans (h2.mono hb.size))
theorem nT(h:tT w a ls)(c:Nat)(k:Int)(nm:Bs):nt 153 #[.slice a ls.length c,.int .i64 k,.string ⟨nm.toArray⟩] w (.bool (kX (fs ls) k nm)) :=
 λw' hb=>um w' a c ls k nm (h.below hb (tg _))
theorem Yl(h:tT w a ls)(c:Nat)(k:Int)(nm:Bs)(i:Nat)(hi:i<ls.length):nt 153 #[.slice a i c,.int .i64 k,.string ⟨nm.toArray⟩] w (.bool (kX ((fs ls).take i) k nm)):=by
 have:=nT (h.take i) c k nm;rw[cq,Nat.min_eq_left (by omega),show fs (ls.take i)=(fs ls).take i from List.map_take ..]at this;exact this
theorem Vq(h:tT w a ls)(c:Nat)(nm:Bs):nt 154 #[.slice a ls.length c,.string ⟨nm.toArray⟩] w (.bool (mQ (fs ls) nm)) :=
 λw' hb=>Qr w' a c ls nm (h.below hb (tg _))
theorem QD(h:tT w a ls)(c:Nat)(nm:Bs):nt 157 #[.slice a ls.length c,.string ⟨nm.toArray⟩] w (.int .i64 (uU (fs ls) nm)) :=
 λw' hb=>DS w' a c ls nm (h.below hb (tg _))
theorem UN(w:World)(a:Option Addr)(n c:Nat)(nm:Bs)(p q:Bool)(h1:nt 153 #[.slice a n c,.int .i64 1,.string ⟨nm.toArray⟩] w (.bool p))(h2:nt 154 #[.slice a n c,.string ⟨nm.toArray⟩] w (.bool q)) :
 Calls prog 155 #[.slice a n c,.string ⟨nm.toArray⟩] w λe w'=>e=.returned (.bool (p || q))/\Below w.heap.size w w':=by
 have H1:=zA h1;have H2:=zA h2;clear h1 h2;cases p
 ·go_enter func155,ntmps155
  go_wp2_with fail
  refine(H1.out _ (tl _ _)).mono ?_;rintro e w1 ⟨rfl,hb1⟩;have aB:=zA hb1;clear hb1;go_wp2_with fail
  refine(H2.out _ aB.out).mono ?_;rintro e w2 ⟨rfl,aH⟩;have aF:Hid (Below w.heap.size w w2):=aB.out.trans (aH.mono aB.out.size);clear aH;go_wp2_with fail
  go_ret
  exact⟨rfl,aF.out⟩
 ·go_enter func155,ntmps155
  go_wp2_with fail
  refine(H1.out _ (tl _ _)).mono ?_;rintro e w1 ⟨rfl,hb1⟩;have aB:=zA hb1;clear hb1;go_wp2_with fail
  go_ret
  exact⟨rfl,aB.out⟩
theorem UO(h:tT w a ls)(c:Nat)(nm:Bs):nt 155 #[.slice a ls.length c,.string ⟨nm.toArray⟩] w (.bool (VZ (fs ls) nm)) :=
 λw' hb=>UN w' a ls.length c nm _ _ ((nT h c 1 nm).at hb) ((Vq h c nm).at hb)
theorem uI{w1:World}{o:Obj}(h:Below (w.alloc o).heap.size (w.alloc o) w1):Below w.heap.size w w1:=(fk (tg _) o).trans (h.mono (p7 (zY _ _)))
theorem cU{w1:World}{cs:Array Value}{T:TypeId}{fz:Nat × Nat}(h:Below (w.alloc (.cells cs T fz)).heap.size (w.alloc (.cells cs T fz)) w1)(j:Nat):w1.cell? ⟨w.heap.size,j,none⟩=cs[j]? := by
 have h1:w1.heap[w.heap.size]? = some (.cells cs T fz):=by rw[h.block _ (zY _ _)];exact zF _ _
 simp only[World.cell?,h1];rfl
theorem Jy(w:World)(a:Option Addr)(c:Nat)(ls:List LX)(x:zJ)(h:tT w a ls) :
 Calls prog 156 #[.slice a ls.length c,kI x] w λe w'=>e=.returned (.bool (uD (fs ls) x))/\Below w.heap.size w w':=by
 obtain⟨kd,le,ri,nm,mk,ot,nu⟩:=x;have HC:=zA (Vq h c nm);have HF:=zA (nT h c 2 nm);have HN:=zA (nT h c 1 nm);have HO:=zA (nT h c 1 ot);have aN:=h.aj;clear h;unfold kI;by_cases k5:kd=5
 ·have HR:Hid (uD (fs ls) ⟨kd,le,ri,nm,mk,ot,nu⟩=mQ (fs ls) nm):=by unfold Hid uD;rw[tr k5]
  have b5:(kd==5)=true:=by simpa using k5
  clear k5 HF HN HO
  go_enter func156,ntmps156
  go_wp2_with fail
  refine(HC.out _ (fk (tg _) _)).mono ?_;rintro e w1 ⟨rfl,hb1⟩;have aB:Hid (Below w.heap.size w w1):=uI hb1;clear hb1;go_wp2_with fail
  go_ret
  exact⟨zG HR.out.symm,aB.out⟩
 have b5:(kd==5)=false:=by simpa using k5
 by_cases k6:kd=6
 ·have HR:Hid (uD (fs ls) ⟨kd,le,ri,nm,mk,ot,nu⟩=kX (fs ls) 2 nm):=by unfold Hid uD;rw[tj k5,tr k6]
  have b6:(kd==6)=true:=by simpa using k6
  clear k5 k6 HC HN HO
  go_enter func156,ntmps156
  go_wp2_with fail
  refine(HF.out _ (fk (tg _) _)).mono ?_;rintro e w1 ⟨rfl,hb1⟩;have aB:Hid (Below w.heap.size w w1):=uI hb1;clear hb1;go_wp2_with fail
  go_ret
  exact⟨zG HR.out.symm,aB.out⟩
 have b6:(kd==6)=false:=by simpa using k6
 by_cases k7:kd=7
 ·have HR:Hid (uD (fs ls) ⟨kd,le,ri,nm,mk,ot,nu⟩=((decide (ot=[]) || kX (fs ls) 1 ot)&&kX (fs ls) 1 nm)):=by unfold Hid uD;rw[tj k5,tj k6,tr k7]
  have b7:(kd==7)=true:=by simpa using k7
  clear k5 k6 HC HF;generalize kX (fs ls) 1 ot=p at *;generalize kX (fs ls) 1 nm=q at *;by_cases ko:ot=[]
  ·have aO:Hid (uD (fs ls) ⟨kd,le,ri,nm,mk,ot,nu⟩=q):=by unfold Hid;rw[HR.out,tz ko];rfl
   have bo:(ot==[])=true:=(by simpa using ko);clear HR ko k7
   go_enter func156,ntmps156
   go_wp2_with fail
   refine(HN.out _ (fk (tg _) _)).mono ?_;rintro e w1 ⟨rfl,hb1⟩;have aB:Hid (Below w.heap.size w w1):=uI hb1;clear hb1;go_wp2_with fail
   go_ret
   exact⟨zG aO.out.symm,aB.out⟩
  ·have aO:Hid (uD (fs ls) ⟨kd,le,ri,nm,mk,ot,nu⟩=(p&&q)):=by unfold Hid;rw[HR.out,ty ko];rfl
   have bo:(ot==[])=false:=(by simpa using ko);clear HR ko k7;cases p
   ·go_enter func156,ntmps156
    go_wp2_with fail
    refine(HO.out _ (fk (tg _) _)).mono ?_;rintro e w1 ⟨rfl,hb1⟩;have aB:Hid (Below w.heap.size w w1):=uI hb1;clear hb1;go_wp2_with fail
    go_ret
    exact⟨zG aO.out.symm,aB.out⟩
   ·go_enter func156,ntmps156
    go_wp2_with fail
    refine(HO.out _ (fk (tg _) _)).mono ?_;rintro e w1 ⟨rfl,hb1⟩;have aB:Hid (Below w.heap.size w w1):=uI hb1;have q1:=cU hb1;clear hb1;go_wp2_with fail
    refine(HN.out _ aB.out).mono ?_;rintro e w2 ⟨rfl,aH⟩;have aF:Hid (Below w.heap.size w w2):=aB.out.trans (aH.mono aB.out.size);clear aH;go_wp2_with fail
    go_ret
    exact⟨zG aO.out.symm,aF.out⟩
 ·have HR:Hid (uD (fs ls) ⟨kd,le,ri,nm,mk,ot,nu⟩=true):=by unfold Hid uD;rw[tj k5,tj k6,tj k7]
  have b7:(kd==7)=false:=by simpa using k7
  clear k5 k6 k7 HC HF HN HO
  go_enter func156,ntmps156
  go_wp2_with fail
  go_ret
  exact⟨zG HR.out.symm,fk (tg _) _⟩
theorem Jz(h:tT w a ls)(c:Nat)(x:zJ):nt 156 #[.slice a ls.length c,kI x] w (.bool (uD (fs ls) x)) :=
 λw' hb=>Jy w' a c ls x (h.below hb (tg _))
theorem ZD(w:World)(a:Option Addr)(c:Nat)(ls:List LX)(i:Nat)(hi:i<ls.length)(hc:ls.length<=c)(h:tT w a ls) :
 Calls prog 113 #[.slice a ls.length c,.int .i64 i] w λe w'=>e=.returned (.int .i64 (nO (fs ls) i))/\Below w.heap.size w w':=by
 have aN:=h.aj;have HR:Hid (nO (fs ls) i=if kX ((fs ls).take i) 1 (pP ls i).1.name || (kX ((fs ls).take i) 2 (pP ls i).1.name || mQ (fs ls) (pP ls i).1.name) then 4 else 0):=by unfold Hid nO;rw[tZ]
 have H1:=zA (Yl h c 1 (pP ls i).1.name i hi);have H2:=zA (Yl h c 2 (pP ls i).1.name i hi);have H3:=zA (Vq h c (pP ls i).1.name);obtain⟨gl,sa,sn,sc,na,nn,nc,rfl,aT,⟨c0,c1,c2,c3,c4,c5,c6,c7,c8,c9,ax⟩,_,_⟩:=h.line hi;clear h c0 c2 c3 c4 c5 c6 c7 c8 c9 ax;generalize (pP ls i).1.name=nm at *;generalize kX ((fs ls).take i) 1 nm=p at *;generalize kX ((fs ls).take i) 2 nm=q at *;generalize mQ (fs ls) nm=r at *;cases p
 ·cases q
  ·go_enter func113,ntmps113
   go_wp2_with fail
   refine(H1.out _ (tl _ _)).mono ?_;rintro e w1 ⟨rfl,hb1⟩;have aB:=zA hb1;clear hb1;go_wp2_with fail
   refine(H2.out _ aB.out).mono ?_;rintro e w2 ⟨rfl,aH⟩;have aF:Hid (Below w.heap.size w w2):=aB.out.trans (aH.mono aB.out.size);clear aH;go_wp2_with fail
   refine(H3.out _ aF.out).mono ?_;rintro e w3 ⟨rfl,aU⟩;have aV:Hid (Below w.heap.size w w3):=aF.out.trans (aU.mono aF.out.size);clear aU;cases r
   ·go_wp2_with fail
    go_ret
    exact⟨yY HR.out.symm,aV.out⟩
   ·go_wp2_with fail
    go_ret
    exact⟨yY HR.out.symm,aV.out⟩
  ·go_enter func113,ntmps113
   go_wp2_with fail
   refine(H1.out _ (tl _ _)).mono ?_;rintro e w1 ⟨rfl,hb1⟩;have aB:=zA hb1;clear hb1;go_wp2_with fail
   refine(H2.out _ aB.out).mono ?_;rintro e w2 ⟨rfl,aH⟩;have aF:Hid (Below w.heap.size w w2):=aB.out.trans (aH.mono aB.out.size);clear aH;go_wp2_with fail
   go_ret
   exact⟨yY HR.out.symm,aF.out⟩
 ·go_enter func113,ntmps113
  go_wp2_with fail
  refine(H1.out _ (tl _ _)).mono ?_;rintro e w1 ⟨rfl,hb1⟩;have aB:=zA hb1;clear hb1;go_wp2_with fail
  go_ret
  exact⟨yY HR.out.symm,aB.out⟩
def kJ(nm:Bs):List Bs->Nat->Int
 | [],_ => -1
 | x::r,i=>if x=nm then (i:Int) else kJ nm r (i+1)
def zQ(aA:List Bs)(nm:Bs):Int:=kJ nm aA 0
def uY:List zE->List Bs->List Bs
 | [],acc=>acc
 | x::r,acc=>uY r (if x.kind=3/\zQ acc x.ae<0 then acc++[x.ae] else acc)
def zX(ls:List zE):List Bs:=uY ls []
def sL:List zE->List Bs->List Bs
 | [],acc=>acc
 | x::r,acc=>sL r (if x.kind=3 then acc++[x.name] else acc)
def vQ(ls:List zE):List Bs:=sL ls []
theorem YQ:∀i:Nat,-1<=kJ nm l i/\kJ nm l i<(i:Int)+l.length:=by
 induction l with
 | nil=>intro i;simp[kJ];omega
 | cons x r ih=>intro i;rw[kJ];split
                ·simp;omega
                ·have:=ih (i+1);simp only[pb];omega
theorem wC(i:Nat)(h:i<l.length):kJ nm (l.drop i) i=if l.getD i []=nm then (i:Int) else kJ nm (l.drop (i+1)) (i+1):=by
 rw[ph h,kJ];simp[List.getD,h]
theorem UV(ls:List zE)(i:Nat)(acc:List Bs)(h:i<ls.length):uY (ls.drop i) acc=uY (ls.drop (i+1)) (if (lA ls i).kind=3/\zQ acc (lA ls i).ae<0 then acc++[(lA ls i).ae] else acc):=by
 rw[ph h,uY];simp[lA,List.getD,h]
theorem D1(ls:List zE)(i:Nat)(acc:List Bs)(h:i<ls.length):sL (ls.drop i) acc=sL (ls.drop (i+1)) (if (lA ls i).kind=3 then acc++[(lA ls i).name] else acc):=by
 rw[ph h,sL];simp[lA,List.getD,h]
def xG(l:List Bs):List Value:=l.map λs=>Value.string ⟨s.toArray⟩
structure Fi(w:World)(a:Option Addr)(aA:List Bs):Prop where
 blk:0<aA.length->∃g,a=some ⟨g,0,none⟩/\∀i,i<aA.length->w.cell? ⟨g,i,none⟩=some (.string ⟨(aA.getD i []).toArray⟩)
 aj:aA.length<=10000
theorem XH(aA:List Bs)(i:Nat)(h:i<aA.length):(xG aA)[i]? = some (.string ⟨(aA.getD i []).toArray⟩):=by
 simp[xG,List.getD,h]
theorem Zn{B:Nat}{v:Value}{aA:List Bs}(h:w.ownsRow B 9 1 v aA.length (xG aA))(hf:aA.length<=10000:=by omega):∃a c,v=.slice a aA.length c/\Fi w a aA:=by
 rcases h.2 with ⟨h1,h2⟩|⟨g,cap,yB,h1,_,h3,_,_,_,h7⟩
 ·exact⟨none,0,by rw[h1,h2],⟨λh0=>by omega,hf⟩⟩
 ·refine⟨some ⟨g,0,none⟩,cap,h1,⟨λ_=>⟨g,rfl,λi hi=>xL h3 (n:=aA.length*1) h7 (XH aA i hi)⟩,hf⟩⟩
theorem QB(w:World)(a:Option Addr)(c:Nat)(aA:List Bs)(nm:Bs)(h:Fi w a aA) :
 Calls prog 116 #[.slice a aA.length c,.string ⟨nm.toArray⟩] w λe w'=>e=.returned (.int .i64 (zQ aA nm))/\w'=w:=by
 have HS:=zA h;have aN:=h.aj;clear h
 go_enter func116,ntmps116
 go_wp2_with fail
 go_loop [9] (λiv=>∃(i:Nat),i<=aA.length/\iv=.int .i64 i/\Hid (kJ nm (aA.drop i) i=zQ aA nm)) (λiv=>aA.length-(intOf iv).toNat)
 case atStart=>exact⟨0,p8,rfl,zA rfl⟩
 case round =>
  obtain⟨i,hi,rfl,HE⟩:=hrel;by_cases aJ:i<aA.length
  ·obtain⟨g,rfl,aS⟩:=HS.out.blk (by omega)
   have hc:=aS i aJ;have hE:=HE.out;rw[wC nm aA i aJ]at hE;have aD:=zA hE;clear HE hE aS;generalize aA.getD i []=s at *;by_cases k1:s=nm
   ·have aC:Hid (zQ aA nm=i):=by have:=aD.out;rw[tr k1]at this;exact this.symm
    have b1:(s==nm)=true:=(by simpa using k1);clear aD k1;go_wp2_with fail
    go_ret
    exact⟨yY aC.out.symm,rfl⟩
   ·have aC:Hid (kJ nm (aA.drop (i+1)) (i+1)=zQ aA nm):=by have:=aD.out;rw[tj k1]at this;exact this
    have b1:(s==nm)=false:=(by simpa using k1);clear aD k1;go_wp2_with fail
    go_round
    case rel=>exact⟨i+1,by omega,by go_num,aC⟩
    case measure=>simp[intOf];omega
  ·have aC:Hid (zQ aA nm = -1):=by have:=HE.out;rw[pf (by omega)]at this;exact this.symm
   clear HE;go_wp2_with fail
   go_ret
   exact⟨yY aC.out.symm,rfl⟩
theorem oP:(prog.info? 9).map (λi=>(i.zero,i.size,i.bytes))=some (some (.string ⟨#[]⟩),1,16):=by kernel_rfl
theorem Ye(s:Bs):xG (l++[s])=xG l++[.string ⟨s.toArray⟩]:=by simp[xG]
theorem nA(w:World)(a:Option Addr)(c:Nat)(ls:List LX)(h:tT w a ls) :
 Calls prog 80 #[.slice a ls.length c] w λe w'=>∃v,e=.returned v/\w'.ownsRow w.heap.size 9 1 v (zX (fs ls)).length (xG (zX (fs ls)))/\(zX (fs ls)).length<=ls.length/\Below w.heap.size w w':=by
 obtain⟨i0,ai,hz0,hz1,aP⟩:=du oP;have HL:=zA h;have aN:=h.aj;obtain⟨B,hB⟩:∃B,B=w.heap.size:=⟨_,rfl⟩;have aG:=zA hB;clear h hB
 go_enter func80,ntmps80
 go_wp2_with fail
 go_loopw [3,9] (λov iv wr=>∃(i:Nat) (acc:List Bs),i<=ls.length/\acc.length<=i/\iv=.int .i64 i/\Hid (wr.ownsRow B 9 1 ov acc.length (xG acc))/\Hid (Below B w wr)/\Hid (uY ((fs ls).drop i) acc=zX (fs ls))) (λ_ iv _=>ls.length-(intOf iv).toNat)
 case atStart=>exact⟨0,[],p8,tg _,rfl,zA ⟨rfl,.inr ⟨w.heap.size,0,#[],rfl,by rw[aG.out];exact tg _,zF _ _,tg _,p8,rfl,rfl⟩⟩,zA (fk (by rw[aG.out];exact tg _) _),zA rfl⟩
 case round =>
  obtain⟨i,acc,hi,aQ,rfl,HO,HB,HE⟩:=hrel;by_cases aJ:i<ls.length
  ·obtain⟨gl,sa,sn,sc,na,nn,nc,rfl,aT,⟨c0,c1,c2,c3,c4,c5,c6,c7,c8,c9,ax⟩,_,_⟩:=(HL.out.below HB.out (by rw[aG.out];exact tg _)).line aJ
   have hE:=HE.out;rw[UV _ i _ (by simpa using aJ),tZ]at hE;have aD:=zA hE;have aI:B<=wr.heap.size:=(by have:=HB.out.size;have h2:=aG.out;omega);obtain⟨oa,oc,rfl,aK⟩:=Zn HO.out;have HF:=zA (λw' (hb:Below wr.heap.size wr w') nm=>QB w' oa oc acc nm ⟨λh0=>let ⟨g,e,p⟩:=aK.blk h0;⟨g,e,λj hj=>by rw[hb.cell (p:=⟨g,j,none⟩) (by rcases mc g wr.heap.size with h1|h1;exact h1;have:=p j hj;rw[World.cell?,pw (by simpa using h1)]at this;cases this)];exact p j hj⟩,aK.aj⟩);clear HE hE aK;generalize (pP ls i).1=x at *;obtain⟨kd,n1,lo,hi',cc,S,N,ro,te,de,lw⟩:=x;simp only at c0 c1 c2 c3 c4 c5 c6 c7 c8 c9 ax;by_cases k1:kd=3
   ·have b1:(kd==3)=true:=by simpa using k1
    by_cases k2:zQ acc cc<0
    ·have aC:Hid (uY ((fs ls).drop (i+1)) (acc++[cc])=zX (fs ls)):=by have:=aD.out;rw[tr ⟨k1,k2⟩]at this;exact this
     clear aD k1;go_wp2_with fail
     refine(HF.out _ (fk (tg _) _) cc).mono ?_;rintro e w1 ⟨rfl,hw⟩;obtain rfl:=hw.symm
     go_wp2_with (at_builtin;refine wpList_append_own _ rfl _ _ 70 rfl B 9 i0 _ 1 16 underlying70 ai hz0 hz1 aP rfl (by decide) _ _ _ rfl ((HO.out.alloc _).alloc _) ⟨wr.heap.size+1,0,none⟩ 1 1 [.string ⟨cc.toArray⟩] rfl rfl ?c1 ?c2 ?c3 ?c4 ?c5 ?_)
     case c1=>exact World.news_of_block (heap_alloc2_new wr _ _)
     case c2=>intro u hu;simp at hu;subst hu;rfl
     case c3=>unfold maxLen;omega
     case c4=>omega
     case c5=>simp;omega
     intro v' w2 aL aM _;have aF:Hid (Below B w w2):=((HB.out.alloc aI _).alloc (tu aI (p7 (zY _ _))) _).grown aM (by simp;omega) (zS HO.out);have aR:Hid (w2.ownsRow B 9 1 v' (acc++[cc]).length (xG (acc++[cc]))):=by unfold Hid;rw[Ye];simpa using aL
     clear aM aL;go_wp2_with fail
     go_roundw
     case rel=>exact⟨i+1,acc++[cc],by omega,by simp;omega,by go_num,aR,aF,aC⟩
     case measure=>simp[intOf];omega
    ·have aC:Hid (uY ((fs ls).drop (i+1)) acc=zX (fs ls)):=by have:=aD.out;rw[tj (λh=>k2 h.2)]at this;exact this
     have k3:decide (zQ acc cc<0)=false:=ty k2;clear aD k1;go_wp2_with fail
     refine(HF.out _ (fk (tg _) _) cc).mono ?_;rintro e w1 ⟨rfl,hw⟩;obtain rfl:=hw.symm;go_wp2_with fail
     go_roundw
     case rel=>exact⟨i+1,acc,by omega,by omega,by go_num,zA (HO.out.alloc _),zA (HB.out.alloc aI _),aC⟩
     case measure=>simp[intOf];omega
   ·have aC:Hid (uY ((fs ls).drop (i+1)) acc=zX (fs ls)):=by have:=aD.out;rw[tj (λh=>k1 h.1)]at this;exact this
    have b1:(kd==3)=false:=(by simpa using k1);clear aD k1;go_wp2_with fail
    go_roundw
    case rel=>exact⟨i+1,acc,by omega,by omega,by go_num,zA (HO.out.alloc _),zA (HB.out.alloc aI _),aC⟩
    case measure=>simp[intOf];omega
  ·have aC:Hid (acc=zX (fs ls)):=by have:=HE.out;rw[pf (by simp;omega)]at this;exact this
   clear HE;go_wp2_with fail
   go_ret
   exact⟨_,rfl,by rw[<-aC.out,<-aG.out];exact HO.out,by rw[<-aC.out];omega,by rw[<-aG.out];exact HB.out⟩
theorem Zf(w:World)(a:Option Addr)(c:Nat)(ls:List LX)(h:tT w a ls) :
 Calls prog 81 #[.slice a ls.length c] w λe w'=>∃v,e=.returned v/\w'.ownsRow w.heap.size 9 1 v (vQ (fs ls)).length (xG (vQ (fs ls)))/\(vQ (fs ls)).length<=ls.length/\Below w.heap.size w w':=by
 obtain⟨i0,ai,hz0,hz1,aP⟩:=du oP;have HL:=zA h;have aN:=h.aj;obtain⟨B,hB⟩:∃B,B=w.heap.size:=⟨_,rfl⟩;have aG:=zA hB;clear h hB
 go_enter func81,ntmps81
 go_wp2_with fail
 go_loopw [3,9] (λov iv wr=>∃(i:Nat) (acc:List Bs),i<=ls.length/\acc.length<=i/\iv=.int .i64 i/\Hid (wr.ownsRow B 9 1 ov acc.length (xG acc))/\Hid (Below B w wr)/\Hid (sL ((fs ls).drop i) acc=vQ (fs ls))) (λ_ iv _=>ls.length-(intOf iv).toNat)
 case atStart=>exact⟨0,[],p8,tg _,rfl,zA ⟨rfl,.inr ⟨w.heap.size,0,#[],rfl,by rw[aG.out];exact tg _,zF _ _,tg _,p8,rfl,rfl⟩⟩,zA (fk (by rw[aG.out];exact tg _) _),zA rfl⟩
 case round =>
  obtain⟨i,acc,hi,aQ,rfl,HO,HB,HE⟩:=hrel;by_cases aJ:i<ls.length
  ·obtain⟨gl,sa,sn,sc,na,nn,nc,rfl,aT,⟨c0,c1,c2,c3,c4,c5,c6,c7,c8,c9,ax⟩,_,_⟩:=(HL.out.below HB.out (by rw[aG.out];exact tg _)).line aJ
   have hE:=HE.out;rw[D1 _ i _ (by simpa using aJ),tZ]at hE;have aD:=zA hE;have aI:B<=wr.heap.size:=(by have:=HB.out.size;have h2:=aG.out;omega);clear HE hE;generalize (pP ls i).1=x at *;obtain⟨kd,n1,lo,hi',cc,S,N,ro,te,de,lw⟩:=x;simp only at c0 c1 c2 c3 c4 c5 c6 c7 c8 c9 ax;by_cases k1:kd=3
   ·have b1:(kd==3)=true:=by simpa using k1
    have aC:Hid (sL ((fs ls).drop (i+1)) (acc++[n1])=vQ (fs ls)):=(by have:=aD.out;rw[tr k1]at this;exact this);clear aD k1
    go_wp2_with (at_builtin;refine wpList_append_own _ rfl _ _ 70 rfl B 9 i0 _ 1 16 underlying70 ai hz0 hz1 aP rfl (by decide) _ _ _ rfl ((HO.out.alloc _).alloc _) ⟨wr.heap.size+1,0,none⟩ 1 1 [.string ⟨n1.toArray⟩] rfl rfl ?c1 ?c2 ?c3 ?c4 ?c5 ?_)
    case c1=>exact World.news_of_block (heap_alloc2_new wr _ _)
    case c2=>intro u hu;simp at hu;subst hu;rfl
    case c3=>unfold maxLen;omega
    case c4=>omega
    case c5=>simp;omega
    intro v' w2 aL aM _;have aF:Hid (Below B w w2):=((HB.out.alloc aI _).alloc (tu aI (p7 (zY _ _))) _).grown aM (by simp;omega) (zS HO.out);have aR:Hid (w2.ownsRow B 9 1 v' (acc++[n1]).length (xG (acc++[n1]))):=by unfold Hid;rw[Ye];simpa using aL
    clear aM aL;go_wp2_with fail
    go_roundw
    case rel=>exact⟨i+1,acc++[n1],by omega,by simp;omega,by go_num,aR,aF,aC⟩
    case measure=>simp[intOf];omega
   ·have aC:Hid (sL ((fs ls).drop (i+1)) acc=vQ (fs ls)):=by have:=aD.out;rw[tj k1]at this;exact this
    have b1:(kd==3)=false:=(by simpa using k1);clear aD k1;go_wp2_with fail
    go_roundw
    case rel=>exact⟨i+1,acc,by omega,by omega,by go_num,zA (HO.out.alloc _),zA (HB.out.alloc aI _),aC⟩
    case measure=>simp[intOf];omega
  ·have aC:Hid (acc=vQ (fs ls)):=by have:=HE.out;rw[pf (by simp;omega)]at this;exact this
   clear HE;go_wp2_with fail
   go_ret
   exact⟨_,rfl,by rw[<-aC.out,<-aG.out];exact HO.out,by rw[<-aC.out];omega,by rw[<-aG.out];exact HB.out⟩
end Go.Proofs.YtnbpdffdnphbeabGreatDoor
