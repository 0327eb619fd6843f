import Derived.Test.YtnbpdffdnphbeaaGreatDoorDCel
import Derived.Test.YtnbpdffdnphbeaaGreatDoorStCheck
import Derived.Laws.AppendOwnNone
set_option maxHeartbeats 4000000
set_option maxRecDepth 100000
namespace Go.Proofs.YtnbpdffdnphbeaaGreatDoor
open Go.RowKit
structure tD where
 kind:Int
 a:Int
 b:Int
 mark:Bs
 n:Int
def oX(s:tD):List Value:=[.int .i64 s.kind,.int .i64 s.a,.int .i64 s.b,.string ⟨s.mark.toArray⟩,.int .i64 s.n]
def kB(l:List tD):List Value:=l.flatMap oX
structure qE where
 a:Int
 n:Int
def fL(s:qE):List Value:=[.int .i64 s.a,.int .i64 s.n]
def jD(l:List qE):List Value:=l.flatMap fL
theorem XC:(Tryz.prog.info? 275).map (fun i=>(i.zero,i.size,i.bytes))=some (some (.agg #[.int .i64 0,.int .i64 0,.int .i64 0,.string ⟨#[]⟩,.int .i64 0]),5,48):=by kernel_rfl
theorem FB:(Tryz.prog.info? 202).map (fun i=>(i.zero,i.size,i.bytes))=some (some (.agg #[.int .i64 0,.int .i64 0]),2,16):=by kernel_rfl
def Ys:Bs:=[104,97,115]
def F0:Bs:=[97,108,119,97,121,115]
def bJ(names:List Bs)(ts:zI):tD :=
 if cA ts 0=F0 then ⟨0,0,0,[],0⟩
 else if cA ts 0=Ys then ⟨1,zM names (tA ts 1),0,[],0⟩
 else if ts.length=3 then (if cA ts 2=zV then ⟨2,zM names (tA ts 0),0,tA ts 1,xH 0 (tA ts 2)⟩ else ⟨3,zM names (tA ts 0),zM names (tA ts 2),tA ts 1,0⟩)
 else ⟨1,zM names (tA ts 0),0,[],0⟩
def uF(names:List Bs):Nat->zI->List tD
 | 0,_=>[]
 | n+1,ts =>
   if 0<=yM ts vK then uF names n (ts.take (yM ts vK).toNat)++uF names n (ts.drop ((yM ts vK).toNat+1))++[⟨6,0,0,[],0⟩]
   else if 0<=yM ts yL then uF names n (ts.take (yM ts yL).toNat)++uF names n (ts.drop ((yM ts yL).toNat+1))++[⟨5,0,0,[],0⟩]
   else if cA ts 0=xF then uF names n (ts.drop 1)++[⟨4,0,0,[],0⟩]
   else if cA ts 0=yU then uF names n ((ts.drop 1).take (ts.length-2))
   else [bJ names ts]
def uI:Nat->zI->Bool
 | 0,_=>false
 | n+1,ts =>
   if 0<=yM ts vK then uI n (ts.take (yM ts vK).toNat)&&uI n (ts.drop ((yM ts vK).toNat+1))
   else if 0<=yM ts yL then uI n (ts.take (yM ts yL).toNat)&&uI n (ts.drop ((yM ts yL).toNat+1))
   else if cA ts 0=xF then decide (0<ts.length)&&uI n (ts.drop 1)
   else if cA ts 0=yU then decide (2<ts.length)&&uI n ((ts.drop 1).take (ts.length-2))
   else decide (0<ts.length)&&decide (cA ts 0=Ys->1<ts.length)
theorem zBH{n:Nat}:∀ {ts:zI},uI n ts=true->qD n ts=true:=by
 induction n with
 | zero=>intro ts h;simp[uI]at h
 | succ n ih =>
   intro ts h;rw[uI]at h;rw[qD];split
   ·rename_i h1;rw[if_pos h1]at h;simp only[Bool.and_eq_true]at h ⊢;exact⟨ih h.1,ih h.2⟩
   ·rename_i h1;rw[if_neg h1]at h
    split
    ·rename_i h2;rw[if_pos h2]at h;simp only[Bool.and_eq_true]at h ⊢;exact⟨ih h.1,ih h.2⟩
    ·rename_i h2;rw[if_neg h2]at h
     split
     ·rename_i h3;rw[if_pos (show cA ts 0=xF from h3)]at h;simp only[Bool.and_eq_true]at h ⊢;exact⟨h.1,ih h.2⟩
     ·rename_i h3;rw[if_neg (show ¬cA ts 0=xF from h3)]at h
      split
      ·rename_i h4;rw[if_pos (show cA ts 0=yU from h4)]at h;simp only[Bool.and_eq_true]at h ⊢;exact⟨h.1,ih h.2⟩
      ·rename_i h4;rw[if_neg (show ¬cA ts 0=yU from h4)]at h;simp only[Bool.and_eq_true]at h;exact h.1
theorem bQ{n:Nat}{ts:zI}(h:uI n ts=true):0<ts.length:=nY (zBH h)
theorem nQ(names:List Bs)(n:Nat):∀ts,uI n ts=true->0<(uF names n ts).length/\(uF names n ts).length<=ts.length:=by
 induction n with
 | zero=>intro ts h;simp[uI]at h
 | succ n ih =>
   intro ts h;have hp:=bQ h;rw[uI]at h;rw[uF];split
   ·rename_i h1;rw[if_pos h1,Bool.and_eq_true]at h
    have hb:=vC ts vK;have a:=ih _ h.1;have b:=ih _ h.2;rw[List.length_take]at a;rw[List.length_drop]at b;simp only[List.length_append,List.length_singleton];omega
   ·rename_i h1;rw[if_neg h1]at h
    split
    ·rename_i h2;rw[if_pos h2,Bool.and_eq_true]at h
     have hb:=vC ts yL;have a:=ih _ h.1;have b:=ih _ h.2;rw[List.length_take]at a;rw[List.length_drop]at b;simp only[List.length_append,List.length_singleton];omega
    ·rename_i h2;rw[if_neg h2]at h
     split
     ·rename_i h3;rw[if_pos h3,Bool.and_eq_true]at h
      have a:=ih _ h.2;rw[List.length_drop]at a;simp only[List.length_append,List.length_singleton];omega
     ·rename_i h3;rw[if_neg h3]at h
      split
      ·rename_i h4;rw[if_pos h4,Bool.and_eq_true]at h
       have a:=ih _ h.2;rw[List.length_take,List.length_drop]at a;omega
      ·simp;omega
def aI(w:World)(b:Nat)(names:List Bs):Prop:=∃na nc,w.cell? ⟨b,1,none⟩=some (.slice na names.length nc)/\aG w na names
theorem aI.below{w w':World}{b:Nat}{names:List Bs}(h:aI w b names)(hb:Below w.heap.size w w'):aI w' b names:=by
 obtain⟨na,nc,h1,h2⟩:=h;exact⟨na,nc,by rw[hb.cell (p:=⟨b,1,none⟩) (xG h1)];exact h1,h2.keepB hb (Nat.le_refl _)⟩
theorem aI.lt{w:World}{b:Nat}{names:List Bs}(h:aI w b names):b<w.heap.size:=by
 obtain⟨na,nc,h1,h2⟩:=h;exact xG h1
theorem zC0(w:World)(b:Nat)(names:List Bs)(nm:Bs)(h:aI w b names) :
 Calls Tryz.prog 79 #[.pointer (some ⟨b,0,none⟩),.string ⟨nm.toArray⟩] w fun e w'=>e=.returned (.int .i64 (zM names nm))/\w'=w:=by
 obtain⟨na,nc,hn,hs⟩:=h;have HS:=zA hs;have zGH:=hs.few;clear hs
 go_enter Tryz.func79,Tryz.ntmps79
 go_wp2_with fail
 go_loop [5] (fun iv=>∃(i:Nat),i<=names.length/\iv=.int .i64 i/\Hid (vV nm (names.drop i) i=zM names nm)) (fun iv=>names.length-(intOf iv).toNat)
 case atStart=>exact⟨0,Nat.zero_le _,rfl,zA rfl⟩
 case round =>
  obtain⟨i,hi,rfl,HE⟩:=hrel;by_cases zFZ:i<names.length
  ·obtain⟨g,rfl,hcs⟩:=HS.out.blk (by omega)
   have hc:=hcs i zFZ;have hE:=HE.out;rw[oS nm names i zFZ]at hE;have HE2:=zA hE;clear HE hE hcs;generalize names.getD i []=s at *;by_cases k1:s=nm
   ·have HE3:Hid (zM names nm=i):=by have:=HE2.out;rw[if_pos k1]at this;exact this.symm
    have b1:(s==nm)=true:=by simpa using k1
    clear HE2 k1;go_wp2_with fail
    go_ret
    exact⟨yA HE3.out.symm,rfl⟩
   ·have HE3:Hid (vV nm (names.drop (i+1)) (i+1)=zM names nm):=by have:=HE2.out;rw[if_neg k1]at this;exact this
    have b1:(s==nm)=false:=by simpa using k1
    clear HE2 k1;go_wp2_with fail
    go_round
    case rel=>exact⟨i+1,by omega,by go_num,HE3⟩
    case measure=>simp[intOf];omega
  ·have HE3:Hid (zM names nm = -1):=by have:=HE.out;rw[List.drop_eq_nil_of_le (by omega)]at this;exact this.symm
   clear HE;go_wp2_with fail
   go_ret
   exact⟨yA HE3.out.symm,rfl⟩
def Zn(n:Nat):Prop:=∀(ts:zI) (g o cap:Nat) (w:World) (b:Nat) (names:List Bs),qT w g o ts->ts.length<=10000->ts.length<=cap->cap<=maxLen->uI n ts=true->aI w b names ->
    Calls Tryz.prog 81 #[.pointer (some ⟨b,0,none⟩),.slice (some ⟨g,o,none⟩) ts.length cap] w fun e w'=>∃v,e=.returned v/\w'.ownsRow w.heap.size 275 5 v (uF names n ts).length (kB (uF names n ts))/\Below w.heap.size w w'
theorem dY(a b:List tD):kB (a++b)=kB a++kB b:=by simp[kB]
theorem YQ(l:List tD):(kB l).length=l.length*5:=nZ oX 5 (fun _=>rfl) l
theorem YP(l:List tD):∀u∈kB l,u.oneCell'=true:=by
 intro u hu;obtain⟨s,_,h⟩:=List.mem_flatMap.1 hu;simp[oX]at h;rcases h with rfl|rfl|rfl|rfl|rfl <;> rfl
theorem aF(g j:Nat):(⟨g,0,none⟩:Addr).add j=⟨g,j,none⟩:=by simp[Addr.add];omega
theorem oK{w:World}{B k n:Nat}{t:TypeId}{v:Value}{xs:List Value}(h:w.ownsRow B t k v n xs)(hn:0<n):∃g c,v=.slice (some ⟨g,0,none⟩) n c/\∀j u,xs[j]? = some u->w.cell? ((⟨g,0,none⟩:Addr).add j)=some u:=by
 rcases h.2 with ⟨_,h2⟩|⟨g,cap,yP,h1,_,h3,_,_,_,h7⟩
 ·omega
 ·exact⟨g,cap,h1,fun j u hu=>by rw[aF];exact xQ h3 (n:=n*k) h7 hu⟩
theorem Xh(w:World)(B H:Nat)(hH:w.heap.size=H)(hB:B<=H)(s:tD):(w.alloc (.cells (oX s).toArray 275)).ownsRow B 275 5 (.slice (some ⟨H,0,none⟩) 1 1) 1 (kB [s]):=by
 subst hH;exact⟨rfl,.inr ⟨w.heap.size,1,_,rfl,hB,zS _ _,Nat.le_refl _,by unfold maxLen;omega,rfl,rfl⟩⟩
theorem CA(w:World)(B:Nat)(hB:B<=w.heap.size)(s:tD):(w.alloc (.cells (oX s).toArray 275)).ownsRow B 275 5 (.slice (some ⟨w.heap.size,0,none⟩) 1 1) 1 (kB [s]) :=
 ⟨rfl,.inr ⟨w.heap.size,1,_,rfl,hB,zS _ _,Nat.le_refl _,by unfold maxLen;omega,rfl,rfl⟩⟩
theorem zDP(n:Nat)(ih:Zn n)(ts:zI)(g o cap:Nat)(w:World)(b:Nat)(names:List Bs)(hs:qT w g o ts)(zG9:ts.length<=10000)(hc:ts.length<=cap)(hm:cap<=maxLen)(hg:uI (n+1) ts=true)(hN:aI w b names)(ho:0<=yM ts vK) :
 Calls Tryz.prog 81 #[.pointer (some ⟨b,0,none⟩),.slice (some ⟨g,o,none⟩) ts.length cap] w fun e w'=>∃v,e=.returned v/\w'.ownsRow w.heap.size 275 5 v (uF names (n+1) ts).length (kB (uF names (n+1) ts))/\Below w.heap.size w w':=by
 obtain⟨i0,hi0,hz0,hz1,hz2⟩:=info_parts XC;obtain⟨k,hk⟩:=Int.eq_ofNat_of_zero_le ho;have hb:=vC ts vK
 skip
 rw[uI,if_pos ho,hk,Int.toNat_natCast,Bool.and_eq_true]at hg;have hd:=bQ hg.2;rw[List.length_drop]at hd;have lA:=nQ names n _ hg.1;have lB:=nQ names n _ hg.2;have HA:=ih (ts.take k) g o cap w b names (hs.take k) (by rw[List.length_take];omega) (by rw[List.length_take];omega) hm hg.1 hN;have HB:=zA (fun w' (hb:Below w.heap.size w w')=>ih (ts.drop (k+1)) g (o+(k+1)*3) (cap-(k+1)) w' b names ((hs.drop (k+1)).below' hb) (by rw[List.length_drop];omega) (by rw[List.length_drop];omega) (by omega) hg.2 (hN.below hb))
 have HR:Hid (uF names (n+1) ts=uF names n (ts.take k)++uF names n (ts.drop (k+1))++[⟨6,0,0,[],0⟩]):=by
  unfold Hid;rw[uF,if_pos ho,hk,Int.toNat_natCast]
 rw[List.length_take,Nat.min_eq_left (by omega)]at HA lA;rw[List.length_drop]at HB lB;generalize uF names n (ts.take k)=a at *;generalize uF names n (ts.drop (k+1))=c at *;have HA':=sP HA;have HO:Hid (yM ts vK=k):=hk;have hk2:k+1<ts.length:=by omega
 have HS:Hid (qT w g o ts):=hs;clear HA hg hs hb hk ho ih hd hN;generalize uF names (n+1) ts=ans at *
 go_enter Tryz.func81,Tryz.ntmps81
 go_wp2_with fail
 refine(yS ts vK g o cap _ HS.out (by omega) hc).mono ?_;rintro e w' ⟨rfl,hw⟩;obtain rfl:=hw.symm;rw[HO.out];go_wp2_with fail
 refine HA'.out.mono ?_;rintro e w1 ⟨v1,rfl,zG2,hb1⟩;have HB1:=zA hb1;have HO1:=zA zG2;clear hb1 zG2;go_wp2_with fail
 refine(HB.out w1 HB1.out).mono ?_;rintro e w2 ⟨v2,rfl,zG3,hb2⟩;obtain⟨g2,c2,rfl,hsrc⟩:=oK zG3 lB.1;have HSrc:=zA hsrc;have HO2:=zA (uV HO1.out hb2);have HB2:Hid (Below w.heap.size w w2):=HB1.out.trans (hb2.mono HB1.out.size);have hs2:w.heap.size<=w2.heap.size:=HB2.out.size;clear hb2 zG3 hsrc HO1 HB1 HB HA'
 go_wp2_with (at_builtin;refine wpList_append_own _ rfl _ _ 113 rfl w.heap.size 275 i0 _ 5 48 Tryz.underlying113 hi0 hz0 hz1 hz2 rfl (by decide) _ _ _ rfl HO2.out ⟨g2,0,none⟩ c.length c2 (kB c) rfl (YQ c) ?c1 ?c2 ?c3 ?c4 ?c5 ?_)
 case c1=>exact HSrc.out
 case c2=>exact YP c
 case c3=>unfold maxLen;omega
 case c4=>omega
 case c5=>exact hs2
 intro v3 w3 zGA hgrow3 _;have HB3:Hid (Below w.heap.size w w3):=HB2.out.grown hgrow3 hs2 (zZ HO2.out);have HO3:=zA zGA;have hs3:w.heap.size<=w3.heap.size:=HB3.out.size;obtain⟨oa3,oc3,rfl⟩:=vN zGA;clear zGA hgrow3 HO2 HB2 HSrc
 go_wp2_with (at_builtin;refine wpList_append_own _ rfl _ _ 113 rfl w.heap.size 275 i0 _ 5 48 Tryz.underlying113 hi0 hz0 hz1 hz2 rfl (by decide) _ _ _ rfl (HO3.out.alloc _) ⟨w3.heap.size,0,none⟩ 1 1 (oX ⟨6,0,0,[],0⟩) rfl rfl ?c1 ?c2 ?c3 ?c4 ?c5 ?_)
 case c1=>exact xI _ _ _ _ rfl
 case c2=>intro u hu;simp[oX]at hu;rcases hu with rfl|rfl|rfl|rfl|rfl <;> rfl
 case c3=>unfold maxLen;omega
 case c4=>omega
 case c5=>simp;omega
 intro v4 w4 zGP hgrow4 _;have HB4:Hid (Below w.heap.size w w4):=(HB3.out.alloc hs3 _).grown hgrow4 (by simp;omega) (zZ HO3.out)
 have HO4:Hid (w4.ownsRow w.heap.size 275 5 v4 ans.length (kB ans)):=by
  unfold Hid;rw[HR.out,dY,dY,List.length_append,List.length_append,List.append_assoc];exact zGP
 clear zGP hgrow4 HO3 HB3;go_wp2_with fail
 go_ret
 exact⟨_,rfl,HO4.out,HB4.out⟩
theorem zAJ(n:Nat)(ih:Zn n)(ts:zI)(g o cap:Nat)(w:World)(b:Nat)(names:List Bs)(hs:qT w g o ts)(zG9:ts.length<=10000)(hc:ts.length<=cap)(hm:cap<=maxLen)(hg:uI (n+1) ts=true)(hN:aI w b names)(hor:¬ 0<=yM ts vK)(ho:0<=yM ts yL) :
 Calls Tryz.prog 81 #[.pointer (some ⟨b,0,none⟩),.slice (some ⟨g,o,none⟩) ts.length cap] w fun e w'=>∃v,e=.returned v/\w'.ownsRow w.heap.size 275 5 v (uF names (n+1) ts).length (kB (uF names (n+1) ts))/\Below w.heap.size w w':=by
 obtain⟨i0,hi0,hz0,hz1,hz2⟩:=info_parts XC;obtain⟨k,hk⟩:=Int.eq_ofNat_of_zero_le ho;have hb:=vC ts yL;have hbo:=vC ts vK;have HO1:Hid (yM ts vK = -1):=by unfold Hid;omega
 rw[uI,if_neg hor,if_pos ho,hk,Int.toNat_natCast,Bool.and_eq_true]at hg;have hd:=bQ hg.2;rw[List.length_drop]at hd;have lA:=nQ names n _ hg.1;have lB:=nQ names n _ hg.2;have HA:=ih (ts.take k) g o cap w b names (hs.take k) (by rw[List.length_take];omega) (by rw[List.length_take];omega) hm hg.1 hN;have HB:=zA (fun w' (hb:Below w.heap.size w w')=>ih (ts.drop (k+1)) g (o+(k+1)*3) (cap-(k+1)) w' b names ((hs.drop (k+1)).below' hb) (by rw[List.length_drop];omega) (by rw[List.length_drop];omega) (by omega) hg.2 (hN.below hb))
 have HR:Hid (uF names (n+1) ts=uF names n (ts.take k)++uF names n (ts.drop (k+1))++[⟨5,0,0,[],0⟩]):=by
  unfold Hid;rw[uF,if_neg hor,if_pos ho,hk,Int.toNat_natCast]
 rw[List.length_take,Nat.min_eq_left (by omega)]at HA lA;rw[List.length_drop]at HB lB;generalize uF names n (ts.take k)=a at *;generalize uF names n (ts.drop (k+1))=c at *;have HA':=sP HA;have HO:Hid (yM ts yL=k):=hk;have hk2:k+1<ts.length:=by omega
 have HS:Hid (qT w g o ts):=hs;clear HA hg hs hb hk ho ih hd hN hbo hor;generalize uF names (n+1) ts=ans at *
 go_enter Tryz.func81,Tryz.ntmps81
 go_wp2_with fail
 refine(yS ts vK g o cap _ HS.out (by omega) hc).mono ?_;rintro e w' ⟨rfl,hw⟩;obtain rfl:=hw.symm;rw[HO1.out];go_wp2_with fail
 refine(yS ts yL g o cap _ HS.out (by omega) hc).mono ?_;rintro e w' ⟨rfl,hw⟩;obtain rfl:=hw.symm;rw[HO.out];go_wp2_with fail
 refine HA'.out.mono ?_;rintro e w1 ⟨v1,rfl,zG2,hb1⟩;have HB1:=zA hb1;have HO1:=zA zG2;clear hb1 zG2;go_wp2_with fail
 refine(HB.out w1 HB1.out).mono ?_;rintro e w2 ⟨v2,rfl,zG3,hb2⟩;obtain⟨g2,c2,rfl,hsrc⟩:=oK zG3 lB.1;have HSrc:=zA hsrc;have HO2:=zA (uV HO1.out hb2);have HB2:Hid (Below w.heap.size w w2):=HB1.out.trans (hb2.mono HB1.out.size);have hs2:w.heap.size<=w2.heap.size:=HB2.out.size;clear hb2 zG3 hsrc HO1 HB1 HB HA'
 go_wp2_with (at_builtin;refine wpList_append_own _ rfl _ _ 113 rfl w.heap.size 275 i0 _ 5 48 Tryz.underlying113 hi0 hz0 hz1 hz2 rfl (by decide) _ _ _ rfl HO2.out ⟨g2,0,none⟩ c.length c2 (kB c) rfl (YQ c) ?c1 ?c2 ?c3 ?c4 ?c5 ?_)
 case c1=>exact HSrc.out
 case c2=>exact YP c
 case c3=>unfold maxLen;omega
 case c4=>omega
 case c5=>exact hs2
 intro v3 w3 zGA hgrow3 _;have HB3:Hid (Below w.heap.size w w3):=HB2.out.grown hgrow3 hs2 (zZ HO2.out);have HO3:=zA zGA;have hs3:w.heap.size<=w3.heap.size:=HB3.out.size;obtain⟨oa3,oc3,rfl⟩:=vN zGA;clear zGA hgrow3 HO2 HB2 HSrc
 go_wp2_with (at_builtin;refine wpList_append_own _ rfl _ _ 113 rfl w.heap.size 275 i0 _ 5 48 Tryz.underlying113 hi0 hz0 hz1 hz2 rfl (by decide) _ _ _ rfl (HO3.out.alloc _) ⟨w3.heap.size,0,none⟩ 1 1 (oX ⟨5,0,0,[],0⟩) rfl rfl ?c1 ?c2 ?c3 ?c4 ?c5 ?_)
 case c1=>exact xI _ _ _ _ rfl
 case c2=>intro u hu;simp[oX]at hu;rcases hu with rfl|rfl|rfl|rfl|rfl <;> rfl
 case c3=>unfold maxLen;omega
 case c4=>omega
 case c5=>simp;omega
 intro v4 w4 zGP hgrow4 _;have HB4:Hid (Below w.heap.size w w4):=(HB3.out.alloc hs3 _).grown hgrow4 (by simp;omega) (zZ HO3.out)
 have HO4:Hid (w4.ownsRow w.heap.size 275 5 v4 ans.length (kB ans)):=by
  unfold Hid;rw[HR.out,dY,dY,List.length_append,List.length_append,List.append_assoc];exact zGP
 clear zGP hgrow4 HO3 HB3;go_wp2_with fail
 go_ret
 exact⟨_,rfl,HO4.out,HB4.out⟩
theorem zAH(n:Nat)(ih:Zn n)(ts:zI)(g o cap:Nat)(w:World)(b:Nat)(names:List Bs)(hs:qT w g o ts)(zG9:ts.length<=10000)(hc:ts.length<=cap)(hm:cap<=maxLen)(hg:uI (n+1) ts=true)(hN:aI w b names)(hor:¬ 0<=yM ts vK)(zGW:¬ 0<=yM ts yL)(hno:cA ts 0=xF) :
 Calls Tryz.prog 81 #[.pointer (some ⟨b,0,none⟩),.slice (some ⟨g,o,none⟩) ts.length cap] w fun e w'=>∃v,e=.returned v/\w'.ownsRow w.heap.size 275 5 v (uF names (n+1) ts).length (kB (uF names (n+1) ts))/\Below w.heap.size w w':=by
 obtain⟨i0,hi0,hz0,hz1,hz2⟩:=info_parts XC;have hbo:=vC ts vK;have hba:=vC ts yL;have HO1:Hid (yM ts vK = -1):=by unfold Hid;omega
 have HO2:Hid (yM ts yL = -1):=by unfold Hid;omega
 have hpos:=bQ hg;rw[uI,if_neg hor,if_neg zGW,if_pos hno,Bool.and_eq_true]at hg;have hd:=bQ hg.2;rw[List.length_drop]at hd;have lA:=nQ names n _ hg.2;have HA:=ih (ts.drop 1) g (o+1*3) (cap-1) w b names (hs.drop 1) (by rw[List.length_drop];omega) (by rw[List.length_drop];omega) (by omega) hg.2 hN
 have HR:Hid (uF names (n+1) ts=uF names n (ts.drop 1)++[⟨4,0,0,[],0⟩]):=by
  unfold Hid;rw[uF,if_neg hor,if_neg zGW,if_pos hno]
 rw[List.length_drop]at HA lA;generalize uF names n (ts.drop 1)=a at *;have HA':=sP HA;have hc2:w.cell? ⟨g,o+0*3+2,none⟩=some (.string ⟨(cA ts 0).toArray⟩):=(hs.tok hpos).2;rw[hno]at hc2;simp only[Nat.zero_mul,Nat.add_zero,xF]at hc2;have hk2:1<ts.length:=by omega
 have HS:Hid (qT w g o ts):=hs;clear HA hg hs hbo hba ih hd hor zGW hno hN;generalize uF names (n+1) ts=ans at *
 go_enter Tryz.func81,Tryz.ntmps81
 go_wp2_with fail
 refine(yS ts vK g o cap _ HS.out (by omega) hc).mono ?_;rintro e w' ⟨rfl,hw⟩;obtain rfl:=hw.symm;rw[HO1.out];go_wp2_with fail
 refine(yS ts yL g o cap _ HS.out (by omega) hc).mono ?_;rintro e w' ⟨rfl,hw⟩;obtain rfl:=hw.symm;rw[HO2.out];go_wp2_with fail
 refine HA'.out.mono ?_;rintro e w3 ⟨v3,rfl,zGA,hb3⟩;have HB3:=zA hb3;have HO3:=zA zGA;have hs3:=hb3.size;obtain⟨oa3,oc3,rfl⟩:=vN zGA;clear hb3 zGA HA'
 go_wp2_with (at_builtin;refine wpList_append_own _ rfl _ _ 113 rfl w.heap.size 275 i0 _ 5 48 Tryz.underlying113 hi0 hz0 hz1 hz2 rfl (by decide) _ _ _ rfl (HO3.out.alloc _) ⟨w3.heap.size,0,none⟩ 1 1 (oX ⟨4,0,0,[],0⟩) rfl rfl ?c1 ?c2 ?c3 ?c4 ?c5 ?_)
 case c1=>exact xI _ _ _ _ rfl
 case c2=>intro u hu;simp[oX]at hu;rcases hu with rfl|rfl|rfl|rfl|rfl <;> rfl
 case c3=>unfold maxLen;omega
 case c4=>omega
 case c5=>simp;omega
 intro v4 w4 zGP hgrow4 _;have HB4:Hid (Below w.heap.size w w4):=(HB3.out.alloc hs3 _).grown hgrow4 (by simp;omega) (zZ HO3.out)
 have HO4:Hid (w4.ownsRow w.heap.size 275 5 v4 ans.length (kB ans)):=by
  unfold Hid;rw[HR.out,dY,List.length_append];exact zGP
 clear zGP hgrow4 HO3 HB3;go_wp2_with fail
 go_ret
 exact⟨_,rfl,HO4.out,HB4.out⟩
theorem yl(n:Nat)(ih:Zn n)(ts:zI)(g o cap:Nat)(w:World)(b:Nat)(names:List Bs)(hs:qT w g o ts)(zG9:ts.length<=10000)(hc:ts.length<=cap)(hm:cap<=maxLen)(hg:uI (n+1) ts=true)(hN:aI w b names)(hor:¬ 0<=yM ts vK)(zGW:¬ 0<=yM ts yL)(hno:¬cA ts 0=xF)(zGS:cA ts 0=yU) :
 Calls Tryz.prog 81 #[.pointer (some ⟨b,0,none⟩),.slice (some ⟨g,o,none⟩) ts.length cap] w fun e w'=>∃v,e=.returned v/\w'.ownsRow w.heap.size 275 5 v (uF names (n+1) ts).length (kB (uF names (n+1) ts))/\Below w.heap.size w w':=by
 have hbo:=vC ts vK;have hba:=vC ts yL;have HO1:Hid (yM ts vK = -1):=by unfold Hid;omega
 have HO2:Hid (yM ts yL = -1):=by unfold Hid;omega
 have hpos:=bQ hg;rw[uI,if_neg hor,if_neg zGW,if_neg hno,if_pos zGS,Bool.and_eq_true]at hg;have h0:2<ts.length:=by simpa using hg.1
 have hl2:((ts.drop 1).take (ts.length-2)).length=ts.length-2:=by rw[List.length_take,List.length_drop];omega
 have HA:=ih ((ts.drop 1).take (ts.length-2)) g (o+1*3) (cap-1) w b names ((hs.drop 1).take _) (by rw[hl2];omega) (by rw[hl2];omega) (by omega) hg.2 hN
 have HR:Hid (uF names (n+1) ts=uF names n ((ts.drop 1).take (ts.length-2))):=by
  unfold Hid;rw[uF,if_neg hor,if_neg zGW,if_neg hno,if_pos zGS]
 rw[hl2]at HA;generalize uF names n ((ts.drop 1).take (ts.length-2))=a at *;have HA':=sP HA;have hc2:w.cell? ⟨g,o+0*3+2,none⟩=some (.string ⟨(cA ts 0).toArray⟩):=(hs.tok hpos).2;rw[zGS]at hc2;simp only[Nat.zero_mul,Nat.add_zero,yU]at hc2;have HS:Hid (qT w g o ts):=hs;clear HA hg hs hbo hba ih hor zGW hno zGS hl2 hN;generalize uF names (n+1) ts=ans at *
 go_enter Tryz.func81,Tryz.ntmps81
 go_wp2_with fail
 refine(yS ts vK g o cap _ HS.out (by omega) hc).mono ?_;rintro e w' ⟨rfl,hw⟩;obtain rfl:=hw.symm;rw[HO1.out];go_wp2_with fail
 refine(yS ts yL g o cap _ HS.out (by omega) hc).mono ?_;rintro e w' ⟨rfl,hw⟩;obtain rfl:=hw.symm;rw[HO2.out];go_wp2_with fail
 refine HA'.out.mono ?_;rintro e w3 ⟨v3,rfl,zGA,hb3⟩;have HB3:=zA hb3;have HO3:=zA zGA;clear hb3 zGA HA';go_wp2_with fail
 go_ret
 exact⟨_,rfl,by rw[HR.out];exact HO3.out,HB3.out⟩
theorem ym(n:Nat)(ts:zI)(g o cap:Nat)(w:World)(b:Nat)(names:List Bs)(hs:qT w g o ts)(zG9:ts.length<=10000)(hc:ts.length<=cap)(hg:uI (n+1) ts=true)(hN:aI w b names)(hor:¬ 0<=yM ts vK)(zGW:¬ 0<=yM ts yL)(hno:¬cA ts 0=xF)(zGS:¬cA ts 0=yU) :
 Calls Tryz.prog 81 #[.pointer (some ⟨b,0,none⟩),.slice (some ⟨g,o,none⟩) ts.length cap] w fun e w'=>∃v,e=.returned v/\w'.ownsRow w.heap.size 275 5 v (uF names (n+1) ts).length (kB (uF names (n+1) ts))/\Below w.heap.size w w':=by
 have hbo:=vC ts vK;have hba:=vC ts yL;have HO1:Hid (yM ts vK = -1):=by unfold Hid;omega
 have HO2:Hid (yM ts yL = -1):=by unfold Hid;omega
 have hpos:=bQ hg;rw[uI,if_neg hor,if_neg zGW,if_neg hno,if_neg zGS,Bool.and_eq_true]at hg;have hh:cA ts 0=Ys->1<ts.length:=of_decide_eq_true hg.2
 have HR:Hid (uF names (n+1) ts=[bJ names ts]):=by
  unfold Hid;rw[uF,if_neg hor,if_neg zGW,if_neg hno,if_neg zGS]
 have HAt:=zA (fun nm=>zC0 w b names nm hN);have HNm:=zA hN;have hc2:w.cell? ⟨g,o+0*3+2,none⟩=some (.string ⟨(cA ts 0).toArray⟩):=(hs.tok hpos).2;have hc0:w.cell? ⟨g,o+0*3,none⟩=some (.string ⟨(tA ts 0).toArray⟩):=(hs.tok hpos).1;simp only[Nat.zero_mul,Nat.add_zero]at hc2 hc0;have HS:Hid (qT w g o ts):=hs;have b1:(cA ts 0==[110,111,116])=false:=by simpa[xF] using hno
 have b2:(cA ts 0==[40])=false:=by simpa[yU] using zGS
 clear hg hs hbo hba hor zGW hno zGS hN;generalize uF names (n+1) ts=ans at *;by_cases k1:cA ts 0=F0
 ·have HR2:Hid (bJ names ts=⟨0,0,0,[],0⟩):=by unfold Hid bJ;rw[if_pos k1]
  rw[k1]at hc2;simp only[F0]at hc2;clear k1 b1 b2 hh hc0;generalize bJ names ts=st at *
  go_enter Tryz.func81,Tryz.ntmps81
  go_wp2_with fail
  refine(yS ts vK g o cap _ HS.out (by omega) hc).mono ?_;rintro e w' ⟨rfl,hw⟩;obtain rfl:=hw.symm;rw[HO1.out];go_wp2_with fail
  refine(yS ts yL g o cap _ HS.out (by omega) hc).mono ?_;rintro e w' ⟨rfl,hw⟩;obtain rfl:=hw.symm;rw[HO2.out];go_wp2_with fail
  go_ret
  exact⟨_,rfl,by rw[HR.out,HR2.out];exact CA w _ (Nat.le_refl _) _,(Below.refl _ _).alloc (Nat.le_refl _) _⟩
 by_cases k2:cA ts 0=Ys
 ·have h2:=hh k2
  have HR2:Hid (bJ names ts=⟨1,zM names (tA ts 1),0,[],0⟩):=by unfold Hid bJ;rw[if_neg k1,if_pos k2]
  have hc3:w.cell? ⟨g,o+1*3,none⟩=some (.string ⟨(tA ts 1).toArray⟩):=(HS.out.tok h2).1;simp only[Nat.one_mul]at hc3;rw[k2]at hc2;simp only[Ys]at hc2;clear k1 k2 b1 b2 hh hc0;generalize bJ names ts=st at *;generalize tA ts 1=nm at *;have HA1:=zA (HAt.out nm);clear HAt;generalize zM names nm=f at *
  go_enter Tryz.func81,Tryz.ntmps81
  go_wp2_with fail
  refine(yS ts vK g o cap _ HS.out (by omega) hc).mono ?_;rintro e w' ⟨rfl,hw⟩;obtain rfl:=hw.symm;rw[HO1.out];go_wp2_with fail
  refine(yS ts yL g o cap _ HS.out (by omega) hc).mono ?_;rintro e w' ⟨rfl,hw⟩;obtain rfl:=hw.symm;rw[HO2.out];go_wp2_with fail
  refine HA1.out.mono ?_;rintro e w' ⟨rfl,hw⟩;obtain rfl:=hw.symm;go_wp2_with fail
  go_ret
  exact⟨_,rfl,by rw[HR.out,HR2.out];exact CA w _ (Nat.le_refl _) _,(Below.refl _ _).alloc (Nat.le_refl _) _⟩
 have b3:(cA ts 0==[97,108,119,97,121,115])=false:=by simpa[F0] using k1
 have b4:(cA ts 0==[104,97,115])=false:=by simpa[Ys] using k2
 have hgl:g<w.heap.size:=xG hc0;have n0:w.heap.size≠g:=by omega
 by_cases k3:ts.length=3
 ·have hc3:w.cell? ⟨g,o+1*3,none⟩=some (.string ⟨(tA ts 1).toArray⟩):=(HS.out.tok (show 1<ts.length by omega)).1
  have hc4:w.cell? ⟨g,o+2*3,none⟩=some (.string ⟨(tA ts 2).toArray⟩):=(HS.out.tok (show 2<ts.length by omega)).1;have hc5:w.cell? ⟨g,o+2*3+2,none⟩=some (.string ⟨(cA ts 2).toArray⟩):=(HS.out.tok (show 2<ts.length by omega)).2;simp only[Nat.one_mul]at hc3;rw[show 2*3=6 from rfl]at hc4 hc5;by_cases k4:cA ts 2=zV
  ·have HR2:Hid (bJ names ts=⟨2,zM names (tA ts 0),0,tA ts 1,xH 0 (tA ts 2)⟩):=by unfold Hid bJ;rw[if_neg k1,if_neg k2,if_pos k3,if_pos k4]
   have HNu:=zA (fun w=>mP (tA ts 2) w (jQ k4));have b5:((ts.length:Int)==3)=true:=by simpa using (by omega:(ts.length:Int)=3)
   have h2l:2<ts.length:=by omega
   rw[k4]at hc5;simp only[zV]at hc5;clear k1 k2 k4 hh k3;generalize bJ names ts=st at *;generalize tA ts 1=mk at *;generalize tA ts 2=nu at *;generalize tA ts 0=nm at *;generalize cA ts 0=cl at *;have HA1:=zA (HAt.out nm);clear HAt;generalize zM names nm=f at *;generalize xH 0 nu=nv at *
   go_enter Tryz.func81,Tryz.ntmps81
   go_wp2_with fail
   refine(yS ts vK g o cap _ HS.out (by omega) hc).mono ?_;rintro e w' ⟨rfl,hw⟩;obtain rfl:=hw.symm;rw[HO1.out];go_wp2_with fail
   refine(yS ts yL g o cap _ HS.out (by omega) hc).mono ?_;rintro e w' ⟨rfl,hw⟩;obtain rfl:=hw.symm;rw[HO2.out];go_wp2_with fail
   refine HA1.out.mono ?_;rintro e w' ⟨rfl,hw⟩;obtain rfl:=hw.symm;go_wp2_with fail
   refine(HNu.out _).mono ?_;rintro e w' ⟨rfl,hw⟩;obtain rfl:=hw.symm;go_wp2_with fail
   go_ret
   exact⟨_,rfl,by rw[HR.out,HR2.out];exact Xh _ _ _ (by simp) (Nat.le_succ _) _,((Below.refl _ _).alloc (Nat.le_refl _) _).alloc (by simp) _⟩
  ·have HR2:Hid (bJ names ts=⟨3,zM names (tA ts 0),zM names (tA ts 2),tA ts 1,0⟩):=by unfold Hid bJ;rw[if_neg k1,if_neg k2,if_pos k3,if_neg k4]
   have b5:((ts.length:Int)==3)=true:=by simpa using (by omega:(ts.length:Int)=3)
   have b6:(cA ts 2==[78,85,77,66,69,82])=false:=by simpa[zV] using k4
   have h2l:2<ts.length:=by omega
   have HAt2:Hid (∀o':Obj,Calls Tryz.prog 79 #[.pointer (some ⟨b,0,none⟩),.string ⟨(tA ts 2).toArray⟩] (w.alloc o') fun e w'=>e=.returned (.int .i64 (zM names (tA ts 2)))/\w'=w.alloc o'):=fun o'=>zC0 _ b names _ (HNm.out.below ((Below.refl _ _).alloc (Nat.le_refl _) o'));clear k1 k2 k4 hh k3;generalize bJ names ts=st at *;have HA1:=zA (HAt.out (tA ts 0));clear HAt HNm;generalize tA ts 1=mk at *;generalize tA ts 2=nu at *;generalize tA ts 0=nm at *;generalize cA ts 0=cl at *;generalize cA ts 2=cm at *;generalize zM names nm=f at *;generalize zM names nu=f2 at *
   go_enter Tryz.func81,Tryz.ntmps81
   go_wp2_with fail
   refine(yS ts vK g o cap _ HS.out (by omega) hc).mono ?_;rintro e w' ⟨rfl,hw⟩;obtain rfl:=hw.symm;rw[HO1.out];go_wp2_with fail
   refine(yS ts yL g o cap _ HS.out (by omega) hc).mono ?_;rintro e w' ⟨rfl,hw⟩;obtain rfl:=hw.symm;rw[HO2.out];go_wp2_with fail
   refine HA1.out.mono ?_;rintro e w' ⟨rfl,hw⟩;obtain rfl:=hw.symm;go_wp2_with fail
   refine(HAt2.out _).mono ?_;rintro e w' ⟨rfl,hw⟩;obtain rfl:=hw.symm;go_wp2_with fail
   go_ret
   exact⟨_,rfl,by rw[HR.out,HR2.out];exact Xh _ _ _ (by simp) (Nat.le_succ _) _,((Below.refl _ _).alloc (Nat.le_refl _) _).alloc (by simp) _⟩
 ·have HR2:Hid (bJ names ts=⟨1,zM names (tA ts 0),0,[],0⟩):=by unfold Hid bJ;rw[if_neg k1,if_neg k2,if_neg k3]
  have b5:((ts.length:Int)==3)=false:=by simpa using (by omega:¬(ts.length:Int)=3)
  clear k1 k2 hh k3;generalize bJ names ts=st at *;have HA1:=zA (HAt.out (tA ts 0));clear HAt HNm;generalize tA ts 0=nm at *;generalize cA ts 0=cl at *;generalize zM names nm=f at *
  go_enter Tryz.func81,Tryz.ntmps81
  go_wp2_with fail
  refine(yS ts vK g o cap _ HS.out (by omega) hc).mono ?_;rintro e w' ⟨rfl,hw⟩;obtain rfl:=hw.symm;rw[HO1.out];go_wp2_with fail
  refine(yS ts yL g o cap _ HS.out (by omega) hc).mono ?_;rintro e w' ⟨rfl,hw⟩;obtain rfl:=hw.symm;rw[HO2.out];go_wp2_with fail
  refine HA1.out.mono ?_;rintro e w' ⟨rfl,hw⟩;obtain rfl:=hw.symm;go_wp2_with fail
  go_ret
  exact⟨_,rfl,by rw[HR.out,HR2.out];exact Xh _ _ _ (by simp) (Nat.le_succ _) _,((Below.refl _ _).alloc (Nat.le_refl _) _).alloc (by simp) _⟩
theorem zAI(n:Nat):Zn n:=by
 induction n with
 | zero=>intro ts g o cap w b names _ _ _ _ hg;simp[uI]at hg
 | succ n ih =>
   intro ts g o cap w b names hs zG9 hc hm hg hN;by_cases ho:0<=yM ts vK
   ·exact zDP n ih ts g o cap w b names hs zG9 hc hm hg hN ho
   by_cases ha:0<=yM ts yL
   ·exact zAJ n ih ts g o cap w b names hs zG9 hc hm hg hN ho ha
   by_cases h1:cA ts 0=xF
   ·exact zAH n ih ts g o cap w b names hs zG9 hc hm hg hN ho ha h1
   by_cases h2:cA ts 0=yU
   ·exact yl n ih ts g o cap w b names hs zG9 hc hm hg hN ho ha h1 h2
   ·exact ym n ts g o cap w b names hs zG9 hc hg hN ho ha h1 h2
theorem dI{w:World}{B k n g c:Nat}{t:TypeId}{xs:List Value}(h:w.ownsRow B t k (.slice (some ⟨g,0,none⟩) n c) n xs)(hn:0<n){j:Nat}(hj:j<n*k)(u:Value) :
 (w.setCell ⟨g,j,none⟩ u).ownsRow B t k (.slice (some ⟨g,0,none⟩) n c) n (xs.set j u)/\w.frozen? ⟨g,j,none⟩=false/\w.cell? ⟨g,j,none⟩=xs[j]? /\ B<=g/\g<w.heap.size:=by
 have hl:=h.1;rcases h.2 with ⟨_,h2⟩|⟨g',cap,yP,h1,hB,h3,h4,h5,h6,h7⟩
 ·omega
 ·obtain⟨rfl,rfl⟩:g=g'/\c=cap:=by simpa using h1
  refine⟨⟨by rw[List.length_set];exact hl,.inr ⟨g,c,yP.setIfInBounds j u,rfl,hB,?_,h4,h5,by simpa using h6,?_⟩⟩,by simp[World.frozen?,h3],?_,hB,yD h3⟩
  ·rw[setCell_eq_setRow w g j _ _ _ _ h3,setRow_heap w g yP _ _ _ h3]
  ·rw[<-h7]
   apply List.ext_getElem?
   intro i;rw[List.getElem?_take,List.getElem?_set,List.length_take,Array.toList_setIfInBounds,List.getElem?_set];by_cases e:j=i
   ·subst e
    rw[if_pos hj,if_pos rfl,if_pos rfl];simp only[Array.length_toList];split
    ·rw[if_pos (by omega)]
    ·rename_i hx
     rw[h6]at hx;have:n*k<=c*k:=Nat.mul_le_mul_right k h4;omega
   ·rw[if_neg e,if_neg e,List.getElem?_take]
  ·rw[zF h3 j,<-h7,List.getElem?_take,if_pos hj,Array.getElem?_toList]
def uB(names:List Bs)(ts:zI)(i:Nat)(sg:Int)(acc:List qE):Int × List qE :=
 if cA ts i=[43] then (1,acc)
 else if cA ts i=[45] then (-1,acc)
 else if cA ts i=zV then (sg,acc++[⟨-1,sg*xH 0 (tA ts i)⟩])
 else if cA ts i=[42] then (sg,acc.dropLast++[⟨zM names (tA ts (i+1)),(acc.getLastD ⟨0,0⟩).n⟩])
 else if cA ts i=yQ then (if i=0\/cA ts (i-1)≠[42] then (sg,acc++[⟨zM names (tA ts i),sg⟩]) else (sg,acc))
 else (sg,acc)
def sD(names:List Bs)(ts:zI):Nat->Nat->Int->List qE->List qE
 | 0,_,_,acc=>acc
 | n+1,i,sg,acc=>sD names ts n (i+1) (uB names ts i sg acc).1 (uB names ts i sg acc).2
def oI(names:List Bs)(ts:zI):List qE:=sD names ts ts.length 0 1 []
theorem bH(names:List Bs)(ts:zI)(i:Nat)(sg:Int)(acc:List qE)(h:i<ts.length):sD names ts (ts.length-i) i sg acc=sD names ts (ts.length-(i+1)) (i+1) (uB names ts i sg acc).1 (uB names ts i sg acc).2:=by
 rw[show ts.length-i=(ts.length-(i+1))+1 by omega,sD]
structure zD0(ts:zI):Prop where
 star:∀i,i<ts.length->cA ts i=[42]->0<i/\cA ts (i-1)=zV/\i+1<ts.length
 nums:∀i,i<ts.length->cA ts i=zV->0<=xH 0 (tA ts i)/\xH 0 (tA ts i)<=9999
theorem mY(a b:List qE):jD (a++b)=jD a++jD b:=by simp[jD]
theorem gO(l:List qE):(jD l).length=l.length*2:=nZ fL 2 (fun _=>rfl) l
theorem V7(acc:List qE)(p:qE)(f:Int):(jD (acc++[p])).set (acc.length*2) (.int .i64 f)=jD (acc++[⟨f,p.n⟩]):=by
 rw[mY,mY,List.set_append_right _ _ (by rw[gO];exact Nat.le_refl _),gO,Nat.sub_self];rfl
theorem zAC(w:World)(b:Nat)(names:List Bs)(ts:zI)(g o cap:Nat)(hs:qT w g o ts)(zG9:ts.length<=10000)(zGG:zD0 ts)(hN:aI w b names) :
 Calls Tryz.prog 80 #[.pointer (some ⟨b,0,none⟩),.slice (some ⟨g,o,none⟩) ts.length cap] w fun e w'=>∃v,e=.returned v/\w'.ownsRow w.heap.size 202 2 v (oI names ts).length (jD (oI names ts))/\(oI names ts).length<=ts.length/\Below w.heap.size w w':=by
 obtain⟨i0,hi0,hz0,hz1,hz2⟩:=info_parts FB;have HS:=zA hs;have HN:=zA hN;have HK:=zA zGG;obtain⟨B,hB⟩:∃B,B=w.heap.size:=⟨_,rfl⟩;have HB0:=zA hB;clear hs hN zGG hB
 go_enter Tryz.func80,Tryz.ntmps80
 go_wp2_with fail
 go_loopw [5,6,7] (fun ov sv iv wr=>∃(i:Nat) (sg:Int) (acc:List qE),i<=ts.length/\acc.length<=i/\(sg=1\/sg = -1)/\sv=.int .i64 sg/\iv=.int .i64 i/\Hid (wr.ownsRow B 202 2 ov acc.length (jD acc))/\Hid (Below B w wr)/\Hid (0<i->cA ts (i-1)=zV->acc≠[])/\Hid (sD names ts (ts.length-i) i sg acc=oI names ts)) (fun _ _ iv _=>ts.length-(intOf iv).toNat)
 case atStart=>exact⟨0,1,[],Nat.zero_le _,Nat.le_refl _,.inl rfl,rfl,rfl,zA (World.ownsRow_nil _ _ _ _),zA (Below.refl _ _),zA (fun h=>absurd h (by decide)),zA rfl⟩
 case round =>
  obtain⟨i,sg,acc,hi,hacc,hsg,rfl,rfl,HO,HB,HL,HE⟩:=hrel;have hsz2:B<=wr.heap.size:=by have:=HB.out.size;have h2:=HB0.out;omega
  by_cases zFZ:i<ts.length
  ·have HSr:=zA (HS.out.below' (by have:=HB.out;rwa [HB0.out]at this))
   have HAt:=zA (fun nm=>zC0 wr b names nm (HN.out.below (by have:=HB.out;rwa [HB0.out]at this)));have hc0:=(HSr.out.tok zFZ).1;have hc2:=(HSr.out.tok zFZ).2;have hE:=HE.out;rw[bH names ts i sg acc zFZ]at hE;have HE2:=zA hE;clear HE hE;have zGV:cA ts i≠zV->0<i+1->cA ts (i+1-1)=zV->False:=fun h _ h2=>h (by simpa using h2);by_cases k1:cA ts i=[43]
   ·have HE3:Hid (sD names ts (ts.length-(i+1)) (i+1) 1 acc=oI names ts):=by have:=HE2.out;unfold uB at this;rw[if_pos k1]at this;exact this
    have HL2:Hid (0<i+1->cA ts (i+1-1)=zV->acc≠[]):=fun h1 h2=>(zGV (by rw[k1];decide) h1 h2).elim;rw[k1]at hc2;clear k1 HE2 zGV;go_wp2_with fail
    go_roundw
    case rel=>exact⟨i+1,1,acc,by omega,by omega,.inl rfl,rfl,by go_num,HO,HB,HL2,HE3⟩
    case measure=>simp[intOf];omega
   by_cases k2:cA ts i=[45]
   ·have HE3:Hid (sD names ts (ts.length-(i+1)) (i+1) (-1) acc=oI names ts):=by have:=HE2.out;unfold uB at this;rw[if_neg k1,if_pos k2]at this;exact this
    have HL2:Hid (0<i+1->cA ts (i+1-1)=zV->acc≠[]):=fun h1 h2=>(zGV (by rw[k2];decide) h1 h2).elim;rw[k2]at hc2;clear k1 k2 HE2 zGV;go_wp2_with fail
    go_roundw
    case rel=>exact⟨i+1,-1,acc,by omega,by omega,.inr rfl,rfl,by go_num,HO,HB,HL2,HE3⟩
    case measure=>simp[intOf];omega
   by_cases k3:cA ts i=zV
   ·have HE3:Hid (sD names ts (ts.length-(i+1)) (i+1) sg (acc++[⟨-1,sg*xH 0 (tA ts i)⟩])=oI names ts):=by have:=HE2.out;unfold uB at this;rw[if_neg k1,if_neg k2,if_pos k3]at this;exact this
    obtain⟨v1,v2⟩:=HK.out.nums i zFZ k3;have HNu:=zA (fun w=>mP (tA ts i) w (jQ k3));rw[k3]at hc2;simp only[zV]at hc2;clear k1 k2 k3 HE2 zGV HAt;generalize tA ts i=nu at *;generalize xH 0 nu=nv at *;obtain⟨oa,oc,rfl⟩:=vN HO.out;have hm : -9999<=sg*nv/\sg*nv<=9999:=by rcases hsg with rfl|rfl <;> omega
    obtain⟨q,hq⟩:∃q,q=sg*nv:=⟨_,rfl⟩;have hwq:wrap64 (sg*nv)=q:=by rw[hq];unfold wrap64;rcases hsg with rfl|rfl <;> omega
    rw[<-hq]at hm HE3;clear hq;go_wp2_with fail
    refine(HNu.out _).mono ?_;rintro e w' ⟨rfl,hw⟩;obtain rfl:=hw.symm
    go_wp2_with (at_builtin;refine wpList_append_own _ rfl _ _ 112 rfl B 202 i0 _ 2 16 Tryz.underlying112 hi0 hz0 hz1 hz2 rfl (by decide) _ _ _ rfl (HO.out.alloc _) ⟨wr.heap.size,0,none⟩ 1 1 (fL ⟨-1,q⟩) rfl rfl ?c1 ?c2 ?c3 ?c4 ?c5 ?_)
    case c1=>exact xI _ _ _ _ rfl
    case c2=>intro u hu;simp[fL]at hu;rcases hu with rfl|rfl <;> rfl
    case c3=>unfold maxLen;omega
    case c4=>omega
    case c5=>simp;omega
    intro v' w2 zG3 zG7 _;have HB2:Hid (Below B w w2):=(HB.out.alloc hsz2 _).grown zG7 (by simp;omega) (zZ HO.out);have HO2:Hid (w2.ownsRow B 202 2 v' (acc++[(⟨-1,q⟩:qE)]).length (jD (acc++[(⟨-1,q⟩:qE)]))):=by unfold Hid;rw[mY,List.length_append];exact zG3
    have HL2:Hid (0<i+1->cA ts (i+1-1)=zV->acc++[(⟨-1,q⟩:qE)]≠[]):=fun _ _=>by simp
    clear zG3 zG7;go_wp2_with fail
    go_roundw
    case rel=>exact⟨i+1,sg,acc++[⟨-1,q⟩],by omega,by simp;omega,hsg,rfl,by go_num,HO2,HB2,HL2,HE3⟩
    case measure=>simp[intOf];omega
   by_cases k4:cA ts i=[42]
   ·obtain⟨j0,j1,j2⟩:=HK.out.star i zFZ k4
    obtain⟨acc',p,rfl⟩:∃a p,acc=a++[p]:=⟨_,_,(List.dropLast_concat_getLast (HL.out j0 j1)).symm⟩
    have HE3:Hid (sD names ts (ts.length-(i+1)) (i+1) sg (acc'++[⟨zM names (tA ts (i+1)),p.n⟩])=oI names ts):=by
     have:=HE2.out;unfold uB at this;rw[if_neg k1,if_neg k2,if_neg k3,if_pos k4]at this;unfold Hid;simpa using this
    have HA1:=zA (HAt.out (tA ts (i+1)));have hc5:=(HSr.out.tok j2).1;have HL2:Hid (0<i+1->cA ts (i+1-1)=zV->acc'++[(⟨zM names (tA ts (i+1)),p.n⟩:qE)]≠[]):=fun _ _=>by simp
    rw[k4]at hc2;clear k1 k2 k3 k4 HE2 zGV HAt j0 j1;generalize tA ts (i+1)=nm at *;generalize zM names nm=f at *;obtain⟨og,oc,hov,-⟩:=oK HO.out (by simp);subst hov;rw[List.length_append,List.length_singleton]at HO hacc;have hput:=fun u=>dI HO.out (by omega) (j:=acc'.length*2) (by omega) u;have hfz:=(hput (.bool true)).2.1
    have zGM:wr.cell? ⟨og,acc'.length*2,none⟩=some (.int .i64 p.a):=by
     rw[(hput (.bool true)).2.2.1,mY,List.getElem?_append_right (by rw[gO];exact Nat.le_refl _),gO,Nat.sub_self];rfl
    have hBg:=(hput (.bool true)).2.2.2.1
    have HO2:Hid ((wr.setCell ⟨og,acc'.length*2,none⟩ (.int .i64 f)).ownsRow B 202 2 (.slice (some ⟨og,0,none⟩) (acc'.length+1) oc) (acc'++[(⟨f,p.n⟩:qE)]).length (jD (acc'++[⟨f,p.n⟩]))):=by
     unfold Hid;rw[<-V7 acc' p f,List.length_append];exact(hput _).1
    have HB2:Hid (Below B w (wr.setCell ⟨og,acc'.length*2,none⟩ (.int .i64 f))):=HB.out.setCell (p:=⟨og,acc'.length*2,none⟩) hBg _;clear hput;go_wp2_with fail
    refine HA1.out.mono ?_;rintro e w' ⟨rfl,hw⟩;obtain rfl:=hw.symm;go_wp2_with fail
    go_roundw
    case rel=>exact⟨i+1,sg,acc'++[⟨f,p.n⟩],by omega,by simp;omega,hsg,rfl,by go_num,HO2,HB2,HL2,HE3⟩
    case measure=>simp[intOf];omega
   by_cases k5:cA ts i=yQ
   ·have HL3:Hid (0<i+1->cA ts (i+1-1)=zV->acc≠[]):=fun h1 h2=>(zGV k3 h1 h2).elim
    by_cases k6:i=0\/cA ts (i-1)≠[42]
    ·have HE3:Hid (sD names ts (ts.length-(i+1)) (i+1) sg (acc++[⟨zM names (tA ts i),sg⟩])=oI names ts):=by
      have:=HE2.out;unfold uB at this;rw[if_neg k1,if_neg k2,if_neg k3,if_neg k4,if_pos k5,if_pos k6]at this;exact this
     have HA1:=zA (HAt.out (tA ts i));rw[k5]at hc2;simp only[yQ]at hc2;obtain⟨oa,oc,rfl⟩:=vN HO.out;by_cases k7:i=0
     ·subst k7
      clear k1 k2 k3 k4 k5 HE2 zGV HAt k6 HL3;generalize tA ts 0=nm at *;generalize zM names nm=f at *;simp only[Nat.zero_mul,Nat.add_zero]at hc0 hc2;go_wp2_with fail
      refine HA1.out.mono ?_;rintro e w' ⟨rfl,hw⟩;obtain rfl:=hw.symm
      go_wp2_with (at_builtin;refine wpList_append_own _ rfl _ _ 112 rfl B 202 i0 _ 2 16 Tryz.underlying112 hi0 hz0 hz1 hz2 rfl (by decide) _ _ _ rfl (HO.out.alloc _) ⟨wr.heap.size,0,none⟩ 1 1 (fL ⟨f,sg⟩) rfl rfl ?c1 ?c2 ?c3 ?c4 ?c5 ?_)
      case c1=>exact xI _ _ _ _ rfl
      case c2=>intro u hu;simp[fL]at hu;rcases hu with rfl|rfl <;> rfl
      case c3=>unfold maxLen;omega
      case c4=>omega
      case c5=>simp;omega
      intro v' w2 zG3 zG7 _;have HB2:Hid (Below B w w2):=(HB.out.alloc hsz2 _).grown zG7 (by simp;omega) (zZ HO.out);have HO2:Hid (w2.ownsRow B 202 2 v' (acc++[(⟨f,sg⟩:qE)]).length (jD (acc++[(⟨f,sg⟩:qE)]))):=by unfold Hid;rw[mY,List.length_append];exact zG3
      have HL2:Hid (0<0+1->cA ts (0+1-1)=zV->acc++[(⟨f,sg⟩:qE)]≠[]):=fun _ _=>by simp
      clear zG3 zG7;go_wp2_with fail
      go_roundw
      case rel=>exact⟨0+1,sg,acc++[⟨f,sg⟩],by omega,by simpa using hacc,hsg,rfl,by go_num,HO2,HB2,HL2,HE3⟩
      case measure=>simp[intOf];omega
     ·have hp:0<i:=by omega
      have hc7:=(HSr.out.tok (show i-1<ts.length by omega)).2;have b7:(cA ts (i-1) != [42])=true:=by simpa using k6.resolve_left k7
      have b8:(cA ts (i-1)==[42])=false:=by simpa using k6.resolve_left k7
      have b9:¬(cA ts (i-1)).toArray = #[42]:=by simpa using k6.resolve_left k7
      clear k1 k2 k3 k4 k5 HE2 zGV HAt k6 HL3;generalize tA ts i=nm at *;generalize zM names nm=f at *;generalize cA ts (i-1)=cp at *;have bi:((i:Int)==0)=false:=by simpa using k7
      clear k7;go_wp2_with fail
      refine HA1.out.mono ?_;rintro e w' ⟨rfl,hw⟩;obtain rfl:=hw.symm
      go_wp2_with (at_builtin;refine wpList_append_own _ rfl _ _ 112 rfl B 202 i0 _ 2 16 Tryz.underlying112 hi0 hz0 hz1 hz2 rfl (by decide) _ _ _ rfl (HO.out.alloc _) ⟨wr.heap.size,0,none⟩ 1 1 (fL ⟨f,sg⟩) rfl rfl ?c1 ?c2 ?c3 ?c4 ?c5 ?_)
      case c1=>exact xI _ _ _ _ rfl
      case c2=>intro u hu;simp[fL]at hu;rcases hu with rfl|rfl <;> rfl
      case c3=>unfold maxLen;omega
      case c4=>omega
      case c5=>simp;omega
      intro v' w2 zG3 zG7 _;have HB2:Hid (Below B w w2):=(HB.out.alloc hsz2 _).grown zG7 (by simp;omega) (zZ HO.out);have HO2:Hid (w2.ownsRow B 202 2 v' (acc++[(⟨f,sg⟩:qE)]).length (jD (acc++[(⟨f,sg⟩:qE)]))):=by unfold Hid;rw[mY,List.length_append];exact zG3
      have HL2:Hid (0<i+1->cA ts (i+1-1)=zV->acc++[(⟨f,sg⟩:qE)]≠[]):=fun _ _=>by simp
      clear zG3 zG7;go_wp2_with fail
      go_roundw
      case rel=>exact⟨i+1,sg,acc++[⟨f,sg⟩],by omega,by simp;omega,hsg,rfl,by go_num,HO2,HB2,HL2,HE3⟩
      case measure=>simp[intOf];omega
    ·have k7:¬i=0:=fun h=>k6 (.inl h)
     have k8:cA ts (i-1)=[42]:=Decidable.byContradiction fun h=>k6 (.inr h)
     have HE3:Hid (sD names ts (ts.length-(i+1)) (i+1) sg acc=oI names ts):=by
      have:=HE2.out;unfold uB at this;rw[if_neg k1,if_neg k2,if_neg k3,if_neg k4,if_pos k5,if_neg k6]at this;exact this
     have hp:0<i:=by omega
     have hc7:=(HSr.out.tok (show i-1<ts.length by omega)).2;rw[k8]at hc7;have bi:((i:Int)==0)=false:=by simpa using k7
     rw[k5]at hc2;simp only[yQ]at hc2;clear k1 k2 k3 k4 k5 HE2 zGV HAt k6 k7 k8;go_wp2_with fail
     go_roundw
     case rel=>exact⟨i+1,sg,acc,by omega,by omega,hsg,rfl,by go_num,HO,HB,HL3,HE3⟩
     case measure=>simp[intOf];omega
   ·have HE3:Hid (sD names ts (ts.length-(i+1)) (i+1) sg acc=oI names ts):=by
     have:=HE2.out;unfold uB at this;rw[if_neg k1,if_neg k2,if_neg k3,if_neg k4,if_neg k5]at this;exact this
    have HL3:Hid (0<i+1->cA ts (i+1-1)=zV->acc≠[]):=fun h1 h2=>(zGV k3 h1 h2).elim;have b1:(cA ts i==[43])=false:=by simpa using k1
    have b2:(cA ts i==[45])=false:=by simpa using k2
    have b3:(cA ts i==[78,85,77,66,69,82])=false:=by simpa[zV] using k3
    have b4:(cA ts i==[42])=false:=by simpa using k4
    have b5:(cA ts i==[78,65,77,69])=false:=by simpa[yQ] using k5
    clear k1 k2 k3 k4 k5 HE2 zGV HAt;generalize cA ts i=cl at *;go_wp2_with fail
    go_roundw
    case rel=>exact⟨i+1,sg,acc,by omega,by omega,hsg,rfl,by go_num,HO,HB,HL3,HE3⟩
    case measure=>simp[intOf];omega
  ·have HE3:Hid (acc=oI names ts):=by have:=HE.out;rw[show ts.length-i=0 by omega]at this;exact this
   clear HE;go_wp2_with fail
   go_ret
   exact⟨_,rfl,by rw[<-HE3.out,<-HB0.out];exact HO.out,by rw[<-HE3.out];omega,by rw[<-HB0.out];exact HB.out⟩
structure rJ where
 label:Bs
 head:Int
 parts:List qE
 steps:List tD
abbrev RX:=rJ × Value × Value
def jh(x:RX):List Value:=[.string ⟨x.1.label.toArray⟩,.int .i64 x.1.head,x.2.1,x.2.2]
def V6(l:List RX):List Value:=l.flatMap jh
structure Y0(w:World)(x:RX):Prop where
 parts:∃a c,x.2.1=.slice a x.1.parts.length c/\kG w 202 a (jD x.1.parts)
 steps:∃a c,x.2.2=.slice a x.1.steps.length c/\kG w 275 a (kB x.1.steps)
 few1:x.1.parts.length<=10000
 few2:x.1.steps.length<=10000
def lT(lv nv:Value)(ins:Int)(rv:Value):Obj:=.cells #[lv,nv,.int .i64 ins,rv] 119 (0,0)
def XA(us:List zI):Nat->Nat->List Bs->List Bs
 | 0,_,acc=>acc
 | n+1,i,acc=>XA us n (i+1) (if cA (uA us i) 0=vE\/cA (uA us i) 0=xA then acc++[tA (uA us i) 1] else acc)
def Yu(us:List zI):List Bs:=XA us us.length 0 []
theorem F6(us:List zI)(i:Nat)(acc:List Bs)(h:i<us.length):XA us (us.length-i) i acc=XA us (us.length-(i+1)) (i+1) (if cA (uA us i) 0=vE\/cA (uA us i) 0=xA then acc++[tA (uA us i) 1] else acc):=by
 rw[show us.length-i=(us.length-(i+1))+1 by omega,XA]
def iZ(names:List Bs)(u:zI):rJ:=⟨tA u 1,zM names (tA u 3),oI names ((u.drop 5).take (iU u-5)),uF names (u.length+1) (u.drop (iU u+1))⟩
def oY(names:List Bs)(us:List zI):Nat->Nat->List rJ->List rJ
 | 0,_,acc=>acc
 | n+1,i,acc=>oY names us n (i+1) (if cA (uA us i) 0=zW then acc++[iZ names (uA us i)] else acc)
def jE(names:List Bs)(us:List zI):List rJ:=oY names us us.length 0 []
theorem UH(names:List Bs)(us:List zI)(i:Nat)(acc:List rJ)(h:i<us.length):oY names us (us.length-i) i acc=oY names us (us.length-(i+1)) (i+1) (if cA (uA us i) 0=zW then acc++[iZ names (uA us i)] else acc):=by
 rw[show us.length-i=(us.length-(i+1))+1 by omega,oY]
structure zFT(u:zI):Prop where
 wh:pW u=iU u
 lo:5<iU u
 hi:iU u+1<u.length
 sum:zD0 ((u.drop 5).take (iU u-5))
 good:uI (u.length+1) (u.drop (iU u+1))=true
structure aJ(w:World)(b:Nat)(us:List zI)(names:List Bs)(ins:Nat)(rs:List RX):Prop where
 lines:∃la lc,w.cell? ⟨b,0,none⟩=some (.slice la us.length lc)/\lV w la us
 nam:aI w b names
 ins:w.cell? ⟨b,2,none⟩=some (.int .i64 ins)
 rul:∃ra rc,w.cell? ⟨b,3,none⟩=some (.slice ra rs.length rc)/\dC w ra (V6 rs)
 rows:∀x∈rs,Y0 w x
 few:rs.length<=10000
theorem gP{w:World}{b:Nat}{lv nv rv:Value}{ins:Int}(h:w.heap[b]? = some (lT lv nv ins rv)):w.cell? ⟨b,0,none⟩=some lv/\w.cell? ⟨b,1,none⟩=some nv/\w.cell? ⟨b,2,none⟩=some (.int .i64 ins)/\w.cell? ⟨b,3,none⟩=some rv/\∀j,w.frozen? ⟨b,j,none⟩=false:=by
 unfold lT at h;refine⟨(zF h 0).trans rfl,(zF h 1).trans rfl,(zF h 2).trans rfl,(zF h 3).trans rfl,fun j=>by simp[World.frozen?,h]⟩
theorem JY{w:World}{b:Nat}{lv nv rv v:Value}{ins:Int}(h:w.heap[b]? = some (lT lv nv ins rv)):(w.setCell ⟨b,1,none⟩ v).heap[b]? = some (lT lv v ins rv):=by
 unfold lT at h ⊢;rw[heap_setCell_same w b 1 _ _ _ h];simp
theorem zBX{w:World}{b:Nat}{lv nv rv:Value}{ins n:Int}(h:w.heap[b]? = some (lT lv nv ins rv)):(w.setCell ⟨b,2,none⟩ (.int .i64 n)).heap[b]? = some (lT lv nv n rv):=by
 unfold lT at h ⊢;rw[heap_setCell_same w b 2 _ _ _ h];simp
theorem zBW{w:World}{b:Nat}{lv nv rv v:Value}{ins:Int}(h:w.heap[b]? = some (lT lv nv ins rv)):(w.setCell ⟨b,3,none⟩ v).heap[b]? = some (lT lv nv ins v):=by
 unfold lT at h ⊢;rw[heap_setCell_same w b 3 _ _ _ h];simp
theorem XR{w w2:World}{b:Nat}{ob:Obj}{row:Option Nat}(hg:(w.drew.alloc ob).grownBy w2 row){x:Obj}(h:w.heap[b]? = some x)(hr:some b≠row):w2.heap[b]? = some x:=by
 have hb:=yD h;rw[hg.block b (by show b<(w.drew.alloc ob).heap.size;simp;omega) hr];exact(Below.heap_alloc w.drew ob b hb).trans h
theorem rK{P:Program}{w:World}{ops:Array Oper}{rest:List Oper}{o:Oper}{a:Act}{Q:Exit->Act->World->Prop}(zGC:o.guard=none)(s x:Operand)(t:TypeId)
 (ho:o.op=.call { callee:=.builtin .append,args := #[s,x],argTypes := #[t,t] })
 (base:Nat) (e:TypeId) (i:TypeInfo) (z:Value) (size bytes:Nat) (ht:P.underlying t=some (.slice e)) (hi:P.info? e=some i) (hz:i.zero=some z)
 (hsize:i.size=size) (hby:i.bytes=bytes) (hzs:z.cells.size=size) (zG9:0<size)
 (v:Value) (n:Nat) (xs:List Value) (hs:a.eval s=v) (zG1:w.ownsRow base e size v n xs)
 (v2:Value) (m:Nat) (news:List Value) (B2:Nat) (hx:a.eval x=v2) (zG3:w.ownsRow B2 e size v2 m news) (h1:∀u∈news,u.oneCell'=true)
 (h63:n+m<=maxLen) (hbytes:(n+m)*bytes<=140737488355328) (hbase:base<=w.heap.size)
 (h:∀v' w',w'.ownsRow base e size v' (n+m) (xs++news)->w.grownBy w' v.ownBlock->wpList P ops Q rest (a.put o.dst v') w'):wpList P ops Q (o::rest) a w:=by
 have hl:=zG3.1;rcases zG3.2 with ⟨k1,k2⟩|⟨g,cap,yP,k1,_,k3,_,_,_,k7⟩
 ·subst k2
  obtain rfl:news=[]:=List.eq_nil_of_length_eq_zero (by rw[hl,Nat.zero_mul]);refine wpList_append_own_none zGC s x t ho base e i size ht hi v n xs hs zG1 (by rw[hx,k1]) ?_;exact h v w (by simpa using zG1) ⟨rfl,rfl,rfl,Nat.le_refl _,fun _ _ _=>rfl⟩
 ·exact wpList_append_own w zGC s x t ho base e i z size bytes ht hi hz hsize hby hzs zG9 v n xs hs zG1 ⟨g,0,none⟩ m cap news (by rw[hx,k1]) hl (fun j u hu=>by rw[aF];exact xQ k3 (n:=m*size) k7 hu) h1 h63 hbytes hbase (fun v' w' h2 h3 _=>h v' w' h2 h3)
theorem zB.toBelow{B R:Nat}{w w':World}(h:zB B R w w')(hR:R<=B):Below R w w':=⟨h.os,h.tape,h.output,h.size,fun k hk=>h.block k (Nat.lt_of_lt_of_le hk hR) (Nat.ne_of_lt hk)⟩
theorem aG.keeps{w w':World}{B R:Nat}{a:Option Addr}{names:List Bs}(h:aG w a names)(hk:zB B R w w')(hB:w.heap.size<=B)(zG8:∀g,a=some ⟨g,0,none⟩->g≠R):aG w' a names :=
 ⟨fun h0=>let ⟨g,e,p⟩:=h.blk h0;⟨g,e,fun j hj=>by rw[hk.cell (p:=⟨g,j,none⟩) (Nat.lt_of_lt_of_le (xG (p j hj)) hB) (zG8 g e)];exact p j hj⟩,h.few⟩
def bF(lab:Bs)(h:Int)(pv sv:Value):Obj:=.cells #[.string ⟨lab.toArray⟩,.int .i64 h,pv,sv] 115 (0,0)
theorem kG.step{t:TypeId}{w8 w9:World}{ob:Obj}{rv v:Value}{B n b:Nat}{ys:List Value}{lv nv:Value}{ins:Int}{a:Option Addr}{xs:List Value}(h:kG w8 t a xs)(h1:t≠115)(h2:t≠119)(zG1:w8.ownsRow B 115 4 rv n ys)(hg:(w8.drew.alloc ob).grownBy w9 rv.ownBlock)(hb:w9.heap[b]? = some (lT lv nv ins rv)):kG (w9.setCell ⟨b,3,none⟩ v) t a xs :=
 ((h.below (Below.drew (Below.refl _ _) |>.alloc (Nat.le_refl _) ob)).grown (zG1.drew.alloc ob) h1 hg).set (by unfold lT at hb;exact hb) h2
theorem Y0.step{w8 w9:World}{ob:Obj}{rv v:Value}{B n b:Nat}{ys:List Value}{lv nv:Value}{ins:Int}{x:RX}(h:Y0 w8 x)(zG1:w8.ownsRow B 115 4 rv n ys)(hg:(w8.drew.alloc ob).grownBy w9 rv.ownBlock)(hb:w9.heap[b]? = some (lT lv nv ins rv)):Y0 (w9.setCell ⟨b,3,none⟩ v) x:=by
 obtain⟨a,c,h1,h2⟩:=h.parts;obtain⟨a',c',h3,h4⟩:=h.steps;exact⟨⟨a,c,h1,h2.step (by decide) (by decide) zG1 hg hb⟩,⟨a',c',h3,h4.step (by decide) (by decide) zG1 hg hb⟩,h.few1,h.few2⟩
theorem Y0.below{w w':World}{x:RX}(h:Y0 w x)(hb:Below w.heap.size w w'):Y0 w' x:=by
 obtain⟨a,c,h1,h2⟩:=h.parts;obtain⟨a',c',h3,h4⟩:=h.steps;exact⟨⟨a,c,h1,h2.below hb⟩,⟨a',c',h3,h4.below hb⟩,h.few1,h.few2⟩
theorem qb(a b:List RX):V6 (a++b)=V6 a++V6 b:=by simp[V6]
theorem ue:(Tryz.prog.info? 115).map (fun i=>(i.zero,i.size,i.bytes))=some (some (.agg #[.string ⟨#[]⟩,.int .i64 0,.slice none 0 0,.slice none 0 0]),4,72):=by kernel_rfl
end Go.Proofs.YtnbpdffdnphbeaaGreatDoor
