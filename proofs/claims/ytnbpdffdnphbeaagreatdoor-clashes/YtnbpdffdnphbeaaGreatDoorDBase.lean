import Derived.Test.YtnbpdffdnphbeaaGreatDoorDCel
import Derived.Test.YtnbpdffdnphbeaaGreatDoorStCheck
import Derived.Laws.AppendOwnNone
set_option maxHeartbeats 4000000
set_option maxRecDepth 100000
namespace Go.Proofs.YtnbpdffdnphbeaaGreatDoor
open Go.RowKit
variable{ins:Int}{xs:List Value}{b B:Nat}{ob:Obj}{t:TypeId}{nv rv lv v:Value}{w' w:World}(names:List Bs)(n:Nat)(ts:zG)(g:Nat)
structure vS where
 kind:Int
 a:Int
 b:Int
 mark:Bs
 n:Int
def mH(s:vS):List Value:=[.int .i64 s.kind,.int .i64 s.a,.int .i64 s.b,.string ⟨s.mark.toArray⟩,.int .i64 s.n]
def kG(l:List vS):List Value:=l.flatMap mH
structure kN where
 a:Int
 n:Int
def gM(s:kN):List Value:=[.int .i64 s.a,.int .i64 s.n]
def jL(l:List kN):List Value:=l.flatMap gM
theorem XZ:(Tryz.prog.info? 275).map (fun i=>(i.zero,i.size,i.bytes))=some (some (.agg #[.int .i64 0,.int .i64 0,.int .i64 0,.string ⟨#[]⟩,.int .i64 0]),5,48):=by kernel_rfl
theorem GH:(Tryz.prog.info? 202).map (fun i=>(i.zero,i.size,i.bytes))=some (some (.agg #[.int .i64 0,.int .i64 0]),2,16):=by kernel_rfl
def iM:Bs:=[104,97,115]
def VV:Bs:=[97,108,119,97,121,115]
def mI(names:List Bs)(ts:zG):vS :=
 if cA ts 0=VV then ⟨0,0,0,[],0⟩
 else if cA ts 0=iM then ⟨1,zH names (tA ts 1),0,[],0⟩
 else if ts.length=3 then (if cA ts 2=yB then ⟨2,zH names (tA ts 0),0,tA ts 1,xD 0 (tA ts 2)⟩ else ⟨3,zH names (tA ts 0),zH names (tA ts 2),tA ts 1,0⟩)
 else ⟨1,zH names (tA ts 0),0,[],0⟩
def vN(names:List Bs):Nat->zG->List vS
 | 0,_=>[]
 | n+1,ts =>
   if 0<=yF ts xW then vN names n (ts.take (yF ts xW).toNat)++vN names n (ts.drop ((yF ts xW).toNat+1))++[⟨6,0,0,[],0⟩]
   else if 0<=yF ts yE then vN names n (ts.take (yF ts yE).toNat)++vN names n (ts.drop ((yF ts yE).toNat+1))++[⟨5,0,0,[],0⟩]
   else if cA ts 0=yY then vN names n (ts.drop 1)++[⟨4,0,0,[],0⟩]
   else if cA ts 0=yQ then vN names n ((ts.drop 1).take (ts.length-2))
   else [mI names ts]
def uL:Nat->zG->Bool
 | 0,_=>false
 | n+1,ts =>
   if 0<=yF ts xW then uL n (ts.take (yF ts xW).toNat)&&uL n (ts.drop ((yF ts xW).toNat+1))
   else if 0<=yF ts yE then uL n (ts.take (yF ts yE).toNat)&&uL n (ts.drop ((yF ts yE).toNat+1))
   else if cA ts 0=yY then decide (0<ts.length)&&uL n (ts.drop 1)
   else if cA ts 0=yQ then decide (2<ts.length)&&uL n ((ts.drop 1).take (ts.length-2))
   else decide (0<ts.length)&&decide (cA ts 0=iM->1<ts.length)
theorem zDR{n:Nat}:∀ {ts:zG},uL n ts=true->qN n ts=true:=by
 induction n with
 | zero=>intro ts h;simp[uL]at h
 | succ n ih =>
   intro ts h;rw[uL]at h;rw[qN];split
   ·rename_i h1;rw[tl h1]at h;simp only[tz]at h ⊢;exact⟨ih h.1,ih h.2⟩
   ·rename_i h1;rw[tg h1]at h
    split
    ·rename_i h2;rw[tl h2]at h;simp only[tz]at h ⊢;exact⟨ih h.1,ih h.2⟩
    ·rename_i h2;rw[tg h2]at h
     split
     ·rename_i h3;rw[tl (show cA ts 0=yY from h3)]at h;simp only[tz]at h ⊢;exact⟨h.1,ih h.2⟩
     ·rename_i h3;rw[tg (show ¬cA ts 0=yY from h3)]at h
      split
      ·rename_i h4;rw[tl (show cA ts 0=yQ from h4)]at h;simp only[tz]at h ⊢;exact⟨h.1,ih h.2⟩
      ·rename_i h4;rw[tg (show ¬cA ts 0=yQ from h4)]at h;simp only[tz]at h;exact h.1
theorem bY{n:Nat}{ts:zG}(h:uL n ts=true):0<ts.length:=nL (zDR h)
theorem nD:∀ts,uL n ts=true->0<(vN names n ts).length/\(vN names n ts).length<=ts.length:=by
 induction n with
 | zero=>intro ts h;simp[uL]at h
 | succ n ih =>
   intro ts h;have hp:=bY h;rw[uL]at h;rw[vN];split
   ·rename_i h1;rw[tl h1,tz]at h
    have hb:=xR ts xW;have a:=ih _ h.1;have b:=ih _ h.2;rw[p9]at a;rw[ty]at b;simp only[tq,pd];omega
   ·rename_i h1;rw[tg h1]at h
    split
    ·rename_i h2;rw[tl h2,tz]at h
     have hb:=xR ts yE;have a:=ih _ h.1;have b:=ih _ h.2;rw[p9]at a;rw[ty]at b;simp only[tq,pd];omega
    ·rename_i h2;rw[tg h2]at h
     split
     ·rename_i h3;rw[tl h3,tz]at h
      have a:=ih _ h.2;rw[ty]at a;simp only[tq,pd];omega
     ·rename_i h3;rw[tg h3]at h
      split
      ·rename_i h4;rw[tl h4,tz]at h
       have a:=ih _ h.2;rw[p9,ty]at a;omega
      ·simp;omega
def eA(w:World)(b:Nat)(names:List Bs):Prop:=∃na nc,w.cell? ⟨b,1,none⟩=some (.slice na names.length nc)/\oS w na names
theorem eA.below{names:List Bs}(h:eA w b names)(hb:Below w.heap.size w w'):eA w' b names:=by
 obtain⟨na,nc,h1,h2⟩:=h;exact⟨na,nc,by rw[hb.cell (p:=⟨b,1,none⟩) (zP h1)];exact h1,h2.keepB hb (t9 _)⟩
theorem eA.lt{names:List Bs}(h:eA w b names):b<w.heap.size:=by
 obtain⟨na,nc,h1,h2⟩:=h;exact zP h1
theorem zE9(w:World)(b:Nat)(names:List Bs)(nm:Bs)(h:eA w b names) :
 Calls Tryz.prog 79 #[.pointer (some ⟨b,0,none⟩),.string ⟨nm.toArray⟩] w fun e w'=>e=.returned (.int .i64 (zH names nm))/\w'=w:=by
 obtain⟨na,nc,hn,hs⟩:=h;have HS:=zA hs;have zII:=hs.few;clear hs
 go_enter Tryz.func79,Tryz.ntmps79
 go_wp2_with fail
 go_loop [5] (fun iv=>∃(i:Nat),i<=names.length/\iv=.int .i64 i/\Hid (uB nm (names.drop i) i=zH names nm)) (fun iv=>names.length-(intOf iv).toNat)
 case atStart=>exact⟨0,tr _,rfl,zA rfl⟩
 case round =>
  obtain⟨i,hi,rfl,HE⟩:=hrel;by_cases zI6:i<names.length
  ·obtain⟨g,rfl,hcs⟩:=HS.out.blk (by omega)
   have hc:=hcs i zI6;have hE:=HE.out;rw[oL nm names i zI6]at hE;have HE2:=zA hE;clear HE hE hcs;generalize names.getD i []=s at *;by_cases k1:s=nm
   ·have HE3:Hid (zH names nm=i):=by have:=HE2.out;rw[tl k1]at this;exact this.symm
    have b1:(s==nm)=true:=by simpa using k1
    clear HE2 k1;go_wp2_with fail
    go_ret
    exact⟨zY HE3.out.symm,rfl⟩
   ·have HE3:Hid (uB nm (names.drop (i+1)) (i+1)=zH names nm):=by have:=HE2.out;rw[tg k1]at this;exact this
    have b1:(s==nm)=false:=by simpa using k1
    clear HE2 k1;go_wp2_with fail
    go_round
    case rel=>exact⟨i+1,by omega,by go_num,HE3⟩
    case measure=>simp[intOf];omega
  ·have HE3:Hid (zH names nm = -1):=by have:=HE.out;rw[tu (by omega)]at this;exact this.symm
   clear HE;go_wp2_with fail
   go_ret
   exact⟨zY HE3.out.symm,rfl⟩
def Z5(n:Nat):Prop:=∀(ts:zG) (g o cap:Nat) (w:World) (b:Nat) (names:List Bs),kL w g o ts->ts.length<=10000->ts.length<=cap->cap<=maxLen->uL n ts=true->eA w b names ->
    Calls Tryz.prog 81 #[.pointer (some ⟨b,0,none⟩),.slice (some ⟨g,o,none⟩) ts.length cap] w fun e w'=>∃v,e=.returned v/\w'.ownsRow w.heap.size 275 5 v (vN names n ts).length (kG (vN names n ts))/\Below w.heap.size w w'
theorem dY(a b:List vS):kG (a++b)=kG a++kG b:=by simp[kG]
theorem Xt(l:List vS):(kG l).length=l.length*5:=Qe mH 5 (fun _=>rfl) l
theorem Xs(l:List vS):∀u∈kG l,u.oneCell'=true:=by
 intro u hu;obtain⟨s,_,h⟩:=List.mem_flatMap.1 hu;simp[mH]at h;rcases h with rfl|rfl|rfl|rfl|rfl <;> rfl
theorem Qv(j:Nat):(⟨g,0,none⟩:Addr).add j=⟨g,j,none⟩:=by simp[Addr.add];omega
theorem oC{k n:Nat}(h:w.ownsRow B t k v n xs)(hn:0<n):∃g c,v=.slice (some ⟨g,0,none⟩) n c/\∀j u,xs[j]? = some u->w.cell? ((⟨g,0,none⟩:Addr).add j)=some u:=by
 rcases h.2 with ⟨_,h2⟩|⟨g,cap,yW,h1,_,h3,_,_,_,h7⟩
 ·omega
 ·exact⟨g,cap,h1,fun j u hu=>by rw[Qv];exact xB h3 (n:=n*k) h7 hu⟩
theorem X6(w:World)(B H:Nat)(hH:w.heap.size=H)(hB:B<=H)(s:vS):(w.alloc (.cells (mH s).toArray 275)).ownsRow B 275 5 (.slice (some ⟨H,0,none⟩) 1 1) 1 (kG [s]):=by
 subst hH;exact⟨rfl,.inr ⟨w.heap.size,1,_,rfl,hB,zM _ _,t9 _,by unfold maxLen;omega,rfl,rfl⟩⟩
theorem D5(w:World)(B:Nat)(hB:B<=w.heap.size)(s:vS):(w.alloc (.cells (mH s).toArray 275)).ownsRow B 275 5 (.slice (some ⟨w.heap.size,0,none⟩) 1 1) 1 (kG [s]) :=
 ⟨rfl,.inr ⟨w.heap.size,1,_,rfl,hB,zM _ _,t9 _,by unfold maxLen;omega,rfl,rfl⟩⟩
theorem zFW(ih:Z5 n)(ts:zG)(g o cap:Nat)(w:World)(b:Nat)(names:List Bs)(hs:kL w g o ts)(zIJ:ts.length<=10000)(hc:ts.length<=cap)(hm:cap<=maxLen)(hg:uL (n+1) ts=true)(hN:eA w b names)(ho:0<=yF ts xW) :
 Calls Tryz.prog 81 #[.pointer (some ⟨b,0,none⟩),.slice (some ⟨g,o,none⟩) ts.length cap] w fun e w'=>∃v,e=.returned v/\w'.ownsRow w.heap.size 275 5 v (vN names (n+1) ts).length (kG (vN names (n+1) ts))/\Below w.heap.size w w':=by
 obtain⟨i0,hi0,hz0,hz1,hz2⟩:=dp XZ;obtain⟨k,hk⟩:=bq ho;have hb:=xR ts xW
 skip
 rw[uL,tl ho,hk,Int.toNat_natCast,tz]at hg;have hd:=bY hg.2;rw[ty]at hd;have lA:=nD names n _ hg.1;have lB:=nD names n _ hg.2;have HA:=ih (ts.take k) g o cap w b names (hs.take k) (by rw[p9];omega) (by rw[p9];omega) hm hg.1 hN;have HB:=zA (fun w' (hb:Below w.heap.size w w')=>ih (ts.drop (k+1)) g (o+(k+1)*3) (cap-(k+1)) w' b names ((hs.drop (k+1)).below' hb) (by rw[ty];omega) (by rw[ty];omega) (by omega) hg.2 (hN.below hb))
 have HR:Hid (vN names (n+1) ts=vN names n (ts.take k)++vN names n (ts.drop (k+1))++[⟨6,0,0,[],0⟩]):=by
  unfold Hid;rw[vN,tl ho,hk,Int.toNat_natCast]
 rw[p9,da (by omega)]at HA lA;rw[ty]at HB lB;generalize vN names n (ts.take k)=a at *;generalize vN names n (ts.drop (k+1))=c at *;have HA':=sJ HA;have HO:Hid (yF ts xW=k):=hk;have hk2:k+1<ts.length:=by omega
 have HS:Hid (kL w g o ts):=hs;clear HA hg hs hb hk ho ih hd hN;generalize vN names (n+1) ts=ans at *
 go_enter Tryz.func81,Tryz.ntmps81
 go_wp2_with fail
 refine(yN ts xW g o cap _ HS.out (by omega) hc).mono ?_;rintro e w' ⟨rfl,hw⟩;obtain rfl:=hw.symm;rw[HO.out];go_wp2_with fail
 refine HA'.out.mono ?_;rintro e w1 ⟨v1,rfl,zI9,hb1⟩;have HB1:=zA hb1;have HO1:=zA zI9;clear hb1 zI9;go_wp2_with fail
 refine(HB.out w1 HB1.out).mono ?_;rintro e w2 ⟨v2,rfl,zIB,hb2⟩;obtain⟨g2,c2,rfl,hsrc⟩:=oC zIB lB.1;have HSrc:=zA hsrc;have HO2:=zA (kI HO1.out hb2);have HB2:Hid (Below w.heap.size w w2):=HB1.out.trans (hb2.mono HB1.out.size);have hs2:w.heap.size<=w2.heap.size:=HB2.out.size;clear hb2 zIB hsrc HO1 HB1 HB HA'
 go_wp2_with (at_builtin;refine wpList_append_own _ rfl _ _ 113 rfl w.heap.size 275 i0 _ 5 48 Tryz.underlying113 hi0 hz0 hz1 hz2 rfl (by decide) _ _ _ rfl HO2.out ⟨g2,0,none⟩ c.length c2 (kG c) rfl (Xt c) ?c1 ?c2 ?c3 ?c4 ?c5 ?_)
 case c1=>exact HSrc.out
 case c2=>exact Xs c
 case c3=>unfold maxLen;omega
 case c4=>omega
 case c5=>exact hs2
 intro v3 w3 zID hgrow3 _;have HB3:Hid (Below w.heap.size w w3):=HB2.out.grown hgrow3 hs2 (zN HO2.out);have HO3:=zA zID;have hs3:w.heap.size<=w3.heap.size:=HB3.out.size;obtain⟨oa3,oc3,rfl⟩:=yH zID;clear zID hgrow3 HO2 HB2 HSrc
 go_wp2_with (at_builtin;refine wpList_append_own _ rfl _ _ 113 rfl w.heap.size 275 i0 _ 5 48 Tryz.underlying113 hi0 hz0 hz1 hz2 rfl (by decide) _ _ _ rfl (HO3.out.alloc _) ⟨w3.heap.size,0,none⟩ 1 1 (mH ⟨6,0,0,[],0⟩) rfl rfl ?c1 ?c2 ?c3 ?c4 ?c5 ?_)
 case c1=>exact zZ _ _ _ _ rfl
 case c2=>intro u hu;simp[mH]at hu;rcases hu with rfl|rfl|rfl|rfl|rfl <;> rfl
 case c3=>unfold maxLen;omega
 case c4=>omega
 case c5=>simp;omega
 intro v4 w4 zIX hgrow4 _;have HB4:Hid (Below w.heap.size w w4):=(HB3.out.alloc hs3 _).grown hgrow4 (by simp;omega) (zN HO3.out)
 have HO4:Hid (w4.ownsRow w.heap.size 275 5 v4 ans.length (kG ans)):=by
  unfold Hid;rw[HR.out,dY,dY,tq,tq,mn];exact zIX
 clear zIX hgrow4 HO3 HB3;go_wp2_with fail
 go_ret
 exact⟨_,rfl,HO4.out,HB4.out⟩
theorem zCP(ih:Z5 n)(ts:zG)(g o cap:Nat)(w:World)(b:Nat)(names:List Bs)(hs:kL w g o ts)(zIJ:ts.length<=10000)(hc:ts.length<=cap)(hm:cap<=maxLen)(hg:uL (n+1) ts=true)(hN:eA w b names)(hor:¬ 0<=yF ts xW)(ho:0<=yF ts yE) :
 Calls Tryz.prog 81 #[.pointer (some ⟨b,0,none⟩),.slice (some ⟨g,o,none⟩) ts.length cap] w fun e w'=>∃v,e=.returned v/\w'.ownsRow w.heap.size 275 5 v (vN names (n+1) ts).length (kG (vN names (n+1) ts))/\Below w.heap.size w w':=by
 obtain⟨i0,hi0,hz0,hz1,hz2⟩:=dp XZ;obtain⟨k,hk⟩:=bq ho;have hb:=xR ts yE;have hbo:=xR ts xW;have HO1:Hid (yF ts xW = -1):=by unfold Hid;omega
 rw[uL,tg hor,tl ho,hk,Int.toNat_natCast,tz]at hg;have hd:=bY hg.2;rw[ty]at hd;have lA:=nD names n _ hg.1;have lB:=nD names n _ hg.2;have HA:=ih (ts.take k) g o cap w b names (hs.take k) (by rw[p9];omega) (by rw[p9];omega) hm hg.1 hN;have HB:=zA (fun w' (hb:Below w.heap.size w w')=>ih (ts.drop (k+1)) g (o+(k+1)*3) (cap-(k+1)) w' b names ((hs.drop (k+1)).below' hb) (by rw[ty];omega) (by rw[ty];omega) (by omega) hg.2 (hN.below hb))
 have HR:Hid (vN names (n+1) ts=vN names n (ts.take k)++vN names n (ts.drop (k+1))++[⟨5,0,0,[],0⟩]):=by
  unfold Hid;rw[vN,tg hor,tl ho,hk,Int.toNat_natCast]
 rw[p9,da (by omega)]at HA lA;rw[ty]at HB lB;generalize vN names n (ts.take k)=a at *;generalize vN names n (ts.drop (k+1))=c at *;have HA':=sJ HA;have HO:Hid (yF ts yE=k):=hk;have hk2:k+1<ts.length:=by omega
 have HS:Hid (kL w g o ts):=hs;clear HA hg hs hb hk ho ih hd hN hbo hor;generalize vN names (n+1) ts=ans at *
 go_enter Tryz.func81,Tryz.ntmps81
 go_wp2_with fail
 refine(yN ts xW g o cap _ HS.out (by omega) hc).mono ?_;rintro e w' ⟨rfl,hw⟩;obtain rfl:=hw.symm;rw[HO1.out];go_wp2_with fail
 refine(yN ts yE g o cap _ HS.out (by omega) hc).mono ?_;rintro e w' ⟨rfl,hw⟩;obtain rfl:=hw.symm;rw[HO.out];go_wp2_with fail
 refine HA'.out.mono ?_;rintro e w1 ⟨v1,rfl,zI9,hb1⟩;have HB1:=zA hb1;have HO1:=zA zI9;clear hb1 zI9;go_wp2_with fail
 refine(HB.out w1 HB1.out).mono ?_;rintro e w2 ⟨v2,rfl,zIB,hb2⟩;obtain⟨g2,c2,rfl,hsrc⟩:=oC zIB lB.1;have HSrc:=zA hsrc;have HO2:=zA (kI HO1.out hb2);have HB2:Hid (Below w.heap.size w w2):=HB1.out.trans (hb2.mono HB1.out.size);have hs2:w.heap.size<=w2.heap.size:=HB2.out.size;clear hb2 zIB hsrc HO1 HB1 HB HA'
 go_wp2_with (at_builtin;refine wpList_append_own _ rfl _ _ 113 rfl w.heap.size 275 i0 _ 5 48 Tryz.underlying113 hi0 hz0 hz1 hz2 rfl (by decide) _ _ _ rfl HO2.out ⟨g2,0,none⟩ c.length c2 (kG c) rfl (Xt c) ?c1 ?c2 ?c3 ?c4 ?c5 ?_)
 case c1=>exact HSrc.out
 case c2=>exact Xs c
 case c3=>unfold maxLen;omega
 case c4=>omega
 case c5=>exact hs2
 intro v3 w3 zID hgrow3 _;have HB3:Hid (Below w.heap.size w w3):=HB2.out.grown hgrow3 hs2 (zN HO2.out);have HO3:=zA zID;have hs3:w.heap.size<=w3.heap.size:=HB3.out.size;obtain⟨oa3,oc3,rfl⟩:=yH zID;clear zID hgrow3 HO2 HB2 HSrc
 go_wp2_with (at_builtin;refine wpList_append_own _ rfl _ _ 113 rfl w.heap.size 275 i0 _ 5 48 Tryz.underlying113 hi0 hz0 hz1 hz2 rfl (by decide) _ _ _ rfl (HO3.out.alloc _) ⟨w3.heap.size,0,none⟩ 1 1 (mH ⟨5,0,0,[],0⟩) rfl rfl ?c1 ?c2 ?c3 ?c4 ?c5 ?_)
 case c1=>exact zZ _ _ _ _ rfl
 case c2=>intro u hu;simp[mH]at hu;rcases hu with rfl|rfl|rfl|rfl|rfl <;> rfl
 case c3=>unfold maxLen;omega
 case c4=>omega
 case c5=>simp;omega
 intro v4 w4 zIX hgrow4 _;have HB4:Hid (Below w.heap.size w w4):=(HB3.out.alloc hs3 _).grown hgrow4 (by simp;omega) (zN HO3.out)
 have HO4:Hid (w4.ownsRow w.heap.size 275 5 v4 ans.length (kG ans)):=by
  unfold Hid;rw[HR.out,dY,dY,tq,tq,mn];exact zIX
 clear zIX hgrow4 HO3 HB3;go_wp2_with fail
 go_ret
 exact⟨_,rfl,HO4.out,HB4.out⟩
theorem zCN(ih:Z5 n)(ts:zG)(g o cap:Nat)(w:World)(b:Nat)(names:List Bs)(hs:kL w g o ts)(zIJ:ts.length<=10000)(hc:ts.length<=cap)(hm:cap<=maxLen)(hg:uL (n+1) ts=true)(hN:eA w b names)(hor:¬ 0<=yF ts xW)(zJ9:¬ 0<=yF ts yE)(zJ4:cA ts 0=yY) :
 Calls Tryz.prog 81 #[.pointer (some ⟨b,0,none⟩),.slice (some ⟨g,o,none⟩) ts.length cap] w fun e w'=>∃v,e=.returned v/\w'.ownsRow w.heap.size 275 5 v (vN names (n+1) ts).length (kG (vN names (n+1) ts))/\Below w.heap.size w w':=by
 obtain⟨i0,hi0,hz0,hz1,hz2⟩:=dp XZ;have hbo:=xR ts xW;have hba:=xR ts yE;have HO1:Hid (yF ts xW = -1):=by unfold Hid;omega
 have HO2:Hid (yF ts yE = -1):=by unfold Hid;omega
 have hpos:=bY hg;rw[uL,tg hor,tg zJ9,tl zJ4,tz]at hg;have hd:=bY hg.2;rw[ty]at hd;have lA:=nD names n _ hg.2;have HA:=ih (ts.drop 1) g (o+1*3) (cap-1) w b names (hs.drop 1) (by rw[ty];omega) (by rw[ty];omega) (by omega) hg.2 hN
 have HR:Hid (vN names (n+1) ts=vN names n (ts.drop 1)++[⟨4,0,0,[],0⟩]):=by
  unfold Hid;rw[vN,tg hor,tg zJ9,tl zJ4]
 rw[ty]at HA lA;generalize vN names n (ts.drop 1)=a at *;have HA':=sJ HA;have hc2:w.cell? ⟨g,o+0*3+2,none⟩=some (.string ⟨(cA ts 0).toArray⟩):=(hs.tok hpos).2;rw[zJ4]at hc2;simp only[my,pq,yY]at hc2;have hk2:1<ts.length:=by omega
 have HS:Hid (kL w g o ts):=hs;clear HA hg hs hbo hba ih hd hor zJ9 zJ4 hN;generalize vN names (n+1) ts=ans at *
 go_enter Tryz.func81,Tryz.ntmps81
 go_wp2_with fail
 refine(yN ts xW g o cap _ HS.out (by omega) hc).mono ?_;rintro e w' ⟨rfl,hw⟩;obtain rfl:=hw.symm;rw[HO1.out];go_wp2_with fail
 refine(yN ts yE g o cap _ HS.out (by omega) hc).mono ?_;rintro e w' ⟨rfl,hw⟩;obtain rfl:=hw.symm;rw[HO2.out];go_wp2_with fail
 refine HA'.out.mono ?_;rintro e w3 ⟨v3,rfl,zID,hb3⟩;have HB3:=zA hb3;have HO3:=zA zID;have hs3:=hb3.size;obtain⟨oa3,oc3,rfl⟩:=yH zID;clear hb3 zID HA'
 go_wp2_with (at_builtin;refine wpList_append_own _ rfl _ _ 113 rfl w.heap.size 275 i0 _ 5 48 Tryz.underlying113 hi0 hz0 hz1 hz2 rfl (by decide) _ _ _ rfl (HO3.out.alloc _) ⟨w3.heap.size,0,none⟩ 1 1 (mH ⟨4,0,0,[],0⟩) rfl rfl ?c1 ?c2 ?c3 ?c4 ?c5 ?_)
 case c1=>exact zZ _ _ _ _ rfl
 case c2=>intro u hu;simp[mH]at hu;rcases hu with rfl|rfl|rfl|rfl|rfl <;> rfl
 case c3=>unfold maxLen;omega
 case c4=>omega
 case c5=>simp;omega
 intro v4 w4 zIX hgrow4 _;have HB4:Hid (Below w.heap.size w w4):=(HB3.out.alloc hs3 _).grown hgrow4 (by simp;omega) (zN HO3.out)
 have HO4:Hid (w4.ownsRow w.heap.size 275 5 v4 ans.length (kG ans)):=by
  unfold Hid;rw[HR.out,dY,tq];exact zIX
 clear zIX hgrow4 HO3 HB3;go_wp2_with fail
 go_ret
 exact⟨_,rfl,HO4.out,HB4.out⟩
theorem ql(ih:Z5 n)(ts:zG)(g o cap:Nat)(w:World)(b:Nat)(names:List Bs)(hs:kL w g o ts)(zIJ:ts.length<=10000)(hc:ts.length<=cap)(hm:cap<=maxLen)(hg:uL (n+1) ts=true)(hN:eA w b names)(hor:¬ 0<=yF ts xW)(zJ9:¬ 0<=yF ts yE)(zJ4:¬cA ts 0=yY)(zJ3:cA ts 0=yQ) :
 Calls Tryz.prog 81 #[.pointer (some ⟨b,0,none⟩),.slice (some ⟨g,o,none⟩) ts.length cap] w fun e w'=>∃v,e=.returned v/\w'.ownsRow w.heap.size 275 5 v (vN names (n+1) ts).length (kG (vN names (n+1) ts))/\Below w.heap.size w w':=by
 have hbo:=xR ts xW;have hba:=xR ts yE;have HO1:Hid (yF ts xW = -1):=by unfold Hid;omega
 have HO2:Hid (yF ts yE = -1):=by unfold Hid;omega
 have hpos:=bY hg;rw[uL,tg hor,tg zJ9,tg zJ4,tl zJ3,tz]at hg;have h0:2<ts.length:=by simpa using hg.1
 have hl2:((ts.drop 1).take (ts.length-2)).length=ts.length-2:=by rw[p9,ty];omega
 have HA:=ih ((ts.drop 1).take (ts.length-2)) g (o+1*3) (cap-1) w b names ((hs.drop 1).take _) (by rw[hl2];omega) (by rw[hl2];omega) (by omega) hg.2 hN
 have HR:Hid (vN names (n+1) ts=vN names n ((ts.drop 1).take (ts.length-2))):=by
  unfold Hid;rw[vN,tg hor,tg zJ9,tg zJ4,tl zJ3]
 rw[hl2]at HA;generalize vN names n ((ts.drop 1).take (ts.length-2))=a at *;have HA':=sJ HA;have hc2:w.cell? ⟨g,o+0*3+2,none⟩=some (.string ⟨(cA ts 0).toArray⟩):=(hs.tok hpos).2;rw[zJ3]at hc2;simp only[my,pq,yQ]at hc2;have HS:Hid (kL w g o ts):=hs;clear HA hg hs hbo hba ih hor zJ9 zJ4 zJ3 hl2 hN;generalize vN names (n+1) ts=ans at *
 go_enter Tryz.func81,Tryz.ntmps81
 go_wp2_with fail
 refine(yN ts xW g o cap _ HS.out (by omega) hc).mono ?_;rintro e w' ⟨rfl,hw⟩;obtain rfl:=hw.symm;rw[HO1.out];go_wp2_with fail
 refine(yN ts yE g o cap _ HS.out (by omega) hc).mono ?_;rintro e w' ⟨rfl,hw⟩;obtain rfl:=hw.symm;rw[HO2.out];go_wp2_with fail
 refine HA'.out.mono ?_;rintro e w3 ⟨v3,rfl,zID,hb3⟩;have HB3:=zA hb3;have HO3:=zA zID;clear hb3 zID HA';go_wp2_with fail
 go_ret
 exact⟨_,rfl,by rw[HR.out];exact HO3.out,HB3.out⟩
theorem qm(o cap:Nat)(w:World)(b:Nat)(names:List Bs)(hs:kL w g o ts)(zIJ:ts.length<=10000)(hc:ts.length<=cap)(hg:uL (n+1) ts=true)(hN:eA w b names)(hor:¬ 0<=yF ts xW)(zJ9:¬ 0<=yF ts yE)(zJ4:¬cA ts 0=yY)(zJ3:¬cA ts 0=yQ) :
 Calls Tryz.prog 81 #[.pointer (some ⟨b,0,none⟩),.slice (some ⟨g,o,none⟩) ts.length cap] w fun e w'=>∃v,e=.returned v/\w'.ownsRow w.heap.size 275 5 v (vN names (n+1) ts).length (kG (vN names (n+1) ts))/\Below w.heap.size w w':=by
 have hbo:=xR ts xW;have hba:=xR ts yE;have HO1:Hid (yF ts xW = -1):=by unfold Hid;omega
 have HO2:Hid (yF ts yE = -1):=by unfold Hid;omega
 have hpos:=bY hg;rw[uL,tg hor,tg zJ9,tg zJ4,tg zJ3,tz]at hg;have hh:cA ts 0=iM->1<ts.length:=bg hg.2
 have HR:Hid (vN names (n+1) ts=[mI names ts]):=by
  unfold Hid;rw[vN,tg hor,tg zJ9,tg zJ4,tg zJ3]
 have HAt:=zA (fun nm=>zE9 w b names nm hN);have HNm:=zA hN;have hc2:w.cell? ⟨g,o+0*3+2,none⟩=some (.string ⟨(cA ts 0).toArray⟩):=(hs.tok hpos).2;have hc0:w.cell? ⟨g,o+0*3,none⟩=some (.string ⟨(tA ts 0).toArray⟩):=(hs.tok hpos).1;simp only[my,pq]at hc2 hc0;have HS:Hid (kL w g o ts):=hs;have b1:(cA ts 0==[110,111,116])=false:=by simpa[yY] using zJ4
 have b2:(cA ts 0==[40])=false:=by simpa[yQ] using zJ3
 clear hg hs hbo hba hor zJ9 zJ4 zJ3 hN;generalize vN names (n+1) ts=ans at *;by_cases k1:cA ts 0=VV
 ·have HR2:Hid (mI names ts=⟨0,0,0,[],0⟩):=by unfold Hid mI;rw[tl k1]
  rw[k1]at hc2;simp only[VV]at hc2;clear k1 b1 b2 hh hc0;generalize mI names ts=st at *
  go_enter Tryz.func81,Tryz.ntmps81
  go_wp2_with fail
  refine(yN ts xW g o cap _ HS.out (by omega) hc).mono ?_;rintro e w' ⟨rfl,hw⟩;obtain rfl:=hw.symm;rw[HO1.out];go_wp2_with fail
  refine(yN ts yE g o cap _ HS.out (by omega) hc).mono ?_;rintro e w' ⟨rfl,hw⟩;obtain rfl:=hw.symm;rw[HO2.out];go_wp2_with fail
  go_ret
  exact⟨_,rfl,by rw[HR.out,HR2.out];exact D5 w _ (t9 _) _,ge (t9 _) _⟩
 by_cases k2:cA ts 0=iM
 ·have h2:=hh k2
  have HR2:Hid (mI names ts=⟨1,zH names (tA ts 1),0,[],0⟩):=by unfold Hid mI;rw[tg k1,tl k2]
  have hc3:w.cell? ⟨g,o+1*3,none⟩=some (.string ⟨(tA ts 1).toArray⟩):=(HS.out.tok h2).1;simp only[du]at hc3;rw[k2]at hc2;simp only[iM]at hc2;clear k1 k2 b1 b2 hh hc0;generalize mI names ts=st at *;generalize tA ts 1=nm at *;have HA1:=zA (HAt.out nm);clear HAt;generalize zH names nm=f at *
  go_enter Tryz.func81,Tryz.ntmps81
  go_wp2_with fail
  refine(yN ts xW g o cap _ HS.out (by omega) hc).mono ?_;rintro e w' ⟨rfl,hw⟩;obtain rfl:=hw.symm;rw[HO1.out];go_wp2_with fail
  refine(yN ts yE g o cap _ HS.out (by omega) hc).mono ?_;rintro e w' ⟨rfl,hw⟩;obtain rfl:=hw.symm;rw[HO2.out];go_wp2_with fail
  refine HA1.out.mono ?_;rintro e w' ⟨rfl,hw⟩;obtain rfl:=hw.symm;go_wp2_with fail
  go_ret
  exact⟨_,rfl,by rw[HR.out,HR2.out];exact D5 w _ (t9 _) _,ge (t9 _) _⟩
 have b3:(cA ts 0==[97,108,119,97,121,115])=false:=by simpa[VV] using k1
 have b4:(cA ts 0==[104,97,115])=false:=by simpa[iM] using k2
 have hgl:g<w.heap.size:=zP hc0;have n0:w.heap.size≠g:=by omega
 by_cases k3:ts.length=3
 ·have hc3:w.cell? ⟨g,o+1*3,none⟩=some (.string ⟨(tA ts 1).toArray⟩):=(HS.out.tok (show 1<ts.length by omega)).1
  have hc4:w.cell? ⟨g,o+2*3,none⟩=some (.string ⟨(tA ts 2).toArray⟩):=(HS.out.tok (show 2<ts.length by omega)).1;have hc5:w.cell? ⟨g,o+2*3+2,none⟩=some (.string ⟨(cA ts 2).toArray⟩):=(HS.out.tok (show 2<ts.length by omega)).2;simp only[du]at hc3;rw[show 2*3=6 from rfl]at hc4 hc5;by_cases k4:cA ts 2=yB
  ·have HR2:Hid (mI names ts=⟨2,zH names (tA ts 0),0,tA ts 1,xD 0 (tA ts 2)⟩):=by unfold Hid mI;rw[tg k1,tg k2,tl k3,tl k4]
   have HNu:=zA (fun w=>bR (tA ts 2) w (pE k4));have b5:((ts.length:Int)==3)=true:=by simpa using (by omega:(ts.length:Int)=3)
   have h2l:2<ts.length:=by omega
   rw[k4]at hc5;simp only[yB]at hc5;clear k1 k2 k4 hh k3;generalize mI names ts=st at *;generalize tA ts 1=mk at *;generalize tA ts 2=nu at *;generalize tA ts 0=nm at *;generalize cA ts 0=cl at *;have HA1:=zA (HAt.out nm);clear HAt;generalize zH names nm=f at *;generalize xD 0 nu=nv at *
   go_enter Tryz.func81,Tryz.ntmps81
   go_wp2_with fail
   refine(yN ts xW g o cap _ HS.out (by omega) hc).mono ?_;rintro e w' ⟨rfl,hw⟩;obtain rfl:=hw.symm;rw[HO1.out];go_wp2_with fail
   refine(yN ts yE g o cap _ HS.out (by omega) hc).mono ?_;rintro e w' ⟨rfl,hw⟩;obtain rfl:=hw.symm;rw[HO2.out];go_wp2_with fail
   refine HA1.out.mono ?_;rintro e w' ⟨rfl,hw⟩;obtain rfl:=hw.symm;go_wp2_with fail
   refine(HNu.out _).mono ?_;rintro e w' ⟨rfl,hw⟩;obtain rfl:=hw.symm;go_wp2_with fail
   go_ret
   exact⟨_,rfl,by rw[HR.out,HR2.out];exact X6 _ _ _ (by simp) (bm _) _,(ge (t9 _) _).alloc (by simp) _⟩
  ·have HR2:Hid (mI names ts=⟨3,zH names (tA ts 0),zH names (tA ts 2),tA ts 1,0⟩):=by unfold Hid mI;rw[tg k1,tg k2,tl k3,tg k4]
   have b5:((ts.length:Int)==3)=true:=by simpa using (by omega:(ts.length:Int)=3)
   have b6:(cA ts 2==[78,85,77,66,69,82])=false:=by simpa[yB] using k4
   have h2l:2<ts.length:=by omega
   have HAt2:Hid (∀o':Obj,Calls Tryz.prog 79 #[.pointer (some ⟨b,0,none⟩),.string ⟨(tA ts 2).toArray⟩] (w.alloc o') fun e w'=>e=.returned (.int .i64 (zH names (tA ts 2)))/\w'=w.alloc o'):=fun o'=>zE9 _ b names _ (HNm.out.below (ge (t9 _) o'));clear k1 k2 k4 hh k3;generalize mI names ts=st at *;have HA1:=zA (HAt.out (tA ts 0));clear HAt HNm;generalize tA ts 1=mk at *;generalize tA ts 2=nu at *;generalize tA ts 0=nm at *;generalize cA ts 0=cl at *;generalize cA ts 2=cm at *;generalize zH names nm=f at *;generalize zH names nu=f2 at *
   go_enter Tryz.func81,Tryz.ntmps81
   go_wp2_with fail
   refine(yN ts xW g o cap _ HS.out (by omega) hc).mono ?_;rintro e w' ⟨rfl,hw⟩;obtain rfl:=hw.symm;rw[HO1.out];go_wp2_with fail
   refine(yN ts yE g o cap _ HS.out (by omega) hc).mono ?_;rintro e w' ⟨rfl,hw⟩;obtain rfl:=hw.symm;rw[HO2.out];go_wp2_with fail
   refine HA1.out.mono ?_;rintro e w' ⟨rfl,hw⟩;obtain rfl:=hw.symm;go_wp2_with fail
   refine(HAt2.out _).mono ?_;rintro e w' ⟨rfl,hw⟩;obtain rfl:=hw.symm;go_wp2_with fail
   go_ret
   exact⟨_,rfl,by rw[HR.out,HR2.out];exact X6 _ _ _ (by simp) (bm _) _,(ge (t9 _) _).alloc (by simp) _⟩
 ·have HR2:Hid (mI names ts=⟨1,zH names (tA ts 0),0,[],0⟩):=by unfold Hid mI;rw[tg k1,tg k2,tg k3]
  have b5:((ts.length:Int)==3)=false:=by simpa using (by omega:¬(ts.length:Int)=3)
  clear k1 k2 hh k3;generalize mI names ts=st at *;have HA1:=zA (HAt.out (tA ts 0));clear HAt HNm;generalize tA ts 0=nm at *;generalize cA ts 0=cl at *;generalize zH names nm=f at *
  go_enter Tryz.func81,Tryz.ntmps81
  go_wp2_with fail
  refine(yN ts xW g o cap _ HS.out (by omega) hc).mono ?_;rintro e w' ⟨rfl,hw⟩;obtain rfl:=hw.symm;rw[HO1.out];go_wp2_with fail
  refine(yN ts yE g o cap _ HS.out (by omega) hc).mono ?_;rintro e w' ⟨rfl,hw⟩;obtain rfl:=hw.symm;rw[HO2.out];go_wp2_with fail
  refine HA1.out.mono ?_;rintro e w' ⟨rfl,hw⟩;obtain rfl:=hw.symm;go_wp2_with fail
  go_ret
  exact⟨_,rfl,by rw[HR.out,HR2.out];exact X6 _ _ _ (by simp) (bm _) _,(ge (t9 _) _).alloc (by simp) _⟩
theorem zCO:Z5 n:=by
 induction n with
 | zero=>intro ts g o cap w b names _ _ _ _ hg;simp[uL]at hg
 | succ n ih =>
   intro ts g o cap w b names hs zIJ hc hm hg hN;by_cases ho:0<=yF ts xW
   ·exact zFW n ih ts g o cap w b names hs zIJ hc hm hg hN ho
   by_cases ha:0<=yF ts yE
   ·exact zCP n ih ts g o cap w b names hs zIJ hc hm hg hN ho ha
   by_cases h1:cA ts 0=yY
   ·exact zCN n ih ts g o cap w b names hs zIJ hc hm hg hN ho ha h1
   by_cases h2:cA ts 0=yQ
   ·exact ql n ih ts g o cap w b names hs zIJ hc hm hg hN ho ha h1 h2
   ·exact qm n ts g o cap w b names hs zIJ hc hg hN ho ha h1 h2
theorem dM{k n g c:Nat}(h:w.ownsRow B t k (.slice (some ⟨g,0,none⟩) n c) n xs)(hn:0<n){j:Nat}(hj:j<n*k)(u:Value) :
 (w.setCell ⟨g,j,none⟩ u).ownsRow B t k (.slice (some ⟨g,0,none⟩) n c) n (xs.set j u)/\w.frozen? ⟨g,j,none⟩=false/\w.cell? ⟨g,j,none⟩=xs[j]? /\ B<=g/\g<w.heap.size:=by
 have hl:=h.1;rcases h.2 with ⟨_,h2⟩|⟨g',cap,yW,h1,hB,h3,h4,h5,h6,h7⟩
 ·omega
 ·obtain⟨rfl,rfl⟩:g=g'/\c=cap:=by simpa using h1
  refine⟨⟨by rw[List.length_set];exact hl,.inr ⟨g,c,yW.setIfInBounds j u,rfl,hB,?_,h4,h5,by simpa using h6,?_⟩⟩,by simp[World.frozen?,h3],?_,hB,yK h3⟩
  ·rw[setCell_eq_setRow w g j _ _ _ _ h3,ly w g yW _ _ _ h3]
  ·rw[<-h7]
   apply List.ext_getElem?
   intro i;rw[bv,List.getElem?_set,p9,Array.toList_setIfInBounds,List.getElem?_set];by_cases e:j=i
   ·subst e
    rw[tl hj,tl rfl,tl rfl];simp only[Array.length_toList];split
    ·rw[tl (by omega)]
    ·rename_i hx
     rw[h6]at hx;have:n*k<=c*k:=Nat.mul_le_mul_right k h4;omega
   ·rw[tg e,tg e,bv]
  ·rw[zD h3 j,<-h7,bv,tl hj,Array.getElem?_toList]
def uF(names:List Bs)(ts:zG)(i:Nat)(sg:Int)(acc:List kN):Int × List kN :=
 if cA ts i=[43] then (1,acc)
 else if cA ts i=[45] then (-1,acc)
 else if cA ts i=yB then (sg,acc++[⟨-1,sg*xD 0 (tA ts i)⟩])
 else if cA ts i=[42] then (sg,acc.dropLast++[⟨zH names (tA ts (i+1)),(acc.getLastD ⟨0,0⟩).n⟩])
 else if cA ts i=yU then (if i=0\/cA ts (i-1)≠[42] then (sg,acc++[⟨zH names (tA ts i),sg⟩]) else (sg,acc))
 else (sg,acc)
def rT(names:List Bs)(ts:zG):Nat->Nat->Int->List kN->List kN
 | 0,_,_,acc=>acc
 | n+1,i,sg,acc=>rT names ts n (i+1) (uF names ts i sg acc).1 (uF names ts i sg acc).2
def rE(names:List Bs)(ts:zG):List kN:=rT names ts ts.length 0 1 []
theorem bP(i:Nat)(sg:Int)(acc:List kN)(h:i<ts.length):rT names ts (ts.length-i) i sg acc=rT names ts (ts.length-(i+1)) (i+1) (uF names ts i sg acc).1 (uF names ts i sg acc).2:=by
 rw[show ts.length-i=(ts.length-(i+1))+1 by omega,rT]
structure zF0(ts:zG):Prop where
 star:∀i,i<ts.length->cA ts i=[42]->0<i/\cA ts (i-1)=yB/\i+1<ts.length
 nums:∀i,i<ts.length->cA ts i=yB->0<=xD 0 (tA ts i)/\xD 0 (tA ts i)<=9999
theorem lE(a b:List kN):jL (a++b)=jL a++jL b:=by simp[jL]
theorem gB(l:List kN):(jL l).length=l.length*2:=Qe gM 2 (fun _=>rfl) l
theorem Uz(acc:List kN)(p:kN)(f:Int):(jL (acc++[p])).set (acc.length*2) (.int .i64 f)=jL (acc++[⟨f,p.n⟩]):=by
 rw[lE,lE,List.set_append_right _ _ (by rw[gB];exact t9 _),gB,bj];rfl
theorem zCJ(w:World)(b:Nat)(names:List Bs)(ts:zG)(g o cap:Nat)(hs:kL w g o ts)(zIJ:ts.length<=10000)(zIP:zF0 ts)(hN:eA w b names) :
 Calls Tryz.prog 80 #[.pointer (some ⟨b,0,none⟩),.slice (some ⟨g,o,none⟩) ts.length cap] w fun e w'=>∃v,e=.returned v/\w'.ownsRow w.heap.size 202 2 v (rE names ts).length (jL (rE names ts))/\(rE names ts).length<=ts.length/\Below w.heap.size w w':=by
 obtain⟨i0,hi0,hz0,hz1,hz2⟩:=dp GH;have HS:=zA hs;have HN:=zA hN;have HK:=zA zIP;obtain⟨B,hB⟩:∃B,B=w.heap.size:=⟨_,rfl⟩;have HB0:=zA hB;clear hs hN zIP hB
 go_enter Tryz.func80,Tryz.ntmps80
 go_wp2_with fail
 go_loopw [5,6,7] (fun ov sv iv wr=>∃(i:Nat) (sg:Int) (acc:List kN),i<=ts.length/\acc.length<=i/\(sg=1\/sg = -1)/\sv=.int .i64 sg/\iv=.int .i64 i/\Hid (wr.ownsRow B 202 2 ov acc.length (jL acc))/\Hid (Below B w wr)/\Hid (0<i->cA ts (i-1)=yB->acc≠[])/\Hid (rT names ts (ts.length-i) i sg acc=rE names ts)) (fun _ _ iv _=>ts.length-(intOf iv).toNat)
 case atStart=>exact⟨0,1,[],tr _,t9 _,.inl rfl,rfl,rfl,zA (lk _ _ _ _),zA (tj _ _),zA (fun h=>absurd h (by decide)),zA rfl⟩
 case round =>
  obtain⟨i,sg,acc,hi,hacc,hsg,rfl,rfl,HO,HB,HL,HE⟩:=hrel;have hsz2:B<=wr.heap.size:=by have:=HB.out.size;have h2:=HB0.out;omega
  by_cases zI6:i<ts.length
  ·have HSr:=zA (HS.out.below' (by have:=HB.out;rwa [HB0.out]at this))
   have HAt:=zA (fun nm=>zE9 wr b names nm (HN.out.below (by have:=HB.out;rwa [HB0.out]at this)));have hc0:=(HSr.out.tok zI6).1;have hc2:=(HSr.out.tok zI6).2;have hE:=HE.out;rw[bP names ts i sg acc zI6]at hE;have HE2:=zA hE;clear HE hE;have zIY:cA ts i≠yB->0<i+1->cA ts (i+1-1)=yB->False:=fun h _ h2=>h (by simpa using h2);by_cases k1:cA ts i=[43]
   ·have HE3:Hid (rT names ts (ts.length-(i+1)) (i+1) 1 acc=rE names ts):=by have:=HE2.out;unfold uF at this;rw[tl k1]at this;exact this
    have HL2:Hid (0<i+1->cA ts (i+1-1)=yB->acc≠[]):=fun h1 h2=>(zIY (by rw[k1];decide) h1 h2).elim;rw[k1]at hc2;clear k1 HE2 zIY;go_wp2_with fail
    go_roundw
    case rel=>exact⟨i+1,1,acc,by omega,by omega,.inl rfl,rfl,by go_num,HO,HB,HL2,HE3⟩
    case measure=>simp[intOf];omega
   by_cases k2:cA ts i=[45]
   ·have HE3:Hid (rT names ts (ts.length-(i+1)) (i+1) (-1) acc=rE names ts):=by have:=HE2.out;unfold uF at this;rw[tg k1,tl k2]at this;exact this
    have HL2:Hid (0<i+1->cA ts (i+1-1)=yB->acc≠[]):=fun h1 h2=>(zIY (by rw[k2];decide) h1 h2).elim;rw[k2]at hc2;clear k1 k2 HE2 zIY;go_wp2_with fail
    go_roundw
    case rel=>exact⟨i+1,-1,acc,by omega,by omega,.inr rfl,rfl,by go_num,HO,HB,HL2,HE3⟩
    case measure=>simp[intOf];omega
   by_cases k3:cA ts i=yB
   ·have HE3:Hid (rT names ts (ts.length-(i+1)) (i+1) sg (acc++[⟨-1,sg*xD 0 (tA ts i)⟩])=rE names ts):=by have:=HE2.out;unfold uF at this;rw[tg k1,tg k2,tl k3]at this;exact this
    obtain⟨v1,v2⟩:=HK.out.nums i zI6 k3;have HNu:=zA (fun w=>bR (tA ts i) w (pE k3));rw[k3]at hc2;simp only[yB]at hc2;clear k1 k2 k3 HE2 zIY HAt;generalize tA ts i=nu at *;generalize xD 0 nu=nv at *;obtain⟨oa,oc,rfl⟩:=yH HO.out;have hm : -9999<=sg*nv/\sg*nv<=9999:=by rcases hsg with rfl|rfl <;> omega
    obtain⟨q,hq⟩:∃q,q=sg*nv:=⟨_,rfl⟩;have hwq:wrap64 (sg*nv)=q:=by rw[hq];unfold wrap64;rcases hsg with rfl|rfl <;> omega
    rw[<-hq]at hm HE3;clear hq;go_wp2_with fail
    refine(HNu.out _).mono ?_;rintro e w' ⟨rfl,hw⟩;obtain rfl:=hw.symm
    go_wp2_with (at_builtin;refine wpList_append_own _ rfl _ _ 112 rfl B 202 i0 _ 2 16 Tryz.underlying112 hi0 hz0 hz1 hz2 rfl (by decide) _ _ _ rfl (HO.out.alloc _) ⟨wr.heap.size,0,none⟩ 1 1 (gM ⟨-1,q⟩) rfl rfl ?c1 ?c2 ?c3 ?c4 ?c5 ?_)
    case c1=>exact zZ _ _ _ _ rfl
    case c2=>intro u hu;simp[gM]at hu;rcases hu with rfl|rfl <;> rfl
    case c3=>unfold maxLen;omega
    case c4=>omega
    case c5=>simp;omega
    intro v' w2 zIB zIN _;have HB2:Hid (Below B w w2):=(HB.out.alloc hsz2 _).grown zIN (by simp;omega) (zN HO.out);have HO2:Hid (w2.ownsRow B 202 2 v' (acc++[(⟨-1,q⟩:kN)]).length (jL (acc++[(⟨-1,q⟩:kN)]))):=by unfold Hid;rw[lE,tq];exact zIB
    have HL2:Hid (0<i+1->cA ts (i+1-1)=yB->acc++[(⟨-1,q⟩:kN)]≠[]):=fun _ _=>by simp
    clear zIB zIN;go_wp2_with fail
    go_roundw
    case rel=>exact⟨i+1,sg,acc++[⟨-1,q⟩],by omega,by simp;omega,hsg,rfl,by go_num,HO2,HB2,HL2,HE3⟩
    case measure=>simp[intOf];omega
   by_cases k4:cA ts i=[42]
   ·obtain⟨j0,j1,j2⟩:=HK.out.star i zI6 k4
    obtain⟨acc',p,rfl⟩:∃a p,acc=a++[p]:=⟨_,_,(dd (HL.out j0 j1)).symm⟩
    have HE3:Hid (rT names ts (ts.length-(i+1)) (i+1) sg (acc'++[⟨zH names (tA ts (i+1)),p.n⟩])=rE names ts):=by
     have:=HE2.out;unfold uF at this;rw[tg k1,tg k2,tg k3,tl k4]at this;unfold Hid;simpa using this
    have HA1:=zA (HAt.out (tA ts (i+1)));have hc5:=(HSr.out.tok j2).1;have HL2:Hid (0<i+1->cA ts (i+1-1)=yB->acc'++[(⟨zH names (tA ts (i+1)),p.n⟩:kN)]≠[]):=fun _ _=>by simp
    rw[k4]at hc2;clear k1 k2 k3 k4 HE2 zIY HAt j0 j1;generalize tA ts (i+1)=nm at *;generalize zH names nm=f at *;obtain⟨og,oc,hov,-⟩:=oC HO.out (by simp);subst hov;rw[tq,pd]at HO hacc;have hput:=fun u=>dM HO.out (by omega) (j:=acc'.length*2) (by omega) u;have hfz:=(hput (.bool true)).2.1
    have hcl:wr.cell? ⟨og,acc'.length*2,none⟩=some (.int .i64 p.a):=by
     rw[(hput (.bool true)).2.2.1,lE,pf (by rw[gB];exact t9 _),gB,bj];rfl
    have hBg:=(hput (.bool true)).2.2.2.1
    have HO2:Hid ((wr.setCell ⟨og,acc'.length*2,none⟩ (.int .i64 f)).ownsRow B 202 2 (.slice (some ⟨og,0,none⟩) (acc'.length+1) oc) (acc'++[(⟨f,p.n⟩:kN)]).length (jL (acc'++[⟨f,p.n⟩]))):=by
     unfold Hid;rw[<-Uz acc' p f,tq];exact(hput _).1
    have HB2:Hid (Below B w (wr.setCell ⟨og,acc'.length*2,none⟩ (.int .i64 f))):=HB.out.setCell (p:=⟨og,acc'.length*2,none⟩) hBg _;clear hput;go_wp2_with fail
    refine HA1.out.mono ?_;rintro e w' ⟨rfl,hw⟩;obtain rfl:=hw.symm;go_wp2_with fail
    go_roundw
    case rel=>exact⟨i+1,sg,acc'++[⟨f,p.n⟩],by omega,by simp;omega,hsg,rfl,by go_num,HO2,HB2,HL2,HE3⟩
    case measure=>simp[intOf];omega
   by_cases k5:cA ts i=yU
   ·have HL3:Hid (0<i+1->cA ts (i+1-1)=yB->acc≠[]):=fun h1 h2=>(zIY k3 h1 h2).elim
    by_cases k6:i=0\/cA ts (i-1)≠[42]
    ·have HE3:Hid (rT names ts (ts.length-(i+1)) (i+1) sg (acc++[⟨zH names (tA ts i),sg⟩])=rE names ts):=by
      have:=HE2.out;unfold uF at this;rw[tg k1,tg k2,tg k3,tg k4,tl k5,tl k6]at this;exact this
     have HA1:=zA (HAt.out (tA ts i));rw[k5]at hc2;simp only[yU]at hc2;obtain⟨oa,oc,rfl⟩:=yH HO.out;by_cases k7:i=0
     ·subst k7
      clear k1 k2 k3 k4 k5 HE2 zIY HAt k6 HL3;generalize tA ts 0=nm at *;generalize zH names nm=f at *;simp only[my,pq]at hc0 hc2;go_wp2_with fail
      refine HA1.out.mono ?_;rintro e w' ⟨rfl,hw⟩;obtain rfl:=hw.symm
      go_wp2_with (at_builtin;refine wpList_append_own _ rfl _ _ 112 rfl B 202 i0 _ 2 16 Tryz.underlying112 hi0 hz0 hz1 hz2 rfl (by decide) _ _ _ rfl (HO.out.alloc _) ⟨wr.heap.size,0,none⟩ 1 1 (gM ⟨f,sg⟩) rfl rfl ?c1 ?c2 ?c3 ?c4 ?c5 ?_)
      case c1=>exact zZ _ _ _ _ rfl
      case c2=>intro u hu;simp[gM]at hu;rcases hu with rfl|rfl <;> rfl
      case c3=>unfold maxLen;omega
      case c4=>omega
      case c5=>simp;omega
      intro v' w2 zIB zIN _;have HB2:Hid (Below B w w2):=(HB.out.alloc hsz2 _).grown zIN (by simp;omega) (zN HO.out);have HO2:Hid (w2.ownsRow B 202 2 v' (acc++[(⟨f,sg⟩:kN)]).length (jL (acc++[(⟨f,sg⟩:kN)]))):=by unfold Hid;rw[lE,tq];exact zIB
      have HL2:Hid (0<0+1->cA ts (0+1-1)=yB->acc++[(⟨f,sg⟩:kN)]≠[]):=fun _ _=>by simp
      clear zIB zIN;go_wp2_with fail
      go_roundw
      case rel=>exact⟨0+1,sg,acc++[⟨f,sg⟩],by omega,by simpa using hacc,hsg,rfl,by go_num,HO2,HB2,HL2,HE3⟩
      case measure=>simp[intOf];omega
     ·have hp:0<i:=by omega
      have hc7:=(HSr.out.tok (show i-1<ts.length by omega)).2;have b7:(cA ts (i-1) != [42])=true:=by simpa using k6.resolve_left k7
      have b8:(cA ts (i-1)==[42])=false:=by simpa using k6.resolve_left k7
      have b9:¬(cA ts (i-1)).toArray = #[42]:=by simpa using k6.resolve_left k7
      clear k1 k2 k3 k4 k5 HE2 zIY HAt k6 HL3;generalize tA ts i=nm at *;generalize zH names nm=f at *;generalize cA ts (i-1)=cp at *;have bi:((i:Int)==0)=false:=by simpa using k7
      clear k7;go_wp2_with fail
      refine HA1.out.mono ?_;rintro e w' ⟨rfl,hw⟩;obtain rfl:=hw.symm
      go_wp2_with (at_builtin;refine wpList_append_own _ rfl _ _ 112 rfl B 202 i0 _ 2 16 Tryz.underlying112 hi0 hz0 hz1 hz2 rfl (by decide) _ _ _ rfl (HO.out.alloc _) ⟨wr.heap.size,0,none⟩ 1 1 (gM ⟨f,sg⟩) rfl rfl ?c1 ?c2 ?c3 ?c4 ?c5 ?_)
      case c1=>exact zZ _ _ _ _ rfl
      case c2=>intro u hu;simp[gM]at hu;rcases hu with rfl|rfl <;> rfl
      case c3=>unfold maxLen;omega
      case c4=>omega
      case c5=>simp;omega
      intro v' w2 zIB zIN _;have HB2:Hid (Below B w w2):=(HB.out.alloc hsz2 _).grown zIN (by simp;omega) (zN HO.out);have HO2:Hid (w2.ownsRow B 202 2 v' (acc++[(⟨f,sg⟩:kN)]).length (jL (acc++[(⟨f,sg⟩:kN)]))):=by unfold Hid;rw[lE,tq];exact zIB
      have HL2:Hid (0<i+1->cA ts (i+1-1)=yB->acc++[(⟨f,sg⟩:kN)]≠[]):=fun _ _=>by simp
      clear zIB zIN;go_wp2_with fail
      go_roundw
      case rel=>exact⟨i+1,sg,acc++[⟨f,sg⟩],by omega,by simp;omega,hsg,rfl,by go_num,HO2,HB2,HL2,HE3⟩
      case measure=>simp[intOf];omega
    ·have k7:¬i=0:=fun h=>k6 (.inl h)
     have k8:cA ts (i-1)=[42]:=Decidable.byContradiction fun h=>k6 (.inr h)
     have HE3:Hid (rT names ts (ts.length-(i+1)) (i+1) sg acc=rE names ts):=by
      have:=HE2.out;unfold uF at this;rw[tg k1,tg k2,tg k3,tg k4,tl k5,tg k6]at this;exact this
     have hp:0<i:=by omega
     have hc7:=(HSr.out.tok (show i-1<ts.length by omega)).2;rw[k8]at hc7;have bi:((i:Int)==0)=false:=by simpa using k7
     rw[k5]at hc2;simp only[yU]at hc2;clear k1 k2 k3 k4 k5 HE2 zIY HAt k6 k7 k8;go_wp2_with fail
     go_roundw
     case rel=>exact⟨i+1,sg,acc,by omega,by omega,hsg,rfl,by go_num,HO,HB,HL3,HE3⟩
     case measure=>simp[intOf];omega
   ·have HE3:Hid (rT names ts (ts.length-(i+1)) (i+1) sg acc=rE names ts):=by
     have:=HE2.out;unfold uF at this;rw[tg k1,tg k2,tg k3,tg k4,tg k5]at this;exact this
    have HL3:Hid (0<i+1->cA ts (i+1-1)=yB->acc≠[]):=fun h1 h2=>(zIY k3 h1 h2).elim;have b1:(cA ts i==[43])=false:=by simpa using k1
    have b2:(cA ts i==[45])=false:=by simpa using k2
    have b3:(cA ts i==[78,85,77,66,69,82])=false:=by simpa[yB] using k3
    have b4:(cA ts i==[42])=false:=by simpa using k4
    have b5:(cA ts i==[78,65,77,69])=false:=by simpa[yU] using k5
    clear k1 k2 k3 k4 k5 HE2 zIY HAt;generalize cA ts i=cl at *;go_wp2_with fail
    go_roundw
    case rel=>exact⟨i+1,sg,acc,by omega,by omega,hsg,rfl,by go_num,HO,HB,HL3,HE3⟩
    case measure=>simp[intOf];omega
  ·have HE3:Hid (acc=rE names ts):=by have:=HE.out;rw[show ts.length-i=0 by omega]at this;exact this
   clear HE;go_wp2_with fail
   go_ret
   exact⟨_,rfl,by rw[<-HE3.out,<-HB0.out];exact HO.out,by rw[<-HE3.out];omega,by rw[<-HB0.out];exact HB.out⟩
structure pU where
 label:Bs
 head:Int
 parts:List kN
 steps:List vS
abbrev RX:=pU × Value × Value
def zHZ(x:RX):List Value:=[.string ⟨x.1.label.toArray⟩,.int .i64 x.1.head,x.2.1,x.2.2]
def KE(l:List RX):List Value:=l.flatMap zHZ
structure nU(w:World)(x:RX):Prop where
 parts:∃a c,x.2.1=.slice a x.1.parts.length c/\uS w 202 a (jL x.1.parts)
 steps:∃a c,x.2.2=.slice a x.1.steps.length c/\uS w 275 a (kG x.1.steps)
 few1:x.1.parts.length<=10000
 few2:x.1.steps.length<=10000
def bD(lv nv:Value)(ins:Int)(rv:Value):Obj:=.cells #[lv,nv,.int .i64 ins,rv] 119 (0,0)
def XW(us:List zG):Nat->Nat->List Bs->List Bs
 | 0,_,acc=>acc
 | n+1,i,acc=>XW us n (i+1) (if cA (uA us i) 0=xK\/cA (uA us i) 0=xV then acc++[tA (uA us i) 1] else acc)
def qC(us:List zG):List Bs:=XW us us.length 0 []
theorem GC(us:List zG)(i:Nat)(acc:List Bs)(h:i<us.length):XW us (us.length-i) i acc=XW us (us.length-(i+1)) (i+1) (if cA (uA us i) 0=xK\/cA (uA us i) 0=xV then acc++[tA (uA us i) 1] else acc):=by
 rw[show us.length-i=(us.length-(i+1))+1 by omega,XW]
def dK(names:List Bs)(u:zG):pU:=⟨tA u 1,zH names (tA u 3),rE names ((u.drop 5).take (iZ u-5)),vN names (u.length+1) (u.drop (iZ u+1))⟩
def oV(names:List Bs)(us:List zG):Nat->Nat->List pU->List pU
 | 0,_,acc=>acc
 | n+1,i,acc=>oV names us n (i+1) (if cA (uA us i) 0=zR then acc++[dK names (uA us i)] else acc)
def vO(names:List Bs)(us:List zG):List pU:=oV names us us.length 0 []
theorem BB(us:List zG)(i:Nat)(acc:List pU)(h:i<us.length):oV names us (us.length-i) i acc=oV names us (us.length-(i+1)) (i+1) (if cA (uA us i) 0=zR then acc++[dK names (uA us i)] else acc):=by
 rw[show us.length-i=(us.length-(i+1))+1 by omega,oV]
structure zB6(u:zG):Prop where
 wh:mE u=iZ u
 lo:5<iZ u
 hi:iZ u+1<u.length
 sum:zF0 ((u.drop 5).take (iZ u-5))
 good:uL (u.length+1) (u.drop (iZ u+1))=true
structure cU(w:World)(b:Nat)(us:List zG)(names:List Bs)(ins:Nat)(rs:List RX):Prop where
 lines:∃la lc,w.cell? ⟨b,0,none⟩=some (.slice la us.length lc)/\bG w la us
 nam:eA w b names
 ins:w.cell? ⟨b,2,none⟩=some (.int .i64 ins)
 rul:∃ra rc,w.cell? ⟨b,3,none⟩=some (.slice ra rs.length rc)/\jX w ra (KE rs)
 rows:∀x∈rs,nU w x
 few:rs.length<=10000
theorem gD(h:w.heap[b]? = some (bD lv nv ins rv)):w.cell? ⟨b,0,none⟩=some lv/\w.cell? ⟨b,1,none⟩=some nv/\w.cell? ⟨b,2,none⟩=some (.int .i64 ins)/\w.cell? ⟨b,3,none⟩=some rv/\∀j,w.frozen? ⟨b,j,none⟩=false:=by
 unfold bD at h;refine⟨(zD h 0).trans rfl,(zD h 1).trans rfl,(zD h 2).trans rfl,(zD h 3).trans rfl,fun j=>by simp[World.frozen?,h]⟩
theorem KH(h:w.heap[b]? = some (bD lv nv ins rv)):(w.setCell ⟨b,1,none⟩ v).heap[b]? = some (bD lv v ins rv):=by
 unfold bD at h ⊢;rw[m6 w b 1 _ _ _ h];simp
theorem zE7{n:Int}(h:w.heap[b]? = some (bD lv nv ins rv)):(w.setCell ⟨b,2,none⟩ (.int .i64 n)).heap[b]? = some (bD lv nv n rv):=by
 unfold bD at h ⊢;rw[m6 w b 2 _ _ _ h];simp
theorem zE6(h:w.heap[b]? = some (bD lv nv ins rv)):(w.setCell ⟨b,3,none⟩ v).heap[b]? = some (bD lv nv ins v):=by
 unfold bD at h ⊢;rw[m6 w b 3 _ _ _ h];simp
theorem Qr{w2:World}{row:Option Nat}(hg:(w.drew.alloc ob).grownBy w2 row){x:Obj}(h:w.heap[b]? = some x)(hr:some b≠row):w2.heap[b]? = some x:=by
 have hb:=yK h;rw[hg.block b (by show b<(w.drew.alloc ob).heap.size;simp;omega) hr];exact(mq w.drew ob b hb).trans h
theorem rC{P:Program}{ops:Array Oper}{rest:List Oper}{o:Oper}{a:Act}{Q:Exit->Act->World->Prop}(zIM:o.guard=none)(s x:Operand)(t:TypeId)
 (ho:o.op=.call { callee:=.builtin .append,args := #[s,x],argTypes := #[t,t] })
 (base:Nat) (e:TypeId) (i:TypeInfo) (z:Value) (size bytes:Nat) (ht:P.underlying t=some (.slice e)) (hi:P.info? e=some i) (hz:i.zero=some z)
 (hsize:i.size=size) (hby:i.bytes=bytes) (hzs:z.cells.size=size) (zIJ:0<size)
 (v:Value) (n:Nat) (xs:List Value) (hs:a.eval s=v) (zI8:w.ownsRow base e size v n xs)
 (v2:Value) (m:Nat) (news:List Value) (B2:Nat) (hx:a.eval x=v2) (zIB:w.ownsRow B2 e size v2 m news) (h1:∀u∈news,u.oneCell'=true)
 (h63:n+m<=maxLen) (hbytes:(n+m)*bytes<=140737488355328) (hbase:base<=w.heap.size)
 (h:∀v' w',w'.ownsRow base e size v' (n+m) (xs++news)->w.grownBy w' v.ownBlock->wpList P ops Q rest (a.put o.dst v') w'):wpList P ops Q (o::rest) a w:=by
 have hl:=zIB.1;rcases zIB.2 with ⟨k1,k2⟩|⟨g,cap,yW,k1,_,k3,_,_,_,k7⟩
 ·subst k2
  obtain rfl:news=[]:=mu (by rw[hl,my]);refine wpList_append_own_none zIM s x t ho base e i size ht hi v n xs hs zI8 (by rw[hx,k1]) ?_;exact h v w (by simpa using zI8) ⟨rfl,rfl,rfl,t9 _,fun _ _ _=>rfl⟩
 ·exact wpList_append_own w zIM s x t ho base e i z size bytes ht hi hz hsize hby hzs zIJ v n xs hs zI8 ⟨g,0,none⟩ m cap news (by rw[hx,k1]) hl (fun j u hu=>by rw[Qv];exact xB k3 (n:=m*size) k7 hu) h1 h63 hbytes hbase (fun v' w' h2 h3 _=>h v' w' h2 h3)
theorem zB.toBelow{R:Nat}(h:zB B R w w')(hR:R<=B):Below R w w':=⟨h.os,h.tape,h.output,h.size,fun k hk=>h.block k (ti hk hR) (fo hk)⟩
theorem oS.keeps{R:Nat}{a:Option Addr}{names:List Bs}(h:oS w a names)(hk:zB B R w w')(hB:w.heap.size<=B)(zIH:∀g,a=some ⟨g,0,none⟩->g≠R):oS w' a names :=
 ⟨fun h0=>let ⟨g,e,p⟩:=h.blk h0;⟨g,e,fun j hj=>by rw[hk.cell (p:=⟨g,j,none⟩) (ti (zP (p j hj)) hB) (zIH g e)];exact p j hj⟩,h.few⟩
def bN(lab:Bs)(h:Int)(pv sv:Value):Obj:=.cells #[.string ⟨lab.toArray⟩,.int .i64 h,pv,sv] 115 (0,0)
theorem uS.step{w8 w9:World}{n:Nat}{ys:List Value}{a:Option Addr}(h:uS w8 t a xs)(h1:t≠115)(h2:t≠119)(zI8:w8.ownsRow B 115 4 rv n ys)(hg:(w8.drew.alloc ob).grownBy w9 rv.ownBlock)(hb:w9.heap[b]? = some (bD lv nv ins rv)):uS (w9.setCell ⟨b,3,none⟩ v) t a xs :=
 ((h.below (me (tj _ _) |>.alloc (t9 _) ob)).grown (zI8.drew.alloc ob) h1 hg).set (by unfold bD at hb;exact hb) h2
theorem nU.step{w8 w9:World}{n:Nat}{ys:List Value}{x:RX}(h:nU w8 x)(zI8:w8.ownsRow B 115 4 rv n ys)(hg:(w8.drew.alloc ob).grownBy w9 rv.ownBlock)(hb:w9.heap[b]? = some (bD lv nv ins rv)):nU (w9.setCell ⟨b,3,none⟩ v) x:=by
 obtain⟨a,c,h1,h2⟩:=h.parts;obtain⟨a',c',h3,h4⟩:=h.steps;exact⟨⟨a,c,h1,h2.step (by decide) (by decide) zI8 hg hb⟩,⟨a',c',h3,h4.step (by decide) (by decide) zI8 hg hb⟩,h.few1,h.few2⟩
theorem nU.below{x:RX}(h:nU w x)(hb:Below w.heap.size w w'):nU w' x:=by
 obtain⟨a,c,h1,h2⟩:=h.parts;obtain⟨a',c',h3,h4⟩:=h.steps;exact⟨⟨a,c,h1,h2.below hb⟩,⟨a',c',h3,h4.below hb⟩,h.few1,h.few2⟩
theorem zAD(a b:List RX):KE (a++b)=KE a++KE b:=by simp[KE]
theorem jw:(Tryz.prog.info? 115).map (fun i=>(i.zero,i.size,i.bytes))=some (some (.agg #[.string ⟨#[]⟩,.int .i64 0,.slice none 0 0,.slice none 0 0]),4,72):=by kernel_rfl
end Go.Proofs.YtnbpdffdnphbeaaGreatDoor
