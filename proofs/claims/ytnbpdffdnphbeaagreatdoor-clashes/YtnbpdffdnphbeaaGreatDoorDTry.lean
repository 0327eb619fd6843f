import Derived.Test.YtnbpdffdnphbeaaGreatDoorDAsk
set_option maxHeartbeats 2000000
set_option maxRecDepth 100000
namespace Go.Proofs.YtnbpdffdnphbeaaGreatDoor
open Go.RowKit
variable{g:Int->Int}{u vs:List Int}{S:List Value}{L i:Nat}{TL:Nat->List Int}{ov:Value}{w' w0:World}{x y:pU}(lo:Int)(us:List zG)(w:World)(names:List Bs)(b:Nat)(hi:Int)(ins:Nat)
def BR(lo hi:Int)(l:List Int)(n:Int):List Int:=if ((decide (lo<=n)&&decide (n<=hi)) && !aI l n)=true then l++[n] else l
def kW(lo hi:Int)(b:Int):Nat->List Int->List Int
 | 0,l=>l
 | j+1,l=>BR lo hi (kW lo hi b j l) (b+j)
def qZ(lo hi:Int)(bs:List Int):List Int:=bs.foldl (fun l b=>kW lo hi b 4 l) []
def cV(us:List zG)(names:List Bs)(ins:Nat)(rr ss:List vS)(a:Nat):List Int :=
 if (qK rr (a:Int) || qK ss (a:Int))=false then [(uK us names ins a).1]
 else if (decide (ins<=a) || tH us (names.getD a []))=true then [0,1]
 else qZ (uK us names ins a).1 (uK us names ins a).2 (uJ us names ins rr ss)
theorem uy{lo hi n x:Int}{l:List Int}:x∈BR lo hi l n ↔ x∈l\/(x=n/\lo<=n/\n<=hi):=by
 unfold BR;split
 ·rename_i h
  simp only[tz,py]at h;simp only[pt,pu];constructor
  ·rintro(h1|h1)
   ·exact .inl h1
   ·exact .inr ⟨h1,h.1.1,h.1.2⟩
  ·rintro(h1|h1)
   ·exact .inl h1
   ·exact .inr h1.1
 ·rename_i h
  constructor
  ·exact .inl
  ·rintro(h1|⟨rfl,h2,h3⟩)
   ·exact h1
   ·cases hi':aI l x with
    | true =>
      obtain⟨y,hy,e⟩:=mj.1 hi';rw[py]at e;rw[<-e];exact hy
    | false=>exact absurd (by rw[hi',tm h2,tm h3];rfl) h
theorem FV{lo hi b x:Int}:∀(j:Nat) {l:List Int},x∈kW lo hi b j l ↔ x∈l\/(lo<=x/\x<=hi/\∃k:Nat,k<j/\x=b+k):=by
 intro j
 induction j with
 | zero=>intro l;rw[kW];constructor;exact .inl;rintro(h|⟨_,_,k,hk,_⟩);exact h;omega
 | succ j ih =>
   intro l;rw[kW,uy,ih];constructor
   ·rintro((h|⟨h1,h2,k,hk,e⟩)|⟨e,h1,h2⟩)
    ·exact .inl h
    ·exact .inr ⟨h1,h2,k,by omega,e⟩
    ·exact .inr ⟨by omega,by omega,j,by omega,e⟩
   ·rintro(h|⟨h1,h2,k,hk,e⟩)
    ·exact .inl (.inl h)
    ·by_cases hkj:k<j
     ·exact .inl (.inr ⟨h1,h2,k,hkj,e⟩)
     ·obtain rfl:k=j:=by omega
      exact .inr ⟨e,by omega,by omega⟩
theorem Yp{lo hi x:Int}{bs:List Int}:x∈qZ lo hi bs ↔ lo<=x/\x<=hi/\∃b∈bs,∃k:Nat,k<=3/\x=b+k:=by
 have key:∀(bs l:List Int),x∈bs.foldl (fun l b=>kW lo hi b 4 l) l ↔ x∈l\/(lo<=x/\x<=hi/\∃b∈bs,∃k:Nat,k<=3/\x=b+k):=by
  intro bs
  induction bs with
  | nil=>intro l;simp
  | cons b r ih =>
    intro l;rw[List.foldl_cons,ih,FV];constructor
    ·rintro((h|⟨h1,h2,k,hk,e⟩)|⟨h1,h2,b',hb',k,hk,e⟩)
     ·exact .inl h
     ·exact .inr ⟨h1,h2,b,by simp,k,by omega,e⟩
     ·exact .inr ⟨h1,h2,b',by simp[hb'],k,hk,e⟩
    ·rintro(h|⟨h1,h2,b',hb',k,hk,e⟩)
     ·exact .inl (.inl h)
     ·rcases pi.1 hb' with rfl|hb'
      ·exact .inl (.inr ⟨h1,h2,k,by omega,e⟩)
      ·exact .inr ⟨h1,h2,b',hb',k,hk,e⟩
 unfold qZ;rw[key];simp
theorem uz(n:Int)(l:List Int):(BR lo hi l n).length<=l.length+1:=by unfold BR;split <;> simp
theorem Jn(b:Int):∀(j:Nat) (l:List Int),(kW lo hi b j l).length<=l.length+j:=by
 intro j
 induction j with
 | zero=>intro l;rw[kW];omega
 | succ j ih=>intro l;rw[kW];have:=uz lo hi (b+j) (kW lo hi b j l);have:=ih l;omega
theorem Yq(bs:List Int):(qZ lo hi bs).length<=4*bs.length:=by
 have key:∀(bs l:List Int),(bs.foldl (fun l b=>kW lo hi b 4 l) l).length<=l.length+4*bs.length:=by
  intro bs
  induction bs with
  | nil=>intro l;simp
  | cons b r ih=>intro l;rw[List.foldl_cons,p7];have:=ih (kW lo hi b 4 l);have:=Jn lo hi b 4 l;omega
 have:=key bs [];simpa[qZ] using this
theorem GJ(a:Option Addr)(cp:Nat)(l:List Int)(n:Int)(h:jX w a (vD l))(zII:l.length<=1000000) :
 Calls Tryz.prog 197 #[.slice a l.length cp,.int .i64 n] w fun e w'=>e=.returned (.bool (aI l n))/\w'=w:=by
 have HV:=zA h;have HE0:Hid (∀b,l.any (fun x=>decide (x=n))=b->aI l n=b):=fun b h=>h;generalize aI l n=ans at *;clear h
 go_enter Tryz.func197,Tryz.ntmps197
 go_wp2_with fail
 go_loop [5] (fun iv=>∃(i:Nat),i<=l.length/\iv=.int .i64 i/\Hid ((l.drop i).any (fun x=>decide (x=n))=l.any (fun x=>decide (x=n)))) (fun iv=>l.length-(intOf iv).toNat)
 case atStart=>exact⟨0,tr _,rfl,zA rfl⟩
 case round =>
  obtain⟨i,hi,rfl,HE⟩:=hrel;by_cases zI6:i<l.length
  ·have ii:(i:Int)<(l.length:Int):=by omega
   obtain⟨g,rfl,hc⟩:=HV.out.at (bW l i zI6);have hE:=HE.out;rw[Yb (fun x=>decide (x=n)) 0 l i zI6]at hE;have HE2:=zA hE;clear HE hE;generalize l.getD i 0=y at *;by_cases k:y=n
   ·have HE3:Hid (ans=true):=HE0.out _ (by rw[<-HE2.out,tm k];rfl)
    subst k;clear HE2;go_wp2_with fail
    go_ret
    exact⟨zE HE3.out.symm,rfl⟩
   ·have HE3:Hid ((l.drop (i+1)).any (fun x=>decide (x=n))=l.any (fun x=>decide (x=n))):=by have:=HE2.out;rw[th k,pm]at this;exact this
    have b1:(y==n)=false:=by simpa using k
    clear k HE2;go_wp2_with fail
    go_round
    case rel=>exact⟨i+1,by omega,by go_num,HE3⟩
    case measure=>simp[intOf];omega
  ·have ii:¬(i:Int)<(l.length:Int):=by omega
   have HE3:Hid (ans=false):=HE0.out _ (by rw[<-HE.out];exact Qu _ _ _ zI6);go_wp2_with fail
   go_ret
   exact⟨zE HE3.out.symm,rfl⟩
theorem V0(bs:List Int)(i:Nat)(h:i<bs.length):qZ lo hi (bs.take (i+1))=kW lo hi (bs.getD i 0) 4 (qZ lo hi (bs.take i)):=by
 unfold qZ;rw[dj,List.foldl_append,pe h];simp[List.getD,h]
theorem Y4(rr ss:List vS):(uJ us names ins rr ss).length<=2*ins+rr.length+ss.length:=by
 unfold uJ;rw[tq,tq];have:=JC us names ins rr ss ins;have:=nQ rr;have:=nQ ss;omega
theorem zBT(ls:List zF)(us:List zG)(names:List Bs)(ins:Nat)(rs:List RX)(x y:RX)(a:Nat)(hB:cU w b us names ins rs)(hA:yP ls us)(zIK:ins<=names.length)(hx:nU w x)(hy:nU w y)(hbd:∀z∈uJ us names ins x.1.steps y.1.steps,-1000000<=z/\z<=1000000) :
 Calls Tryz.prog 136 #[.pointer (some ⟨b,0,none⟩),Qm x,Qm y,.int .i64 (a:Nat)] w fun e w'=>∃v,e=.returned v/\w'.ownsRow w.heap.size 3 1 v (cV us names ins x.1.steps y.1.steps a).length (vD (cV us names ins x.1.steps y.1.steps a))/\Below w.heap.size w w':=by
 obtain⟨i0,hi0,hz0,hz1,hz2⟩:=dp dV;obtain⟨pa,pc,e1,-⟩:=hx.parts;obtain⟨sa,sc,e2,hs1⟩:=hx.steps;obtain⟨pa',pc',e3,-⟩:=hy.parts;obtain⟨sa',sc',e4,hs2⟩:=hy.steps;have hf1:=hx.few2;have hf2:=hy.few2;have HRd1:=zA (fun w' (hb:Below w.heap.size w w')=>YQ w' sa sc x.1.steps (a:Int) (hs1.below hb) hf1);have HRd2:=zA (fun w' (hb:Below w.heap.size w w')=>YQ w' sa' sc' y.1.steps (a:Int) (hs2.below hb) hf2);obtain⟨la,lc,c0,zIT⟩:=hB.lines;obtain⟨na,nc,c1,zIO⟩:=hB.nam;have c2:=hB.ins;have hfn:=zIO.few;have HRm:=zA (fun w' (hb:Below w.heap.size w w')=>BJ w' b ls us names ins rs a (hB.down hb) hA zIK);have HFl:=zA (fun w' (hb:Below w.heap.size w w')=>Ua w' la lc ls us (names.getD a []) (zIT.below hb) hA);have HBn:=zA (fun w' (hb:Below w.heap.size w w')=>zAS w' b ls us names ins rs x y (hB.down hb) hA zIK (hx.below hb) (hy.below hb));have zJ0:=zA (fun w' (hb:Below w.heap.size w w')=>zIO.below hb);have HBk:=zA (fun w' (hb:Below w.heap.size w w')=>(show w'.cell? ⟨b,0,none⟩=some (.slice la us.length lc)/\w'.cell? ⟨b,1,none⟩=some (.slice na names.length nc)/\w'.cell? ⟨b,2,none⟩=some (.int .i64 (ins:Int)) from ⟨(hb.cell (p:=⟨b,0,none⟩) (zP c0)).trans c0,(hb.cell (p:=⟨b,1,none⟩) (zP c1)).trans c1,(hb.cell (p:=⟨b,2,none⟩) (zP c2)).trans c2⟩));have hbl:=zP c0;have hbdl:=Y4 us names ins x.1.steps y.1.steps;have HBd:Hid (∀i,i<(uJ us names ins x.1.steps y.1.steps).length -> -1000000<=(uJ us names ins x.1.steps y.1.steps).getD i 0/\(uJ us names ins x.1.steps y.1.steps).getD i 0<=1000000):=fun i hi=>hbd _ (by simp[List.getD,hi]);have HT:Hid (cV us names ins x.1.steps y.1.steps a=if (qK x.1.steps (a:Int) || qK y.1.steps (a:Int))=false then [(uK us names ins a).1] else if (decide (ins<=a) || tH us (names.getD a []))=true then [0,1] else qZ (uK us names ins a).1 (uK us names ins a).2 (uJ us names ins x.1.steps y.1.steps)):=rfl;obtain⟨⟨xl,xh,xp,xs⟩,xpv,xsv⟩:=x;obtain⟨⟨yl,yh,yp,ys⟩,ypv,ysv⟩:=y;simp only[Qm]at e1 e2 e3 e4 HRd1 HRd2 HBn hf1 hf2 hbdl HBd HT ⊢;subst e1 e2 e3 e4;clear hB hA hx hy hs1 hs2 zIT zIO c0 c1 c2 hbd;generalize cV us names ins xs ys a=ans at *;generalize uJ us names ins xs ys=BD at *;generalize qK xs (a:Int)=r1 at *;generalize qK ys (a:Int)=r2 at *;generalize uK us names ins a=rm at *;obtain⟨lo,hh⟩:=rm;simp only at HT HRm
 go_enter Tryz.func136,Tryz.ntmps136
 go_wp2_with fail
 generalize hO1:Obj.cells #[.string ⟨xl.toArray⟩,.int .i64 xh,.slice pa xp.length pc,.slice sa xs.length sc] 115=O1 at *;generalize hO2:Obj.cells #[.string ⟨yl.toArray⟩,.int .i64 yh,.slice pa' yp.length pc',.slice sa' ys.length sc'] 115=O2 at *;have HB0:Hid (Below w.heap.size w ((w.alloc O1).alloc O2)):=(ge (t9 _) _).alloc (by simp) _;have hs0:((w.alloc O1).alloc O2).heap.size=w.heap.size+2:=by simp
 have HX:Hid (((w.alloc O1).alloc O2).heap[w.heap.size]? = some (.cells #[.string ⟨xl.toArray⟩,.int .i64 xh,.slice pa xp.length pc,.slice sa xs.length sc] 115 (0,0))):=by unfold Hid;rw[hO1];exact yJ (zM _ _)
 have HY:Hid (((w.alloc O1).alloc O2).heap[w.heap.size+1]? = some (.cells #[.string ⟨yl.toArray⟩,.int .i64 yh,.slice pa' yp.length pc',.slice sa' ys.length sc'] 115 (0,0))):=by unfold Hid;rw[hO2];exact xX _ _ _ (by simp)
 clear hO1 hO2;generalize (w.alloc O1).alloc O2=w0 at *;have hs0':w.heap.size+2<=w0.heap.size:=by omega
 clear hs0
 have HG:Hid (∀wr,Below w0.heap.size w0 wr->Below w.heap.size w wr/\wr.heap[w.heap.size]? = some (.cells #[.string ⟨xl.toArray⟩,.int .i64 xh,.slice pa xp.length pc,.slice sa xs.length sc] 115 (0,0))/\wr.heap[w.heap.size+1]? = some (.cells #[.string ⟨yl.toArray⟩,.int .i64 yh,.slice pa' yp.length pc',.slice sa' ys.length sc'] 115 (0,0))):=fun wr hb =>
  ⟨HB0.out.trans (hb.mono (by omega)),(hb.block _ (by omega)).trans HX.out,(hb.block _ (by omega)).trans HY.out⟩
 have HRm0:=zA (HRm.out w0 HB0.out);clear HX HY HB0 HRm;refine HRm0.out.mono ?_;rintro e w1 ⟨rfl,hb1⟩;obtain⟨q1,q2,q3⟩:=HG.out w1 hb1;have HB1:=zA hb1;have x3:w1.cell? ⟨w.heap.size,3,none⟩=some (.slice sa xs.length sc):=zD q2 3;have HR1w:=zA (HRd1.out w1 q1);have zJ7:Hid (∀w3,Below w1.heap.size w1 w3->Below w0.heap.size w0 w3):=fun w3 hb=>HB1.out.trans (hb.mono HB1.out.size);clear hb1 q1 q2 q3 HRm0 HRd1
 go_upto_region 2 with fail
 go_cut [11] from 23 to 32 (fun v wx=>v=.bool (r1 || r2)/\Hid (Below w1.heap.size w1 wx))
 case first =>
  cases r1
  ·go_wp2_with fail
   refine HR1w.out.mono ?_;rintro e w3 ⟨rfl,hb3⟩;obtain⟨q1,q2,q3⟩:=HG.out w3 (zJ7.out w3 hb3);have y3:w3.cell? ⟨w.heap.size+1,3,none⟩=some (.slice sa' ys.length sc'):=zD q3 3;have HB3:=zA hb3;have HR3:=zA (HRd2.out w3 q1);clear hb3 q1 q2 q3 x3;go_wp2_with fail
   refine HR3.out.mono ?_;rintro e w4 ⟨rfl,hb4⟩;have HB4:Hid (Below w1.heap.size w1 w4):=HB3.out.trans (hb4.mono HB3.out.size);clear hb4;go_wp2_with fail
   go_meet
   exact⟨rfl,HB4⟩
  ·go_wp2_with fail
   refine HR1w.out.mono ?_;rintro e w3 ⟨rfl,hb3⟩;have HB3:=zA hb3;clear hb3;go_wp2_with fail
   go_meet
   exact⟨rfl,HB3⟩
 case rest =>
  obtain⟨rfl,HBc⟩:=hcut;generalize hwc:wc=w3 at *;clear hwc;generalize (r1 || r2)=on at *;obtain⟨q1,q2,q3⟩:=HG.out w3 (zJ7.out w3 HBc.out);have HB3:=zA q1;have HW3:=zA (zJ7.out w3 HBc.out);have hs3:=q1.size;clear HR1w HRd2 x3 HBc zJ7 HB1;cases on
  ·have HE:Hid (ans=[lo]):=by have:=HT.out;rw[tl rfl]at this;exact this
   have HO:Hid ((w3.alloc (.cells #[.int .i64 lo] 3)).ownsRow w.heap.size 3 1 (.slice (some ⟨w3.heap.size,0,none⟩) 1 1) ans.length (vD ans)):=by
    unfold Hid;rw[HE.out];exact⟨rfl,.inr ⟨w3.heap.size,1,#[.int .i64 lo],rfl,by omega,zM _ _,t9 _,by unfold maxLen;omega,rfl,rfl⟩⟩
   have HBf:Hid (Below w.heap.size w (w3.alloc (.cells #[.int .i64 lo] 3))):=HB3.out.alloc hs3 _;clear q1 q2 q3;go_wp2_with fail
   go_ret
   exact⟨_,rfl,HO.out,HBf.out⟩
  ·rw[tg (by simp)]at HT
   obtain⟨d0,d1,d2⟩:=HBk.out w3 q1
   have HO2:Hid (∀W:World,w.heap.size<=W.heap.size->ans=[0,1]->(W.alloc (.cells #[.int .i64 0,.int .i64 1] 3)).ownsRow w.heap.size 3 1 (.slice (some ⟨W.heap.size,0,none⟩) 2 2) ans.length (vD ans)):=fun W hW e=>by
    rw[e];exact⟨rfl,.inr ⟨W.heap.size,2,#[.int .i64 0,.int .i64 1],rfl,hW,zM _ _,t9 _,by unfold maxLen;omega,rfl,rfl⟩⟩
   by_cases ha:ins<=a
   ·have HE:Hid (ans=[0,1]):=by have:=HT.out;rw[tl (by rw[tm ha];rfl)]at this;exact this
    have ia:¬(a:Int)<(ins:Int):=by omega
    have iD:decide (ins<=a)=true:=tm ha;clear q1 q2 q3 HT;go_wp2_with fail
    go_quiet (fail)
    have HBq:Hid (Below w.heap.size w (w3.drewN nq)):=yA HB3.out nq;have hsq:w.heap.size<=(w3.drewN nq).heap.size:=HBq.out.size;generalize w3.drewN nq=wq at *;have HOq:=zA (HO2.out wq hsq HE.out);have HBf:Hid (Below w.heap.size w (wq.alloc (.cells #[.int .i64 0,.int .i64 1] 3))):=HBq.out.alloc hsq _;go_wp2_with fail
    go_ret
    exact⟨_,rfl,HOq.out,HBf.out⟩
   ·have ia:(a:Int)<(ins:Int):=by omega
    have iD:decide (ins<=a)=false:=th ha;have iN:(a:Int)<(names.length:Int):=by omega
    rw[iD,pm]at HT;obtain⟨gn,rfl,cn⟩:=(zJ0.out w3 q1).atN (show a<names.length by omega);have HFw:=zA (fun n=>HFl.out (w3.drewN n) (yA q1 n));generalize names.getD a []=nm at *;generalize tH us nm=fl at *;cases fl
    ·have HE:Hid (ans=qZ lo hh BD):=by have:=HT.out;rw[tg (by simp)]at this;exact this
     clear q1 q2 q3 HT HO2;go_wp2_with fail
     go_quiet (first|(go_at_call 195;refine Calls.quiet_of_same (HFw.out _)))
     have HWq:Hid (Below w0.heap.size w0 (w3.drewN nq)):=yA HW3.out nq;clear HFw d0 d1 d2 cn HW3 HB3;generalize w3.drewN nq=wq at *;obtain⟨q1,q2,q3⟩:=HG.out wq HWq.out;have u0:wq.cell? ⟨w.heap.size,0,none⟩=some (.string ⟨xl.toArray⟩):=zD q2 0;have u1:wq.cell? ⟨w.heap.size,1,none⟩=some (.int .i64 xh):=zD q2 1;have u2:wq.cell? ⟨w.heap.size,2,none⟩=some (.slice pa xp.length pc):=zD q2 2;have u3:wq.cell? ⟨w.heap.size,3,none⟩=some (.slice sa xs.length sc):=zD q2 3;have v0:wq.cell? ⟨w.heap.size+1,0,none⟩=some (.string ⟨yl.toArray⟩):=zD q3 0;have v1:wq.cell? ⟨w.heap.size+1,1,none⟩=some (.int .i64 yh):=zD q3 1;have v2:wq.cell? ⟨w.heap.size+1,2,none⟩=some (.slice pa' yp.length pc'):=zD q3 2;have v3:wq.cell? ⟨w.heap.size+1,3,none⟩=some (.slice sa' ys.length sc'):=zD q3 3;have zJ2:=zA (HBn.out wq q1);have HQ1:=zA q1;clear q1 q2 q3;go_wp2_with fail
     refine zJ2.out.mono ?_;rintro e w4 ⟨v4,rfl,ho4,hb4⟩;have HW4:Hid (Below w.heap.size w w4):=HQ1.out.trans (hb4.mono HQ1.out.size);have hs4:=HW4.out.size;obtain⟨ba,bc,rfl,zIZ,-,-⟩:=dN ho4;have HCl:=zA zIZ;clear ho4 hb4 zIZ u0 u1 u2 u3 v0 v1 v2 v3 zJ2 HQ1 HWq;have HO0:Hid (w4.ownsRow w4.heap.size 3 1 (.slice none 0 0) (qZ lo hh (BD.take 0)).length (vD (qZ lo hh (BD.take 0)))):=⟨rfl,.inl ⟨rfl,rfl⟩⟩;go_wp2_with fail
     go_loopw [12,14] (fun ov iv wr=>∃(i:Nat),i<=BD.length/\iv=.int .i64 i/\Hid (Below w4.heap.size w4 wr)/\Hid (wr.ownsRow w4.heap.size 3 1 ov (qZ lo hh (BD.take i)).length (vD (qZ lo hh (BD.take i))))) (fun _ iv _=>BD.length-(intOf iv).toNat)
     case atStart=>exact⟨0,tr _,rfl,zA (tj _ _),HO0⟩
     case round =>
      obtain⟨i,hi,rfl,HB,HO⟩:=hrel;have zIE:=HB.out.size;obtain⟨oa,oc,rfl⟩:=yH HO.out;have hpl:=Yq lo hh (BD.take i);rw[p9]at hpl;by_cases zI6:i<BD.length
      ·have ii:(i:Int)<(BD.length:Int):=by omega
       obtain⟨gb,rfl,cb⟩:=(HCl.out.below HB.out).at (bW BD i zI6);have hbd:=HBd.out i zI6;have HTk:=zA (V0 lo hh BD i zI6)
       have HCb:Hid (∀w5,Below w4.heap.size w4 w5->w5.cell? ⟨gb,i,none⟩=some (.int .i64 (BD.getD i 0))):=fun w5 hb=>by
        obtain⟨g',e',c'⟩:=(HCl.out.below hb).at (bW BD i zI6);obtain rfl:gb=g':=by simpa using e'
        exact c'
       generalize BD.getD i 0=z at *;generalize qZ lo hh (BD.take i)=P0 at *;have HO0:Hid (wr.ownsRow w4.heap.size 3 1 (.slice oa P0.length oc) (kW lo hh z 0 P0).length (vD (kW lo hh z 0 P0))):=HO;have hpl2:P0.length<=4*i:=by omega
       generalize hwr:wr=wrr at *;clear hwr HO hpl;go_wp2_with fail
       go_loopw [12,15] (fun ov nv wr=>∃(j:Nat),j<=4/\nv=.int .i64 (z+(j:Nat))/\Hid (Below w4.heap.size w4 wr)/\Hid (wr.ownsRow w4.heap.size 3 1 ov (kW lo hh z j P0).length (vD (kW lo hh z j P0)))) (fun _ nv _=>(z+5-intOf nv).toNat)
       case atStart=>exact⟨0,by omega,by simp,HB,HO0⟩
       case round =>
        obtain⟨j,hj,rfl,HBj,HOj⟩:=hrel;have hszj:=HBj.out.size;obtain⟨va,vc,rfl,hcelj,-,-⟩:=dN HOj.out;have hplj:=Jn lo hh z j P0;have cbj:=HCb.out wr HBj.out;by_cases hj4:j<=3
        ·have HIl:=zA (GJ wr va vc (kW lo hh z j P0) (z+(j:Nat)) hcelj (by omega))
         have HSt2:Hid (kW lo hh z (j+1) P0=BR lo hh (kW lo hh z j P0) (z+(j:Nat))):=rfl;have kk:z+(j:Int)<=z+3:=by omega
         clear hcelj;generalize kW lo hh z j P0=PJ at *;unfold BR at HSt2;generalize aI PJ (z+(j:Nat))=il at *;go_wp2_with fail
         refine HIl.out.mono ?_;rintro e w' ⟨rfl,hw⟩;obtain rfl:=hw.symm;by_cases k1:lo<=z+(j:Int)
         ·by_cases k2:z+(j:Int)<=hh
          ·cases il
           ·have HE1:Hid (kW lo hh z (j+1) P0=PJ++[z+(j:Nat)]):=by have:=HSt2.out;rw[tl (by rw[tm k1,tm k2];rfl)]at this;exact this
            clear HSt2
            go_wp2_with (at_builtin;refine wpList_append_own _ rfl _ _ 59 rfl w4.heap.size 3 i0 _ 1 8 Tryz.underlying59 hi0 hz0 hz1 hz2 rfl (by decide) _ _ _ rfl (HOj.out.alloc _) ⟨wr.heap.size,0,none⟩ 1 1 [.int .i64 (z+(j:Nat))] rfl rfl ?c1k1 ?c1k2 ?c1k3 ?c1k4 ?c1k5 ?_)
            try (case c1k1=>first|exact zZ _ _ _ _ rfl|exact fun _ _ h=>h)
            try (case c1k2=>first|rfl|(intro u hu;simp at hu;subst hu;rfl))
            try (case c1k3=>unfold maxLen;omega)
            try (case c1k4=>omega)
            try (case c1k5=>first|omega|(simp;omega))
            intro v6 w6 zIQ zIF _;have HB6:Hid (Below w4.heap.size w4 w6):=(HBj.out.alloc hszj _).grown zIF (by simp;omega) (zN HOj.out);have HO6:Hid (w6.ownsRow w4.heap.size 3 1 v6 (kW lo hh z (j+1) P0).length (vD (kW lo hh z (j+1) P0))):=by unfold Hid;rw[HE1.out,dU,tq];exact zIQ
            clear zIQ zIF;go_wp2_with fail
            go_roundw
            case rel=>exact⟨j+1,by omega,by first|go_num|(congr 1;omega),HB6,HO6⟩
            case measure=>simp[intOf];omega
           ·have HE1:Hid (kW lo hh z (j+1) P0=PJ):=by have:=HSt2.out;simpa[Hid] using this
            clear HSt2;go_wp2_with fail
            go_roundw
            case rel=>exact⟨j+1,by omega,by first|go_num|(congr 1;omega),HBj,by rw[HE1.out];exact HOj⟩
            case measure=>simp[intOf];omega
          ·have HE1:Hid (kW lo hh z (j+1) P0=PJ):=by have:=HSt2.out;rw[tg (by rw[th k2];simp)]at this;exact this
           clear HSt2;go_wp2_with fail
           go_roundw
           case rel=>exact⟨j+1,by omega,by first|go_num|(congr 1;omega),HBj,by rw[HE1.out];exact HOj⟩
           case measure=>simp[intOf];omega
         ·have HE1:Hid (kW lo hh z (j+1) P0=PJ):=by have:=HSt2.out;rw[tg (by rw[th k1];simp)]at this;exact this
          clear HSt2;go_wp2_with fail
          go_roundw
          case rel=>exact⟨j+1,by omega,by first|go_num|(congr 1;omega),HBj,by rw[HE1.out];exact HOj⟩
          case measure=>simp[intOf];omega
        ·obtain rfl:j=4:=by omega
         have kk:¬z+((4:Nat):Int)<=z+3:=by omega
         have HOe:Hid (wr.ownsRow w4.heap.size 3 1 (.slice va (kW lo hh z 4 P0).length vc) (qZ lo hh (BD.take (i+1))).length (vD (qZ lo hh (BD.take (i+1))))):=by unfold Hid;rw[HTk.out];exact HOj.out
         generalize (kW lo hh z 4 P0).length=pn at *;go_wp2_with fail
         go_roundw
         case rel=>exact⟨i+1,by omega,by go_num,HBj,HOe⟩
         case measure=>simp[intOf];omega
      ·obtain rfl:i=BD.length:=by omega
       have ii:¬(BD.length:Int)<(BD.length:Int):=by omega
       have HOe:Hid (wr.ownsRow w.heap.size 3 1 (.slice oa (qZ lo hh (BD.take BD.length)).length oc) ans.length (vD ans)):=by
        have h9:=xC HO.out hs4;unfold Hid;rw[HE.out];rw[lj]at h9 ⊢;exact h9
       have HBe:Hid (Below w.heap.size w wr):=HW4.out.trans (HB.out.mono hs4);generalize (qZ lo hh (BD.take BD.length)).length=pn at *;clear HO;go_wp2_with fail
       go_ret
       exact⟨_,rfl,HOe.out,HBe.out⟩
    ·have HE:Hid (ans=[0,1]):=by have:=HT.out;rw[tl rfl]at this;exact this
     clear q1 q2 q3 HT;go_wp2_with fail
     go_quiet (first|(go_at_call 195;refine Calls.quiet_of_same (HFw.out _)))
     have HBq:Hid (Below w.heap.size w (w3.drewN nq)):=yA HB3.out nq;have hsq:w.heap.size<=(w3.drewN nq).heap.size:=HBq.out.size;generalize w3.drewN nq=wq at *;have HOq:=zA (HO2.out wq hsq HE.out);have HBf:Hid (Below w.heap.size w (wq.alloc (.cells #[.int .i64 0,.int .i64 1] 3))):=HBq.out.alloc hsq _;go_wp2_with fail
     go_ret
     exact⟨_,rfl,HOq.out,HBf.out⟩
structure Y8(both:List Int->Bool)(N:Nat)(TL:Nat->List Int)(a:Nat)(vs vs':List Int)(r:Bool):Prop where
 len:vs'.length=N
 kp:∀k,k<a->vs'.getD k 0=vs.getD k 0
 yes:r=true->both vs'=true/\∀k,a<=k->k<N->vs'.getD k 0∈TL k
 no:r=false->∀u:List Int,u.length=N->(∀k,k<a->u.getD k 0=vs.getD k 0)->(∀k,a<=k->k<N->u.getD k 0∈TL k)->both u=false
theorem GW(both:List Int->Bool)(N:Nat)(TL:Nat->List Int)(vs:List Int)(hl:vs.length=N):Y8 both N TL N vs vs (both vs) :=
 ⟨hl,fun _ _=>rfl,fun h=>⟨h,fun k h1 h2=>absurd h2 (by omega)⟩,fun h u hu hk _=>by rw[Uy (a:=u) (b:=vs) (by omega) (fun j hj=>hk j (by omega))];exact h⟩
structure Y9(both:List Int->Bool)(N:Nat)(TL:Nat->List Int)(a:Nat)(vs vs':List Int)(i:Nat):Prop where
 len:vs'.length=N
 kp:∀k,k<a->vs'.getD k 0=vs.getD k 0
 no:∀j,j<i->∀u:List Int,u.length=N->(∀k,k<a->u.getD k 0=vs.getD k 0)->u.getD a 0=(TL a).getD j 0->(∀k,a<=k->k<N->u.getD k 0∈TL k)->both u=false
theorem CX(both:List Int->Bool)(N:Nat)(TL:Nat->List Int)(a:Nat)(vs:List Int)(hl:vs.length=N):Y9 both N TL a vs vs 0:=⟨hl,fun _ _=>rfl,fun j hj=>absurd hj (by omega)⟩
theorem GX{both:List Int->Bool}{N:Nat}{a:Nat}{v1 v2:List Int}(ha:a<N)(hi:i<(TL a).length)(h:Y9 both N TL a vs v1 i)(k:Y8 both N TL (a+1) (v1.set a ((TL a).getD i 0)) v2 true):Y8 both N TL a vs v2 true:=by
 have hla:a<v1.length:=by rw[h.len];exact ha
 refine⟨k.len,fun j hj=>?_,fun _=>⟨(k.yes rfl).1,fun j h1 h2=>?_⟩,fun h=>absurd h (by simp)⟩
 ·rw[k.kp j (by omega),nM _ _ _ _ hla,tg (by omega)];exact h.kp j hj
 ·by_cases hj:j=a
  ·subst hj;rw[k.kp j (by omega),nM _ _ _ _ hla,tl rfl];simp[List.getD,hi]
  ·exact(k.yes rfl).2 j (by omega) h2
theorem zA9{both:List Int->Bool}{N:Nat}{TL:Nat->List Int}{a i:Nat}{vs v1 v2:List Int}(ha:a<N)(h:Y9 both N TL a vs v1 i)(k:Y8 both N TL (a+1) (v1.set a ((TL a).getD i 0)) v2 false):Y9 both N TL a vs v2 (i+1):=by
 have hla:a<v1.length:=by rw[h.len];exact ha
 refine⟨k.len,fun j hj=>?_,fun j hj u hu h1 h2 h3=>?_⟩
 ·rw[k.kp j (by omega),nM _ _ _ _ hla,tg (by omega)];exact h.kp j hj
 ·by_cases hji:j<i
  ·exact h.no j hji u hu h1 h2 h3
  ·obtain rfl:j=i:=by omega
   refine k.no rfl u hu (fun q hq=>?_) (fun q h4 h5=>h3 q (by omega) h5);rw[nM _ _ _ _ hla];by_cases hqa:q=a
   ·rw[tl hqa,hqa];exact h2
   ·rw[tg hqa,h.kp q (by omega)];exact h1 q (by omega)
theorem GY{both:List Int->Bool}{N:Nat}{a:Nat}{v1:List Int}(ha:a<N)(h:Y9 both N TL a vs v1 (TL a).length):Y8 both N TL a vs v1 false:=by
 refine⟨h.len,h.kp,fun h=>absurd h (by simp),fun _ u hu h1 h3=>?_⟩;obtain⟨j,hj,e⟩:=f8 (h3 a (t9 _) ha);exact h.no j hj u hu h1 (by rw[<-e];simp[List.getD,hj]) h3
structure yw(w:World)(gt N:Nat)(TL:Nat->List Int):Prop where
 row:∀a,a<N->∃ta tc,w.cell? ⟨gt,a,none⟩=some (.slice ta (TL a).length tc)/\jX w ta (vD (TL a))
theorem yw.below{w:World}{gt N:Nat}(h:yw w gt N TL)(hb:Below w.heap.size w w'):yw w' gt N TL:=⟨fun a ha=>by
 obtain⟨ta,tc,h1,h2⟩:=h.row a ha;exact⟨ta,tc,(hb.cell (p:=⟨gt,a,none⟩) (zP h1)).trans h1,h2.below hb⟩⟩
def Yj(both:List Int->Bool)(N:Nat)(TL:Nat->List Int)(gv a:Nat)(vs:List Int)(w w':World)(e:Ending):Prop:=∃r vs',e=.returned (.bool r)/\tT w' gv vs'/\zB w.heap.size gv w w'/\Y8 both N TL a vs vs' r
theorem zDW(W:World)(b:Nat)(us:List zG)(names:List Bs)(ins:Nat)(rs:List RX)(x y:RX)(N gt tc gv vc:Nat)(TL:Nat->List Int)(hB:cU W b us names ins rs)(hx:nU W x)(hy:nU W y)(hT:yw W gt N TL)(hgv:W.heap.size<=gv)(hN:N<=10000)(hTl:∀a,a<N->(TL a).length<=1000000)(zIP:∀vs:List Int,vs.length=N->Zw ins vs x.1/\Zw ins vs y.1) :
 ∀(m a:Nat) (w:World) (vs:List Int),a+m=N->Below W.heap.size W w->tT w gv vs->vs.length=N ->
 Calls Tryz.prog 138 #[.pointer (some ⟨b,0,none⟩),Qm x,Qm y,.slice (some ⟨gt,0,none⟩) N tc,.slice (some ⟨gv,0,none⟩) N vc,.int .i64 (a:Nat)] w fun e w'=>Yj (fun vs=>qR ins vs x.1&&qR ins vs y.1) N TL gv a vs w w' e:=by
 obtain⟨pa,pc,e1,-⟩:=hx.parts;obtain⟨sa,sc,e2,-⟩:=hx.steps;obtain⟨pa',pc',e3,-⟩:=hy.parts;obtain⟨sa',sc',e4,-⟩:=hy.steps;intro m
 induction m with
 | zero =>
   intro a w vs hm hbW hv hl;obtain rfl:a=N:=by omega
   have hlv:=hv.lt;have HA1:=zA (fun w' (hb:Below w.heap.size w w')=>aS w' b x ins (some ⟨gv,0,none⟩) vc vs ((hx.below hbW).below hb) (by have:=(hB.down hbW).down hb;exact this.ins) ((hv.below hb).ints (by omega)) (zIP vs hl).1);have HA2:=zA (fun w' (hb:Below w.heap.size w w')=>aS w' b y ins (some ⟨gv,0,none⟩) vc vs ((hy.below hbW).below hb) (by have:=(hB.down hbW).down hb;exact this.ins) ((hv.below hb).ints (by omega)) (zIP vs hl).2);have HP:Hid (∀w',Below w.heap.size w w'->Yj (fun vs=>qR ins vs x.1&&qR ins vs y.1) a TL gv a vs w w' (.returned (.bool (qR ins vs x.1&&qR ins vs y.1)))):=fun w' hb=>⟨_,vs,rfl,hv.below hb,zB.of_below hb,GW _ a TL vs hl⟩;rw[hl]at HA1 HA2;simp only[Qm]at HA1 HA2 ⊢;rw[e1,e2]at HA1;rw[e3,e4]at HA2;rw[e1,e2,e3,e4];clear hB hx hy hT zIP e1 e2 e3 e4 hTl hv hl hm;generalize qR ins vs x.1=z1 at *;generalize qR ins vs y.1=z2 at *;generalize x.1.label=xl at *;generalize x.1.head=xh at *;generalize x.1.parts.length=xn at *;generalize x.1.steps.length=xm at *;generalize y.1.label=yl at *;generalize y.1.head=yh at *;generalize y.1.parts.length=yn at *;generalize y.1.steps.length=ym at *
   go_enter Tryz.func138,Tryz.ntmps138
   cases z1
   ·go_wp2_with fail
    refine(HA1.out _ ((ge (t9 _) _).alloc (by simp) _)).mono ?_;rintro e w1 ⟨rfl,hb1⟩;have HQ:=zA (HP.out w1 (((ge (t9 _) _).alloc (by simp) _).trans (hb1.mono (by simp;omega))));clear hb1;go_wp2_with fail
    first|exact HQ.out|(go_ret;exact HQ.out)
   ·obtain⟨w2,hw2⟩:∃w2,w2=(w.alloc (Obj.cells #[.string ⟨xl.toArray⟩,.int .i64 xh,.slice pa xn pc,.slice sa xm sc] 115)).alloc (Obj.cells #[.string ⟨yl.toArray⟩,.int .i64 yh,.slice pa' yn pc',.slice sa' ym sc'] 115):=⟨_,rfl⟩
    have HX2:Hid (w2.heap[w.heap.size+1]? = some (.cells #[.string ⟨yl.toArray⟩,.int .i64 yh,.slice pa' yn pc',.slice sa' ym sc'] 115 (0,0))):=by unfold Hid;rw[hw2];exact xX _ _ _ (by simp)
    have HB2:Hid (Below w.heap.size w w2):=by unfold Hid;rw[hw2];exact(ge (t9 _) _).alloc (by simp) _
    have hs2:w.heap.size<=w2.heap.size:=HB2.out.size;have HA1w:=zA (HA1.out w2 HB2.out);go_wp2_with fail
    rw[<-hw2];clear hw2;refine HA1w.out.mono ?_;rintro e w3 ⟨rfl,hb3⟩;have hX3:w3.heap[w.heap.size+1]? = _:=(hb3.block _ (yK HX2.out)).trans HX2.out;have u0:w3.cell? ⟨w.heap.size+1,0,none⟩=some (.string ⟨yl.toArray⟩):=zD hX3 0;have u1:w3.cell? ⟨w.heap.size+1,1,none⟩=some (.int .i64 yh):=zD hX3 1;have u2:w3.cell? ⟨w.heap.size+1,2,none⟩=some (.slice pa' yn pc'):=zD hX3 2;have u3:w3.cell? ⟨w.heap.size+1,3,none⟩=some (.slice sa' ym sc'):=zD hX3 3;have HB3:Hid (Below w.heap.size w w3):=HB2.out.trans (hb3.mono hs2);have HA2w:=zA (HA2.out w3 HB3.out);clear hX3 hb3;go_wp2_with fail
    refine HA2w.out.mono ?_;rintro e w4 ⟨rfl,hb4⟩;have HQ:=zA (HP.out w4 (HB3.out.trans (hb4.mono HB3.out.size)));clear hb4;go_wp2_with fail
    first|exact HQ.out|(go_ret;exact HQ.out)
 | succ m ih =>
   intro a w vs hm hbW hv hl;have ha:a<N:=by omega
   have hTa:=hTl a ha;have haI:(a:Int)<(N:Int):=by omega
   have zIH:((a:Int)==(N:Int))=false:=by rw[fa];omega
   have hWw:=hbW.size;have HI:Hid (∀w1 v1,Below W.heap.size W w1->tT w1 gv v1->v1.length=N->Calls Tryz.prog 138 #[.pointer (some ⟨b,0,none⟩),Qm x,Qm y,.slice (some ⟨gt,0,none⟩) N tc,.slice (some ⟨gv,0,none⟩) N vc,.int .i64 ((a:Int)+1)] w1 fun e w'=>∃r vs',e=.returned (.bool r)/\tT w' gv vs'/\zB w1.heap.size gv w1 w'/\Y8 (fun vs=>qR ins vs x.1&&qR ins vs y.1) N TL (a+1) v1 vs' r):=fun w1 v1 h1 h2 h3=>ih (a+1) w1 v1 (by omega) h1 h2 h3;have HTr:Hid (∀w1,Below W.heap.size W w1->∃ta tk,w1.cell? ⟨gt,a,none⟩=some (.slice ta (TL a).length tk)/\jX w1 ta (vD (TL a))):=fun w1 hb=>(hT.below hb).row a ha;have HY:Hid (∀i v1 v2 w2,i<(TL a).length->Y9 (fun vs=>qR ins vs x.1&&qR ins vs y.1) N TL a vs v1 i->tT w2 gv v2->zB w.heap.size gv w w2->Y8 (fun vs=>qR ins vs x.1&&qR ins vs y.1) N TL (a+1) (v1.set a ((TL a).getD i 0)) v2 true->Yj (fun vs=>qR ins vs x.1&&qR ins vs y.1) N TL gv a vs w w2 (.returned (.bool true))):=fun i v1 v2 w2 h0 h1 h2 h3 h4=>⟨true,v2,rfl,h2,h3,GX ha h0 h1 h4⟩;have HN:Hid (∀v1 w1,Y9 (fun vs=>qR ins vs x.1&&qR ins vs y.1) N TL a vs v1 (TL a).length->tT w1 gv v1->zB w.heap.size gv w w1->Yj (fun vs=>qR ins vs x.1&&qR ins vs y.1) N TL gv a vs w w1 (.returned (.bool false))):=fun v1 w1 h1 h2 h3=>⟨false,v1,rfl,h2,h3,GY ha h1⟩;have HM0:=zA (CX (fun vs=>qR ins vs x.1&&qR ins vs y.1) N TL a vs hl);have HV:=zA hv;have hlv:=hv.lt;simp only[Qm]at HI ⊢;rw[e1,e2,e3,e4]at HI ⊢;obtain⟨tb,tk,k0,-⟩:=HTr.out w hbW;have hgt:=zP k0;have HbW:=zA hbW;clear ih hm hB hx hy hT zIP hv hbW hTl e1 e2 e3 e4 k0;generalize (fun vs=>qR ins vs x.1&&qR ins vs y.1)=BO at *;generalize x.1.label=xl at *;generalize x.1.head=xh at *;generalize x.1.parts.length=xn at *;generalize x.1.steps.length=xm at *;generalize y.1.label=yl at *;generalize y.1.head=yh at *;generalize y.1.parts.length=yn at *;generalize y.1.steps.length=ym at *
   go_enter Tryz.func138,Tryz.ntmps138
   go_wp2_with fail
   generalize hO1:Obj.cells #[.string ⟨xl.toArray⟩,.int .i64 xh,.slice pa xn pc,.slice sa xm sc] 115=O1 at *;generalize hO2:Obj.cells #[.string ⟨yl.toArray⟩,.int .i64 yh,.slice pa' yn pc',.slice sa' ym sc'] 115=O2 at *;have HX:Hid (((w.alloc O1).alloc O2).heap[w.heap.size]? = some (.cells #[.string ⟨xl.toArray⟩,.int .i64 xh,.slice pa xn pc,.slice sa xm sc] 115 (0,0))):=by unfold Hid;rw[hO1];exact yJ (zM _ _)
   have HY2:Hid (((w.alloc O1).alloc O2).heap[w.heap.size+1]? = some (.cells #[.string ⟨yl.toArray⟩,.int .i64 yh,.slice pa' yn pc',.slice sa' ym sc'] 115 (0,0))):=by unfold Hid;rw[hO2];exact xX _ _ _ (by simp)
   have HB0:Hid (Below w.heap.size w ((w.alloc O1).alloc O2)):=(ge (t9 _) _).alloc (by simp) _;have hs0:w.heap.size+2<=((w.alloc O1).alloc O2).heap.size:=by simp
   clear hO1 hO2;generalize (w.alloc O1).alloc O2=w0 at *;have HV0:=zA (HV.out.below HB0.out);clear HV
   go_loopw [13] (fun iv wr=>∃(i:Nat) (v1:List Int),i<=(TL a).length/\iv=.int .i64 i/\Hid (zB w0.heap.size gv w0 wr)/\Hid (tT wr gv v1)/\Hid (Y9 BO N TL a vs v1 i)) (fun iv _=>(TL a).length-(intOf iv).toNat)
   case atStart=>exact⟨0,vs,tr _,rfl,zA (zB.refl _ _ _),HV0,HM0⟩
   case round =>
    obtain⟨i,v1,hi,rfl,HK,HVr,HMr⟩:=hrel;have zIE:=HK.out.size;have HKw:Hid (zB w.heap.size gv w wr):=(zB.of_below HB0.out).trans (HK.out.mono (by omega));have HBW:Hid (Below W.heap.size W wr):=HbW.out.trans (HKw.out.below hWw hgv);obtain⟨ta,tk2,k0,hcl⟩:=HTr.out wr HBW.out;by_cases zI6:i<(TL a).length
    ·have ii:(i:Int)<((TL a).length:Int):=by omega
     obtain⟨gq,rfl,cq⟩:=hcl.at (bW (TL a) i zI6);have hx0:wr.heap[w.heap.size]? = _:=(HK.out.block _ (by omega) (by omega)).trans HX.out;have hy0:wr.heap[w.heap.size+1]? = _:=(HK.out.block _ (by omega) (by omega)).trans HY2.out;have hlen1:=HMr.out.len;have HVs:=zA (HVr.out.set a ((TL a).getD i 0));have cv:wr.cell? ⟨gv,a,none⟩=some (.int .i64 (v1.getD a 0)):=HVr.out.cell (by omega);have fv:wr.frozen? ⟨gv,a,none⟩=false:=HVr.out.free a;have HKs:Hid (zB w0.heap.size gv w0 (wr.setCell ⟨gv,a,none⟩ (.int .i64 ((TL a).getD i 0)))):=HK.out.setCell (p:=⟨gv,a,none⟩) (.inr rfl) _;have hxs:(wr.setCell ⟨gv,a,none⟩ (.int .i64 ((TL a).getD i 0))).heap[w.heap.size]? = _:=(HKs.out.block _ (by omega) (by omega)).trans HX.out;have hys:(wr.setCell ⟨gv,a,none⟩ (.int .i64 ((TL a).getD i 0))).heap[w.heap.size+1]? = _:=(HKs.out.block _ (by omega) (by omega)).trans HY2.out;have HIw:=zA (HI.out _ _ (HbW.out.trans (((zB.of_below HB0.out).trans (HKs.out.mono (by omega))).below hWw hgv)) HVs.out (by simp[hlen1]));have u0:(wr.setCell ⟨gv,a,none⟩ (.int .i64 ((TL a).getD i 0))).cell? ⟨w.heap.size,0,none⟩=some (.string ⟨xl.toArray⟩):=zD hxs 0;have u1:(wr.setCell ⟨gv,a,none⟩ (.int .i64 ((TL a).getD i 0))).cell? ⟨w.heap.size,1,none⟩=some (.int .i64 xh):=zD hxs 1;have u2:(wr.setCell ⟨gv,a,none⟩ (.int .i64 ((TL a).getD i 0))).cell? ⟨w.heap.size,2,none⟩=some (.slice pa xn pc):=zD hxs 2;have u3:(wr.setCell ⟨gv,a,none⟩ (.int .i64 ((TL a).getD i 0))).cell? ⟨w.heap.size,3,none⟩=some (.slice sa xm sc):=zD hxs 3;have y0:(wr.setCell ⟨gv,a,none⟩ (.int .i64 ((TL a).getD i 0))).cell? ⟨w.heap.size+1,0,none⟩=some (.string ⟨yl.toArray⟩):=zD hys 0;have y1:(wr.setCell ⟨gv,a,none⟩ (.int .i64 ((TL a).getD i 0))).cell? ⟨w.heap.size+1,1,none⟩=some (.int .i64 yh):=zD hys 1;have y2:(wr.setCell ⟨gv,a,none⟩ (.int .i64 ((TL a).getD i 0))).cell? ⟨w.heap.size+1,2,none⟩=some (.slice pa' yn pc'):=zD hys 2;have y3:(wr.setCell ⟨gv,a,none⟩ (.int .i64 ((TL a).getD i 0))).cell? ⟨w.heap.size+1,3,none⟩=some (.slice sa' ym sc'):=zD hys 3;have HYi:=zA (fun v2 w2=>HY.out i v1 v2 w2 zI6 HMr.out);have HNi:=zA (fun v2 => @zA9 BO N TL a i vs v1 v2 ha HMr.out);clear hx0 hy0 hxs hys hcl;generalize (TL a).getD i 0=z at *;generalize v1.getD a 0=old at *;generalize v1.set a z=v1s at *;generalize (TL a).length=tn at *
     go_upto_region 7 with fail
     generalize wr.setCell ⟨gv,a,none⟩ (.int .i64 z)=ws at *;go_wp2_with fail
     refine HIw.out.mono ?_;rintro e w3 ⟨r,v3,rfl,hv3,hk3,hR3⟩;have HK3:Hid (zB w0.heap.size gv w0 w3):=HKs.out.trans (hk3.mono HKs.out.size);have HK3w:Hid (zB w.heap.size gv w w3):=(zB.of_below HB0.out).trans (HK3.out.mono (by omega));cases r
     ·have HM3:=zA (HNi.out v3 hR3)
      have HV3:=zA hv3;clear hv3 hk3 hR3;go_wp2_with fail
      go_roundw
      case rel=>exact⟨i+1,v3,by omega,by go_num,HK3,HV3,HM3⟩
      case measure=>simp[intOf];omega
     ·have HQ:=zA (HYi.out v3 w3 hv3 HK3w.out hR3)
      clear hv3 hk3 hR3;go_wp2_with fail
      first|exact HQ.out|(go_ret;exact HQ.out)
    ·obtain rfl:i=(TL a).length:=by omega
     have ii:¬((TL a).length:Int)<((TL a).length:Int):=by omega
     have HQ:=zA (HN.out v1 wr HMr.out HVr.out HKw.out);clear hcl;generalize (TL a).length=tn at *;go_wp2_with fail
     first|exact HQ.out|(go_ret;exact HQ.out)
def vl(us:List zG)(names:List Bs)(ins:Nat)(x y:pU)(a:Nat):List Int:=if (decide (ins<=a)&&(tX x.parts (a:Int) || tX y.parts (a:Int)))=true then [1] else cV us names ins x.steps y.steps a
def gQ(us:List zG)(names:List Bs)(ins:Nat)(x y:pU):Prop:=∃u:List Int,u.length=names.length/\(∀k,k<names.length->u.getD k 0∈vl us names ins x y k)/\(qR ins u x&&qR ins u y)=true
theorem Bm(rr ss:List vS)(a:Nat):(cV us names ins rr ss a).length<=2+4*(2*ins+rr.length+ss.length):=by
 unfold cV;have:=Yq (uK us names ins a).1 (uK us names ins a).2 (uJ us names ins rr ss);have:=Y4 us names ins rr ss;split
 ·simp only[p7,List.length_nil];omega
 ·split
  ·simp only[p7,List.length_nil];omega
  ·omega
theorem zDK:(Tryz.prog.info? 59).map (fun i=>(i.zero,i.size,i.bytes))=some (some (.slice none 0 0),1,24):=by kernel_rfl
structure xd(w w0:World)(TL:Nat->List Int)(ov:Value)(i:Nat)(S:List Value):Prop where
 len:S.length=i
 own:w.ownsRow w0.heap.size 59 1 ov i S
 at':∀a,a<i->∃ta tc,S[a]? = some (.slice ta (TL a).length tc)/\uS w 3 ta (vD (TL a))
theorem xd.below{w:World}(h:xd w w0 TL ov i S)(hb:Below w.heap.size w w'):xd w' w0 TL ov i S :=
 ⟨h.len,wU h.own hb,fun a ha=>by obtain⟨ta,tc,h1,h2⟩:=h.at' a ha;exact⟨ta,tc,h1,h2.below hb⟩⟩
theorem xd.app{w:World}{v':Value}{ta:Option Addr}{tc:Nat}(h:xd w w0 TL ov i S)(hc:uS w 3 ta (vD (TL i)))(zI8:w'.ownsRow w0.heap.size 59 1 v' (i+1) (S++[.slice ta (TL i).length tc]))(hg:w.grownBy w' ov.ownBlock):xd w' w0 TL v' (i+1) (S++[.slice ta (TL i).length tc]):=by
 refine⟨by simp[h.len],zI8,fun a ha=>?_⟩;by_cases hai:a<i
 ·obtain⟨ta',tc',h1,h2⟩:=h.at' a hai
  exact⟨ta',tc',by rw[pw (by rw[h.len];exact hai)];exact h1,h2.grown h.own (by decide) hg⟩
 ·obtain rfl:a=i:=by omega
  exact⟨ta,tc,by rw[pf (by rw[h.len];omega),h.len];simp,hc.grown h.own (by decide) hg⟩
theorem xd.tri{w:World}(h:xd w w0 TL ov i S)(h0:0<i):∃gt tc,ov=.slice (some ⟨gt,0,none⟩) i tc/\yw w gt i TL/\gt<w.heap.size:=by
 rcases h.own.2 with ⟨_,k2⟩|⟨g,cap,yW,k1,_,k3,_,_,_,k7⟩
 ·omega
 ·refine⟨g,cap,k1,⟨fun a ha=>?_⟩,yK k3⟩
  obtain⟨ta,tc,h1,h2⟩:=h.at' a ha;exact⟨ta,tc,xB k3 (n:=i*1) k7 h1,h2.cel⟩
theorem qk:uS (w.alloc (.cells #[.int .i64 1] 3)) 3 (some ⟨w.heap.size,0,none⟩) (vD [1]):=by
 refine .inr ⟨w.heap.size,#[.int .i64 1],(0,0),rfl,zM _ _,fun j hj=>?_⟩;have:j=0:=by simp[vD]at hj;omega
 subst this;rfl
theorem zH5(ls:List zF)(us:List zG)(names:List Bs)(ins:Nat)(rs:List RX)(x y:RX)(hB:cU w b us names ins rs)(hA:yP ls us)(zIK:ins<=names.length)(hpos:0<names.length)(hx:nU w x)(hy:nU w y)(hbd:∀z∈uJ us names ins x.1.steps y.1.steps,-1000000<=z/\z<=1000000)(zIP:∀vs:List Int,vs.length=names.length->Zw ins vs x.1/\Zw ins vs y.1) :
 Calls Tryz.prog 83 #[.pointer (some ⟨b,0,none⟩),Qm x,Qm y] w fun e w'=>∃r,e=.returned (.bool r)/\(r=true ↔ gQ us names ins x.1 y.1)/\Below w.heap.size w w':=by
 obtain⟨i0,hi0,hz0,hz1,hz2⟩:=dp zDK;obtain⟨pa,pc,e1,-⟩:=hx.parts;obtain⟨sa,sc,e2,-⟩:=hx.steps;obtain⟨pa',pc',e3,-⟩:=hy.parts;obtain⟨sa',sc',e4,-⟩:=hy.steps;obtain⟨na,nc,c1,zIO⟩:=hB.nam;have c2:=hB.ins;have hfn:=zIO.few;have hf1:=hx.few2;have hf2:=hy.few2;have HTr:=zA (fun w' (hb:Below w.heap.size w w') (a:Nat)=>zBT w' b ls us names ins rs x y a (hB.down hb) hA zIK (hx.below hb) (hy.below hb) hbd);have HNd1:=zA (fun w' (hb:Below w.heap.size w w') (a:Nat)=>VE w' x (a:Int) (hx.below hb));have HNd2:=zA (fun w' (hb:Below w.heap.size w w') (a:Nat)=>VE w' y (a:Int) (hy.below hb));have HTL:Hid (∀a,vl us names ins x.1 y.1 a=if (decide (ins<=a)&&(tX x.1.parts (a:Int) || tX y.1.parts (a:Int)))=true then [1] else cV us names ins x.1.steps y.1.steps a):=fun _=>rfl
 have HTl:Hid (∀a,(vl us names ins x.1 y.1 a).length<=1000000):=fun a=>by
  rw[HTL.out a];have:=Bm us names ins x.1.steps y.1.steps a;split
  ·simp only[p7,List.length_nil];omega
  ·omega
 have HFd:Hid (∀W,Below w.heap.size w W->∀gt tc gv vc,yw W gt names.length (vl us names ins x.1 y.1)->W.heap.size<=gv->∀w' vs,Below W.heap.size W w'->tT w' gv vs->vs.length=names.length->Calls Tryz.prog 138 #[.pointer (some ⟨b,0,none⟩),Qm x,Qm y,.slice (some ⟨gt,0,none⟩) names.length tc,.slice (some ⟨gv,0,none⟩) names.length vc,.int .i64 ((0:Nat):Int)] w' fun e w''=>Yj (fun vs=>qR ins vs x.1&&qR ins vs y.1) names.length (vl us names ins x.1 y.1) gv 0 vs w' w'' e):=fun W hb gt tc gv vc hT hg w' vs h1 h2 h3=>zDW W b us names ins rs x y names.length gt tc gv vc (vl us names ins x.1 y.1) (hB.down hb) (hx.below hb) (hy.below hb) hT hg hfn (fun a _=>HTl.out a) zIP names.length 0 w' vs (by omega) h1 h2 h3
 have HEnd:Hid (∀(gv:Nat) (vs:List Int) (w' w'':World) (e:Ending),vs.length=names.length->Yj (fun vs=>qR ins vs x.1&&qR ins vs y.1) names.length (vl us names ins x.1 y.1) gv 0 vs w' w'' e->∃r,e=.returned (.bool r)/\(r=true ↔ gQ us names ins x.1 y.1)/\zB w'.heap.size gv w' w''):=fun gv vs w' w'' e hl hp=>by
  obtain⟨r,v',rfl,_,hk,hr⟩:=hp;refine⟨r,rfl,⟨fun h=>?_,fun h=>?_⟩,hk⟩
  ·subst h;exact⟨v',hr.len,fun k hk=>(hr.yes rfl).2 k (tr _) hk,(hr.yes rfl).1⟩
  ·obtain⟨u,u1,u2,u3⟩:=h
   cases r with
   | true=>rfl
   | false=>have:=hr.no rfl u u1 (fun k hk=>absurd hk (by omega)) (fun k _ hk=>u2 k hk);rw[this]at u3;cases u3
 have HBk:=zA (fun w' (hb:Below w.heap.size w w')=>(show w'.cell? ⟨b,1,none⟩=some (.slice na names.length nc)/\w'.cell? ⟨b,2,none⟩=some (.int .i64 (ins:Int)) from ⟨(hb.cell (p:=⟨b,1,none⟩) (zP c1)).trans c1,(hb.cell (p:=⟨b,2,none⟩) (zP c2)).trans c2⟩));have hbl:=zP c1;have hmk:=run_make_row' (P:=Tryz.prog) 59 3 (.int .i64 0) 8 Tryz.underlying59 dV rfl .i64 .i64 names.length (by omega) (by omega);rw[ZK]at hmk;simp only[Qm]at HTr HNd1 HNd2 HFd ⊢;rw[e1,e2]at HNd1;rw[e3,e4]at HNd2;rw[e1,e2,e3,e4]at HTr HFd ⊢;clear hB hA hx hy zIO c1 c2 hbd zIP e1 e2 e3 e4;generalize gQ us names ins x.1 y.1=TB at *;generalize (fun vs=>qR ins vs x.1&&qR ins vs y.1)=BO at *;generalize vl us names ins x.1 y.1=TL at *;generalize cV us names ins x.1.steps y.1.steps=TD at *;generalize x.1.label=xl at *;generalize x.1.head=xh at *;generalize hxp:x.1.parts.length=xn at *;generalize hxs:x.1.steps.length=xm at *;generalize y.1.label=yl at *;generalize y.1.head=yh at *;generalize hyp:y.1.parts.length=yn at *;generalize hys:y.1.steps.length=ym at *;clear hxp hxs hyp hys
 go_enter Tryz.func83,Tryz.ntmps83
 go_wp2_with fail
 generalize hO1:Obj.cells #[.string ⟨xl.toArray⟩,.int .i64 xh,.slice pa xn pc,.slice sa xm sc] 115=O1 at *;generalize hO2:Obj.cells #[.string ⟨yl.toArray⟩,.int .i64 yh,.slice pa' yn pc',.slice sa' ym sc'] 115=O2 at *;have HB0:Hid (Below w.heap.size w ((w.alloc O1).alloc O2)):=(ge (t9 _) _).alloc (by simp) _;have hs0:w.heap.size+2<=((w.alloc O1).alloc O2).heap.size:=by simp
 have HX:Hid (((w.alloc O1).alloc O2).heap[w.heap.size]? = some (.cells #[.string ⟨xl.toArray⟩,.int .i64 xh,.slice pa xn pc,.slice sa xm sc] 115 (0,0))):=by unfold Hid;rw[hO1];exact yJ (zM _ _)
 have HY:Hid (((w.alloc O1).alloc O2).heap[w.heap.size+1]? = some (.cells #[.string ⟨yl.toArray⟩,.int .i64 yh,.slice pa' yn pc',.slice sa' ym sc'] 115 (0,0))):=by unfold Hid;rw[hO2];exact xX _ _ _ (by simp)
 clear hO1 hO2;generalize (w.alloc O1).alloc O2=w0 at *
 have HG:Hid (∀wr,Below w0.heap.size w0 wr->Below w.heap.size w wr/\(wr.cell? ⟨w.heap.size,0,none⟩=some (.string ⟨xl.toArray⟩)/\wr.cell? ⟨w.heap.size,1,none⟩=some (.int .i64 xh)/\wr.cell? ⟨w.heap.size,2,none⟩=some (.slice pa xn pc)/\wr.cell? ⟨w.heap.size,3,none⟩=some (.slice sa xm sc))/\(wr.cell? ⟨w.heap.size+1,0,none⟩=some (.string ⟨yl.toArray⟩)/\wr.cell? ⟨w.heap.size+1,1,none⟩=some (.int .i64 yh)/\wr.cell? ⟨w.heap.size+1,2,none⟩=some (.slice pa' yn pc')/\wr.cell? ⟨w.heap.size+1,3,none⟩=some (.slice sa' ym sc'))/\wr.cell? ⟨b,1,none⟩=some (.slice na names.length nc)/\wr.cell? ⟨b,2,none⟩=some (.int .i64 (ins:Int))):=fun wr hb=>by
  have q1:Below w.heap.size w wr:=HB0.out.trans (hb.mono (by omega));have q2:wr.heap[w.heap.size]? = _:=(hb.block _ (by omega)).trans HX.out;have q3:wr.heap[w.heap.size+1]? = _:=(hb.block _ (by omega)).trans HY.out;exact⟨q1,⟨zD q2 0,zD q2 1,zD q2 2,zD q2 3⟩,⟨zD q3 0,zD q3 1,zD q3 2,zD q3 3⟩,HBk.out wr q1⟩
 have HL0:Hid (xd w0 w0 TL (.slice none 0 0) 0 []):=⟨rfl,⟨rfl,.inl ⟨rfl,rfl⟩⟩,fun a ha=>absurd ha (by omega)⟩;clear HX HY HB0 HBk
 go_loopw [7,8] (fun ov iv wr=>∃(i:Nat) (S:List Value),i<=names.length/\iv=.int .i64 i/\Hid (Below w0.heap.size w0 wr)/\Hid (xd wr w0 TL ov i S)) (fun _ iv _=>names.length-(intOf iv).toNat)
 case atStart=>exact⟨0,[],tr _,rfl,zA (tj _ _),HL0⟩
 case round =>
  obtain⟨i,S,hi,rfl,HB,HL⟩:=hrel;have zIE:=HB.out.size;obtain⟨qB,⟨x0,x1,x2,x3⟩,⟨y0,y1,y2,y3⟩,d1,d2⟩:=HG.out wr HB.out;obtain⟨oa,oc,rfl⟩:=yH HL.out.own;by_cases zI6:i<names.length
  ·have ii:(i:Int)<(names.length:Int):=by omega
   have HTw:=zA (HTr.out wr qB i);have HTLi:=zA (HTL.out i);have hTl:=HTl.out i;have HNd1i:=zA (fun w' hb=>HNd1.out w' hb i);have HNd2i:=zA (fun w' hb=>HNd2.out w' hb i);generalize TD i=tdi at *;generalize tX x.1.parts (i:Int)=n1 at *;generalize tX y.1.parts (i:Int)=n2 at *;go_wp2_with fail
   refine HTw.out.mono ?_;rintro e w3 ⟨v3,rfl,ho3,hb3⟩;have HB3:Hid (Below w0.heap.size w0 w3):=HB.out.trans (hb3.mono zIE);have HL3:=zA (HL.out.below hb3);obtain⟨ta,tc,rfl,hc3⟩:=jP ho3;have HC3:=zA hc3;obtain⟨qB3,⟨a0,a1,a2,a3⟩,⟨b0,b1,b2,b3⟩,f1,f2⟩:=HG.out w3 HB3.out;have HQ3:=zA qB3;have hs3:=HB3.out.size;clear ho3 hb3 hc3 qB3 x0 x1 x2 x3 y0 y1 y2 y3 d1 d2 qB HTw HL
   go_upto_region 6 with fail
   go_cut [39] from 10 to 44 (fun v wx=>v=.bool (decide (ins<=i)&&(n1 || n2))/\Hid (Below w3.heap.size w3 wx))
   case first =>
    by_cases hii:ins<=i
    ·have iD:decide (ins<=i)=true:=tm hii
     have iI:¬(i:Int)<(ins:Int):=by omega
     have iJ:(ins:Int)<=(i:Int):=by omega
     have HN1w:=zA (HNd1i.out w3 HQ3.out);cases n1
     ·go_wp2_with fail
      refine HN1w.out.mono ?_;rintro e w4 ⟨rfl,hb4⟩;have HB4:=zA hb4;obtain⟨qB4,-,⟨e0,e1,e2,e3⟩,-,-⟩:=HG.out w4 (HB3.out.trans (hb4.mono hs3));have HN2w:=zA (HNd2i.out w4 qB4);clear hb4 qB4 a0 a1 a2 a3 b0 b1 b2 b3 f1 f2;go_wp2_with fail
      refine HN2w.out.mono ?_;rintro e w5 ⟨rfl,hb5⟩;have HB5:Hid (Below w3.heap.size w3 w5):=HB4.out.trans (hb5.mono HB4.out.size);clear hb5;go_wp2_with fail
      go_meet
      exact⟨by rw[iD];rfl,HB5⟩
     ·go_wp2_with fail
      refine HN1w.out.mono ?_;rintro e w4 ⟨rfl,hb4⟩;have HB4:=zA hb4;clear hb4;go_wp2_with fail
      go_meet
      exact⟨by rw[iD];rfl,HB4⟩
    ·have iD:decide (ins<=i)=false:=th hii
     have iI:(i:Int)<(ins:Int):=by omega
     go_wp2_with fail
     go_meet
     exact⟨by rw[iD];rfl,zA (tj _ _)⟩
   case rest =>
    obtain⟨rfl,HBc⟩:=hcut;generalize hwc:wc=w5 at *;clear hwc a0 a1 a2 a3 b0 b1 b2 b3 f1 f2 HNd1i HNd2i;have HB5:Hid (Below w0.heap.size w0 w5):=HB3.out.trans (HBc.out.mono hs3);have HL5:=zA (HL3.out.below HBc.out);have HC5:=zA (HC3.out.below HBc.out);have hs5:=HB5.out.size;clear HL3 HC3 HBc HB3 HQ3;generalize (decide (ins<=i)&&(n1 || n2))=qq at *;cases qq
    ·have HE:Hid (TL i=tdi):=by have:=HTLi.out;rw[tg (by simp)]at this;exact this
     rw[<-HE.out]at HC5;have hEl:tdi.length=(TL i).length:=by rw[HE.out]
     have HLo:=zA HL5.out.own;have HAp:Hid (∀ob wy v',wy.ownsRow w0.heap.size 59 1 v' (i+1) (S++[.slice ta (TL i).length tc])->(w5.alloc ob).grownBy wy (Value.slice oa i oc).ownBlock->xd wy w0 TL v' (i+1) (S++[.slice ta (TL i).length tc])):=fun ob wy v' zI8 hg=>(HL5.out.below (ge (t9 _) ob)).app (HC5.out.below (ge (t9 _) ob)) zI8 hg;rw[hEl];clear hEl HE HTLi;generalize (TL i).length=tn at *
     go_wp2_with (at_builtin;refine wpList_append_own _ rfl _ _ 276 rfl w0.heap.size 59 i0 _ 1 24 Tryz.underlying276 hi0 hz0 hz1 hz2 rfl (by decide) _ _ _ rfl (HLo.out.alloc _) ⟨w5.heap.size,0,none⟩ 1 1 [.slice ta tn tc] rfl rfl ?c1k1 ?c1k2 ?c1k3 ?c1k4 ?c1k5 ?_)
     try (case c1k1=>first|exact zZ _ _ _ _ rfl|exact fun _ _ h=>h)
     try (case c1k2=>first|rfl|(intro u hu;simp at hu;subst hu;rfl))
     try (case c1k3=>unfold maxLen;omega)
     try (case c1k4=>omega)
     try (case c1k5=>first|omega|(simp;omega))
     intro v6 w6 zIQ zIF _;have HB6:Hid (Below w0.heap.size w0 w6):=(HB5.out.alloc hs5 _).grown zIF (by simp;omega) (zN HLo.out);have HL6:=zA (HAp.out _ w6 v6 zIQ zIF);clear zIQ zIF;go_wp2_with fail
     go_roundw
     case rel=>exact⟨i+1,_,by omega,by go_num,HB6,HL6⟩
     case measure=>simp[intOf];omega
    ·have HE:Hid (TL i=[1]):=by have:=HTLi.out;rw[tl rfl]at this;exact this
     have HLo:=zA HL5.out.own
     have HAp:Hid (∀ob wy v',wy.ownsRow w0.heap.size 59 1 v' (i+1) (S++[.slice (some ⟨w5.heap.size,0,none⟩) 1 1])->((w5.alloc (.cells #[.int .i64 1] 3)).alloc ob).grownBy wy (Value.slice oa i oc).ownBlock->∃S',xd wy w0 TL v' (i+1) S'):=fun ob wy v' zI8 hg=>by
      have hb1:Below w5.heap.size w5 (w5.alloc (.cells #[.int .i64 1] 3)):=ge (t9 _) _;have hct:uS (w5.alloc (.cells #[.int .i64 1] 3)) 3 (some ⟨w5.heap.size,0,none⟩) (vD (TL i)):=by rw[HE.out];exact qk w5
      have h9:=((HL5.out.below hb1).below (ge (t9 _) ob)).app (tc:=1) (hct.below (ge (t9 _) ob)) (v':=v') (w':=wy) (by rw[HE.out];exact zI8) hg;exact⟨_,h9⟩
     clear HE HTLi
     go_wp2_with (at_builtin;refine wpList_append_own _ rfl _ _ 276 rfl w0.heap.size 59 i0 _ 1 24 Tryz.underlying276 hi0 hz0 hz1 hz2 rfl (by decide) _ _ _ rfl ((HLo.out.alloc _).alloc _) ⟨w5.heap.size+1,0,none⟩ 1 1 [.slice (some ⟨w5.heap.size,0,none⟩) 1 1] rfl rfl ?c2k1 ?c2k2 ?c2k3 ?c2k4 ?c2k5 ?_)
     try (case c2k1=>first|exact uT _ _ _ _ rfl (by simp)|exact fun _ _ h=>h)
     try (case c2k2=>first|rfl|(intro u hu;simp at hu;subst hu;rfl))
     try (case c2k3=>unfold maxLen;omega)
     try (case c2k4=>omega)
     try (case c2k5=>first|omega|(simp;omega))
     intro v6 w6 zIQ zIF _;have HB6:Hid (Below w0.heap.size w0 w6):=((HB5.out.alloc hs5 _).alloc (by simp;omega) _).grown zIF (by simp;omega) (zN HLo.out);obtain⟨S6,hL6⟩:=HAp.out _ w6 v6 zIQ zIF;have HL6:=zA hL6;clear zIQ zIF hL6;go_wp2_with fail
     go_roundw
     case rel=>exact⟨i+1,S6,by omega,by go_num,HB6,HL6⟩
     case measure=>simp[intOf];omega
  ·obtain rfl:i=names.length:=by omega
   have ii:¬(names.length:Int)<(names.length:Int):=by omega
   obtain⟨gt,tc,e9,hT,hgt⟩:=HL.out.tri hpos;simp only[Value.slice.injEq]at e9;obtain⟨rfl,-,rfl⟩:=e9;have HQ:=zA qB
   have HFw:Hid (∀W',Below wr.heap.size wr W'->tT W' wr.heap.size (List.replicate names.length 0)->Calls Tryz.prog 138 #[.pointer (some ⟨b,0,none⟩),.agg #[.string ⟨xl.toArray⟩,.int .i64 xh,.slice pa xn pc,.slice sa xm sc],.agg #[.string ⟨yl.toArray⟩,.int .i64 yh,.slice pa' yn pc',.slice sa' ym sc'],.slice (some ⟨gt,0,none⟩) names.length oc,.slice (some ⟨wr.heap.size,0,none⟩) names.length names.length,.int .i64 0] W' fun e w''=>∃r,e=.returned (.bool r)/\(r=true ↔ TB)/\zB W'.heap.size wr.heap.size W' w''):=fun W' hb hv =>
    (HFd.out wr qB gt oc wr.heap.size names.length hT (t9 _) W' (List.replicate names.length 0) hb hv (by simp)).mono fun e w'' hp=>HEnd.out _ _ _ _ _ (by simp) hp
   have HB9:=zA HB.out;have lb9:b<wr.heap.size:=by have:=zP d1;exact this
   have n1:wr.heap.size≠b:=by omega
   have n2:wr.heap.size≠w.heap.size:=by omega
   have n3:wr.heap.size≠w.heap.size+1:=by omega
   have l2:w.heap.size<wr.heap.size:=by omega
   have l3:w.heap.size+1<wr.heap.size:=by omega
   clear HL hT qB HFd HEnd HTr HNd1 HNd2 HTL HTl
   go_upto_region 9 with fail
   go_region_held3 (fun w'=>(w'.cell? ⟨w.heap.size,0,none⟩=some (.string ⟨xl.toArray⟩)/\w'.cell? ⟨w.heap.size,1,none⟩=some (.int .i64 xh)/\w'.cell? ⟨w.heap.size,2,none⟩=some (.slice pa xn pc)/\w'.cell? ⟨w.heap.size,3,none⟩=some (.slice sa xm sc))/\(w'.cell? ⟨w.heap.size+1,0,none⟩=some (.string ⟨yl.toArray⟩)/\w'.cell? ⟨w.heap.size+1,1,none⟩=some (.int .i64 yh)/\w'.cell? ⟨w.heap.size+1,2,none⟩=some (.slice pa' yn pc')/\w'.cell? ⟨w.heap.size+1,3,none⟩=some (.slice sa' ym sc'))/\w'.cell? ⟨b,1,none⟩=some (.slice na names.length nc)) (go_keep) (
    (go_at_call 138;refine(HFw.out _ (me (ge (t9 _) _)) (zM _ _)).mono ?_;rintro e w4 ⟨r,rfl,hiff,hk⟩;have hB4:Below w0.heap.size w0 w4:=(HB9.out.trans ((me (ge (t9 _) _)).mono zIE)).trans (hk.below (tx zIE (p8 (yL _ _))) zIE);obtain⟨g1,⟨g2,g3,g4,g5⟩,⟨g6,g7,g8,g9⟩,g10,g11⟩:=HG.out w4 hB4))
   all_goals
    go_wp2_with fail
    go_ret
    exact⟨r,rfl,hiff,g1⟩
theorem ZJ(X:List Int)(h:X≠[]):∃m∈X,∀x∈X,x<=m:=by
 induction X with
 | nil=>exact absurd rfl h
 | cons a r ih =>
   by_cases hr:r=[]
   ·subst hr;exact⟨a,by simp,by simp⟩
   ·obtain⟨m,h1,h2⟩:=ih hr
    by_cases hm:a<=m
    ·exact⟨m,by simp[h1],fun x hx=>by rcases pi.1 hx with rfl|hx;exact hm;exact h2 x hx⟩
    ·exact⟨a,by simp,fun x hx=>by rcases pi.1 hx with rfl|hx;exact dk _;have:=h2 x hx;omega⟩
theorem zFO(L:Int->Int):∀(n:Nat) (X:List Int),X.length<=n->(∀x∈X,L x<=x)->∃g:Int->Int,(∀x∈X,L x<=g x/\g x<=x/\∃y∈X,∃j:Nat,j<X.length/\g x=L y+j)/\∀x∈X,∀y∈X,x<y->g x<g y:=by
 intro n
 induction n with
 | zero =>
   intro X h _;obtain rfl:X=[]:=mu (by omega);exact⟨id,by simp,by simp⟩
 | succ n ih =>
   intro X h hL;by_cases h0:X=[]
   ·subst h0;exact⟨id,by simp,by simp⟩
   obtain⟨m,hm,hmax⟩:=ZJ X h0
   have zIC:(X.filter fun x=>decide (x<m)).length<X.length:=by
    rcases po (X.filter fun x=>decide (x<m)).length X.length with h1|h1
    ·exact h1
    ·have h2:(X.filter fun x=>decide (x<m)).length=X.length:=Nat.le_antisymm (dg _ _) h1
     have:=List.length_filter_eq_length_iff.1 h2 m hm;simp at this
   obtain⟨g,g1,g2⟩:=ih (X.filter fun x=>decide (x<m)) (by omega) (fun x hx=>hL x (ma.1 hx).1);have zIK:∀x∈X,x<m->x∈X.filter fun x=>decide (x<m):=fun x hx zI6=>ma.2 ⟨hx,by simpa using zI6⟩;generalize hX':(X.filter fun x=>decide (x<m))=X' at *;have hsub:∀x∈X',x∈X/\x<m:=fun x hx=>by rw[<-hX']at hx;have:=ma.1 hx;exact⟨this.1,by simpa using this.2⟩
   have hv:∃v,L m<=v/\v<=m/\(∃y∈X,∃j:Nat,j<X.length/\v=L y+j)/\∀x∈X',g x<v:=by
    by_cases h1:X'=[]
    ·exact⟨L m,dk _,hL m hm,⟨m,hm,0,by omega,by omega⟩,by simp[h1]⟩
    ·obtain⟨M,hM,hM2⟩:=ZJ (X'.map g) (by simpa using h1)
     obtain⟨z,hz,rfl⟩:=ml.1 hM;obtain⟨z1,z2,y,hy,j,hj,hz3⟩:=g1 z hz;have hz4:=(hsub z hz).2;have hall:∀x∈X',g x<=g z:=fun x hx=>hM2 _ (ml.2 ⟨x,hx,rfl⟩);by_cases h2:g z<L m
     ·exact⟨L m,dk _,hL m hm,⟨m,hm,0,by omega,by omega⟩,fun x hx=>by have:=hall x hx;omega⟩
     ·exact⟨g z+1,by omega,by omega,⟨y,(hsub y hy).1,j+1,by omega,by omega⟩,fun x hx=>by have:=hall x hx;omega⟩
   obtain⟨v,v1,v2,v3,v4⟩:=hv;refine⟨fun x=>if x<m then g x else v,fun x hx=>?_,fun x hx y hy zI6=>?_⟩
   ·by_cases hxm:x<m
    ·simp only[tl hxm]
     obtain⟨a,b,y,hy,j,hj,e⟩:=g1 x (zIK x hx hxm);exact⟨a,b,y,(hsub y hy).1,j,by omega,e⟩
    ·obtain rfl:x=m:=by have:=hmax x hx;omega
     simp only[tg hxm];exact⟨v1,v2,v3⟩
   ·have h3:=hmax y hy
    by_cases hym:y<m
    ·simp only[tl hym,tl (show x<m by omega)]
     exact g2 x (zIK x hx (by omega)) y (zIK y hy hym) zI6
    ·simp only[tg hym,tl (show x<m by omega)]
     exact v4 x (zIK x hx (by omega))
theorem VT(B:List Int)(x lo:Int)(hlo:lo∈B)(hx:lo<=x):∃l,l<=x/\lo<=l/\(∃b∈B,l=b\/l=b+1)/\∀c∈B,(c<=x->c<=l)/\(c<x->c<l):=by
 by_cases hB:x∈B
 ·exact⟨x,dk _,hx,⟨x,hB,.inl rfl⟩,fun c _=>⟨id,id⟩⟩
 ·obtain⟨m,hm,hmax⟩:=ZJ (B.filter fun b=>decide (b<=x)) (fun h=>by have:lo∈B.filter fun b=>decide (b<=x):=ma.2 ⟨hlo,by simpa using hx⟩;rw[h]at this;simp at this)
  have h1:=ma.1 hm;have h2:m<=x:=by simpa using h1.2
  have h3:m≠x:=fun e=>hB (e ▸ h1.1);have h4:∀c∈B,c<=x->c<=m:=fun c hc hcx=>hmax c (ma.2 ⟨hc,by simpa using hcx⟩);exact⟨m+1,by omega,by have:=h4 lo hlo hx;omega,⟨m,h1.1,.inr rfl⟩,fun c hc=>⟨fun h=>by have:=h4 c hc h;omega,fun h=>by have:=h4 c hc (by omega);omega⟩⟩
theorem zHU(B X:List Int)(hlo:∀x∈X,∃lo∈B,lo<=x):∃g:Int->Int,(∀x∈X,g x<=x/\(∃b∈B,∃j:Nat,j<=X.length/\g x=b+j)/\(∀c∈B,(c<=x->c<=g x)/\(x<c ↔ g x<c)/\(x=c ↔ g x=c)))/\∀x∈X,∀y∈X,(x<y ↔ g x<g y)/\(x=y ↔ g x=g y):=by
 have hL:∀x,∃l,x∈X->l<=x/\(∃b∈B,l=b\/l=b+1)/\∀c∈B,(c<=x->c<=l)/\(c<x->c<l):=fun x=>by
  rcases Classical.em (x∈X) with hx|hx
  ·obtain⟨lo,h1,h2⟩:=hlo x hx
   obtain⟨l,a1,_,a3,a4⟩:=VT B x lo h1 h2;exact⟨l,fun _=>⟨a1,a3,a4⟩⟩
  ·exact⟨0,fun h=>absurd h hx⟩
 have hf:∃L:Int->Int,∀x,x∈X->L x<=x/\(∃b∈B,L x=b\/L x=b+1)/\∀c∈B,(c<=x->c<=L x)/\(c<x->c<L x):=⟨fun x=>Classical.choose (hL x),fun x=>Classical.choose_spec (hL x)⟩;obtain⟨L,hLs⟩:=hf;obtain⟨g,g1,g2⟩:=zFO L X.length X (t9 _) (fun x hx=>(hLs x hx).1);refine⟨g,fun x hx=>?_,fun x hx y hy=>?_⟩
 ·obtain⟨a1,a2,y,hy,j,hj,a3⟩:=g1 x hx
  refine⟨a2,?_,fun c hc=>?_⟩
  ·obtain⟨b,hb,hb2⟩:=(hLs y hy).2.1
   rcases hb2 with e|e
   ·exact⟨b,hb,j,by omega,by omega⟩
   ·exact⟨b,hb,j+1,by omega,by omega⟩
  ·obtain⟨c1,c2⟩:=(hLs x hx).2.2 c hc
   refine⟨fun h=>by have:=c1 h;omega,⟨fun h=>by omega,fun h=>?_⟩,⟨fun h=>?_,fun h=>?_⟩⟩
   ·rcases cr x c with h1|h1
    ·exact h1
    ·have:=c1 h1;omega
   ·have:=c1 (by omega);omega
   ·rcases cr c x with h1|h1
    ·have:=c2 h1;omega
    ·omega
 ·have p1:=g2 x hx y hy
  have p2:=g2 y hy x hx;constructor
  ·constructor
   ·exact p1
   ·intro h
    rcases cr x y with h1|h1
    ·exact h1
    ·rcases cr y x with h2|h2
     ·have:=p2 h2;omega
     ·have:x=y:=by omega
      subst this;omega
  ·constructor
   ·intro h;rw[h]
   ·intro h
    rcases cr x y with h1|h1
    ·have:=p1 h1;omega
    ·rcases cr y x with h2|h2
     ·have:=p2 h2;omega
     ·omega
theorem Qo{x y x' y':Int}(m:Bs)(h1:x<y ↔ x'<y')(h2:x=y ↔ x'=y'):dE x m y=dE x' m y':=by
 unfold dE;simp only[h1,h2]
def zEF(L:Nat)(num:Nat->Bool)(l:List vS):Prop:=∀s∈l,(s.kind=1->∃a:Nat,s.a=a/\a<L/\num a=false)/\(s.kind=2->∃a:Nat,s.a=a/\a<L/\num a=true)/\(s.kind=3->(∃a:Nat,s.a=a/\a<L/\num a=true)/\∃b:Nat,s.b=b/\b<L/\num b=true)/\0<=s.kind
theorem Jf{vs':List Int}:∀(l:List vS) (st:List Bool),(∀s∈l,s.kind<4->dZ vs s=dZ vs' s)->nB vs l st=nB vs' l st
 | [],_,_=>rfl
 | s::r,st,h=>by
   rw[nB,nB]
   have e:qS vs s st=qS vs' s st:=by
    unfold qS;by_cases hk:s.kind<4
    ·rw[tl hk,tl hk,h s (mw ..) hk]
    ·rw[tg hk,tg hk]
   rw[e];exact Jf r _ fun t ht=>h t (cd _ ht)
theorem Ui{vs':List Int}{l:List vS}(h:∀s∈l,s.kind<4->dZ vs s=dZ vs' s):bX vs l=bX vs' l:=by
 unfold bX;rw[Jf l [] h]
def sB(x y:pU)(k:Nat):Bool:=tX x.parts (k:Int) || tX y.parts (k:Int)
def lK(x y:pU)(k:Nat):Bool:=qK x.steps (k:Int) || qK y.steps (k:Int)
def uM(ins L:Nat)(num:Nat->Bool)(lo:Nat->Int)(x y:pU)(g:Int->Int)(u:List Int):List Int:=(List.range L).map fun k=>if (decide (ins<=k)&&sB x y k)=true then 1 else if lK x y k=true then (if num k=true then g (u.getD k 0) else u.getD k 0) else lo k
theorem JS{ins:Nat}{num:Nat->Bool}{lo:Nat->Int}{k:Nat}(hk:k<L):(uM ins L num lo x y g u).getD k 0=if (decide (ins<=k)&&sB x y k)=true then 1 else if lK x y k=true then (if num k=true then g (u.getD k 0) else u.getD k 0) else lo k:=by
 simp[uM,List.getD,hk]
theorem zFE{ins:Nat}{num:Nat->Bool}{lo:Nat->Int}:(uM ins L num lo x y g u).length=L:=by simp[uM]
theorem JF{ins:Nat}{num:Nat->Bool}{lo:Nat->Int}{z:pU}{B X:List Int}(hz:zEF L num z.steps)(hn:∀k,num k=true->k<ins)(hL:u.length=L)
 (hrd:∀k:Nat,qK z.steps (k:Int)=true->lK x y k=true) (hnd:∀k:Nat,tX z.parts (k:Int)=true->sB x y k=true)
 (h1:∀k,k<L->sB x y k=true->ins<=k->u.getD k 0=1)
 (hb:∀s∈z.steps,s.kind=2->s.n∈B) (hX:∀k,k<L->num k=true->lK x y k=true->u.getD k 0∈X)
 (hg1:∀v∈X,∀c∈B,(v<c ↔ g v<c)/\(v=c ↔ g v=c)) (hg2:∀v∈X,∀v'∈X,(v<v' ↔ g v<g v')/\(v=v' ↔ g v=g v'))
 (ha:qR ins u z=true):qR ins (uM ins L num lo x y g u) z=true:=by
 unfold qR at ha ⊢;rw[tz]at ha ⊢
 have num_at:∀a:Nat,a<L->num a=true->lK x y a=true->(uM ins L num lo x y g u).getD a 0=g (u.getD a 0):=fun a ha hna hra=>by
  have:=hn a hna;rw[JS ha,th (by omega),l5,tg (by simp),tl hra,tl hna]
 refine⟨?_,?_⟩
 ·unfold bO at ha ⊢
  rw[List.all_eq_true]at ha ⊢;intro p hp;have h2:=ha.1 p hp;by_cases hi:(ins:Int)<=p.a
  ·rw[tm hi,md]at h2 ⊢
   obtain⟨a,hpa⟩:∃a:Nat,p.a=a:=⟨p.a.toNat,by omega⟩;rw[hpa]at h2 ⊢;have h3:u.getD a 0=1:=by simpa[Xf] using h2
   have haL:a<L:=by
    rcases po a L with h|h
    ·exact h
    ·rw[<-hL]at h;simp[List.getD,h]at h3
   have zIH:sB x y a=true:=hnd a (mj.2 ⟨p,hp,by rw[hpa];simp⟩);have e:(uM ins L num lo x y g u).getD a 0=1:=by rw[JS haL,zIH,tm (by omega)];rfl
   show (!((uM ins L num lo x y g u).getD (a:Int).toNat 0 != 1))=true;rw[Int.toNat_natCast,e];rfl
  ·rw[th hi];rfl
 ·rw[<-ha.2]
  refine Ui fun s hs hk=>?_;obtain⟨s1,s2,s3,s0⟩:=hz s hs;have rd:∀a:Nat,s.a=a->0<s.kind->lK x y a=true:=fun a e h0=>hrd a (mj.2 ⟨s,hs,by unfold oW;rw[tm h0,tm hk,tm e];rfl⟩);unfold dZ;by_cases k0:s.kind=0
  ·rw[tl k0,tl k0]
  rw[tg k0,tg k0];by_cases k1:s.kind=1
  ·rw[tl k1,tl k1]
   obtain⟨a,e,haL,hna⟩:=s1 k1;have hra:=rd a e (by omega)
   have e2:(uM ins L num lo x y g u).getD a 0=u.getD a 0:=by
    rw[JS haL];by_cases hc:(decide (ins<=a)&&sB x y a)=true
    ·rw[tl hc]
     rw[tz,py]at hc;exact(h1 a haL hc.2 hc.1).symm
    ·rw[tg hc,tl hra,hna];rfl
   rw[e];show decide ((uM ins L num lo x y g u).getD (a:Int).toNat 0=1)=decide (u.getD (a:Int).toNat 0=1);rw[Int.toNat_natCast,e2]
  rw[tg k1,tg k1];by_cases k2:s.kind=2
  ·rw[tl k2,tl k2]
   obtain⟨a,e,haL,hna⟩:=s2 k2;have hra:=rd a e (by omega);have q:=hg1 _ (hX a haL hna hra) _ (hb s hs k2);rw[e];show dE ((uM ins L num lo x y g u).getD (a:Int).toNat 0) s.mark s.n=dE (u.getD (a:Int).toNat 0) s.mark s.n;rw[Int.toNat_natCast,num_at a haL hna hra];exact(Qo _ q.1 q.2).symm
  ·rw[tg k2,tg k2]
   have k3:s.kind=3:=by omega
   obtain⟨⟨a,e,haL,hna⟩,b,e',hbL,hnb⟩:=s3 k3;have hra:=rd a e (by omega);have hrb:lK x y b=true:=hrd b (mj.2 ⟨s,hs,by unfold oW;rw[tm k3,tm e'];simp⟩);have q:=hg2 _ (hX a haL hna hra) _ (hX b hbL hnb hrb);rw[e,e'];show dE ((uM ins L num lo x y g u).getD (a:Int).toNat 0) s.mark ((uM ins L num lo x y g u).getD (b:Int).toNat 0)=dE (u.getD (a:Int).toNat 0) s.mark (u.getD (b:Int).toNat 0);rw[Int.toNat_natCast,Int.toNat_natCast,num_at a haL hna hra,num_at b hbL hnb hrb];exact(Qo _ q.1 q.2).symm
structure Fj(us:List zG)(names:List Bs)(ins:Nat)(num:Nat->Bool)(u:List Int):Prop where
 len:u.length=names.length
 nums:∀k,k<names.length->num k=true->(uK us names ins k).1<=u.getD k 0/\u.getD k 0<=(uK us names ins k).2
 bits:∀k,k<names.length->num k=false->u.getD k 0=0\/u.getD k 0=1
structure zB8(us:List zG)(names:List Bs)(ins:Nat)(num:Nat->Bool):Prop where
 lo:∀k,num k=true->k<ins
 isN:∀k,k<names.length->num k=true->tF us (names.getD k [])=true/\tH us (names.getD k [])=false/\(uK us names ins k).1<=(uK us names ins k).2
 isF:∀k,k<names.length->num k=false->(ins<=k\/tH us (names.getD k [])=true)/\uK us names ins k=(0,1)
 few:((List.range names.length).filter num).length<=3
theorem vj{us:List zG}{names:List Bs}{ins:Nat}{num:Nat->Bool}(hN:zB8 us names ins num)(h:gQ us names ins x y):∃u,Fj us names ins num u/\qR ins u x=true/\qR ins u y=true:=by
 obtain⟨u,h1,h2,h3⟩:=h;rw[tz]at h3;refine⟨u,⟨h1,fun k hk hn=>?_,fun k hk hn=>?_⟩,h3.1,h3.2⟩
 ·have hm:=h2 k hk
  obtain⟨i1,i2,i3⟩:=hN.isN k hk hn;have zI6:=hN.lo k hn;unfold vl cV at hm;rw[th (by omega),l5,tg (by simp),i2]at hm;simp only[Bool.or_false]at hm;split at hm
  ·rw[pu]at hm;rw[hm];omega
  ·rw[tg (by simp)]at hm
   have:=Yp.1 hm;omega
 ·have hm:=h2 k hk
  obtain⟨i1,i2⟩:=hN.isF k hk hn;unfold vl cV at hm;split at hm
  ·rw[pu]at hm;exact .inr hm
  ·split at hm
   ·rw[pu,i2]at hm;exact .inl hm
   ·rw[tl (by rw[mz,py];exact i1)]at hm
    simpa using hm
theorem zA2{us:List zG}{names:List Bs}{ins:Nat}{num:Nat->Bool}(hN:zB8 us names ins num)(hx:zEF names.length num x.steps)(hy:zEF names.length num y.steps)(hu:Fj us names ins num u)(ha:qR ins u x=true)(hb:qR ins u y=true):gQ us names ins x y:=by
 have hlo:∀k,k<names.length->num k=true->lK x y k=true->(uK us names ins k).1∈uJ us names ins x.steps y.steps:=fun k hk hn hr=>by
  unfold uJ;rw[pt,pt];refine .inl (.inl ?_);unfold sQ;refine List.mem_flatMap.2 ⟨k,db.2 (hN.lo k hn),?_⟩;unfold JB;rw[show (qK x.steps (k:Int) || qK y.steps (k:Int))=true from hr,(hN.isN k hk hn).1];simp
 have hbs:∀(l:List vS),∀s∈l,s.kind=2->s.n∈vX l:=fun l s hs hk=>ml.2 ⟨s,ma.2 ⟨hs,tm hk⟩,rfl⟩;have hX0:∀k,k<names.length->num k=true->lK x y k=true->u.getD k 0∈((List.range names.length).filter fun k=>num k&&lK x y k).map fun k=>u.getD k 0:=fun k hk hn hr=>ml.2 ⟨k,ma.2 ⟨db.2 hk,by rw[hn,hr];rfl⟩,rfl⟩
 have hXl:(((List.range names.length).filter fun k=>num k&&lK x y k).map fun k=>u.getD k 0).length<=3:=by
  rw[ms];refine tx ?_ hN.few
  have e:((List.range names.length).filter fun k=>num k&&lK x y k)=((List.range names.length).filter num).filter (lK x y):=by
   rw[List.filter_filter];congr 1;funext k;exact Bool.and_comm _ _
  rw[e];exact dg _ _
 obtain⟨g,hg,ho⟩:=zHU (uJ us names ins x.steps y.steps) (((List.range names.length).filter fun k=>num k&&lK x y k).map fun k=>u.getD k 0) (fun v hv=>by
  obtain⟨k,hk,rfl⟩:=ml.1 hv;obtain⟨h1,h2⟩:=ma.1 hk;rw[tz]at h2;exact⟨_,hlo k (db.1 h1) h2.1 h2.2,(hu.nums k (db.1 h1) h2.1).1⟩)
 have hone:∀(z:pU),qR ins u z=true->∀k:Nat,tX z.parts (k:Int)=true->ins<=k->u.getD k 0=1:=fun z hz k hk hi=>by
  unfold qR bO at hz;rw[tz,List.all_eq_true]at hz;obtain⟨p,hp,e⟩:=mj.1 hk;have h2:=hz.1 p hp;rw[py]at e;rw[e,tm (by omega)]at h2;simpa[Xf] using h2
 have hone2:∀k,k<names.length->sB x y k=true->ins<=k->u.getD k 0=1:=fun k _ hk hi=>by
  unfold sB at hk;rw[mz]at hk;rcases hk with h|h
  ·exact hone x ha k h hi
  ·exact hone y hb k h hi
 refine⟨uM ins names.length num (fun k=>(uK us names ins k).1) x y g u,zFE,fun k hk=>?_,?_⟩
 ·rw[JS hk]
  unfold vl;by_cases hc:(decide (ins<=k)&&sB x y k)=true
  ·rw[tl hc,tl (show (decide (ins<=k)&&(tX x.parts (k:Int) || tX y.parts (k:Int)))=true from hc)];exact pu.2 rfl
  ·rw[tg hc,tg (show ¬(decide (ins<=k)&&(tX x.parts (k:Int) || tX y.parts (k:Int)))=true from hc)]
   unfold cV;by_cases hr:lK x y k=true
   ·rw[tl hr,tg (show ¬(qK x.steps (k:Int) || qK y.steps (k:Int))=false by rw[show (qK x.steps (k:Int) || qK y.steps (k:Int))=true from hr];simp)]
    cases hn:num k with
    | true =>
      obtain⟨i1,i2,i3⟩:=hN.isN k hk hn;have zI6:=hN.lo k hn;rw[tl rfl,i2,th (by omega),tg (by simp)];obtain⟨q1,⟨b,hb1,j,hj,q2⟩,q3⟩:=hg _ (hX0 k hk hn hr);have hrm:=hu.nums k hk hn;refine Yp.2 ⟨(q3 _ (hlo k hk hn hr)).1 hrm.1,by omega,b,hb1,j,by omega,q2⟩
    | false =>
      obtain⟨i1,i2⟩:=hN.isF k hk hn;rw[tl (show (decide (ins<=k) || tH us (names.getD k []))=true by rw[mz,py];exact i1)];have:=hu.bits k hk hn;simpa using this
   ·have hr':lK x y k=false:=by simpa using hr
    rw[tg hr,tl (show (qK x.steps (k:Int) || qK y.steps (k:Int))=false from hr')];exact pu.2 rfl
 ·have hgB:∀v∈((List.range names.length).filter fun k=>num k&&lK x y k).map (fun k=>u.getD k 0),∀c∈uJ us names ins x.steps y.steps,(v<c ↔ g v<c)/\(v=c ↔ g v=c):=fun v hv c hc=>((hg v hv).2.2 c hc).2
  rw[tz];refine⟨JF hx hN.lo hu.len (fun k h=>by unfold lK;rw[h];rfl) (fun k h=>by unfold sB;rw[h];rfl) hone2 (fun s hs hk=>?_) hX0 hgB ho ha,JF hy hN.lo hu.len (fun k h=>by unfold lK;rw[h];simp) (fun k h=>by unfold sB;rw[h];simp) hone2 (fun s hs hk=>?_) hX0 hgB ho hb⟩
  ·unfold uJ;rw[pt,pt];exact .inl (.inr (hbs _ s hs hk))
  ·unfold uJ;rw[pt];exact .inr (hbs _ s hs hk)
end Go.Proofs.YtnbpdffdnphbeaaGreatDoor
