import Derived.Test.YtnbpdffdnphbeabGreatDoorPHear
import Derived.Test.YtnbpdffdnphbeabGreatDoorFAbove
set_option maxHeartbeats 2000000
set_option maxRecDepth 100000
namespace Go.Proofs.YtnbpdffdnphbeabGreatDoor
open Go.RowKit
variable(M:zT)(w:World)(g:Nat)(v:FV)(h n i:Nat)
structure XK(v:FV):Prop where
 num:∀i,i<3->0<=v.inn i/\v.inn i<=9998
 val:∀d,d<4 -> -28208277964652544<=v.val d/\v.val d<=28208277964652544
theorem Q7{n z B:Int}(h0:0<=n)(h1:n<=9)(z0 : -B<=z)(z1:z<=B) : -(9*B)<=n*z/\n*z<=9*B:=by
 have:n=0\/n=1\/n=2\/n=3\/n=4\/n=5\/n=6\/n=7\/n=8\/n=9:=by omega
 rcases this with rfl|rfl|rfl|rfl|rfl|rfl|rfl|rfl|rfl|rfl <;> omega
theorem Bf{heads:List Nat}{h:Nat}(hh:h<=4){p:yR}(hp:qZ (yW heads h) p)(h1:J9 p){v:FV}(hv:XK v):(-253874501681872896<=uK v p/\uK v p<=253874501681872896) /\
 ((p.num = -1/\p.head = -1/\uK v p=p.n)\/(∃k:Nat,k<3/\p.num=(k:Int)/\uK v p=p.n*v.inn k)\/(p.num = -1/\∃d:Nat,d<4/\p.head=(d:Int)/\uK v p=p.n*v.val d)):=by
 unfold J9 at h1;rcases hp with ⟨h0,h2,h3,h4⟩|⟨h0,h2,h3⟩|⟨h0,h2,h3,h4⟩|⟨h2,h3,d,hd4,h4⟩
 ·have e:uK v p=p.n:=by unfold uK;rw[t7 (by omega),t7 (by omega)]
  exact⟨by omega,.inl ⟨h3,h4,e⟩⟩
 ·have e:uK v p=p.n*v.inn p.num.toNat:=by unfold uK;rw[tg h2.1]
  have hn:p.n=1:=by
   rcases h1 with h1|h1|h1
   ·rw[h0]at h1;cases h1
   ·exact h1
   ·omega
  have hb:=hv.num p.num.toNat (by omega);refine⟨by rw[e,hn];omega,.inr (.inl ⟨p.num.toNat,by omega,by omega,e⟩)⟩
 ·have e:uK v p=p.n*v.inn p.num.toNat:=by unfold uK;rw[tg h3.1]
  have hb:=hv.num p.num.toNat (by omega);have hm:=Q7 (B:=9998) h2.1 h2.2 (by omega) hb.2;refine⟨by rw[e];omega,.inr (.inl ⟨p.num.toNat,by omega,by omega,e⟩)⟩
 ·have zE9:d<h:=by unfold yW at hd4;rw[mu,ph]at hd4;exact hd4.1
  have e:uK v p=p.n*v.val d:=by unfold uK;rw[t7 (by omega),tg (by omega),h4,Int.toNat_natCast]
  have hb:=hv.val d (by omega);have hm:=Q7 h2.1 h2.2 hb.1 hb.2;exact⟨by rw[e];omega,.inr (.inr ⟨h3,d,by omega,h4,e⟩)⟩
theorem UM(l:List yR)(p:yR):∀n,nP v (l++[p]) n=if p.minus=true then nP v l n-uK v p else nP v l n+uK v p:=by
 induction l with
 | nil=>intro n;rfl
 | cons q r ih=>intro n;rw[l9,nP,ih,nP]
theorem FP(r:vF)(heads:List Nat)(pa:Option Addr)(pc:Nat)(qv:Value)(_hq:qv.oneCell'=true)(hV:mL w g v)(hR:bI heads r)(hS:XK v)(hP:xB w 89 pa (r.parts.flatMap cT)) :
 Calls Tryz.prog 48 #[.agg #[.int .i64 (r.head:Int),.bool r.whole,.slice pa r.parts.length pc,qv],.pointer (some ⟨g,0,none⟩)] w fun e w'=>e=.returned (.int .i64 (sT v r))/\Below w.heap.size w w':=by
 have hp4:=hR.parts.2.1;have HPc:Hid (∀p∈r.parts,(-253874501681872896<=uK v p/\uK v p<=253874501681872896)/\((p.num = -1/\p.head = -1/\uK v p=p.n)\/(∃k:Nat,k<3/\p.num=(k:Int)/\uK v p=p.n*v.inn k)\/(p.num = -1/\∃d:Nat,d<4/\p.head=(d:Int)/\uK v p=p.n*v.val d))):=fun p hp=>Bf (by have:=hR.head;omega) (hR.parts.2.2 p hp) (hR.unit.1 p hp) hS
 have HTk:Hid (∀i,i<r.parts.length->nP v (r.parts.take (i+1)) 0=if (r.parts.getD i dQ).minus=true then nP v (r.parts.take i) 0-uK v (r.parts.getD i dQ) else nP v (r.parts.take i) 0+uK v (r.parts.getD i dQ)):=fun i hi=>by
  have e:r.parts.take (i+1)=r.parts.take i++[r.parts.getD i dQ]:=by rw[List.take_add_one];simp[List.getD,hi]
  rw[e,UM]
 have HA:Hid (sT v r=nP v (r.parts.take r.parts.length) 0):=by unfold Hid sT;rw[bm]
 have HB0:Hid (Below w.heap.size w (w.alloc (.cells #[.int .i64 (r.head:Int),.bool r.whole,.slice pa r.parts.length pc,qv] 85))):=da (j1 _) _;have HX0:Hid ((w.alloc (.cells #[.int .i64 (r.head:Int),.bool r.whole,.slice pa r.parts.length pc,qv] 85)).heap[w.heap.size]? = some (.cells #[.int .i64 (r.head:Int),.bool r.whole,.slice pa r.parts.length pc,qv] 85 (0,0))):=zH _ _;have HVb:=zA (fun w' (hb:Below w.heap.size w w')=>hV.below hb);have HPb:=zA (fun w' (hb:Below w.heap.size w w')=>hP.below hb);clear hR hV hP hS;generalize sT v r=ANS at *;generalize hwh:r.whole=wh at *;generalize hps:r.parts=ps at *;generalize (r.head:Int)=hdI at *;clear hwh hps
 go_enter Tryz.func48,Tryz.ntmps48
 go_upto_region 1 with fail
 generalize w.alloc (.cells #[.int .i64 hdI,.bool wh,.slice pa ps.length pc,qv] 85)=w0 at *
 have HB2:Hid (∀w',Below w0.heap.size w0 w'->w'.cell? ⟨w.heap.size,2,none⟩=some (.slice pa ps.length pc)):=fun w' hb=>by
  have c2:w0.cell? ⟨w.heap.size,2,none⟩=some (.slice pa ps.length pc):=zC HX0.out 2;exact(hb.cell (p:=⟨w.heap.size,2,none⟩) (yO c2)).trans c2
 clear HX0;go_wp2_with fail
 go_loopw [5,6] (fun nv iv wr=>∃(i:Nat) (n:Int),i<=ps.length/\iv=.int .i64 (i:Int)/\nv=.int .i64 n/\Hid (-((i:Int)*253874501681872896)<=n/\n<=(i:Int)*253874501681872896)/\Hid (n=nP v (ps.take i) 0)/\Hid (Below w0.heap.size w0 wr)) (fun _ iv _=>ps.length-(intOf iv).toNat)
 case atStart=>exact⟨0,0,tq _,rfl,rfl,zA ⟨by omega,by omega⟩,zA rfl,zA (t9 _ _)⟩
 case round =>
  obtain⟨i,n,hi,rfl,rfl,HN,HE,HB⟩:=hrel;have b2:=HB2.out wr HB.out;by_cases zE9:i<ps.length
  ·have ii:(i:Int)<(ps.length:Int):=by omega
   have HPi:=zA (HPb.out wr (HB0.out.trans (HB.out.mono HB0.out.size)));have HCase:=zA (HPc.out _ (tR dQ zE9));have HNx:=zA (HTk.out i zE9);obtain⟨gp,e0,q0⟩:=HPi.out.cel.at ((zY cT 5 (fun _=>rfl) dQ ps i 0 zE9 (by decide)).trans rfl);subst e0
   have qq:∀(r:Nat) (u:Value),r<5->(cT (ps.getD i dQ))[r]? = some u->wr.cell? ⟨gp,i*5+r,none⟩=some u:=fun r u hr hu=>by
    obtain⟨g',e',c'⟩:=HPi.out.cel.at ((zY cT 5 (fun _=>rfl) dQ ps i r zE9 hr).trans hu);obtain rfl:gp=g':=by simpa using e'
    exact c'
   have q1:=qq 1 _ (by decide) rfl;have q2:=qq 2 _ (by decide) rfl;have q3:=qq 3 _ (by decide) rfl;have q4:=qq 4 _ (by decide) rfl;rw[mj]at q0;clear qq HPi;generalize ps.getD i dQ=p at *;obtain⟨mi,ti,nn,nu,hd⟩:=p;simp only at q0 q1 q2 q3 q4;rw[<-HE.out]at HNx;clear HE;obtain⟨X,hX⟩:∃X,X=uK v ⟨mi,ti,nn,nu,hd⟩:=⟨_,rfl⟩;rw[<-hX]at HCase HNx;clear hX;obtain⟨⟨x0,x1⟩,zEP⟩:=HCase.out;simp only at zEP HNx;have i4:(i:Int)<=3:=by omega
   obtain⟨n0,n1⟩:=HN.out;have hws:IntKind.i64.wrap (n-X)=n-X:=by simp[IntKind.wrap,IntKind.signed,IntKind.bits];omega
   have hwa:IntKind.i64.wrap (n+X)=n+X:=by simp[IntKind.wrap,IntKind.signed,IntKind.bits];omega
   have HXb:Hid (-253874501681872896<=X/\X<=253874501681872896):=⟨x0,x1⟩;have HN2:Hid ((-(((i+1:Nat):Int)*253874501681872896)<=n-X/\n-X<=((i+1:Nat):Int)*253874501681872896)/\(-(((i+1:Nat):Int)*253874501681872896)<=n+X/\n+X<=((i+1:Nat):Int)*253874501681872896)):=by unfold Hid;omega
   clear HCase n0 n1
   go_upto_region 6 with fail
   have HBn:Hid (Below w0.heap.size w0 (wr.alloc (.cells #[.bool mi,.bool ti,.int .i64 nn,.int .i64 nu,.int .i64 hd] 89))):=HB.out.alloc HB.out.size _;have HXr:Hid ((wr.alloc (.cells #[.bool mi,.bool ti,.int .i64 nn,.int .i64 nu,.int .i64 hd] 89)).heap[wr.heap.size]? = some (.cells #[.bool mi,.bool ti,.int .i64 nn,.int .i64 nu,.int .i64 hd] 89 (0,0))):=zH _ _;generalize wr.alloc (.cells #[.bool mi,.bool ti,.int .i64 nn,.int .i64 nu,.int .i64 hd] 89)=w2 at *;have a0:w2.cell? ⟨wr.heap.size,0,none⟩=some (.bool mi):=zC HXr.out 0;have a2:w2.cell? ⟨wr.heap.size,2,none⟩=some (.int .i64 nn):=zC HXr.out 2;have a3:w2.cell? ⟨wr.heap.size,3,none⟩=some (.int .i64 nu):=zC HXr.out 3;have a4:w2.cell? ⟨wr.heap.size,4,none⟩=some (.int .i64 hd):=zC HXr.out 4;have HV2:=zA (HVb.out w2 (HB0.out.trans (HBn.out.mono HB0.out.size)));clear HXr q0 q1 q2 q3 q4 b2
   go_upto_if 25 with fail
   go_cut [5,8] from 9 to 56 (fun v5 v8 wx=>v5=.int .i64 n/\v8=.int .i64 X/\Hid (Below w0.heap.size w0 wx)/\wx.cell? ⟨wr.heap.size,0,none⟩=some (.bool mi))
   case first =>
    rcases zEP with ⟨h1,h2,h3⟩|⟨k,hk,h1,h3⟩|⟨h1,d,hd4,h2,h3⟩
    ·subst h1 h2 h3
     go_wp2_with fail
     go_meet
     exact⟨rfl,rfl,HBn,a0⟩
    ·subst h1
     have m0:=HV2.out.cells.1 k (by omega);have k3:(k:Int)<5:=by omega
     have k0:(0:Int)<=(k:Int):=by omega
     have hwm:IntKind.i64.wrap (nn*v.inn k)=X:=by rw[<-h3];simp[IntKind.wrap,IntKind.signed,IntKind.bits];omega
     clear h3;generalize v.inn k=z at *;go_wp2_with fail
     go_quiet (fail)
     go_wp2_with fail
     go_meet
     exact⟨rfl,by first|rfl|simp,zA (xD HBn.out _),a0⟩
    ·subst h1 h2
     have m0:=HV2.out.cells.2.2 d hd4;have d4:(d:Int)<4:=by omega
     have d0:(0:Int)<=(d:Int):=by omega
     have hwm:IntKind.i64.wrap (nn*v.val d)=X:=by rw[<-h3];simp[IntKind.wrap,IntKind.signed,IntKind.bits];omega
     clear h3;generalize v.val d=z at *;go_wp2_with fail
     go_quiet (fail)
     go_wp2_with fail
     go_meet
     exact⟨rfl,by first|rfl|simp,zA (xD HBn.out _),a0⟩
   case rest =>
    clear a0 a2 a3 a4 HBn HV2 zEP;obtain⟨rfl,rfl,zEU,a0⟩:=hcut;cases mi
    ·have HE2:Hid (n+X=nP v (ps.take (i+1)) 0):=by have:=HNx.out;rw[t7 (by decide)]at this;exact this.symm
     clear HNx;go_wp2_with fail
     go_roundw
     case rel=>exact⟨i+1,n+X,by omega,by go_num,by first|rfl|simp,zA HN2.out.2,HE2,zEU⟩
     case measure=>simp[intOf];omega
    ·have HE2:Hid (n-X=nP v (ps.take (i+1)) 0):=by have:=HNx.out;rw[tg rfl]at this;exact this.symm
     clear HNx;go_wp2_with fail
     go_roundw
     case rel=>exact⟨i+1,n-X,by omega,by go_num,by first|rfl|simp,zA HN2.out.1,HE2,zEU⟩
     case measure=>simp[intOf];omega
  ·obtain rfl:i=ps.length:=by omega
   have ii:¬(ps.length:Int)<(ps.length:Int):=by omega
   have HZ:Hid (n=ANS):=by unfold Hid;rw[HE.out,HA.out]
   clear HE HA;go_wp2_with fail
   go_ret
   exact⟨by rw[HZ.out];rfl,HB0.out.trans (HB.out.mono HB0.out.size)⟩
def YW(M:zT)(v:FV)(r j:Nat):Bool:=(List.range j).any fun k=>bG v (vB M k)&&gA (zR (jW M)) k r
theorem Vy(r j:Nat):YW M v r (j+1)=(YW M v r j || (bG v (vB M j)&&gA (zR (jW M)) j r)):=by
 unfold YW;rw[l8,List.any_append];simp
def Yt(M:zT)(v:FV)(n i:Nat):List Int:=(List.range n).map fun x=>if x<i then tJ M v x else 0
theorem zk:(Yt M v n i).length=n:=by unfold Yt;simp
theorem CD:(Yt M v n i).set i (tJ M v i)=Yt M v n (i+1):=by
 refine List.ext_getElem (by simp[Yt]) fun k h1 h2=>?_;simp only[Yt,co,pi,List.length_range]at h1;rw[List.getElem_set];simp only[Yt,List.getElem_map,List.getElem_range];by_cases e:i=k
 ·subst e;rw[tg rfl,tg (by omega)]
 ·rw[t7 e]
  by_cases h3:k<i
  ·rw[tg h3,tg (by omega)]
  ·rw[t7 h3,t7 (by omega)]
theorem CC{n i:Nat}(h:bG v (vB M i)=false):Yt M v n i=Yt M v n (i+1):=by
 refine List.ext_getElem (by simp[Yt]) fun k h1 h2=>?_;simp only[Yt,List.getElem_map,List.getElem_range];by_cases e:k=i
 ·subst e;rw[t7 (by omega),tg (by omega)];unfold tJ;rw[h];rfl
 ·by_cases h3:k<i
  ·rw[tg h3,tg (by omega)]
  ·rw[t7 h3,t7 (by omega)]
theorem zm:Yt M v n n=(List.range n).map (tJ M v):=by
 unfold Yt;exact List.map_congr_left fun x hx=>tg (ph.1 hx)
theorem yq(l:List Int)(i:Nat)(a b:Int):(l.set i a).set i b=l.set i b:=by simp
theorem qe(gv:Nat)(M:zT)(v:FV)(hM:pC w g M)(hO:yF M)(hV:mL w gv v) :
 Calls Tryz.prog 18 #[.pointer (some ⟨g,0,none⟩),.pointer (some ⟨gv,0,none⟩)] w fun e w'=>∃go oc,e=.returned (.slice (some ⟨go,0,none⟩) M.rules.length oc)/\kU w' go ((List.range M.rules.length).map (tJ M v))/\Below w.heap.size w w':=by
 have h8:=hO.few;have HAb:=zA (FZ w g M hM);have hAl:(zR (jW M)).length=64:=by unfold zR;rw[dA];exact fO M
 have HRl:Hid (∀w',Below w.heap.size w w'->∀i,i<M.rules.length->∃gr rc hd wh pa qa pn pc qn qc,w'.cell? ⟨g,6,none⟩=some (.slice (some ⟨gr,0,none⟩) M.rules.length rc)/\zE5 w' gv gr i (bG v (M.rules.getD i oY)) hd wh pa qa pn pc qn qc):=fun w' hb i hi=>zDT (hM.below hb) hO (hV.below hb) hi
 have HLen:Hid (∀w',Below w.heap.size w w'->∃ra rc,w'.cell? ⟨g,6,none⟩=some (.slice ra M.rules.length rc)):=fun w' hb=>by
  obtain⟨ra,ha,rc,hc,xs,h1,h2,-⟩:=(hM.below hb).mem;exact⟨ra,rc,h2.cells.2.2.1⟩
 have HAl:=zA hAl;have HVd:Hid (∀i,bG v (vB M i)=true->tJ M v i=if YW M v i M.rules.length then 1 else 2):=fun i h=>by unfold tJ;rw[h];rfl
 have HBs:=zA (Vy M v);have HB0z:Hid (∀i,YW M v i 0=false):=fun i=>rfl;have HNx:Hid (∀i,i<M.rules.length->(Yt M v M.rules.length i).set i (tJ M v i)=Yt M v M.rules.length (i+1)):=fun i _=>CD M v _ i;have HSk:Hid (∀i,bG v (vB M i)=false->Yt M v M.rules.length i=Yt M v M.rules.length (i+1)):=fun i h=>CC M v h;have HLl:=zA (zk M v M.rules.length)
 have HL0:Hid (List.replicate M.rules.length 0=Yt M v M.rules.length 0):=by
  unfold Hid Yt;refine List.ext_getElem (by simp) fun k h1 h2=>?_;simp
 have HEn:=zA (zm M v M.rules.length);clear hM hO hV hAl;generalize (List.range M.rules.length).map (tJ M v)=VR at *;generalize Yt M v M.rules.length=VL at *;generalize tJ M v=vf at *;generalize YW M v=bj at *;generalize zR (jW M)=AA at *;generalize hapf:(fun i=>bG v (vB M i))=af at *;have HAf:Hid (∀i,bG v (vB M i)=af i):=fun i=>by rw[<-hapf]
 have HAf2:Hid (∀i,bG v (M.rules.getD i oY)=af i):=fun i=>by rw[<-hapf];rfl
 clear hapf;generalize M.rules.length=n at *;have hmI:=run_make_row' (P:=Tryz.prog) 22 3 (.int .i64 0) 8 Tryz.underlying22 nG rfl .i64 .i64 n (by omega) (by omega);rw[nD]at hmI
 go_enter Tryz.func18,Tryz.ntmps18
 go_wp2_with fail
 refine HAb.out.mono ?_;rintro e w1 ⟨rfl,hb1⟩;have HB1:=zA hb1;have hs1:=hb1.size;have HSt:Hid ((w1.alloc (.cells (gC gZ) 46)).heap[w1.heap.size]? = some (.cells (gC gZ) 46 (0,0))):=zH _ _;have HAr0:Hid (JH (w1.alloc (.cells (gC AA) 46)) w1.heap.size AA):=⟨zH _ _,HAl.out⟩;have HB2:Hid (Below w.heap.size w (w1.alloc (.cells (gC AA) 46))):=HB1.out.alloc hs1 _;obtain⟨ra0,rc0,c60⟩:=HLen.out _ HB2.out;clear hb1 HAb
 go_upto_region 2 with (
  (refine wpList_store_row ?zEG 46 (.tmp 5) (.tmp 12) ?ho w1.heap.size (gC AA) ?hx ?hy 46 (gC gZ) HSt.out (aU HAl.out) ?zEH (jL AA) ?_
   case ho=>rfl
   case zEG=>rfl
   case hx=>rfl
   case hy=>rfl
   case zEH=>rw[xK,xK,yY,HAl.out]))
 rw[World.setRow_alloc_new];clear HSt;generalize w1.alloc (.cells (gC AA) 46)=w2 at *;generalize w1.heap.size=ga at *;go_wp2_with fail
 have hs2:=HB2.out.size;have HI0:Hid (kU (w2.alloc (Obj.cells (iC (List.replicate n 0)) 3)) w2.heap.size (VL 0)):=by unfold Hid;rw[<-HL0.out];exact zH _ _
 have HA0:=zA (HAr0.out.below (da (j1 _) (Obj.cells (iC (List.replicate n 0)) 3)));have HB3:Hid (Below w.heap.size w (w2.alloc (Obj.cells (iC (List.replicate n 0)) 3))):=HB2.out.alloc hs2 _;have ngo:ga≠w2.heap.size:=by have:=zL HAr0.out.1;omega
 have hgoW:w.heap.size<=w2.heap.size:=hs2;generalize w2.alloc (Obj.cells (iC (List.replicate n 0)) 3)=w3 at *;clear HB1 HB2 HAr0 c60 hmI hs2;generalize w2.heap.size=go at *
 go_loopw [7] (fun iv wr=>∃(i:Nat),i<=n/\iv=.int .i64 (i:Int)/\Hid (JH wr ga AA)/\Hid (kU wr go (VL i))/\Hid (Below w.heap.size w wr)) (fun iv _=>n-(intOf iv).toNat)
 case atStart=>exact⟨0,tq _,rfl,HA0,HI0,HB3⟩
 case round =>
  clear HA0 HI0 HB3;obtain⟨i,hi,rfl,HAr,HIr,HB⟩:=hrel;by_cases zE9:i<n
  ·have ii:(i:Int)<(n:Int):=by omega
   obtain⟨gr,rc,hd,wh,pa,qa,pn,pc,qn,qc,c6,hap⟩:=HRl.out wr HB.out i zE9;obtain⟨p0,p1,p2,p3,hcal⟩:=hap;rw[HAf2.out]at hcal;have HCl:=zA hcal;clear hcal;go_wp2_with fail
   refine HCl.out.mono ?_;rintro e w4 ⟨rfl,hb4⟩;have HB4:Hid (Below w.heap.size w w4):=HB.out.trans (hb4.mono HB.out.size);have HAr4:=zA (HAr.out.below hb4);have HI4:=zA (HIr.out.below hb4);clear hb4 HCl HAr HIr HB c6 p0 p1 p2 p3;cases hon:af i
   ·have HI5:Hid (kU w4 go (VL (i+1))):=by unfold Hid;rw[<-HSk.out i (by rw[HAf.out];exact hon)];exact HI4.out
    clear HI4;go_wp2_with fail
    go_roundw
    case rel=>exact⟨i+1,by omega,by go_num,HAr4,HI5,HB4⟩
    case measure=>simp[intOf];omega
   ·have hvd:=HVd.out i (by rw[HAf.out];exact hon)
    have f0:=HI4.out.free i;have m0:=HI4.out.cell (k:=i) (by rw[HLl.out];exact zE9);have HIs:Hid (kU (w4.setCell ⟨go,i,none⟩ (.int .i64 2)) go ((VL i).set i (if bj i 0 then 1 else 2))):=by unfold Hid;rw[HB0z.out i];exact HI4.out.set i 2
    have HArs:Hid (JH (w4.setCell ⟨go,i,none⟩ (.int .i64 2)) ga AA):=⟨by rw[pg _ _ _ _ ngo];exact HAr4.out.1,HAr4.out.2⟩;have HBs4:Hid (Below w.heap.size w (w4.setCell ⟨go,i,none⟩ (.int .i64 2))):=HB4.out.setCell (p:=⟨go,i,none⟩) hgoW _;have HVi:Hid ((VL i).set i (if bj i n then 1 else 2)=VL (i+1)):=by unfold Hid;rw[<-hvd];exact HNx.out i zE9
    have hln:(VL i).length=n:=HLl.out i;have HBsi:=zA (HBs.out i);clear HI4 HAr4 HB4 hvd;generalize VL i=Li at *;generalize bj i=bi at *;go_wp2_with fail
    go_loopw [9] (fun jv wr=>∃(j:Nat),j<=n/\jv=.int .i64 (j:Int)/\Hid (JH wr ga AA)/\Hid (kU wr go (Li.set i (if bi j then 1 else 2)))/\Hid (Below w.heap.size w wr)) (fun jv _=>n-(intOf jv).toNat)
    case atStart=>exact⟨0,tq _,rfl,HArs,HIs,HBs4⟩
    case round =>
     clear HArs HIs HBs4 f0 m0;obtain⟨j,hj,rfl,HAr,HIr,HB⟩:=hrel;obtain⟨ra,rc,c6⟩:=HLen.out wr HB.out;by_cases hjl:j<n
     ·have jj:(j:Int)<(n:Int):=by omega
      have j8:(j:Int)<8:=by omega
      have i8:(i:Int)<8:=by omega
      have ca:=HAr.out.cell (k:=j*8+i) (by omega);have hgA:AA.getD (j*8+i) false=gA AA j i:=rfl;rw[hgA]at ca;have hsu:=HBsi.out j;rw[HAf.out]at hsu;have f0:=HIr.out.free i;have m0:=HIr.out.cell (k:=i) (by rw[co,hln];exact zE9);generalize gA AA j i=z at *;cases z
      ·have HI5:Hid (kU wr go (Li.set i (if bi (j+1) then 1 else 2))):=by unfold Hid;rw[hsu,Bool.and_false,Bool.or_false];exact HIr.out
       clear HIr hsu;go_wp2_with fail
       go_roundw
       case rel=>exact⟨j+1,by omega,by go_num,HAr,HI5,HB⟩
       case measure=>simp[intOf];omega
      ·obtain⟨gr,rc',hd,wh,pa,qa,pn,pc,qn,qc,c6',hap⟩:=HRl.out wr HB.out j hjl
       obtain⟨p0,p1,p2,p3,hcal⟩:=hap;rw[HAf2.out]at hcal;have HCl:=zA hcal;clear hcal f0 m0;have e6:=c6.symm.trans c6';simp only[mw,Value.slice.injEq]at e6;obtain⟨rfl,-,rfl⟩:=e6;clear c6';go_wp2_with fail
       refine HCl.out.mono ?_;rintro e w5 ⟨rfl,hb5⟩;have HB5:Hid (Below w.heap.size w w5):=HB.out.trans (hb5.mono HB.out.size);have HAr5:=zA (HAr.out.below hb5);have HI5:=zA (HIr.out.below hb5);have f5:=HI5.out.free i;have m5:=HI5.out.cell (k:=i) (by rw[co,hln];exact zE9);clear hb5 HCl HAr HIr HB c6 p0 p1 p2 p3 ca;cases hup:af j
       ·have HI6:Hid (kU w5 go (Li.set i (if bi (j+1) then 1 else 2))):=by unfold Hid;rw[hsu,hup,bp,Bool.or_false];exact HI5.out
        clear HI5 hsu f5 m5;go_wp2_with fail
        go_roundw
        case rel=>exact⟨j+1,by omega,by go_num,HAr5,HI6,HB5⟩
        case measure=>simp[intOf];omega
       ·have HI6:Hid (kU (w5.setCell ⟨go,i,none⟩ (.int .i64 1)) go (Li.set i (if bi (j+1) then 1 else 2))):=by
         unfold Hid;rw[hsu,hup,mh,Bool.or_true,tg rfl,<-yq Li i (if bi j then 1 else 2) 1];exact HI5.out.set i 1
        have HAr6:Hid (JH (w5.setCell ⟨go,i,none⟩ (.int .i64 1)) ga AA):=⟨by rw[pg _ _ _ _ ngo];exact HAr5.out.1,HAr5.out.2⟩;have HB6:Hid (Below w.heap.size w (w5.setCell ⟨go,i,none⟩ (.int .i64 1))):=HB5.out.setCell (p:=⟨go,i,none⟩) hgoW _;clear HI5 hsu HAr5 HB5;go_wp2_with fail
        go_roundw
        case rel=>exact⟨j+1,by omega,by go_num,HAr6,HI6,HB6⟩
        case measure=>simp[intOf];omega
     ·have jj:¬(j:Int)<(n:Int):=by omega
      obtain rfl:j=n:=by omega
      have HI5:Hid (kU wr go (VL (i+1))):=by unfold Hid;rw[<-HVi.out];exact HIr.out
      clear HIr;go_wp2_with fail
      go_roundw
      case rel=>exact⟨i+1,by omega,by go_num,HAr,HI5,HB⟩
      case measure=>simp[intOf];omega
  ·have ii:¬(i:Int)<(n:Int):=by omega
   obtain rfl:i=n:=by omega
   obtain⟨ra,rc,c6⟩:=HLen.out wr HB.out;have HI5:Hid (kU wr go VR):=by unfold Hid;rw[<-HEn.out];exact HIr.out
   clear HIr;go_wp2_with fail
   go_ret
   exact⟨go,⟨_,rfl⟩,HI5.out,HB.out⟩
def mN(M:zT)(v:FV)(h i:Nat):List Nat:=(List.range i).filter fun r=>decide ((vB M r).head=h)&&(bG v (vB M r) && !eO M v r)
def QK(f:Nat->Int)(l:List Nat):Int:=(l.getLast?.map f).getD 0
theorem Qf(r:Nat):(bG v (vB M r) && !eO M v r)=decide (tJ M v r=2):=by
 unfold tJ;cases bG v (vB M r) <;> cases eO M v r <;> rfl
theorem JS(h1:(vB M i).head=h)(h2:tJ M v i=2):mN M v h (i+1)=mN M v h i++[i]:=by
 unfold mN;rw[l8,List.filter_append];congr 1
 rw[List.filter_cons_of_pos (by rw[Qf,tl h1,tl h2];rfl)];rfl
theorem US(h1:¬((vB M i).head=h/\tJ M v i=2)):mN M v h (i+1)=mN M v h i:=by
 unfold mN;rw[l8,List.filter_append,List.filter_cons_of_neg,List.filter_nil,md];rw[Qf];intro q;rw[pr,pu,pu]at q;exact h1 q
theorem JT:(mN M v h i).length<=i:=by
 unfold mN;have:=List.length_filter_le (fun r=>decide ((vB M r).head=h)&&(bG v (vB M r) && !eO M v r)) (List.range i);rw[List.length_range]at this;exact this
theorem KI(f:Nat->Int)(l:List Nat)(i:Nat):QK f (l++[i])=f i:=by unfold QK;simp
theorem qk(gv go oc h:Nat)(M:zT)(v:FV)(nm:Bs)(st av:Int)(hM:pC w g M)(hO:yF M)(hV:mL w gv v)(hS:XK v)(hI:kU w go ((List.range M.rules.length).map (tJ M v)))(_hh:h<4)
 (zET:st=cO (oJ M v h)) (hav:av=oF (fun r=>sT v (vB M r)) (oJ M v h)) :
 Calls Tryz.prog 20 #[.pointer (some ⟨g,0,none⟩),.agg #[.string ⟨nm.toArray⟩,.int .i64 st,.int .i64 av],.int .i64 (h:Int),.pointer (some ⟨gv,0,none⟩),.slice (some ⟨go,0,none⟩) M.rules.length oc] w fun e w'=>e=.returned (.bool true)/\Below w.heap.size w w':=by
 have h8:=hO.few
 have HRl:Hid (∀w',Below w.heap.size w w'->∀i,i<M.rules.length->∃gr rc pa pc qa qc,w'.cell? ⟨g,6,none⟩=some (.slice (some ⟨gr,0,none⟩) M.rules.length rc)/\(w'.cell? ⟨gr,i*4,none⟩=some (.int .i64 ((vB M i).head:Int))/\w'.cell? ⟨gr,i*4+1,none⟩=some (.bool (vB M i).whole)/\w'.cell? ⟨gr,i*4+2,none⟩=some (.slice pa (vB M i).parts.length pc)/\w'.cell? ⟨gr,i*4+3,none⟩=some (.slice qa (vB M i).tests.length qc))/\Calls Tryz.prog 48 #[.agg #[.int .i64 ((vB M i).head:Int),.bool (vB M i).whole,.slice pa (vB M i).parts.length pc,.slice qa (vB M i).tests.length qc],.pointer (some ⟨gv,0,none⟩)] w' fun e w''=>e=.returned (.int .i64 (sT v (vB M i)))/\Below w'.heap.size w' w''):=fun w' hb i hi=>by
  obtain⟨gr,rc,pa,pc,qa,qc,c6,⟨c0,c1,c2,c3⟩,hp,hq⟩:=(hM.below hb).rule hi;exact⟨gr,rc,pa,pc,qa,qc,c6,⟨c0,c1,c2,c3⟩,FP w' gv v (vB M i) M.heads pa pc _ rfl (hV.below hb) (hO.rules _ (pV hi)) hS hp⟩
 have HLen:Hid (∀w',Below w.heap.size w w'->∃ra rc,w'.cell? ⟨g,6,none⟩=some (.slice ra M.rules.length rc)):=fun w' hb=>by
  obtain⟨ra,ha,rc,hc,xs,h1,h2,-⟩:=(hM.below hb).mem;exact⟨ra,rc,h2.cells.2.2.1⟩
 have HIc:Hid (∀w',Below w.heap.size w w'->∀i,i<M.rules.length->w'.cell? ⟨go,i,none⟩=some (.int .i64 (tJ M v i))):=fun w' hb i hi=>by
  have:=(hI.below hb).cell (k:=i) (by simpa using hi);rw[this];simp[List.getD,hi]
 have HYes:=zA (JS M v h);have HNo:=zA (US M v h);have HLn:=zA (JT M v h);have HSt:Hid (st=cO (mN M v h M.rules.length)):=zET;have HAv:Hid (av=oF (fun r=>sT v (vB M r)) (mN M v h M.rules.length)):=hav;have HS0:Hid (mN M v h 0=[]):=rfl;have HB0:Hid (Below w.heap.size w (w.alloc (.cells #[.string ⟨nm.toArray⟩,.int .i64 st,.int .i64 av] 55))):=da (j1 _) _;have HX0:Hid ((w.alloc (.cells #[.string ⟨nm.toArray⟩,.int .i64 st,.int .i64 av] 55)).heap[w.heap.size]? = some (.cells #[.string ⟨nm.toArray⟩,.int .i64 st,.int .i64 av] 55 (0,0))):=zH _ _;clear hM hO hV hS hI zET hav;generalize hvf:tJ M v=vf at *;generalize htf:(fun r=>sT v (vB M r))=tf at *;have HTf:Hid (∀i,sT v (vB M i)=tf i):=fun i=>by rw[<-htf]
 clear hvf htf;generalize mN M v h=sI at *;generalize M.rules.length=n at *
 go_enter Tryz.func20,Tryz.ntmps20
 go_upto_region 1 with fail
 generalize w.alloc (.cells #[.string ⟨nm.toArray⟩,.int .i64 st,.int .i64 av] 55)=w0 at *
 have HXc:Hid (∀w',Below w0.heap.size w0 w'->w'.cell? ⟨w.heap.size,1,none⟩=some (.int .i64 st)/\w'.cell? ⟨w.heap.size,2,none⟩=some (.int .i64 av)):=fun w' hb=>by
  have c1:w0.cell? ⟨w.heap.size,1,none⟩=some (.int .i64 st):=zC HX0.out 1;have c2:w0.cell? ⟨w.heap.size,2,none⟩=some (.int .i64 av):=zC HX0.out 2;exact⟨(hb.cell (p:=⟨w.heap.size,1,none⟩) (yO c1)).trans c1,(hb.cell (p:=⟨w.heap.size,2,none⟩) (yO c2)).trans c2⟩
 clear HX0;go_wp2_with fail
 go_loopw [11,12,13] (fun nv vv iv wr=>∃(i:Nat),i<=n/\iv=.int .i64 (i:Int)/\nv=.int .i64 ((sI i).length:Int)/\vv=.int .i64 (QK tf (sI i))/\Hid (Below w0.heap.size w0 wr)) (fun _ _ iv _=>n-(intOf iv).toNat)
 case atStart=>exact⟨0,tq _,rfl,by rw[HS0.out];rfl,by rw[HS0.out];rfl,zA (t9 _ _)⟩
 case round =>
  obtain⟨i,hi,rfl,rfl,rfl,HB⟩:=hrel;have zEQ:Hid (Below w.heap.size w wr):=HB0.out.trans (HB.out.mono HB0.out.size);by_cases zE9:i<n
  ·have ii:(i:Int)<(n:Int):=by omega
   obtain⟨gr,rc,pa,pc,qa,qc,c6,⟨c0,c1,c2,c3⟩,hcal⟩:=HRl.out wr zEQ.out i zE9;have cv:=HIc.out wr zEQ.out i zE9;have hy:=HYes.out i;have hno:=HNo.out i;have hl:=HLn.out i;rw[HTf.out]at hcal;have HCl:=zA hcal;clear hcal;by_cases hh1:(vB M i).head=h
   ·rw[hh1]at c0 HCl
    by_cases hv2:vf i=2
    ·have HE:=zA (hy hh1 hv2)
     rw[hv2]at cv;clear hy hno hh1 hv2;generalize (vB M i).whole=wh at *;generalize (vB M i).parts.length=pn at *;generalize (vB M i).tests.length=qn at *;generalize sI i=si at *;go_wp2_with fail
     refine HCl.out.mono ?_;rintro e w2 ⟨rfl,hb2⟩;have HB2:Hid (Below w0.heap.size w0 w2):=HB.out.trans (hb2.mono HB.out.size);clear hb2 HCl c6 c0 c1 c2 c3 cv;go_wp2_with fail
     go_roundw
     case rel=>exact⟨i+1,by omega,by go_num,by rw[HE.out,tb,pj];go_num,by rw[HE.out,KI],HB2⟩
     case measure=>simp[intOf];omega
    ·have HE:=zA (hno fun q=>hv2 q.2)
     have b2:(vf i==2)=false:=by rw[py];exact hv2
     clear hy hno hh1 hv2 HCl c1 c2 c3;generalize vf i=vi at *;generalize sI i=si at *;go_wp2_with fail
     go_roundw
     case rel=>exact⟨i+1,by omega,by go_num,by rw[HE.out],by rw[HE.out],HB⟩
     case measure=>simp[intOf];omega
   ·have HE:=zA (hno fun q=>hh1 q.1)
    have b1:(((vB M i).head:Int)==(h:Int))=false:=by rw[py];omega
    clear hy hno hh1 HCl c1 c2 c3 cv;generalize ((vB M i).head:Int)=hd at *;generalize sI i=si at *;go_wp2_with fail
    go_roundw
    case rel=>exact⟨i+1,by omega,by go_num,by rw[HE.out],by rw[HE.out],HB⟩
    case measure=>simp[intOf];omega
  ·have ii:¬(i:Int)<(n:Int):=by omega
   obtain rfl:i=n:=by omega
   obtain⟨ra,rc,c6⟩:=HLen.out wr zEQ.out;obtain⟨x1,x2⟩:=HXc.out wr HB.out;have hl:=HLn.out i
   have zEP:((sI i).length=0/\st=0)\/((sI i).length=1/\st=1/\av=QK tf (sI i))\/(2<=(sI i).length/\st=2):=by
    rw[HSt.out,HAv.out]
    match hsi:sI i with
    | []=>exact .inl ⟨rfl,rfl⟩
    | [r]=>exact .inr (.inl ⟨rfl,rfl,rfl⟩)
    | a::b::r=>exact .inr (.inr ⟨by simp,rfl⟩)
   clear HSt HAv;generalize QK tf (sI i)=lv at *;generalize (sI i).length=k at *;rcases zEP with ⟨h1,h2⟩|⟨h1,h2,h3⟩|⟨h1,h2⟩
   ·subst h1 h2
    go_wp2_with fail
    go_ret
    exact⟨rfl,zEQ.out⟩
   ·subst h1 h2 h3
    go_wp2_with fail
    go_ret
    exact⟨by simp,zEQ.out⟩
   ·subst h2
    have b0:((k:Int)==0)=false:=by rw[py];omega
    have b1:((k:Int)==1)=false:=by rw[py];omega
    go_wp2_with fail
    go_ret
    exact⟨rfl,zEQ.out⟩
end Go.Proofs.YtnbpdffdnphbeabGreatDoor
