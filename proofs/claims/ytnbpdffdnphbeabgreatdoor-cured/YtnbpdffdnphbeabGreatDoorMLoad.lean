import Derived.Deep.MidRow
import Derived.Test.YtnbpdffdnphbeabGreatDoorMMake3
set_option maxHeartbeats 800000
set_option maxRecDepth 100000
namespace Go.Proofs.YtnbpdffdnphbeabGreatDoor
open Go.RowKit
variable{C:List (Bs × Nat)}{rs:List MX}{I:List zX}{w' w:World}(iv cv:Value)(P:List PT)(rv:Value)(G:List Bool)(k:Int)
def cX(iv cv rv:Value)(G:List Bool)(k:Int):Array Value:=cL iv cv rv G ++ #[.int .i64 k]
def Ui(iv cv rv:Value)(G:List Bool)(k:Int):Obj:=.cells (cX iv cv rv G k) 129 (0,0)
abbrev jT:Value:=.slice none 0 0
theorem mI:(cX iv cv rv G k).size=4+G.length:=by unfold cX;rw[Array.size_append,mJ];simp;omega
theorem J4:Tryz.zeroCells129=cX jT jT jT gZ 0:=by kernel_rfl
theorem zH9:Tryz.prog.built 129 [(1,.int .i64 k)]=some (cX jT jT jT gZ k):=by kernel_rfl
theorem ul(h:G.length=64):Tryz.prog.built 129 [(0,.agg (cL iv cv rv G))]=some (cX iv cv rv G 0):=by
 have key:∀b:Nat->Bool,Tryz.prog.built 129 [(0,.agg (cL iv cv rv ((List.range 64).map b)))]=some (cX iv cv rv ((List.range 64).map b) 0):=fun b=>by kernel_rfl
 rw[Js G h];exact key _
theorem wH{G:List Bool}(h:G.length=64)(iv cv rv:Value)(k:Int):(Tryz.prog.info? 129).map (·.size)=some (cX iv cv rv G k).size:=by rw[mI,h];kernel_rfl
theorem Yb{iv cv rv:Value}(h0:iv.oneCell'=true)(h1:cv.oneCell'=true)(h2:rv.oneCell'=true)(G:List Bool)(k:Int):(cX iv cv rv G k).all (·.oneCell')=true:=by
 rw[Array.all_eq_true_iff_forall_mem];intro v hv;unfold cX at hv;rcases Array.mem_append.1 hv with h|h
 ·exact Array.all_eq_true_iff_forall_mem.1 (J6 h0 h1 h2 G) v h
 ·simp at h;subst h;rfl
theorem CH{iv cv rv:Value}{G:List Bool}(h:G.length=64)(k:Int):(cX iv cv rv G k)[67]? = some (.int .i64 k):=by
 unfold cX;rw[dt (by rw[mJ,h];exact tg _),mJ,h];rfl
def cK(F:List zE)(w w':World)(e:Ending):Prop:=∃iv cv rv rs,e=.returned (.agg (cX iv cv rv (zS (kE (uY F) F gZ)) 0))/\rs.map Prod.fst=uT ((yI F).map zX.name) ((vF F).map Prod.fst) F/\bL w' iv cv rv (yI F) (vF F) rs/\Below w.heap.size w w'
theorem bL.one{iv cv rv:Value}(h:bL w iv cv rv I C rs):iv.oneCell'=true/\cv.oneCell'=true/\rv.oneCell'=true:=by
 obtain⟨a,c,rfl,-⟩:=h.inp;obtain⟨a,c,rfl,-⟩:=h.con;obtain⟨a,c,rfl,-⟩:=h.rul;exact⟨rfl,rfl,rfl⟩
theorem bL.keepT{iv cv rv:Value}(h:bL w iv cv rv I C rs)(hk:∀(t:TypeId) (g:Nat) (cs:Array Value) (fz:Nat × Nat),t≠129->t≠136->w.heap[g]? = some (Obj.cells cs t fz)->w'.heap[g]? = w.heap[g]?):bL w' iv cv rv I C rs:=by
 obtain⟨a1,c1,e1,h1⟩:=h.inp;obtain⟨a2,c2,e2,h2⟩:=h.con;obtain⟨a3,c3,e3,h3⟩:=h.rul;refine⟨⟨a1,c1,e1,h1.keep fun g cs fz hg=>hk _ g cs fz (by decide) (by decide) hg⟩,⟨a2,c2,e2,h2.keep fun g cs fz hg=>hk _ g cs fz (by decide) (by decide) hg⟩,⟨a3,c3,e3,h3.keep fun g cs fz hg=>hk _ g cs fz (by decide) (by decide) hg⟩,fun x hx=>?_,h.few1,h.few2,h.few3⟩;have hm:=h.rows x hx;obtain⟨a',c',h4,h5⟩:=hm.sum;obtain⟨a'',c'',h6,h7⟩:=hm.guard;exact⟨⟨a',c',h4,h5.keep fun g cs fz hg=>hk _ g cs fz (by decide) (by decide) hg⟩,⟨a'',c'',h6,h7.keep fun g cs fz hg=>hk _ g cs fz (by decide) (by decide) hg⟩,hm.few1,hm.few2⟩
theorem bL.below{iv cv rv:Value}(h:bL w iv cv rv I C rs)(hb:Below w.heap.size w w'):bL w' iv cv rv I C rs :=
 h.keepT fun _ g _ _ _ _ hg=>hb.block g (zQ hg)
def zBC:Prop:=∀(w:World) (a:Option Addr) (c:Nat) (ls:List LX),tG w a ls->(∀x∈ls,x.1.nd.length<=10000)->Calls Tryz.prog 64 #[.slice a ls.length c] w fun e w'=>Zm (fs ls) w w' e
theorem zD0(F:List zE)(w w':World)(e:Ending)(I:List zX)(C:List (Bs × Nat))(G:List Bool)(iv cv rv:Value)(rs:List MX)(h1:I=yI F)(h2:C=vF F)(h3:G=zS (kE (uY F) F gZ))(h4:rs.map Prod.fst=uT ((yI F).map zX.name) ((vF F).map Prod.fst) F)(h5:bL w' iv cv rv I C rs)(h6:Below w.heap.size w w')(h7:e=.returned (.agg (cX iv cv rv G 0))):cK F w w' e:=by
 unfold cK;rw[<-h3];rw[h1,h2]at h5;exact⟨iv,cv,rv,rs,h7,h4,h5,h6⟩
def MkN(F:List zE)(I:List zX)(C:List (Bs × Nat))(G:List Bool)(w w':World)(e:Ending):Prop:=∃iv cv rv rs,e=.returned (.agg (cL iv cv rv G))/\rs.map Prod.fst=uT ((yI F).map zX.name) ((vF F).map Prod.fst) F/\bL w' iv cv rv I C rs/\Below w.heap.size w w'
theorem G9(l:Bs)(w:World)(hl:l.length<=4000)(hf:(vY l).2.2=false)(hg:∀x∈(vY l).1,oT x)(hm:(vY l).1.length<=10000)(hnd:∀x∈(vY l).1,x.nd.length<=10000)(hMk:zBC) :
 Calls Tryz.prog 50 #[.string ⟨l.toArray⟩] w fun e w'=>((kF (vY l).1).1≠0->e=.returned (.agg (cX jT jT jT gZ (kF (vY l).1).1))/\Below w.heap.size w w')/\((kF (vY l).1).1=0->cK (vY l).1 w w' e):=by
 have HR:=zA (fun o=>Kh l (w.alloc o) hl)
 have HRI:Hid (∀w0 w' e,Kb w0 w' l e->∃lv ls,e=.returned (sC lv 0 0)/\ls.map Prod.fst=(vY l).1/\Kf w' w0.heap.size lv ls):=by
  intro w0 w' e h;unfold Kb at h;rw[hf]at h;exact h
 generalize (vY l).1=F at *;have HG:=zA hg;have HMn:=zA hm;have HNd:=zA hnd;have HMk:=zA hMk;clear hg hm hf hnd hMk;generalize hck:kF F=ck at *;have HCk:=zA hck;clear hck;obtain⟨ck1,ck2⟩:=ck;simp only;obtain⟨G,hG⟩:∃G,G=zS (kE (uY F) F gZ):=⟨_,rfl⟩;obtain⟨I,hI⟩:∃I,I=yI F:=⟨_,rfl⟩;obtain⟨C,hC⟩:∃C,C=vF F:=⟨_,rfl⟩;have HGL:Hid (G.length=64):=by unfold Hid;rw[hG];unfold zS;rw[fO,dX];exact xO
 have HMN:Hid (∀w' w'' e,Zm F w' w'' e->MkN F I C G w' w'' e):=fun w' w'' e h=>by unfold MkN;rw[hG,hI,hC];exact h
 have HRN:Hid (∀w' e iv cv rv rs,rs.map Prod.fst=uT ((yI F).map zX.name) ((vF F).map Prod.fst) F->bL w' iv cv rv I C rs->Below w.heap.size w w'->e=.returned (.agg (cX iv cv rv G 0))->cK F w w' e):=fun w' e iv cv rv rs h4 h5 h6 h7=>zD0 F w w' e I C G iv cv rv rs hI hC hG h4 h5 h6 h7;clear hG hI hC
 go_enter Tryz.func50,Tryz.ntmps50
 go_wp2_with fail
 refine(HR.out _).mono ?_;rintro e w1 ⟨hri,hb⟩;obtain⟨lv,ls,rfl,hmap,hlin⟩:=HRI.out _ _ _ hri;have HZ:Hid (w1.heap[w.heap.size]? = some (Ui jT jT jT gZ 0)):=by unfold Hid Ui;rw[hb.block _ (yE _ _),<-J4];exact zH _ _
 have HB:Hid (Below w.heap.size w w1):=(fe (tg _) _).trans (hb.mono (pb (yE _ _)));have hs:=tm (yE w _) hb.size;have hLn:ls.length<=10000:=by have h9:=congrArg List.length hmap;rw[me]at h9;rw[h9];exact HMn.out
 obtain⟨la,lc,rfl,hlc,hlv⟩:=zHD hlin (fun x hx=>HG.out _ (by rw[<-hmap];exact pd.2 ⟨x,hx,rfl⟩)) hLn
 have HCl:Hid (∀o,Calls Tryz.prog 56 #[.slice la ls.length lc] (w1.alloc o) fun e w'=>e=.returned (oK (ck1,ck2))/\Below (w1.alloc o).heap.size (w1.alloc o) w'):=fun o=>by
  have:=zFB (w1.alloc o) la lc ls hlc (hlv.below (fe (tg _) o) (tg _));rw[show fs ls=F from hmap,HCk.out]at this;exact this
 have HMk1:Hid (∀w',Below w1.heap.size w1 w'->Calls Tryz.prog 64 #[.slice la ls.length lc] w' fun e w''=>MkN F I C G w' w'' e):=fun w' hb'=>by
  have:=HMk.out w' la lc ls (hlv.below hb' (tg _)) (fun x hx=>HNd.out _ (by rw[<-hmap];exact pd.2 ⟨x,hx,rfl⟩));rw[show fs ls=F from hmap]at this;exact this.mono fun e w'' h=>HMN.out _ _ _ h
 clear hb hri hlin hlv hmap HR HRI HG HMn HCk HNd HMk;unfold sC;go_wp2_with fail
 refine(HCl.out _).mono ?_;rintro e w2 ⟨rfl,hb2⟩;have HZ2:Hid (∀o,(w2.alloc o).heap[w.heap.size]? = some (Ui jT jT jT gZ 0)):=fun o=>yD (by rw[hb2.block _ (by simp;omega)];exact yD HZ.out)
 have HBr:Hid (∀o,Below w1.heap.size w1 ((w2.alloc o))):=fun o=>by
  have h1:=((tl w1.heap.size w1).alloc (tg _) _).trans (hb2.mono (by simp));exact h1.alloc h1.size o
 have q2:w2.cell? ⟨w1.heap.size,0,none⟩=some (.slice la ls.length lc):=by
  rw[hb2.cell (p:=⟨w1.heap.size,0,none⟩) (yE _ _)];exact(zC (zH _ _) 0).trans rfl
 have zK7:w1.heap.size<w2.heap.size:=tm (yE _ _) hb2.size;have HB2:Hid (Below w.heap.size w w2):=(HB.out.alloc (pb hs) _).trans (hb2.mono (by simp;omega));have hs2:=HB2.out.size;clear HCl hb2;unfold oK;by_cases k0:ck1=0
 ·subst k0
  go_wp2_with fail
  refine(HMk1.out _ (HBr.out _)).mono ?_;rintro e w3 ⟨iv,cv,rv,rs,rfl,hrs,hmc,hb3⟩;have HZ3:Hid (w3.heap[w.heap.size]? = some (Ui jT jT jT gZ 0)):=by unfold Hid;rw[hb3.block _ (by simp;omega)];exact HZ2.out _
  have HB3:Hid (Below w.heap.size w w3):=(HB2.out.alloc hs2 _).trans (hb3.mono (by simp;omega));have HMc:=zA hmc;have HRs:=zA hrs;obtain⟨o1,o2,o3⟩:=hmc.one;clear hb3 hmc hrs HMk1
  go_wp2_with (first
   | (refine wpList_buildTo rfl 129 #[(0,.tmp 24)] rfl (some 25) rfl (cX iv cv rv G 0) (by rw[Array.toList_map];exact ul iv cv rv _ HGL.out) ?_)
   | (refine wpList_store_row ?zJW 129 (.tmp 2) (.tmp 25) ?ho w.heap.size (cX iv cv rv G 0) ?hx ?hy 129 (cX jT jT jT gZ 0) HZ3.out (wH HGL.out _ _ _ _) ?zJY (Yb o1 o2 o3 _ _) ?_
      case ho=>rfl
      case zJW=>rfl
      case hx=>rfl
      case hy=>rfl
      case zJY=>rw[mI,mI,xO,HGL.out]))
  have HFin:Hid (bL (w3.setRow w.heap.size (cX iv cv rv G 0)) iv cv rv I C rs):=HMc.out.keepT fun t g cs fz h1 _ hg=>setRow_other _ _ _ _ (fun e=>by
   subst e;have h8:=HZ3.out;unfold Ui at h8;rw[hg]at h8;simp only[cp,Obj.cells.injEq]at h8;exact h1 h8.2.1)
  refine pm (v:=.agg (cX iv cv rv G 0)) (results_cell_row Tryz.results50 _ _ w.heap.size 129 (cX iv cv rv G 0) (0,0) _ rfl (bf _ _ _ _ _ _ HZ3.out) Tryz.underlying129 rfl (wH HGL.out _ _ _ _)) rfl ?_;exact HRN.out _ _ iv cv rv rs HRs.out HFin.out (yW HB3.out (tg _) _) rfl
 ·have b0:(ck1 != 0)=true:=by simpa using k0
  have HK:=zA k0;clear k0
  go_wp2_with (first
   | (refine wpList_buildTo rfl 129 #[(1,.tmp 20)] rfl (some 21) rfl (cX jT jT jT gZ ck1) (by rw[Array.toList_map];exact zH9 ck1) ?_)
   | (refine wpList_store_row ?zJW 129 (.tmp 2) (.tmp 21) ?ho w.heap.size (cX jT jT jT gZ ck1) ?hx ?hy 129 (cX jT jT jT gZ 0) (HZ2.out _) (wH xO _ _ _ _) ?zJY (Yb rfl rfl rfl _ _) ?_
      case ho=>rfl
      case zJW=>rfl
      case hx=>rfl
      case hy=>rfl
      case zJY=>rw[mI,mI]))
  refine pm (v:=.agg (cX jT jT jT gZ ck1)) (results_cell_row Tryz.results50 _ _ w.heap.size 129 (cX jT jT jT gZ ck1) (0,0) _ rfl (bf _ _ _ _ _ _ (HZ2.out _)) Tryz.underlying129 rfl (wH xO _ _ _ _)) rfl ?_;exact⟨fun _=>⟨rfl,yW (HB2.out.alloc hs2 _) (tg _) _⟩,fun h=>absurd h HK.out⟩
def zAN(iv cv rv:Value)(G:List Bool):Array Value := #[.bool true]++cL iv cv rv G
theorem zF4:(zAN iv cv rv G)[0]? = some (.bool true)/\(zAN iv cv rv G)[1]? = some iv/\(zAN iv cv rv G)[2]? = some cv/\(zAN iv cv rv G)[3]? = some rv/\∀k,k<G.length->(zAN iv cv rv G)[4+k]? = some (.bool (G.getD k false)):=by
 unfold zAN;obtain⟨h0,h1,h2⟩:=J7 iv cv rv G;refine⟨?_,?_,?_,?_,fun k hk=>?_⟩
 ·rw[fb (by simp)];rfl
 ·rw[dt (by simp)];exact h0
 ·rw[dt (by simp)];exact h1
 ·rw[dt (by simp)];exact h2
 ·rw[dt (by simp;try omega)]
  have:=YQ iv cv rv G k hk;rw[<-this];congr 1
  simp;try omega
theorem zAM(h:G.length=64):Tryz.prog.built 136 [(0,.bool true),(1,.agg (cL iv cv rv G))]=some (zAN iv cv rv G):=by
 have key:∀b:Nat->Bool,Tryz.prog.built 136 [(0,.bool true),(1,.agg (cL iv cv rv ((List.range 64).map b)))]=some (zAN iv cv rv ((List.range 64).map b)):=fun b=>by kernel_rfl
 rw[Js G h];exact key _
structure iW(w:World)(b:Nat)(F:List zE)(rs:List MX):Prop where
 there:∃iv cv rv,w.heap[b]? = some (.cells (zAN iv cv rv (zS (kE (uY F) F gZ))) 136 (0,0))/\bL w iv cv rv (yI F) (vF F) rs
 rul:rs.map Prod.fst=uT ((yI F).map zX.name) ((vF F).map Prod.fst) F
theorem iW.below{b:Nat}{F:List zE}(h:iW w b F rs)(hb:Below w.heap.size w w'):iW w' b F rs:=by
 obtain⟨iv,cv,rv,h1,h2⟩:=h.there;exact⟨⟨iv,cv,rv,by rw[hb.block _ (zQ h1)];exact h1,h2.below hb⟩,h.rul⟩
theorem iW.base{b:Nat}{F:List zE}(h:iW w b F rs):D1 w b (vF F):=by
 obtain⟨iv,cv,rv,h1,h2⟩:=h.there;obtain⟨a,c,e,hc⟩:=h2.con;obtain⟨g0,-,g2,-⟩:=zF4 iv cv rv (zS (kE (uY F) F gZ));refine⟨(zC h1 0).trans g0,a,c,?_,?_⟩
 ·rw[<-e];exact(zC h1 2).trans g2
 ·refine⟨fun h0=>?_,h2.few2⟩
  rcases hc with hc|⟨g,cs,fz,ha,hb,zKC⟩
  ·exfalso
   have:=(CN (vF F) 0 h0).1;rw[hc]at this;simp at this
  ·refine⟨g,ha,fun i hi=>?_⟩
   obtain⟨p1,p2⟩:=CN (vF F) i hi;have l1:=(List.getElem?_eq_some_iff.1 p1).1;have l2:=(List.getElem?_eq_some_iff.1 p2).1;exact⟨(zC hb _).trans ((zKC _ l1).trans p1),(zC hb _).trans ((zKC _ l2).trans p2)⟩
theorem KX(item:GS->Int × GS)(tok:Bs)(kind:Int)(hit:∀q,(item q).2.nd.length+2*q.s.1<=q.nd.length+2*(item q).2.s.1+1)(k:Nat):∀l q,(kQ P item tok kind k l q).2.nd.length+2*q.s.1<=q.nd.length+2*(kQ P item tok kind k l q).2.s.1:=by
 induction k with
 | zero=>intro l q;exact tg _
 | succ k ih =>
   intro l q;have h1:=xD P tok q.s;rw[kQ];split
   ·show q.nd.length+2*q.s.1<=q.nd.length+2*(zD P tok q.s).2.1;omega
   ·rename_i hsk
    have h2:=uW hsk;have h3:=ih ((item (q.to (zD P tok q.s).2)).2.nd.length:Nat) ((item (q.to (zD P tok q.s).2)).2.add ⟨kind,l,(item (q.to (zD P tok q.s).2)).1,[],[],[],0⟩);have h4:=hit (q.to (zD P tok q.s).2);have e1:(q.to (zD P tok q.s).2).s.1=(zD P tok q.s).2.1:=rfl;have e2:(q.to (zD P tok q.s).2).nd=q.nd:=rfl;have e3:((item (q.to (zD P tok q.s).2)).2.add ⟨kind,l,(item (q.to (zD P tok q.s).2)).1,[],[],[],0⟩).nd.length=(item (q.to (zD P tok q.s).2)).2.nd.length+1:=by simp[GS.add]
    have e4:((item (q.to (zD P tok q.s).2)).2.add ⟨kind,l,(item (q.to (zD P tok q.s).2)).1,[],[],[],0⟩).s=(item (q.to (zD P tok q.s).2)).2.s:=rfl;rw[e3,e4]at h3;rw[e1,e2]at h4;omega
theorem Qg(fact:GS->Int->Int × GS)(hf:∀q d,(fact q d).2.nd.length+2*q.s.1<=q.nd.length+2*(fact q d).2.s.1+1)(q:GS)(d:Int):(qZ P fact q d).2.nd.length+2*q.s.1<=q.nd.length+2*(qZ P fact q d).2.s.1+1:=by
 have h1:=hf q d;have h2:=KX P (fun q=>fact q d) xT 2 (fun q=>hf q d) P.length (fact q d).1 (fact q d).2;unfold qZ;omega
theorem Dv(fact:GS->Int->Int × GS)(hf:∀q d,(fact q d).2.nd.length+2*q.s.1<=q.nd.length+2*(fact q d).2.s.1+1)(q:GS)(d:Int):(bJ P fact q d).2.nd.length+2*q.s.1<=q.nd.length+2*(bJ P fact q d).2.s.1+1:=by
 have h1:=Qg P fact hf q d;have h2:=KX P (fun q=>qZ P fact q d) jU 1 (fun q=>Qg P fact hf q d) P.length (qZ P fact q d).1 (qZ P fact q d).2;unfold bJ;omega
theorem vq(n:Nat):∀q d,(yJ P n q d).2.nd.length+2*q.s.1<=q.nd.length+2*(yJ P n q d).2.s.1+1:=by
 induction n with
 | zero=>intro q d;exact mu _
 | succ n ih =>
   intro q d;have h1:=xD P yX q.s;rw[yJ];split
   ·rename_i hsk
    have h2:=uW hsk;have h3:=ih (q.to (zD P yX q.s).2) (d+1);have e1:(q.to (zD P yX q.s).2).s.1=(zD P yX q.s).2.1:=rfl;have e2:(q.to (zD P yX q.s).2).nd=q.nd:=rfl;rw[e1,e2]at h3;show ((yJ P n (q.to (zD P yX q.s).2) (d+1)).2.nd++[_]).length+2*q.s.1<=q.nd.length+2*(yJ P n (q.to (zD P yX q.s).2) (d+1)).2.s.1+1;rw[tq,mh];omega
   ·have h2:=xD P yO (zD P yX q.s).2
    split
    ·have h3:=Dv P (yJ P n) ih (q.to (zD P yO (zD P yX q.s).2).2) (d+1)
     have e1:(q.to (zD P yO (zD P yX q.s).2).2).s.1=(zD P yO (zD P yX q.s).2).2.1:=rfl;have e2:(q.to (zD P yO (zD P yX q.s).2).2).nd=q.nd:=rfl;rw[e1,e2]at h3;have h4:=uV P vJ (bJ P (yJ P n) (q.to (zD P yO (zD P yX q.s).2).2) (d+1)).2.s;show (bJ P (yJ P n) (q.to (zD P yO (zD P yX q.s).2).2) (d+1)).2.nd.length+2*q.s.1<=q.nd.length+2*(zP P vJ (bJ P (yJ P n) (q.to (zD P yO (zD P yX q.s).2).2) (d+1)).2.s).1+1;omega
    ·have h3:=sY P (zD P yO (zD P yX q.s).2).2
     show (q.nd++[_]).length+2*q.s.1<=q.nd.length+2*(yZ P (zD P yO (zD P yX q.s).2).2).2.1+1;rw[tq,mh];omega
theorem Fm(s:St):(vL P s).2.nd.length<=2*(vL P s).2.s.1+1:=by
 have:=Dv P (yJ P P.length) (vq P P.length) ⟨s,[],0,0⟩ 0;have e:(vL P s)=bJ P (yJ P P.length) ⟨s,[],0,0⟩ 0:=rfl;rw[e];simp only[List.length_nil]at this;omega
theorem vp(s:St):(vG P s).1.nd.length<=2*(vG P s).2.1+1:=by
 unfold vG;split
 ·exact p7 _
 ·split
  ·exact p7 _
  ·split
   ·generalize (zD P [114,117,108,101] (zD P [102,108,97,103] (zD P [110,117,109] s).2).2).2=s3
    have h1:=Fm P (zP P xC (kZ P (zP P [61] (zG P (zP P [58] (zG P s3).2)).2)).2);have h2:=uV P [59] (vL P (zP P xC (kZ P (zP P [61] (zG P (zP P [58] (zG P s3).2)).2)).2)).2.s;exact p8 h1 (by show _<=2*(zP P [59] (vL P (zP P xC (kZ P (zP P [61] (zG P (zP P [58] (zG P s3).2)).2)).2)).2.s).1+1;omega)
   ·exact p7 _
theorem ql{ts:zT}{len:Nat}(zK5:gQ ts)(zJV:ts.length<=4000)(n:Nat):∀(i:Nat) (acc:List zE),i<=ts.length->(∀x∈acc,x.nd.length<=10000)->(jA (pp ts len) n (i,false) acc).2.2=false->∀x∈(jA (pp ts len) n (i,false) acc).1,x.nd.length<=10000:=by
 induction n with
 | zero=>intro i acc _ ha _ x hx;exact ha x hx
 | succ n ih =>
   intro i acc hi ha;rw[jA];simp only;by_cases hk:(yT (pp ts len) i).k=0
   ·rw[tr hk];exact fun _ x hx=>ha x hx
   ·rw[tj hk]
    have hi':i<ts.length:=by
     rcases py i ts.length with h|h
     ·exact h
     ·exact absurd ((qu (len:=len) hi).2 (by omega)) hk
    have hL:=Vc (len:=len) zK5 zJV hi';have hN:=vp (pp ts len) (i,false);generalize vG (pp ts len) (i,false)=r at hL hN ⊢;obtain⟨x,⟨j,f⟩⟩:=r;rcases hL with ⟨h1,h2⟩|⟨h1,h2,h3,_⟩
    ·simp only at h1;subst h1
     rw[CP];intro h;exact absurd (show true=false from h) (by decide)
    ·simp only at h1 h2 h3 hN;subst h1
     refine ih j (acc++[x]) h3 (fun y hy=>?_);rcases ph.1 hy with h|h
     ·exact ha y h
     ·rw[pr.1 h];omega
theorem zH6{l:Bs}(hl:l.length<=4000)(hf:(vY l).2.2=false):∀x∈(vY l).1,x.nd.length<=10000:=by
 have ht:(xB l 0).length<=4000:=p8 (fP l 0) hl;exact ql (len:=l.length) (Qd l) ht (2*(sB l).length+1) 0 [] (p7 _) (by simp) hf
theorem zDV:zBC:=fun w a c ls h hn=>zID w a c ls h hn
end Go.Proofs.YtnbpdffdnphbeabGreatDoor
