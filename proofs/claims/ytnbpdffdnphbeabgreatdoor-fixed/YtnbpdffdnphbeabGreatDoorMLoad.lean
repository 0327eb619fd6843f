import Derived.Deep.MidRow
import Derived.Test.YtnbpdffdnphbeabGreatDoorMMake3
set_option maxHeartbeats 800000
set_option maxRecDepth 100000
namespace Go.Proofs.YtnbpdffdnphbeabGreatDoor
open Go.RowKit
variable{C:List (Bs × Nat)}{rs:List MX}{I:List zV}{w' w:World}(iv cv rv:Value)(G:List Bool)(k:Int)
def fA(iv cv rv:Value)(G:List Bool)(k:Int):Array Value:=bN iv cv rv G ++ #[.int .i64 k]
def jl(iv cv rv:Value)(G:List Bool)(k:Int):Obj:=.cells (fA iv cv rv G k) 129 (0,0)
abbrev kG:Value:=.slice none 0 0
theorem lU:(fA iv cv rv G k).size=4+G.length:=by unfold fA;rw[Array.size_append,mF];simp;omega
theorem Ue:Tryz.zeroCells129=fA kG kG kG gZ 0:=by kernel_rfl
theorem zB4:Tryz.prog.built 129 [(1,.int .i64 k)]=some (fA kG kG kG gZ k):=by kernel_rfl
theorem DJ(h:G.length=64):Tryz.prog.built 129 [(0,.agg (bN iv cv rv G))]=some (fA iv cv rv G 0):=by
 have key:∀b:Nat->Bool,Tryz.prog.built 129 [(0,.agg (bN iv cv rv ((List.range 64).map b)))]=some (fA iv cv rv ((List.range 64).map b) 0):=fun b=>by kernel_rfl
 rw[Xk G h];exact key _
theorem Zi{G:List Bool}(h:G.length=64)(iv cv rv:Value)(k:Int):(Tryz.prog.info? 129).map (·.size)=some (fA iv cv rv G k).size:=by rw[lU,h];kernel_rfl
theorem Xt{iv cv rv:Value}(h0:iv.oneCell'=true)(h1:cv.oneCell'=true)(h2:rv.oneCell'=true)(G:List Bool)(k:Int):(fA iv cv rv G k).all (·.oneCell')=true:=by
 rw[Array.all_eq_true_iff_forall_mem];intro v hv;unfold fA at hv;rcases Array.mem_append.1 hv with h|h
 ·exact Array.all_eq_true_iff_forall_mem.1 (Xv h0 h1 h2 G) v h
 ·simp at h;subst h;rfl
theorem vq{iv cv rv:Value}{G:List Bool}(h:G.length=64)(k:Int):(fA iv cv rv G k)[67]? = some (.int .i64 k):=by
 unfold fA;rw[cj (by rw[mF,h];exact j1 _),mF,h];rfl
def oV(F:List zE)(w w':World)(e:Ending):Prop:=∃iv cv rv rs,e=.returned (.agg (fA iv cv rv (zR (uB (xP F) F gZ)) 0))/\rs.map Prod.fst=kJ ((yE F).map zV.name) ((xO F).map Prod.fst) F/\bP w' iv cv rv (yE F) (xO F) rs/\Below w.heap.size w w'
theorem bP.one{iv cv rv:Value}(h:bP w iv cv rv I C rs):iv.oneCell'=true/\cv.oneCell'=true/\rv.oneCell'=true:=by
 obtain⟨a,c,rfl,-⟩:=h.inp;obtain⟨a,c,rfl,-⟩:=h.con;obtain⟨a,c,rfl,-⟩:=h.rul;exact⟨rfl,rfl,rfl⟩
theorem bP.keepT{iv cv rv:Value}(h:bP w iv cv rv I C rs)(hk:∀(t:TypeId) (g:Nat) (cs:Array Value) (fz:Nat × Nat),t≠129->t≠136->w.heap[g]? = some (Obj.cells cs t fz)->w'.heap[g]? = w.heap[g]?):bP w' iv cv rv I C rs:=by
 obtain⟨a1,c1,e1,h1⟩:=h.inp;obtain⟨a2,c2,e2,h2⟩:=h.con;obtain⟨a3,c3,e3,h3⟩:=h.rul;refine⟨⟨a1,c1,e1,h1.keep fun g cs fz hg=>hk _ g cs fz (by decide) (by decide) hg⟩,⟨a2,c2,e2,h2.keep fun g cs fz hg=>hk _ g cs fz (by decide) (by decide) hg⟩,⟨a3,c3,e3,h3.keep fun g cs fz hg=>hk _ g cs fz (by decide) (by decide) hg⟩,fun x hx=>?_,h.few1,h.few2,h.few3⟩;have hm:=h.rows x hx;obtain⟨a',c',h4,h5⟩:=hm.sum;obtain⟨a'',c'',h6,h7⟩:=hm.guard;exact⟨⟨a',c',h4,h5.keep fun g cs fz hg=>hk _ g cs fz (by decide) (by decide) hg⟩,⟨a'',c'',h6,h7.keep fun g cs fz hg=>hk _ g cs fz (by decide) (by decide) hg⟩,hm.few1,hm.few2⟩
theorem bP.below{iv cv rv:Value}(h:bP w iv cv rv I C rs)(hb:Below w.heap.size w w'):bP w' iv cv rv I C rs :=
 h.keepT fun _ g _ _ _ _ hg=>hb.block g (zL hg)
def GM:Prop:=∀(w:World) (a:Option Addr) (c:Nat) (ls:List LX),kT w a ls->(∀x∈ls,x.1.nd.length<=10000)->Calls Tryz.prog 64 #[.slice a ls.length c] w fun e w'=>aX (fs ls) w w' e
theorem yy(F:List zE)(w w':World)(e:Ending)(I:List zV)(C:List (Bs × Nat))(G:List Bool)(iv cv rv:Value)(rs:List MX)(h1:I=yE F)(h2:C=xO F)(h3:G=zR (uB (xP F) F gZ))(h4:rs.map Prod.fst=kJ ((yE F).map zV.name) ((xO F).map Prod.fst) F)(h5:bP w' iv cv rv I C rs)(h6:Below w.heap.size w w')(h7:e=.returned (.agg (fA iv cv rv G 0))):oV F w w' e:=by
 unfold oV;rw[<-h3];rw[h1,h2]at h5;exact⟨iv,cv,rv,rs,h7,h4,h5,h6⟩
def MkN(F:List zE)(I:List zV)(C:List (Bs × Nat))(G:List Bool)(w w':World)(e:Ending):Prop:=∃iv cv rv rs,e=.returned (.agg (bN iv cv rv G))/\rs.map Prod.fst=kJ ((yE F).map zV.name) ((xO F).map Prod.fst) F/\bP w' iv cv rv I C rs/\Below w.heap.size w w'
theorem Ct(l:Bs)(w:World)(hl:l.length<=4000)(hf:(qN l).2.2=false)(hg:∀x∈(qN l).1,cW x)(hm:(qN l).1.length<=10000)(hnd:∀x∈(qN l).1,x.nd.length<=10000)(hMk:GM) :
 Calls Tryz.prog 50 #[.string ⟨l.toArray⟩] w fun e w'=>((qK (qN l).1).1≠0->e=.returned (.agg (fA kG kG kG gZ (qK (qN l).1).1))/\Below w.heap.size w w')/\((qK (qN l).1).1=0->oV (qN l).1 w w' e):=by
 have HR:=zA (fun o=>XW l (w.alloc o) hl)
 have HRI:Hid (∀w0 w' e,XO w0 w' l e->∃lv ls,e=.returned (nU lv 0 0)/\ls.map Prod.fst=(qN l).1/\XT w' w0.heap.size lv ls):=by
  intro w0 w' e h;unfold XO at h;rw[hf]at h;exact h
 generalize (qN l).1=F at *;have HG:=zA hg;have HMn:=zA hm;have HNd:=zA hnd;have HMk:=zA hMk;clear hg hm hf hnd hMk;generalize hck:qK F=ck at *;have HCk:=zA hck;clear hck;obtain⟨ck1,ck2⟩:=ck;simp only;obtain⟨G,hG⟩:∃G,G=zR (uB (xP F) F gZ):=⟨_,rfl⟩;obtain⟨I,hI⟩:∃I,I=yE F:=⟨_,rfl⟩;obtain⟨C,hC⟩:∃C,C=xO F:=⟨_,rfl⟩;have HGL:Hid (G.length=64):=by unfold Hid;rw[hG];unfold zR;rw[dA,mE];exact yY
 have HMN:Hid (∀w' w'' e,aX F w' w'' e->MkN F I C G w' w'' e):=fun w' w'' e h=>by unfold MkN;rw[hG,hI,hC];exact h
 have HRN:Hid (∀w' e iv cv rv rs,rs.map Prod.fst=kJ ((yE F).map zV.name) ((xO F).map Prod.fst) F->bP w' iv cv rv I C rs->Below w.heap.size w w'->e=.returned (.agg (fA iv cv rv G 0))->oV F w w' e):=fun w' e iv cv rv rs h4 h5 h6 h7=>yy F w w' e I C G iv cv rv rs hI hC hG h4 h5 h6 h7;clear hG hI hC
 go_enter Tryz.func50,Tryz.ntmps50
 go_wp2_with fail
 refine(HR.out _).mono ?_;rintro e w1 ⟨hri,hb⟩;obtain⟨lv,ls,rfl,hmap,hlin⟩:=HRI.out _ _ _ hri;have HZ:Hid (w1.heap[w.heap.size]? = some (jl kG kG kG gZ 0)):=by unfold Hid jl;rw[hb.block _ (zQ _ _),<-Ue];exact zH _ _
 have HB:Hid (Below w.heap.size w w1):=(da (j1 _) _).trans (hb.mono (p6 (zQ _ _)));have hs:=t8 (zQ w _) hb.size;have hLn:ls.length<=10000:=by have h9:=congrArg List.length hmap;rw[pi]at h9;rw[h9];exact HMn.out
 obtain⟨la,lc,rfl,hlc,hlv⟩:=zB9 hlin (fun x hx=>HG.out _ (by rw[<-hmap];exact p7.2 ⟨x,hx,rfl⟩)) hLn
 have HCl:Hid (∀o,Calls Tryz.prog 56 #[.slice la ls.length lc] (w1.alloc o) fun e w'=>e=.returned (gJ (ck1,ck2))/\Below (w1.alloc o).heap.size (w1.alloc o) w'):=fun o=>by
  have:=ky (w1.alloc o) la lc ls hlc (hlv.below (da (j1 _) o) (j1 _));rw[show fs ls=F from hmap,HCk.out]at this;exact this
 have HMk1:Hid (∀w',Below w1.heap.size w1 w'->Calls Tryz.prog 64 #[.slice la ls.length lc] w' fun e w''=>MkN F I C G w' w'' e):=fun w' hb'=>by
  have:=HMk.out w' la lc ls (hlv.below hb' (j1 _)) (fun x hx=>HNd.out _ (by rw[<-hmap];exact p7.2 ⟨x,hx,rfl⟩));rw[show fs ls=F from hmap]at this;exact this.mono fun e w'' h=>HMN.out _ _ _ h
 clear hb hri hlin hlv hmap HR HRI HG HMn HCk HNd HMk;unfold nU;go_wp2_with fail
 refine(HCl.out _).mono ?_;rintro e w2 ⟨rfl,hb2⟩;have HZ2:Hid (∀o,(w2.alloc o).heap[w.heap.size]? = some (jl kG kG kG gZ 0)):=fun o=>zZ (by rw[hb2.block _ (by simp;omega)];exact zZ HZ.out)
 have zES:Hid (∀o,Below w1.heap.size w1 ((w2.alloc o))):=fun o=>by
  have h1:=((t9 w1.heap.size w1).alloc (j1 _) _).trans (hb2.mono (by simp));exact h1.alloc h1.size o
 have q2:w2.cell? ⟨w1.heap.size,0,none⟩=some (.slice la ls.length lc):=by
  rw[hb2.cell (p:=⟨w1.heap.size,0,none⟩) (zQ _ _)];exact(zC (zH _ _) 0).trans rfl
 have zEJ:w1.heap.size<w2.heap.size:=t8 (zQ _ _) hb2.size;have HB2:Hid (Below w.heap.size w w2):=(HB.out.alloc (p6 hs) _).trans (hb2.mono (by simp;omega));have hs2:=HB2.out.size;clear HCl hb2;unfold gJ;by_cases k0:ck1=0
 ·subst k0
  go_wp2_with fail
  refine(HMk1.out _ (zES.out _)).mono ?_;rintro e w3 ⟨iv,cv,rv,rs,rfl,hrs,hmc,hb3⟩;have HZ3:Hid (w3.heap[w.heap.size]? = some (jl kG kG kG gZ 0)):=by unfold Hid;rw[hb3.block _ (by simp;omega)];exact HZ2.out _
  have HB3:Hid (Below w.heap.size w w3):=(HB2.out.alloc hs2 _).trans (hb3.mono (by simp;omega));have HMc:=zA hmc;have HRs:=zA hrs;obtain⟨o1,o2,o3⟩:=hmc.one;clear hb3 hmc hrs HMk1
  go_wp2_with (first
   | (refine wpList_buildTo rfl 129 #[(0,.tmp 24)] rfl (some 25) rfl (fA iv cv rv G 0) (by rw[Array.toList_map];exact DJ iv cv rv _ HGL.out) ?_)
   | (refine wpList_store_row ?zEG 129 (.tmp 2) (.tmp 25) ?ho w.heap.size (fA iv cv rv G 0) ?hx ?hy 129 (fA kG kG kG gZ 0) HZ3.out (Zi HGL.out _ _ _ _) ?zEH (Xt o1 o2 o3 _ _) ?_
      case ho=>rfl
      case zEG=>rfl
      case hx=>rfl
      case hy=>rfl
      case zEH=>rw[lU,lU,yY,HGL.out]))
  have HFin:Hid (bP (w3.setRow w.heap.size (fA iv cv rv G 0)) iv cv rv I C rs):=HMc.out.keepT fun t g cs fz h1 _ hg=>setRow_other _ _ _ _ (fun e=>by
   subst e;have h8:=HZ3.out;unfold jl at h8;rw[hg]at h8;simp only[mw,Obj.cells.injEq]at h8;exact h1 h8.2.1)
  refine p5 (v:=.agg (fA iv cv rv G 0)) (results_cell_row Tryz.results50 _ _ w.heap.size 129 (fA iv cv rv G 0) (0,0) _ rfl (lq _ _ _ _ _ _ HZ3.out) Tryz.underlying129 rfl (Zi HGL.out _ _ _ _)) rfl ?_;exact HRN.out _ _ iv cv rv rs HRs.out HFin.out (xC HB3.out (j1 _) _) rfl
 ·have b0:(ck1 != 0)=true:=by simpa using k0
  have HK:=zA k0;clear k0
  go_wp2_with (first
   | (refine wpList_buildTo rfl 129 #[(1,.tmp 20)] rfl (some 21) rfl (fA kG kG kG gZ ck1) (by rw[Array.toList_map];exact zB4 ck1) ?_)
   | (refine wpList_store_row ?zEG 129 (.tmp 2) (.tmp 21) ?ho w.heap.size (fA kG kG kG gZ ck1) ?hx ?hy 129 (fA kG kG kG gZ 0) (HZ2.out _) (Zi yY _ _ _ _) ?zEH (Xt rfl rfl rfl _ _) ?_
      case ho=>rfl
      case zEG=>rfl
      case hx=>rfl
      case hy=>rfl
      case zEH=>rw[lU,lU]))
  refine p5 (v:=.agg (fA kG kG kG gZ ck1)) (results_cell_row Tryz.results50 _ _ w.heap.size 129 (fA kG kG kG gZ ck1) (0,0) _ rfl (lq _ _ _ _ _ _ (HZ2.out _)) Tryz.underlying129 rfl (Zi yY _ _ _ _)) rfl ?_;exact⟨fun _=>⟨rfl,xC (HB2.out.alloc hs2 _) (j1 _) _⟩,fun h=>absurd h HK.out⟩
def Gt(iv cv rv:Value)(G:List Bool):Array Value := #[.bool true]++bN iv cv rv G
theorem iW:(Gt iv cv rv G)[0]? = some (.bool true)/\(Gt iv cv rv G)[1]? = some iv/\(Gt iv cv rv G)[2]? = some cv/\(Gt iv cv rv G)[3]? = some rv/\∀k,k<G.length->(Gt iv cv rv G)[4+k]? = some (.bool (G.getD k false)):=by
 unfold Gt;obtain⟨h0,h1,h2⟩:=Ui iv cv rv G;refine⟨?_,?_,?_,?_,fun k hk=>?_⟩
 ·rw[Array.getElem?_append_left (by simp)];rfl
 ·rw[cj (by simp)];exact h0
 ·rw[cj (by simp)];exact h1
 ·rw[cj (by simp)];exact h2
 ·rw[cj (by simp;try omega)]
  have:=QA iv cv rv G k hk;rw[<-this];congr 1
  simp;try omega
theorem Gs(h:G.length=64):Tryz.prog.built 136 [(0,.bool true),(1,.agg (bN iv cv rv G))]=some (Gt iv cv rv G):=by
 have key:∀b:Nat->Bool,Tryz.prog.built 136 [(0,.bool true),(1,.agg (bN iv cv rv ((List.range 64).map b)))]=some (Gt iv cv rv ((List.range 64).map b)):=fun b=>by kernel_rfl
 rw[Xk G h];exact key _
structure pE(w:World)(b:Nat)(F:List zE)(rs:List MX):Prop where
 there:∃iv cv rv,w.heap[b]? = some (.cells (Gt iv cv rv (zR (uB (xP F) F gZ))) 136 (0,0))/\bP w iv cv rv (yE F) (xO F) rs
 rul:rs.map Prod.fst=kJ ((yE F).map zV.name) ((xO F).map Prod.fst) F
theorem pE.below{b:Nat}{F:List zE}(h:pE w b F rs)(hb:Below w.heap.size w w'):pE w' b F rs:=by
 obtain⟨iv,cv,rv,h1,h2⟩:=h.there;exact⟨⟨iv,cv,rv,by rw[hb.block _ (zL h1)];exact h1,h2.below hb⟩,h.rul⟩
theorem pE.base{b:Nat}{F:List zE}(h:pE w b F rs):UG w b (xO F):=by
 obtain⟨iv,cv,rv,h1,h2⟩:=h.there;obtain⟨a,c,e,hc⟩:=h2.con;obtain⟨g0,-,g2,-⟩:=iW iv cv rv (zR (uB (xP F) F gZ));refine⟨(zC h1 0).trans g0,a,c,?_,?_⟩
 ·rw[<-e];exact(zC h1 2).trans g2
 ·refine⟨fun h0=>?_,h2.few2⟩
  rcases hc with hc|⟨g,cs,fz,ha,hb,zEP⟩
  ·exfalso
   have:=(Xx (xO F) 0 h0).1;rw[hc]at this;simp at this
  ·refine⟨g,ha,fun i hi=>?_⟩
   obtain⟨p1,p2⟩:=Xx (xO F) i hi;have l1:=(List.getElem?_eq_some_iff.1 p1).1;have l2:=(List.getElem?_eq_some_iff.1 p2).1;exact⟨(zC hb _).trans ((zEP _ l1).trans p1),(zC hb _).trans ((zEP _ l2).trans p2)⟩
theorem J7(l:Bs)(w:World)(F:List zE)(hR:Calls Tryz.prog 50 #[.string ⟨l.toArray⟩] w fun e w'=>oV F w w' e) :
 Calls Tryz.prog 27 #[.string ⟨l.toArray⟩,.bool false] w fun e w'=>∃b,e=.returned (.tuple #[.pointer (some ⟨b,0,none⟩),.int .i64 0])/\(∃rs,pE w' b F rs)/\Below w.heap.size w w':=by
 have HR:=zA hR;clear hR;obtain⟨G,hG⟩:∃G,G=zR (uB (xP F) F gZ):=⟨_,rfl⟩;have HGL:Hid (G.length=64):=by unfold Hid;rw[hG];unfold zR;rw[dA,mE];exact yY
 have HRN:Hid (∀w' e,oV F w w' e->∃iv cv rv rs,e=.returned (.agg (fA iv cv rv G 0))/\rs.map Prod.fst=kJ ((yE F).map zV.name) ((xO F).map Prod.fst) F/\bP w' iv cv rv (yE F) (xO F) rs/\Below w.heap.size w w'):=fun w' e h=>by rw[hG];exact h
 have HBN:Hid (∀w' b iv cv rv rs,w'.heap[b]? = some (.cells (Gt iv cv rv G) 136 (0,0))->rs.map Prod.fst=kJ ((yE F).map zV.name) ((xO F).map Prod.fst) F->bP w' iv cv rv (yE F) (xO F) rs->pE w' b F rs):=fun w' b iv cv rv rs h1 h2 h3=>⟨⟨iv,cv,rv,by rw[<-hG];exact h1,h3⟩,h2⟩;clear hG
 go_enter Tryz.func27,Tryz.ntmps27
 go_wp2_with fail
 refine HR.out.mono ?_;rintro e w1 hri;obtain⟨iv,cv,rv,rs,rfl,hrs,hmc,hb⟩:=HRN.out _ _ hri;obtain⟨o1,o2,o3⟩:=hmc.one;have HB:=zA hb;have HMc:=zA hmc;have HRs:=zA hrs;have hs:=hb.size;clear hb HR hri hmc hrs HRN;have HSt:Hid ((w1.alloc (.cells Tryz.zeroCells129 129)).heap[w1.heap.size]? = some (.cells Tryz.zeroCells129 129 (0,0))):=zH _ _;have HM:Hid (((w1.alloc (.cells Tryz.zeroCells129 129)).setRow w1.heap.size (fA iv cv rv G 0)).heap[w1.heap.size]? = some (jl iv cv rv G 0)):=lq _ _ _ _ _ _ HSt.out;have c67:((w1.alloc (.cells Tryz.zeroCells129 129)).setRow w1.heap.size (fA iv cv rv G 0)).cell? ⟨w1.heap.size,67,none⟩=some (.int .i64 0):=by have h8:=HM.out;unfold jl at h8;exact(zC h8 67).trans (vq HGL.out 0)
 have HRg:Hid (((w1.alloc (.cells Tryz.zeroCells129 129)).setRow w1.heap.size (fA iv cv rv G 0)).rangeAt w1.heap.size 0 (bN iv cv rv G).toList):=fun j v hv=>by
  have h8:=HM.out;unfold jl fA at h8;have hj:j<(bN iv cv rv G).size:=by have:=(List.getElem?_eq_some_iff.1 hv).1;simpa using this
  rw[bs];refine(zC h8 j).trans ?_;rw[Array.getElem?_append_left hj];rw[<-hv,d9]
 have HB2:Hid (∀o,Below w.heap.size w (((w1.alloc (.cells Tryz.zeroCells129 129)).setRow w1.heap.size (fA iv cv rv G 0)).alloc o)):=fun o=>(xC (HB.out.alloc hs _) hs _).alloc (by have:=(xC (HB.out.alloc hs (.cells Tryz.zeroCells129 129)) hs (fA iv cv rv G 0)).size;exact this) o
 have HMc2:Hid (∀o,bP (((w1.alloc (.cells Tryz.zeroCells129 129)).setRow w1.heap.size (fA iv cv rv G 0)).alloc o) iv cv rv (yE F) (xO F) rs):=fun o=>by
  have h1:bP ((w1.alloc (.cells Tryz.zeroCells129 129)).setRow w1.heap.size (fA iv cv rv G 0)) iv cv rv (yE F) (xO F) rs:=HMc.out.keepT fun t g cs fz _ _ hg=>by
   have hgl:=zL hg;rw[setRow_other _ _ _ _ (by omega)];exact(ld w1 _ g hgl)
  exact h1.below (da (j1 _) o)
 go_wp2_with (first
  | (refine wpList_store_row ?zEG 129 (.tmp 6) (.tmp 9) ?ho w1.heap.size (fA iv cv rv G 0) ?hx ?hy 129 Tryz.zeroCells129 HSt.out (Zi HGL.out _ _ _ _) ?zEH (Xt o1 o2 o3 _ _) ?_
     case ho=>rfl
     case zEG=>rfl
     case hx=>rfl
     case hy=>rfl
     case zEH=>rw[Ue,lU,lU,yY,HGL.out])
  | (refine wpList_load_mid ?zEG 127 (.tmp 22) ?ho w1.heap.size 0 ?hx (bN iv cv rv G).toList _ HRg.out Tryz.underlying127 rfl ?hi ?_
     case ho=>rfl
     case zEG=>rfl
     case hx=>rfl
     case hi=>rw[Array.length_toList];exact rM HGL.out _ _ _)
  | (refine wpList_buildTo rfl 136 #[(0,.const (.bool true)),(1,.tmp 23)] rfl (some 24) rfl (Gt iv cv rv G) (by rw[Array.toList_map];exact Gs iv cv rv G HGL.out) ?_))
 go_ret2
 exact⟨_,rfl,⟨rs,HBN.out _ _ iv cv rv rs (vV _ _ _ (by unfold World.setRow;simp)) HRs.out (HMc2.out _)⟩,HB2.out _⟩
theorem vw:GM:=fun w a c ls h hn=>zCI w a c ls h hn
end Go.Proofs.YtnbpdffdnphbeabGreatDoor
