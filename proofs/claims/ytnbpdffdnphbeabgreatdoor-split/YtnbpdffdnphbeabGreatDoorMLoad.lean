import Derived.Deep.MidRow
import Derived.Test.YtnbpdffdnphbeabGreatDoorMMake3
set_option maxHeartbeats 800000
set_option maxRecDepth 100000
namespace Go.Proofs.YtnbpdffdnphbeabGreatDoor
open Go.RowKit
variable{C:List (Bs × Nat)}{rs:List MX}{I:List zQ}{w' w:World}(iv cv rv:Value)(G:List Bool)(k:Int)
def dX(iv cv rv:Value)(G:List Bool)(k:Int):Array Value:=dM iv cv rv G ++ #[.int .i64 k]
def U6(iv cv rv:Value)(G:List Bool)(k:Int):Obj:=.cells (dX iv cv rv G k) 129 (0,0)
abbrev jI:Value:=.slice none 0 0
theorem pZ:(dX iv cv rv G k).size=4+G.length:=by unfold dX;rw[Array.size_append,mA];simp;omega
theorem JF:Tryz.zeroCells129=dX jI jI jI gZ 0:=by kernel_rfl
theorem zI5:Tryz.prog.built 129 [(1,.int .i64 k)]=some (dX jI jI jI gZ k):=by kernel_rfl
theorem qu(h:G.length=64):Tryz.prog.built 129 [(0,.agg (dM iv cv rv G))]=some (dX iv cv rv G 0):=by
 have key:∀b:Nat->Bool,Tryz.prog.built 129 [(0,.agg (dM iv cv rv ((List.range 64).map b)))]=some (dX iv cv rv ((List.range 64).map b) 0):=fun b=>by kernel_rfl
 rw[J8 G h];exact key _
theorem Zg{G:List Bool}(h:G.length=64)(iv cv rv:Value)(k:Int):(Tryz.prog.info? 129).map (·.size)=some (dX iv cv rv G k).size:=by rw[pZ,h];kernel_rfl
theorem Yp{iv cv rv:Value}(h0:iv.oneCell'=true)(h1:cv.oneCell'=true)(h2:rv.oneCell'=true)(G:List Bool)(k:Int):(dX iv cv rv G k).all (·.oneCell')=true:=by
 rw[Array.all_eq_true_iff_forall_mem];intro v hv;unfold dX at hv;rcases Array.mem_append.1 hv with h|h
 ·exact Array.all_eq_true_iff_forall_mem.1 (JG h0 h1 h2 G) v h
 ·simp at h;subst h;rfl
theorem Do{iv cv rv:Value}{G:List Bool}(h:G.length=64)(k:Int):(dX iv cv rv G k)[67]? = some (.int .i64 k):=by
 unfold dX;rw[dr (by rw[mA,h];exact j1 _),mA,h];rfl
def fO(F:List zE)(w w':World)(e:Ending):Prop:=∃iv cv rv rs,e=.returned (.agg (dX iv cv rv (yB (uW (vD F) F gZ)) 0))/\rs.map Prod.fst=uQ ((zX F).map zQ.name) ((yY F).map Prod.fst) F/\bZ w' iv cv rv (zX F) (yY F) rs/\Below w.heap.size w w'
theorem bZ.one{iv cv rv:Value}(h:bZ w iv cv rv I C rs):iv.oneCell'=true/\cv.oneCell'=true/\rv.oneCell'=true:=by
 obtain⟨a,c,rfl,-⟩:=h.inp;obtain⟨a,c,rfl,-⟩:=h.con;obtain⟨a,c,rfl,-⟩:=h.rul;exact⟨rfl,rfl,rfl⟩
theorem bZ.keepT{iv cv rv:Value}(h:bZ w iv cv rv I C rs)(hk:∀(t:TypeId) (g:Nat) (cs:Array Value) (fz:Nat × Nat),t≠129->t≠136->w.heap[g]? = some (Obj.cells cs t fz)->w'.heap[g]? = w.heap[g]?):bZ w' iv cv rv I C rs:=by
 obtain⟨a1,c1,e1,h1⟩:=h.inp;obtain⟨a2,c2,e2,h2⟩:=h.con;obtain⟨a3,c3,e3,h3⟩:=h.rul;refine⟨⟨a1,c1,e1,h1.keep fun g cs fz hg=>hk _ g cs fz (by decide) (by decide) hg⟩,⟨a2,c2,e2,h2.keep fun g cs fz hg=>hk _ g cs fz (by decide) (by decide) hg⟩,⟨a3,c3,e3,h3.keep fun g cs fz hg=>hk _ g cs fz (by decide) (by decide) hg⟩,fun x hx=>?_,h.few1,h.few2,h.few3⟩;have hm:=h.rows x hx;obtain⟨a',c',h4,h5⟩:=hm.sum;obtain⟨a'',c'',h6,h7⟩:=hm.guard;exact⟨⟨a',c',h4,h5.keep fun g cs fz hg=>hk _ g cs fz (by decide) (by decide) hg⟩,⟨a'',c'',h6,h7.keep fun g cs fz hg=>hk _ g cs fz (by decide) (by decide) hg⟩,hm.few1,hm.few2⟩
theorem bZ.below{iv cv rv:Value}(h:bZ w iv cv rv I C rs)(hb:Below w.heap.size w w'):bZ w' iv cv rv I C rs :=
 h.keepT fun _ g _ _ _ _ hg=>hb.block g (zJ hg)
def zBS:Prop:=∀(w:World) (a:Option Addr) (c:Nat) (ls:List LX),jS w a ls->(∀x∈ls,x.1.nd.length<=10000)->Calls Tryz.prog 64 #[.slice a ls.length c] w fun e w'=>ZC (fs ls) w w' e
theorem zDF(F:List zE)(w w':World)(e:Ending)(I:List zQ)(C:List (Bs × Nat))(G:List Bool)(iv cv rv:Value)(rs:List MX)(h1:I=zX F)(h2:C=yY F)(h3:G=yB (uW (vD F) F gZ))(h4:rs.map Prod.fst=uQ ((zX F).map zQ.name) ((yY F).map Prod.fst) F)(h5:bZ w' iv cv rv I C rs)(h6:Below w.heap.size w w')(h7:e=.returned (.agg (dX iv cv rv G 0))):fO F w w' e:=by
 unfold fO;rw[<-h3];rw[h1,h2]at h5;exact⟨iv,cv,rv,rs,h7,h4,h5,h6⟩
def MkN(F:List zE)(I:List zQ)(C:List (Bs × Nat))(G:List Bool)(w w':World)(e:Ending):Prop:=∃iv cv rv rs,e=.returned (.agg (dM iv cv rv G))/\rs.map Prod.fst=uQ ((zX F).map zQ.name) ((yY F).map Prod.fst) F/\bZ w' iv cv rv I C rs/\Below w.heap.size w w'
theorem zd(l:Bs)(w:World)(hl:l.length<=4000)(hf:(kM l).2.2=false)(hg:∀x∈(kM l).1,gO x)(hm:(kM l).1.length<=10000)(hnd:∀x∈(kM l).1,x.nd.length<=10000)(hMk:zBS) :
 Calls Tryz.prog 50 #[.string ⟨l.toArray⟩] w fun e w'=>((kI (kM l).1).1≠0->e=.returned (.agg (dX jI jI jI gZ (kI (kM l).1).1))/\Below w.heap.size w w')/\((kI (kM l).1).1=0->fO (kM l).1 w w' e):=by
 have HR:=zA (fun o=>Kw l (w.alloc o) hl)
 have HRI:Hid (∀w0 w' e,Km w0 w' l e->∃lv ls,e=.returned (sV lv 0 0)/\ls.map Prod.fst=(kM l).1/\Kt w' w0.heap.size lv ls):=by
  intro w0 w' e h;unfold Km at h;rw[hf]at h;exact h
 generalize (kM l).1=F at *;have HG:=zA hg;have HMn:=zA hm;have HNd:=zA hnd;have HMk:=zA hMk;clear hg hm hf hnd hMk;generalize hck:kI F=ck at *;have HCk:=zA hck;clear hck;obtain⟨ck1,ck2⟩:=ck;simp only;obtain⟨G,hG⟩:∃G,G=yB (uW (vD F) F gZ):=⟨_,rfl⟩;obtain⟨I,hI⟩:∃I,I=zX F:=⟨_,rfl⟩;obtain⟨C,hC⟩:∃C,C=yY F:=⟨_,rfl⟩;have HGL:Hid (G.length=64):=by unfold Hid;rw[hG];unfold yB;rw[oD,lT];exact xK
 have HMN:Hid (∀w' w'' e,ZC F w' w'' e->MkN F I C G w' w'' e):=fun w' w'' e h=>by unfold MkN;rw[hG,hI,hC];exact h
 have HRN:Hid (∀w' e iv cv rv rs,rs.map Prod.fst=uQ ((zX F).map zQ.name) ((yY F).map Prod.fst) F->bZ w' iv cv rv I C rs->Below w.heap.size w w'->e=.returned (.agg (dX iv cv rv G 0))->fO F w w' e):=fun w' e iv cv rv rs h4 h5 h6 h7=>zDF F w w' e I C G iv cv rv rs hI hC hG h4 h5 h6 h7;clear hG hI hC
 go_enter Tryz.func50,Tryz.ntmps50
 go_wp2_with fail
 refine(HR.out _).mono ?_;rintro e w1 ⟨hri,hb⟩;obtain⟨lv,ls,rfl,hmap,hlin⟩:=HRI.out _ _ _ hri;have HZ:Hid (w1.heap[w.heap.size]? = some (U6 jI jI jI gZ 0)):=by unfold Hid U6;rw[hb.block _ (zV _ _),<-JF];exact zG _ _
 have HB:Hid (Below w.heap.size w w1):=(gb (j1 _) _).trans (hb.mono (ph (zV _ _)));have hs:=tj (zV w _) hb.size;have hLn:ls.length<=10000:=by have h9:=congrArg List.length hmap;rw[pi]at h9;rw[h9];exact HMn.out
 obtain⟨la,lc,rfl,hlc,hlv⟩:=zIA hlin (fun x hx=>HG.out _ (by rw[<-hmap];exact p9.2 ⟨x,hx,rfl⟩)) hLn
 have HCl:Hid (∀o,Calls Tryz.prog 56 #[.slice la ls.length lc] (w1.alloc o) fun e w'=>e=.returned (oZ (ck1,ck2))/\Below (w1.alloc o).heap.size (w1.alloc o) w'):=fun o=>by
  have:=zFX (w1.alloc o) la lc ls hlc (hlv.below (gb (j1 _) o) (j1 _));rw[show fs ls=F from hmap,HCk.out]at this;exact this
 have HMk1:Hid (∀w',Below w1.heap.size w1 w'->Calls Tryz.prog 64 #[.slice la ls.length lc] w' fun e w''=>MkN F I C G w' w'' e):=fun w' hb'=>by
  have:=HMk.out w' la lc ls (hlv.below hb' (j1 _)) (fun x hx=>HNd.out _ (by rw[<-hmap];exact p9.2 ⟨x,hx,rfl⟩));rw[show fs ls=F from hmap]at this;exact this.mono fun e w'' h=>HMN.out _ _ _ h
 clear hb hri hlin hlv hmap HR HRI HG HMn HCk HNd HMk;unfold sV;go_wp2_with fail
 refine(HCl.out _).mono ?_;rintro e w2 ⟨rfl,hb2⟩;have HZ2:Hid (∀o,(w2.alloc o).heap[w.heap.size]? = some (U6 jI jI jI gZ 0)):=fun o=>zS (by rw[hb2.block _ (by simp;omega)];exact zS HZ.out)
 have zLI:Hid (∀o,Below w1.heap.size w1 ((w2.alloc o))):=fun o=>by
  have h1:=((tg w1.heap.size w1).alloc (j1 _) _).trans (hb2.mono (by simp));exact h1.alloc h1.size o
 have q2:w2.cell? ⟨w1.heap.size,0,none⟩=some (.slice la ls.length lc):=by
  rw[hb2.cell (p:=⟨w1.heap.size,0,none⟩) (zV _ _)];exact(zB (zG _ _) 0).trans rfl
 have zLH:w1.heap.size<w2.heap.size:=tj (zV _ _) hb2.size;have HB2:Hid (Below w.heap.size w w2):=(HB.out.alloc (ph hs) _).trans (hb2.mono (by simp;omega));have hs2:=HB2.out.size;clear HCl hb2;unfold oZ;by_cases k0:ck1=0
 ·subst k0
  go_wp2_with fail
  refine(HMk1.out _ (zLI.out _)).mono ?_;rintro e w3 ⟨iv,cv,rv,rs,rfl,hrs,hmc,hb3⟩;have HZ3:Hid (w3.heap[w.heap.size]? = some (U6 jI jI jI gZ 0)):=by unfold Hid;rw[hb3.block _ (by simp;omega)];exact HZ2.out _
  have HB3:Hid (Below w.heap.size w w3):=(HB2.out.alloc hs2 _).trans (hb3.mono (by simp;omega));have HMc:=zA hmc;have HRs:=zA hrs;obtain⟨o1,o2,o3⟩:=hmc.one;clear hb3 hmc hrs HMk1
  go_wp2_with (first
   | (refine wpList_buildTo rfl 129 #[(0,.tmp 24)] rfl (some 25) rfl (dX iv cv rv G 0) (by rw[Array.toList_map];exact qu iv cv rv _ HGL.out) ?_)
   | (refine wpList_store_row ?zLA 129 (.tmp 2) (.tmp 25) ?ho w.heap.size (dX iv cv rv G 0) ?hx ?hy 129 (dX jI jI jI gZ 0) HZ3.out (Zg HGL.out _ _ _ _) ?zLB (Yp o1 o2 o3 _ _) ?_
      case ho=>rfl
      case zLA=>rfl
      case hx=>rfl
      case hy=>rfl
      case zLB=>rw[pZ,pZ,xK,HGL.out]))
  have HFin:Hid (bZ (w3.setRow w.heap.size (dX iv cv rv G 0)) iv cv rv I C rs):=HMc.out.keepT fun t g cs fz h1 _ hg=>setRow_other _ _ _ _ (fun e=>by
   subst e;have h8:=HZ3.out;unfold U6 at h8;rw[hg]at h8;simp only[ld,Obj.cells.injEq]at h8;exact h1 h8.2.1)
  refine pe (v:=.agg (dX iv cv rv G 0)) (results_cell_row Tryz.results50 _ _ w.heap.size 129 (dX iv cv rv G 0) (0,0) _ rfl (cg _ _ _ _ _ _ HZ3.out) Tryz.underlying129 rfl (Zg HGL.out _ _ _ _)) rfl ?_;exact HRN.out _ _ iv cv rv rs HRs.out HFin.out (xI HB3.out (j1 _) _) rfl
 ·have b0:(ck1 != 0)=true:=by simpa using k0
  have HK:=zA k0;clear k0
  go_wp2_with (first
   | (refine wpList_buildTo rfl 129 #[(1,.tmp 20)] rfl (some 21) rfl (dX jI jI jI gZ ck1) (by rw[Array.toList_map];exact zI5 ck1) ?_)
   | (refine wpList_store_row ?zLA 129 (.tmp 2) (.tmp 21) ?ho w.heap.size (dX jI jI jI gZ ck1) ?hx ?hy 129 (dX jI jI jI gZ 0) (HZ2.out _) (Zg xK _ _ _ _) ?zLB (Yp rfl rfl rfl _ _) ?_
      case ho=>rfl
      case zLA=>rfl
      case hx=>rfl
      case hy=>rfl
      case zLB=>rw[pZ,pZ]))
  refine pe (v:=.agg (dX jI jI jI gZ ck1)) (results_cell_row Tryz.results50 _ _ w.heap.size 129 (dX jI jI jI gZ ck1) (0,0) _ rfl (cg _ _ _ _ _ _ (HZ2.out _)) Tryz.underlying129 rfl (Zg xK _ _ _ _)) rfl ?_;exact⟨fun _=>⟨rfl,xI (HB2.out.alloc hs2 _) (j1 _) _⟩,fun h=>absurd h HK.out⟩
def zB9(iv cv rv:Value)(G:List Bool):Array Value := #[.bool true]++dM iv cv rv G
theorem Kd:(zB9 iv cv rv G)[0]? = some (.bool true)/\(zB9 iv cv rv G)[1]? = some iv/\(zB9 iv cv rv G)[2]? = some cv/\(zB9 iv cv rv G)[3]? = some rv/\∀k,k<G.length->(zB9 iv cv rv G)[4+k]? = some (.bool (G.getD k false)):=by
 unfold zB9;obtain⟨h0,h1,h2⟩:=JH iv cv rv G;refine⟨?_,?_,?_,?_,fun k hk=>?_⟩
 ·rw[fj (by simp)];rfl
 ·rw[dr (by simp)];exact h0
 ·rw[dr (by simp)];exact h1
 ·rw[dr (by simp)];exact h2
 ·rw[dr (by simp;try omega)]
  have:=Xi iv cv rv G k hk;rw[<-this];congr 1
  simp;try omega
theorem zB8(h:G.length=64):Tryz.prog.built 136 [(0,.bool true),(1,.agg (dM iv cv rv G))]=some (zB9 iv cv rv G):=by
 have key:∀b:Nat->Bool,Tryz.prog.built 136 [(0,.bool true),(1,.agg (dM iv cv rv ((List.range 64).map b)))]=some (zB9 iv cv rv ((List.range 64).map b)):=fun b=>by kernel_rfl
 rw[J8 G h];exact key _
structure bA(w:World)(b:Nat)(F:List zE)(rs:List MX):Prop where
 there:∃iv cv rv,w.heap[b]? = some (.cells (zB9 iv cv rv (yB (uW (vD F) F gZ))) 136 (0,0))/\bZ w iv cv rv (zX F) (yY F) rs
 rul:rs.map Prod.fst=uQ ((zX F).map zQ.name) ((yY F).map Prod.fst) F
theorem bA.below{b:Nat}{F:List zE}(h:bA w b F rs)(hb:Below w.heap.size w w'):bA w' b F rs:=by
 obtain⟨iv,cv,rv,h1,h2⟩:=h.there;exact⟨⟨iv,cv,rv,by rw[hb.block _ (zJ h1)];exact h1,h2.below hb⟩,h.rul⟩
theorem zE9:zBS:=fun w a c ls h hn=>zJJ w a c ls h hn
end Go.Proofs.YtnbpdffdnphbeabGreatDoor
