import Derived.Deep.MidRow
import Derived.Test.YtnbpdffdnphbeabGreatDoorMMake3
set_option maxHeartbeats 800000
set_option maxRecDepth 100000
namespace Go.Proofs.YtnbpdffdnphbeabGreatDoor
open Go.RowKit
variable{C:List (Bs × Nat)}{rs:List MX}{I:List zO}{w' w:World}(iv cv rv:Value)(G:List Bool)(k:Int)
def cR(iv cv rv:Value)(G:List Bool)(k:Int):Array Value:=bS iv cv rv G ++ #[.int .i64 k]
def UQ(iv cv rv:Value)(G:List Bool)(k:Int):Obj:=.cells (cR iv cv rv G k) 129 (0,0)
abbrev jP:Value:=.slice none 0 0
theorem mE:(cR iv cv rv G k).size=4+G.length:=by unfold cR;rw[Array.size_append,mF];simp;omega
theorem Kg:Tryz.zeroCells129=cR jP jP jP gZ 0:=by kernel_rfl
theorem zIW:Tryz.prog.built 129 [(1,.int .i64 k)]=some (cR jP jP jP gZ k):=by kernel_rfl
theorem jo(h:G.length=64):Tryz.prog.built 129 [(0,.agg (bS iv cv rv G))]=some (cR iv cv rv G 0):=by
 have key:∀b:Nat->Bool,Tryz.prog.built 129 [(0,.agg (bS iv cv rv ((List.range 64).map b)))]=some (cR iv cv rv ((List.range 64).map b) 0):=fun b=>by kernel_rfl
 rw[JY G h];exact key _
theorem Z8{G:List Bool}(h:G.length=64)(iv cv rv:Value)(k:Int):(Tryz.prog.info? 129).map (·.size)=some (cR iv cv rv G k).size:=by rw[mE,h];kernel_rfl
theorem Y9{iv cv rv:Value}(h0:iv.oneCell'=true)(h1:cv.oneCell'=true)(h2:rv.oneCell'=true)(G:List Bool)(k:Int):(cR iv cv rv G k).all (·.oneCell')=true:=by
 rw[Array.all_eq_true_iff_forall_mem];intro v hv;unfold cR at hv;rcases Array.mem_append.1 hv with h|h
 ·exact Array.all_eq_true_iff_forall_mem.1 (Kh h0 h1 h2 G) v h
 ·simp at h;subst h;rfl
theorem DA{iv cv rv:Value}{G:List Bool}(h:G.length=64)(k:Int):(cR iv cv rv G k)[67]? = some (.int .i64 k):=by
 unfold cR;rw[dt (by rw[mF,h];exact j1 _),mF,h];rfl
def oE(F:List zE)(w w':World)(e:Ending):Prop:=∃iv cv rv rs,e=.returned (.agg (cR iv cv rv (zW (uE (yW F) F gZ)) 0))/\rs.map Prod.fst=uZ ((zV F).map zO.name) ((xE F).map Prod.fst) F/\lW w' iv cv rv (zV F) (xE F) rs/\Below w.heap.size w w'
theorem lW.one{iv cv rv:Value}(h:lW w iv cv rv I C rs):iv.oneCell'=true/\cv.oneCell'=true/\rv.oneCell'=true:=by
 obtain⟨a,c,rfl,-⟩:=h.inp;obtain⟨a,c,rfl,-⟩:=h.con;obtain⟨a,c,rfl,-⟩:=h.rul;exact⟨rfl,rfl,rfl⟩
theorem lW.keepT{iv cv rv:Value}(h:lW w iv cv rv I C rs)(hk:∀(t:TypeId) (g:Nat) (cs:Array Value) (fz:Nat × Nat),t≠129->t≠136->w.heap[g]? = some (Obj.cells cs t fz)->w'.heap[g]? = w.heap[g]?):lW w' iv cv rv I C rs:=by
 obtain⟨a1,c1,e1,h1⟩:=h.inp;obtain⟨a2,c2,e2,h2⟩:=h.con;obtain⟨a3,c3,e3,h3⟩:=h.rul;refine⟨⟨a1,c1,e1,h1.keep fun g cs fz hg=>hk _ g cs fz (by decide) (by decide) hg⟩,⟨a2,c2,e2,h2.keep fun g cs fz hg=>hk _ g cs fz (by decide) (by decide) hg⟩,⟨a3,c3,e3,h3.keep fun g cs fz hg=>hk _ g cs fz (by decide) (by decide) hg⟩,fun x hx=>?_,h.few1,h.few2,h.few3⟩;have hm:=h.rows x hx;obtain⟨a',c',h4,h5⟩:=hm.sum;obtain⟨a'',c'',h6,h7⟩:=hm.guard;exact⟨⟨a',c',h4,h5.keep fun g cs fz hg=>hk _ g cs fz (by decide) (by decide) hg⟩,⟨a'',c'',h6,h7.keep fun g cs fz hg=>hk _ g cs fz (by decide) (by decide) hg⟩,hm.few1,hm.few2⟩
theorem lW.below{iv cv rv:Value}(h:lW w iv cv rv I C rs)(hb:Below w.heap.size w w'):lW w' iv cv rv I C rs :=
 h.keepT fun _ g _ _ _ _ hg=>hb.block g (zM hg)
def zCN:Prop:=∀(w:World) (a:Option Addr) (c:Nat) (ls:List LX),tC w a ls->(∀x∈ls,x.1.nd.length<=10000)->Calls Tryz.prog 64 #[.slice a ls.length c] w fun e w'=>ZX (fs ls) w w' e
theorem zE8(F:List zE)(w w':World)(e:Ending)(I:List zO)(C:List (Bs × Nat))(G:List Bool)(iv cv rv:Value)(rs:List MX)(h1:I=zV F)(h2:C=xE F)(h3:G=zW (uE (yW F) F gZ))(h4:rs.map Prod.fst=uZ ((zV F).map zO.name) ((xE F).map Prod.fst) F)(h5:lW w' iv cv rv I C rs)(h6:Below w.heap.size w w')(h7:e=.returned (.agg (cR iv cv rv G 0))):oE F w w' e:=by
 unfold oE;rw[<-h3];rw[h1,h2]at h5;exact⟨iv,cv,rv,rs,h7,h4,h5,h6⟩
def MkN(F:List zE)(I:List zO)(C:List (Bs × Nat))(G:List Bool)(w w':World)(e:Ending):Prop:=∃iv cv rv rs,e=.returned (.agg (bS iv cv rv G))/\rs.map Prod.fst=uZ ((zV F).map zO.name) ((xE F).map Prod.fst) F/\lW w' iv cv rv I C rs/\Below w.heap.size w w'
theorem xw(l:Bs)(w:World)(hl:l.length<=4000)(hf:(kS l).2.2=false)(hg:∀x∈(kS l).1,gQ x)(hm:(kS l).1.length<=10000)(hnd:∀x∈(kS l).1,x.nd.length<=10000)(hMk:zCN) :
 Calls Tryz.prog 50 #[.string ⟨l.toArray⟩] w fun e w'=>((qG (kS l).1).1≠0->e=.returned (.agg (cR jP jP jP gZ (qG (kS l).1).1))/\Below w.heap.size w w')/\((qG (kS l).1).1=0->oE (kS l).1 w w' e):=by
 have HR:=zA (fun o=>KN l (w.alloc o) hl)
 have HRI:Hid (∀w0 w' e,KA w0 w' l e->∃lv ls,e=.returned (aP lv 0 0)/\ls.map Prod.fst=(kS l).1/\KJ w' w0.heap.size lv ls):=by
  intro w0 w' e h;unfold KA at h;rw[hf]at h;exact h
 generalize (kS l).1=F at *;have HG:=zA hg;have HMn:=zA hm;have HNd:=zA hnd;have HMk:=zA hMk;clear hg hm hf hnd hMk;generalize hck:qG F=ck at *;have HCk:=zA hck;clear hck;obtain⟨ck1,ck2⟩:=ck;simp only;obtain⟨G,hG⟩:∃G,G=zW (uE (yW F) F gZ):=⟨_,rfl⟩;obtain⟨I,hI⟩:∃I,I=zV F:=⟨_,rfl⟩;obtain⟨C,hC⟩:∃C,C=xE F:=⟨_,rfl⟩;have HGL:Hid (G.length=64):=by unfold Hid;rw[hG];unfold zW;rw[nB,pX];exact xG
 have HMN:Hid (∀w' w'' e,ZX F w' w'' e->MkN F I C G w' w'' e):=fun w' w'' e h=>by unfold MkN;rw[hG,hI,hC];exact h
 have HRN:Hid (∀w' e iv cv rv rs,rs.map Prod.fst=uZ ((zV F).map zO.name) ((xE F).map Prod.fst) F->lW w' iv cv rv I C rs->Below w.heap.size w w'->e=.returned (.agg (cR iv cv rv G 0))->oE F w w' e):=fun w' e iv cv rv rs h4 h5 h6 h7=>zE8 F w w' e I C G iv cv rv rs hI hC hG h4 h5 h6 h7;clear hG hI hC
 go_enter Tryz.func50,Tryz.ntmps50
 go_wp2_with fail
 refine(HR.out _).mono ?_;rintro e w1 ⟨hri,hb⟩;obtain⟨lv,ls,rfl,hmap,hlin⟩:=HRI.out _ _ _ hri;have HZ:Hid (w1.heap[w.heap.size]? = some (UQ jP jP jP gZ 0)):=by unfold Hid UQ;rw[hb.block _ (zX _ _),<-Kg];exact zG _ _
 have HB:Hid (Below w.heap.size w w1):=(fw (j1 _) _).trans (hb.mono (pf (zX _ _)));have hs:=tj (zX w _) hb.size;have hLn:ls.length<=10000:=by have h9:=congrArg List.length hmap;rw[pw]at h9;rw[h9];exact HMn.out
 obtain⟨la,lc,rfl,hlc,hlv⟩:=zJ1 hlin (fun x hx=>HG.out _ (by rw[<-hmap];exact p7.2 ⟨x,hx,rfl⟩)) hLn
 have HCl:Hid (∀o,Calls Tryz.prog 56 #[.slice la ls.length lc] (w1.alloc o) fun e w'=>e=.returned (rX (ck1,ck2))/\Below (w1.alloc o).heap.size (w1.alloc o) w'):=fun o=>by
  have:=zGK (w1.alloc o) la lc ls hlc (hlv.below (fw (j1 _) o) (j1 _));rw[show fs ls=F from hmap,HCk.out]at this;exact this
 have HMk1:Hid (∀w',Below w1.heap.size w1 w'->Calls Tryz.prog 64 #[.slice la ls.length lc] w' fun e w''=>MkN F I C G w' w'' e):=fun w' hb'=>by
  have:=HMk.out w' la lc ls (hlv.below hb' (j1 _)) (fun x hx=>HNd.out _ (by rw[<-hmap];exact p7.2 ⟨x,hx,rfl⟩));rw[show fs ls=F from hmap]at this;exact this.mono fun e w'' h=>HMN.out _ _ _ h
 clear hb hri hlin hlv hmap HR HRI HG HMn HCk HNd HMk;unfold aP;go_wp2_with fail
 refine(HCl.out _).mono ?_;rintro e w2 ⟨rfl,hb2⟩;have HZ2:Hid (∀o,(w2.alloc o).heap[w.heap.size]? = some (UQ jP jP jP gZ 0)):=fun o=>zT (by rw[hb2.block _ (by simp;omega)];exact zT HZ.out)
 have zM1:Hid (∀o,Below w1.heap.size w1 ((w2.alloc o))):=fun o=>by
  have h1:=((tg w1.heap.size w1).alloc (j1 _) _).trans (hb2.mono (by simp));exact h1.alloc h1.size o
 have q2:w2.cell? ⟨w1.heap.size,0,none⟩=some (.slice la ls.length lc):=by
  rw[hb2.cell (p:=⟨w1.heap.size,0,none⟩) (zX _ _)];exact(zB (zG _ _) 0).trans rfl
 have zLY:w1.heap.size<w2.heap.size:=tj (zX _ _) hb2.size;have HB2:Hid (Below w.heap.size w w2):=(HB.out.alloc (pf hs) _).trans (hb2.mono (by simp;omega));have hs2:=HB2.out.size;clear HCl hb2;unfold rX;by_cases k0:ck1=0
 ·subst k0
  go_wp2_with fail
  refine(HMk1.out _ (zM1.out _)).mono ?_;rintro e w3 ⟨iv,cv,rv,rs,rfl,hrs,hmc,hb3⟩;have HZ3:Hid (w3.heap[w.heap.size]? = some (UQ jP jP jP gZ 0)):=by unfold Hid;rw[hb3.block _ (by simp;omega)];exact HZ2.out _
  have HB3:Hid (Below w.heap.size w w3):=(HB2.out.alloc hs2 _).trans (hb3.mono (by simp;omega));have HMc:=zA hmc;have HRs:=zA hrs;obtain⟨o1,o2,o3⟩:=hmc.one;clear hb3 hmc hrs HMk1
  go_wp2_with (first
   | (refine wpList_buildTo rfl 129 #[(0,.tmp 24)] rfl (some 25) rfl (cR iv cv rv G 0) (by rw[Array.toList_map];exact jo iv cv rv _ HGL.out) ?_)
   | (refine wpList_store_row ?zLS 129 (.tmp 2) (.tmp 25) ?ho w.heap.size (cR iv cv rv G 0) ?hx ?hy 129 (cR jP jP jP gZ 0) HZ3.out (Z8 HGL.out _ _ _ _) ?zLU (Y9 o1 o2 o3 _ _) ?_
      case ho=>rfl
      case zLS=>rfl
      case hx=>rfl
      case hy=>rfl
      case zLU=>rw[mE,mE,xG,HGL.out]))
  have HFin:Hid (lW (w3.setRow w.heap.size (cR iv cv rv G 0)) iv cv rv I C rs):=HMc.out.keepT fun t g cs fz h1 _ hg=>setRow_other _ _ _ _ (fun e=>by
   subst e;have h8:=HZ3.out;unfold UQ at h8;rw[hg]at h8;simp only[lk,Obj.cells.injEq]at h8;exact h1 h8.2.1)
  refine pd (v:=.agg (cR iv cv rv G 0)) (results_cell_row Tryz.results50 _ _ w.heap.size 129 (cR iv cv rv G 0) (0,0) _ rfl (cf _ _ _ _ _ _ HZ3.out) Tryz.underlying129 rfl (Z8 HGL.out _ _ _ _)) rfl ?_;exact HRN.out _ _ iv cv rv rs HRs.out HFin.out (xD HB3.out (j1 _) _) rfl
 ·have b0:(ck1 != 0)=true:=by simpa using k0
  have HK:=zA k0;clear k0
  go_wp2_with (first
   | (refine wpList_buildTo rfl 129 #[(1,.tmp 20)] rfl (some 21) rfl (cR jP jP jP gZ ck1) (by rw[Array.toList_map];exact zIW ck1) ?_)
   | (refine wpList_store_row ?zLS 129 (.tmp 2) (.tmp 21) ?ho w.heap.size (cR jP jP jP gZ ck1) ?hx ?hy 129 (cR jP jP jP gZ 0) (HZ2.out _) (Z8 xG _ _ _ _) ?zLU (Y9 rfl rfl rfl _ _) ?_
      case ho=>rfl
      case zLS=>rfl
      case hx=>rfl
      case hy=>rfl
      case zLU=>rw[mE,mE]))
  refine pd (v:=.agg (cR jP jP jP gZ ck1)) (results_cell_row Tryz.results50 _ _ w.heap.size 129 (cR jP jP jP gZ ck1) (0,0) _ rfl (cf _ _ _ _ _ _ (HZ2.out _)) Tryz.underlying129 rfl (Z8 xG _ _ _ _)) rfl ?_;exact⟨fun _=>⟨rfl,xD (HB2.out.alloc hs2 _) (j1 _) _⟩,fun h=>absurd h HK.out⟩
def yw(iv cv rv:Value)(G:List Bool):Array Value := #[.bool true]++bS iv cv rv G
theorem K1:(yw iv cv rv G)[0]? = some (.bool true)/\(yw iv cv rv G)[1]? = some iv/\(yw iv cv rv G)[2]? = some cv/\(yw iv cv rv G)[3]? = some rv/\∀k,k<G.length->(yw iv cv rv G)[4+k]? = some (.bool (G.getD k false)):=by
 unfold yw;obtain⟨h0,h1,h2⟩:=Ki iv cv rv G;refine⟨?_,?_,?_,?_,fun k hk=>?_⟩
 ·rw[dr (by simp)];rfl
 ·rw[dt (by simp)];exact h0
 ·rw[dt (by simp)];exact h1
 ·rw[dt (by simp)];exact h2
 ·rw[dt (by simp;try omega)]
  have:=X1 iv cv rv G k hk;rw[<-this];congr 1
  simp;try omega
theorem Uz(h:G.length=64):Tryz.prog.built 136 [(0,.bool true),(1,.agg (bS iv cv rv G))]=some (yw iv cv rv G):=by
 have key:∀b:Nat->Bool,Tryz.prog.built 136 [(0,.bool true),(1,.agg (bS iv cv rv ((List.range 64).map b)))]=some (yw iv cv rv ((List.range 64).map b)):=fun b=>by kernel_rfl
 rw[JY G h];exact key _
structure mM(w:World)(b:Nat)(F:List zE)(rs:List MX):Prop where
 there:∃iv cv rv,w.heap[b]? = some (.cells (yw iv cv rv (zW (uE (yW F) F gZ))) 136 (0,0))/\lW w iv cv rv (zV F) (xE F) rs
 rul:rs.map Prod.fst=uZ ((zV F).map zO.name) ((xE F).map Prod.fst) F
theorem mM.below{b:Nat}{F:List zE}(h:mM w b F rs)(hb:Below w.heap.size w w'):mM w' b F rs:=by
 obtain⟨iv,cv,rv,h1,h2⟩:=h.there;exact⟨⟨iv,cv,rv,by rw[hb.block _ (zM h1)];exact h1,h2.below hb⟩,h.rul⟩
theorem UG(l:Bs)(w:World)(F:List zE)(hR:Calls Tryz.prog 50 #[.string ⟨l.toArray⟩] w fun e w'=>oE F w w' e) :
 Calls Tryz.prog 27 #[.string ⟨l.toArray⟩,.bool false] w fun e w'=>∃b,e=.returned (.tuple #[.pointer (some ⟨b,0,none⟩),.int .i64 0])/\(∃rs,mM w' b F rs)/\Below w.heap.size w w':=by
 have HR:=zA hR;clear hR;obtain⟨G,hG⟩:∃G,G=zW (uE (yW F) F gZ):=⟨_,rfl⟩;have HGL:Hid (G.length=64):=by unfold Hid;rw[hG];unfold zW;rw[nB,pX];exact xG
 have HRN:Hid (∀w' e,oE F w w' e->∃iv cv rv rs,e=.returned (.agg (cR iv cv rv G 0))/\rs.map Prod.fst=uZ ((zV F).map zO.name) ((xE F).map Prod.fst) F/\lW w' iv cv rv (zV F) (xE F) rs/\Below w.heap.size w w'):=fun w' e h=>by rw[hG];exact h
 have HBN:Hid (∀w' b iv cv rv rs,w'.heap[b]? = some (.cells (yw iv cv rv G) 136 (0,0))->rs.map Prod.fst=uZ ((zV F).map zO.name) ((xE F).map Prod.fst) F->lW w' iv cv rv (zV F) (xE F) rs->mM w' b F rs):=fun w' b iv cv rv rs h1 h2 h3=>⟨⟨iv,cv,rv,by rw[<-hG];exact h1,h3⟩,h2⟩;clear hG
 go_enter Tryz.func27,Tryz.ntmps27
 go_wp2_with fail
 refine HR.out.mono ?_;rintro e w1 hri;obtain⟨iv,cv,rv,rs,rfl,hrs,hmc,hb⟩:=HRN.out _ _ hri;obtain⟨o1,o2,o3⟩:=hmc.one;have HB:=zA hb;have HMc:=zA hmc;have HRs:=zA hrs;have hs:=hb.size;clear hb HR hri hmc hrs HRN;have zM5:Hid ((w1.alloc (.cells Tryz.zeroCells129 129)).heap[w1.heap.size]? = some (.cells Tryz.zeroCells129 129 (0,0))):=zG _ _;have HM:Hid (((w1.alloc (.cells Tryz.zeroCells129 129)).setRow w1.heap.size (cR iv cv rv G 0)).heap[w1.heap.size]? = some (UQ iv cv rv G 0)):=cf _ _ _ _ _ _ zM5.out;have c67:((w1.alloc (.cells Tryz.zeroCells129 129)).setRow w1.heap.size (cR iv cv rv G 0)).cell? ⟨w1.heap.size,67,none⟩=some (.int .i64 0):=by have h8:=HM.out;unfold UQ at h8;exact(zB h8 67).trans (DA HGL.out 0)
 have HRg:Hid (((w1.alloc (.cells Tryz.zeroCells129 129)).setRow w1.heap.size (cR iv cv rv G 0)).rangeAt w1.heap.size 0 (bS iv cv rv G).toList):=fun j v hv=>by
  have h8:=HM.out;unfold UQ cR at h8;have hj:j<(bS iv cv rv G).size:=by have:=(List.getElem?_eq_some_iff.1 hv).1;simpa using this
  rw[cr];refine(zB h8 j).trans ?_;rw[dr hj];rw[<-hv,dy]
 have HB2:Hid (∀o,Below w.heap.size w (((w1.alloc (.cells Tryz.zeroCells129 129)).setRow w1.heap.size (cR iv cv rv G 0)).alloc o)):=fun o=>(xD (HB.out.alloc hs _) hs _).alloc (by have:=(xD (HB.out.alloc hs (.cells Tryz.zeroCells129 129)) hs (cR iv cv rv G 0)).size;exact this) o
 have HMc2:Hid (∀o,lW (((w1.alloc (.cells Tryz.zeroCells129 129)).setRow w1.heap.size (cR iv cv rv G 0)).alloc o) iv cv rv (zV F) (xE F) rs):=fun o=>by
  have h1:lW ((w1.alloc (.cells Tryz.zeroCells129 129)).setRow w1.heap.size (cR iv cv rv G 0)) iv cv rv (zV F) (xE F) rs:=HMc.out.keepT fun t g cs fz _ _ hg=>by
   have hgl:=zM hg;rw[setRow_other _ _ _ _ (by omega)];exact(l8 w1 _ g hgl)
  exact h1.below (fw (j1 _) o)
 go_wp2_with (first
  | (refine wpList_store_row ?zLS 129 (.tmp 6) (.tmp 9) ?ho w1.heap.size (cR iv cv rv G 0) ?hx ?hy 129 Tryz.zeroCells129 zM5.out (Z8 HGL.out _ _ _ _) ?zLU (Y9 o1 o2 o3 _ _) ?_
     case ho=>rfl
     case zLS=>rfl
     case hx=>rfl
     case hy=>rfl
     case zLU=>rw[Kg,mE,mE,xG,HGL.out])
  | (refine wpList_load_mid ?zLS 127 (.tmp 22) ?ho w1.heap.size 0 ?hx (bS iv cv rv G).toList _ HRg.out Tryz.underlying127 rfl ?hi ?_
     case ho=>rfl
     case zLS=>rfl
     case hx=>rfl
     case hi=>rw[Array.length_toList];exact sW HGL.out _ _ _)
  | (refine wpList_buildTo rfl 136 #[(0,.const (.bool true)),(1,.tmp 23)] rfl (some 24) rfl (yw iv cv rv G) (by rw[Array.toList_map];exact Uz iv cv rv G HGL.out) ?_))
 go_ret2
 exact⟨_,rfl,⟨rs,HBN.out _ _ iv cv rv rs (yT _ _ _ (by unfold World.setRow;simp)) HRs.out (HMc2.out _)⟩,HB2.out _⟩
theorem zEY:zCN:=fun w a c ls h hn=>zK6 w a c ls h hn
end Go.Proofs.YtnbpdffdnphbeabGreatDoor
