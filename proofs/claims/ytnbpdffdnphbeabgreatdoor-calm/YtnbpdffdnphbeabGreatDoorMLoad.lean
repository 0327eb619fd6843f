import Derived.Deep.MidRow
import Derived.Test.YtnbpdffdnphbeabGreatDoorMMake3
set_option maxHeartbeats 800000
set_option maxRecDepth 100000
namespace Go.Proofs.YtnbpdffdnphbeabGreatDoor
open Go.RowKit
variable{C:List (Bs × Nat)}{rs:List MX}{I:List zP}{w w':World}(iv cv rv:Value)(G:List Bool)(k:Int)
def lH(iv cv rv:Value)(G:List Bool)(k:Int):Array Value:=bP iv cv rv G ++ #[.int .i64 k]
def J8(iv cv rv:Value)(G:List Bool)(k:Int):Obj:=.cells (lH iv cv rv G k) 129 (0,0)
abbrev jI:Value:=.slice none 0 0
theorem jO:(lH iv cv rv G k).size=4+G.length:=by unfold lH;rw[Array.size_append,mA];simp;omega
theorem Yf:Tryz.zeroCells129=lH jI jI jI gZ 0:=by kernel_rfl
theorem zHA:Tryz.prog.built 129 [(1,.int .i64 k)]=some (lH jI jI jI gZ k):=by kernel_rfl
theorem uh(h:G.length=64):Tryz.prog.built 129 [(0,.agg (bP iv cv rv G))]=some (lH iv cv rv G 0):=by
 have key:∀b:Nat->Bool,Tryz.prog.built 129 [(0,.agg (bP iv cv rv ((List.range 64).map b)))]=some (lH iv cv rv ((List.range 64).map b) 0):=fun b=>by kernel_rfl
 rw[J2 G h];exact key _
theorem aN{G:List Bool}(h:G.length=64)(iv cv rv:Value)(k:Int):(Tryz.prog.info? 129).map (·.size)=some (lH iv cv rv G k).size:=by rw[jO,h];kernel_rfl
theorem eW{iv cv rv:Value}(h0:iv.oneCell'=true)(h1:cv.oneCell'=true)(h2:rv.oneCell'=true)(G:List Bool)(k:Int):(lH iv cv rv G k).all (·.oneCell')=true:=by
 rw[Array.all_eq_true_iff_forall_mem];intro v hv;unfold lH at hv;rcases Array.mem_append.1 hv with h|h
 ·exact Array.all_eq_true_iff_forall_mem.1 (JA h0 h1 h2 G) v h
 ·simp at h;subst h;rfl
theorem J9{iv cv rv:Value}{G:List Bool}(h:G.length=64)(k:Int):(lH iv cv rv G k)[67]? = some (.int .i64 k):=by
 unfold lH;rw[dl (by rw[mA,h];exact j1 _),mA,h];rfl
def lE(F:List zE)(w w':World)(e:Ending):Prop:=∃iv cv rv rs,e=.returned (.agg (lH iv cv rv (zS (uT (xW F) F gZ)) 0))/\rs.map Prod.fst=uD ((zR F).map zP.name) ((yR F).map Prod.fst) F/\mL w' iv cv rv (zR F) (yR F) rs/\Below w.heap.size w w'
theorem mL.one{iv cv rv:Value}(h:mL w iv cv rv I C rs):iv.oneCell'=true/\cv.oneCell'=true/\rv.oneCell'=true:=by
 obtain⟨a,c,rfl,-⟩:=h.inp;obtain⟨a,c,rfl,-⟩:=h.con;obtain⟨a,c,rfl,-⟩:=h.rul;exact⟨rfl,rfl,rfl⟩
theorem mL.keepT{iv cv rv:Value}(h:mL w iv cv rv I C rs)(hk:∀(t:TypeId) (g:Nat) (cs:Array Value) (fz:Nat × Nat),t≠129->t≠136->w.heap[g]? = some (Obj.cells cs t fz)->w'.heap[g]? = w.heap[g]?):mL w' iv cv rv I C rs:=by
 obtain⟨a1,c1,e1,h1⟩:=h.inp;obtain⟨a2,c2,e2,h2⟩:=h.con;obtain⟨a3,c3,e3,h3⟩:=h.rul;refine⟨⟨a1,c1,e1,h1.keep fun g cs fz hg=>hk _ g cs fz (by decide) (by decide) hg⟩,⟨a2,c2,e2,h2.keep fun g cs fz hg=>hk _ g cs fz (by decide) (by decide) hg⟩,⟨a3,c3,e3,h3.keep fun g cs fz hg=>hk _ g cs fz (by decide) (by decide) hg⟩,fun x hx=>?_,h.few1,h.few2,h.few3⟩;have hm:=h.rows x hx;obtain⟨a',c',h4,h5⟩:=hm.sum;obtain⟨a'',c'',h6,h7⟩:=hm.guard;exact⟨⟨a',c',h4,h5.keep fun g cs fz hg=>hk _ g cs fz (by decide) (by decide) hg⟩,⟨a'',c'',h6,h7.keep fun g cs fz hg=>hk _ g cs fz (by decide) (by decide) hg⟩,hm.few1,hm.few2⟩
theorem mL.below{iv cv rv:Value}(h:mL w iv cv rv I C rs)(hb:Below w.heap.size w w'):mL w' iv cv rv I C rs :=
 h.keepT fun _ g _ _ _ _ hg=>hb.block g (zL hg)
def zAV:Prop:=∀(w:World) (a:Option Addr) (c:Nat) (ls:List LX),jU w a ls->(∀x∈ls,x.1.nd.length<=10000)->Calls Tryz.prog 64 #[.slice a ls.length c] w fun e w'=>Zv (fs ls) w w' e
theorem zCJ(F:List zE)(w w':World)(e:Ending)(I:List zP)(C:List (Bs × Nat))(G:List Bool)(iv cv rv:Value)(rs:List MX)(h1:I=zR F)(h2:C=yR F)(h3:G=zS (uT (xW F) F gZ))(h4:rs.map Prod.fst=uD ((zR F).map zP.name) ((yR F).map Prod.fst) F)(h5:mL w' iv cv rv I C rs)(h6:Below w.heap.size w w')(h7:e=.returned (.agg (lH iv cv rv G 0))):lE F w w' e:=by
 unfold lE;rw[<-h3];rw[h1,h2]at h5;exact⟨iv,cv,rv,rs,h7,h4,h5,h6⟩
def MkN(F:List zE)(I:List zP)(C:List (Bs × Nat))(G:List Bool)(w w':World)(e:Ending):Prop:=∃iv cv rv rs,e=.returned (.agg (bP iv cv rv G))/\rs.map Prod.fst=uD ((zR F).map zP.name) ((yR F).map Prod.fst) F/\mL w' iv cv rv I C rs/\Below w.heap.size w w'
theorem GD(l:Bs)(w:World)(hl:l.length<=4000)(hf:(kL l).2.2=false)(hg:∀x∈(kL l).1,fX x)(hm:(kL l).1.length<=10000)(hnd:∀x∈(kL l).1,x.nd.length<=10000)(hMk:zAV) :
 Calls Tryz.prog 50 #[.string ⟨l.toArray⟩] w fun e w'=>((kG (kL l).1).1≠0->e=.returned (.agg (lH jI jI jI gZ (kG (kL l).1).1))/\Below w.heap.size w w')/\((kG (kL l).1).1=0->lE (kL l).1 w w' e):=by
 have HR:=zA (fun o=>Kq l (w.alloc o) hl)
 have HRI:Hid (∀w0 w' e,Kg w0 w' l e->∃lv ls,e=.returned (sO lv 0 0)/\ls.map Prod.fst=(kL l).1/\Ko w' w0.heap.size lv ls):=by
  intro w0 w' e h;unfold Kg at h;rw[hf]at h;exact h
 generalize (kL l).1=F at *;have HG:=zA hg;have HMn:=zA hm;have HNd:=zA hnd;have HMk:=zA hMk;clear hg hm hf hnd hMk;generalize hck:kG F=ck at *;have HCk:=zA hck;clear hck;obtain⟨ck1,ck2⟩:=ck;simp only;obtain⟨G,hG⟩:∃G,G=zS (uT (xW F) F gZ):=⟨_,rfl⟩;obtain⟨I,hI⟩:∃I,I=zR F:=⟨_,rfl⟩;obtain⟨C,hC⟩:∃C,C=yR F:=⟨_,rfl⟩;have zKS:Hid (G.length=64):=by unfold Hid;rw[hG];unfold zS;rw[dR,pT];exact yY
 have HMN:Hid (∀w' w'' e,Zv F w' w'' e->MkN F I C G w' w'' e):=fun w' w'' e h=>by unfold MkN;rw[hG,hI,hC];exact h
 have HRN:Hid (∀w' e iv cv rv rs,rs.map Prod.fst=uD ((zR F).map zP.name) ((yR F).map Prod.fst) F->mL w' iv cv rv I C rs->Below w.heap.size w w'->e=.returned (.agg (lH iv cv rv G 0))->lE F w w' e):=fun w' e iv cv rv rs h4 h5 h6 h7=>zCJ F w w' e I C G iv cv rv rs hI hC hG h4 h5 h6 h7;clear hG hI hC
 go_enter Tryz.func50,Tryz.ntmps50
 go_wp2_with fail
 refine(HR.out _).mono ?_;rintro e w1 ⟨hri,hb⟩;obtain⟨lv,ls,rfl,hmap,hlin⟩:=HRI.out _ _ _ hri;have HZ:Hid (w1.heap[w.heap.size]? = some (J8 jI jI jI gZ 0)):=by unfold Hid J8;rw[hb.block _ (zY _ _),<-Yf];exact zG _ _
 have HB:Hid (Below w.heap.size w w1):=(fj (j1 _) _).trans (hb.mono (ph (zY _ _)));have hs:=tj (zY w _) hb.size;have hLn:ls.length<=10000:=by have h9:=congrArg List.length hmap;rw[pi]at h9;rw[h9];exact HMn.out
 obtain⟨la,lc,rfl,hlc,hlv⟩:=zHF hlin (fun x hx=>HG.out _ (by rw[<-hmap];exact p8.2 ⟨x,hx,rfl⟩)) hLn
 have HCl:Hid (∀o,Calls Tryz.prog 56 #[.slice la ls.length lc] (w1.alloc o) fun e w'=>e=.returned (rB (ck1,ck2))/\Below (w1.alloc o).heap.size (w1.alloc o) w'):=fun o=>by
  have:=zF1 (w1.alloc o) la lc ls hlc (hlv.below (fj (j1 _) o) (j1 _));rw[show fs ls=F from hmap,HCk.out]at this;exact this
 have HMk1:Hid (∀w',Below w1.heap.size w1 w'->Calls Tryz.prog 64 #[.slice la ls.length lc] w' fun e w''=>MkN F I C G w' w'' e):=fun w' hb'=>by
  have:=HMk.out w' la lc ls (hlv.below hb' (j1 _)) (fun x hx=>HNd.out _ (by rw[<-hmap];exact p8.2 ⟨x,hx,rfl⟩));rw[show fs ls=F from hmap]at this;exact this.mono fun e w'' h=>HMN.out _ _ _ h
 clear hb hri hlin hlv hmap HR HRI HG HMn HCk HNd HMk;unfold sO;go_wp2_with fail
 refine(HCl.out _).mono ?_;rintro e w2 ⟨rfl,hb2⟩;have HZ2:Hid (∀o,(w2.alloc o).heap[w.heap.size]? = some (J8 jI jI jI gZ 0)):=fun o=>zU (by rw[hb2.block _ (by simp;omega)];exact zU HZ.out)
 have zKM:Hid (∀o,Below w1.heap.size w1 ((w2.alloc o))):=fun o=>by
  have h1:=((tg w1.heap.size w1).alloc (j1 _) _).trans (hb2.mono (by simp));exact h1.alloc h1.size o
 have q2:w2.cell? ⟨w1.heap.size,0,none⟩=some (.slice la ls.length lc):=by
  rw[hb2.cell (p:=⟨w1.heap.size,0,none⟩) (zY _ _)];exact(zB (zG _ _) 0).trans rfl
 have zKJ:w1.heap.size<w2.heap.size:=tj (zY _ _) hb2.size;have HB2:Hid (Below w.heap.size w w2):=(HB.out.alloc (ph hs) _).trans (hb2.mono (by simp;omega));have hs2:=HB2.out.size;clear HCl hb2;unfold rB;by_cases k0:ck1=0
 ·subst k0
  go_wp2_with fail
  refine(HMk1.out _ (zKM.out _)).mono ?_;rintro e w3 ⟨iv,cv,rv,rs,rfl,hrs,hmc,hb3⟩;have HZ3:Hid (w3.heap[w.heap.size]? = some (J8 jI jI jI gZ 0)):=by unfold Hid;rw[hb3.block _ (by simp;omega)];exact HZ2.out _
  have HB3:Hid (Below w.heap.size w w3):=(HB2.out.alloc hs2 _).trans (hb3.mono (by simp;omega));have HMc:=zA hmc;have HRs:=zA hrs;obtain⟨o1,o2,o3⟩:=hmc.one;clear hb3 hmc hrs HMk1
  go_wp2_with (first
   | (refine wpList_buildTo rfl 129 #[(0,.tmp 24)] rfl (some 25) rfl (lH iv cv rv G 0) (by rw[Array.toList_map];exact uh iv cv rv _ zKS.out) ?_)
   | (refine wpList_store_row ?zK9 129 (.tmp 2) (.tmp 25) ?ho w.heap.size (lH iv cv rv G 0) ?hx ?hy 129 (lH jI jI jI gZ 0) HZ3.out (aN zKS.out _ _ _ _) ?zKC (eW o1 o2 o3 _ _) ?_
      case ho=>rfl
      case zK9=>rfl
      case hx=>rfl
      case hy=>rfl
      case zKC=>rw[jO,jO,yY,zKS.out]))
  have HFin:Hid (mL (w3.setRow w.heap.size (lH iv cv rv G 0)) iv cv rv I C rs):=HMc.out.keepT fun t g cs fz h1 _ hg=>setRow_other _ _ _ _ (fun e=>by
   subst e;have h8:=HZ3.out;unfold J8 at h8;rw[hg]at h8;simp only[ly,Obj.cells.injEq]at h8;exact h1 h8.2.1)
  refine pb (v:=.agg (lH iv cv rv G 0)) (results_cell_row Tryz.results50 _ _ w.heap.size 129 (lH iv cv rv G 0) (0,0) _ rfl (bi _ _ _ _ _ _ HZ3.out) Tryz.underlying129 rfl (aN zKS.out _ _ _ _)) rfl ?_;exact HRN.out _ _ iv cv rv rs HRs.out HFin.out (yT HB3.out (j1 _) _) rfl
 ·have b0:(ck1 != 0)=true:=by simpa using k0
  have HK:=zA k0;clear k0
  go_wp2_with (first
   | (refine wpList_buildTo rfl 129 #[(1,.tmp 20)] rfl (some 21) rfl (lH jI jI jI gZ ck1) (by rw[Array.toList_map];exact zHA ck1) ?_)
   | (refine wpList_store_row ?zK9 129 (.tmp 2) (.tmp 21) ?ho w.heap.size (lH jI jI jI gZ ck1) ?hx ?hy 129 (lH jI jI jI gZ 0) (HZ2.out _) (aN yY _ _ _ _) ?zKC (eW rfl rfl rfl _ _) ?_
      case ho=>rfl
      case zK9=>rfl
      case hx=>rfl
      case hy=>rfl
      case zKC=>rw[jO,jO]))
  refine pb (v:=.agg (lH jI jI jI gZ ck1)) (results_cell_row Tryz.results50 _ _ w.heap.size 129 (lH jI jI jI gZ ck1) (0,0) _ rfl (bi _ _ _ _ _ _ (HZ2.out _)) Tryz.underlying129 rfl (aN yY _ _ _ _)) rfl ?_;exact⟨fun _=>⟨rfl,yT (HB2.out.alloc hs2 _) (j1 _) _⟩,fun h=>absurd h HK.out⟩
def Gz(iv cv rv:Value)(G:List Bool):Array Value := #[.bool true]++bP iv cv rv G
theorem JX:(Gz iv cv rv G)[0]? = some (.bool true)/\(Gz iv cv rv G)[1]? = some iv/\(Gz iv cv rv G)[2]? = some cv/\(Gz iv cv rv G)[3]? = some rv/\∀k,k<G.length->(Gz iv cv rv G)[4+k]? = some (.bool (G.getD k false)):=by
 unfold Gz;obtain⟨h0,h1,h2⟩:=JB iv cv rv G;refine⟨?_,?_,?_,?_,fun k hk=>?_⟩
 ·rw[dj (by simp)];rfl
 ·rw[dl (by simp)];exact h0
 ·rw[dl (by simp)];exact h1
 ·rw[dl (by simp)];exact h2
 ·rw[dl (by simp;try omega)]
  have:=YZ iv cv rv G k hk;rw[<-this];congr 1
  simp;try omega
theorem VV(h:G.length=64):Tryz.prog.built 136 [(0,.bool true),(1,.agg (bP iv cv rv G))]=some (Gz iv cv rv G):=by
 have key:∀b:Nat->Bool,Tryz.prog.built 136 [(0,.bool true),(1,.agg (bP iv cv rv ((List.range 64).map b)))]=some (Gz iv cv rv ((List.range 64).map b)):=fun b=>by kernel_rfl
 rw[J2 G h];exact key _
structure mH(w:World)(b:Nat)(F:List zE)(rs:List MX):Prop where
 there:∃iv cv rv,w.heap[b]? = some (.cells (Gz iv cv rv (zS (uT (xW F) F gZ))) 136 (0,0))/\mL w iv cv rv (zR F) (yR F) rs
 rul:rs.map Prod.fst=uD ((zR F).map zP.name) ((yR F).map Prod.fst) F
theorem mH.below{b:Nat}{F:List zE}(h:mH w b F rs)(hb:Below w.heap.size w w'):mH w' b F rs:=by
 obtain⟨iv,cv,rv,h1,h2⟩:=h.there;exact⟨⟨iv,cv,rv,by rw[hb.block _ (zL h1)];exact h1,h2.below hb⟩,h.rul⟩
theorem Uk(l:Bs)(w:World)(F:List zE)(hR:Calls Tryz.prog 50 #[.string ⟨l.toArray⟩] w fun e w'=>lE F w w' e) :
 Calls Tryz.prog 27 #[.string ⟨l.toArray⟩,.bool false] w fun e w'=>∃b,e=.returned (.tuple #[.pointer (some ⟨b,0,none⟩),.int .i64 0])/\(∃rs,mH w' b F rs)/\Below w.heap.size w w':=by
 have HR:=zA hR;clear hR;obtain⟨G,hG⟩:∃G,G=zS (uT (xW F) F gZ):=⟨_,rfl⟩;have zKS:Hid (G.length=64):=by unfold Hid;rw[hG];unfold zS;rw[dR,pT];exact yY
 have HRN:Hid (∀w' e,lE F w w' e->∃iv cv rv rs,e=.returned (.agg (lH iv cv rv G 0))/\rs.map Prod.fst=uD ((zR F).map zP.name) ((yR F).map Prod.fst) F/\mL w' iv cv rv (zR F) (yR F) rs/\Below w.heap.size w w'):=fun w' e h=>by rw[hG];exact h
 have HBN:Hid (∀w' b iv cv rv rs,w'.heap[b]? = some (.cells (Gz iv cv rv G) 136 (0,0))->rs.map Prod.fst=uD ((zR F).map zP.name) ((yR F).map Prod.fst) F->mL w' iv cv rv (zR F) (yR F) rs->mH w' b F rs):=fun w' b iv cv rv rs h1 h2 h3=>⟨⟨iv,cv,rv,by rw[<-hG];exact h1,h3⟩,h2⟩;clear hG
 go_enter Tryz.func27,Tryz.ntmps27
 go_wp2_with fail
 refine HR.out.mono ?_;rintro e w1 hri;obtain⟨iv,cv,rv,rs,rfl,hrs,hmc,hb⟩:=HRN.out _ _ hri;obtain⟨o1,o2,o3⟩:=hmc.one;have HB:=zA hb;have HMc:=zA hmc;have HRs:=zA hrs;have hs:=hb.size;clear hb HR hri hmc hrs HRN;have zKN:Hid ((w1.alloc (.cells Tryz.zeroCells129 129)).heap[w1.heap.size]? = some (.cells Tryz.zeroCells129 129 (0,0))):=zG _ _;have HM:Hid (((w1.alloc (.cells Tryz.zeroCells129 129)).setRow w1.heap.size (lH iv cv rv G 0)).heap[w1.heap.size]? = some (J8 iv cv rv G 0)):=bi _ _ _ _ _ _ zKN.out;have c67:((w1.alloc (.cells Tryz.zeroCells129 129)).setRow w1.heap.size (lH iv cv rv G 0)).cell? ⟨w1.heap.size,67,none⟩=some (.int .i64 0):=by have h8:=HM.out;unfold J8 at h8;exact(zB h8 67).trans (J9 zKS.out 0)
 have HRg:Hid (((w1.alloc (.cells Tryz.zeroCells129 129)).setRow w1.heap.size (lH iv cv rv G 0)).rangeAt w1.heap.size 0 (bP iv cv rv G).toList):=fun j v hv=>by
  have h8:=HM.out;unfold J8 lH at h8;have hj:j<(bP iv cv rv G).size:=by have:=(List.getElem?_eq_some_iff.1 hv).1;simpa using this
  rw[cq];refine(zB h8 j).trans ?_;rw[dj hj];rw[<-hv,dt]
 have HB2:Hid (∀o,Below w.heap.size w (((w1.alloc (.cells Tryz.zeroCells129 129)).setRow w1.heap.size (lH iv cv rv G 0)).alloc o)):=fun o=>(yT (HB.out.alloc hs _) hs _).alloc (by have:=(yT (HB.out.alloc hs (.cells Tryz.zeroCells129 129)) hs (lH iv cv rv G 0)).size;exact this) o
 have HMc2:Hid (∀o,mL (((w1.alloc (.cells Tryz.zeroCells129 129)).setRow w1.heap.size (lH iv cv rv G 0)).alloc o) iv cv rv (zR F) (yR F) rs):=fun o=>by
  have h1:mL ((w1.alloc (.cells Tryz.zeroCells129 129)).setRow w1.heap.size (lH iv cv rv G 0)) iv cv rv (zR F) (yR F) rs:=HMc.out.keepT fun t g cs fz _ _ hg=>by
   have hgl:=zL hg;rw[setRow_other _ _ _ _ (by omega)];exact(l8 w1 _ g hgl)
  exact h1.below (fj (j1 _) o)
 go_wp2_with (first
  | (refine wpList_store_row ?zK9 129 (.tmp 6) (.tmp 9) ?ho w1.heap.size (lH iv cv rv G 0) ?hx ?hy 129 Tryz.zeroCells129 zKN.out (aN zKS.out _ _ _ _) ?zKC (eW o1 o2 o3 _ _) ?_
     case ho=>rfl
     case zK9=>rfl
     case hx=>rfl
     case hy=>rfl
     case zKC=>rw[Yf,jO,jO,yY,zKS.out])
  | (refine wpList_load_mid ?zK9 127 (.tmp 22) ?ho w1.heap.size 0 ?hx (bP iv cv rv G).toList _ HRg.out Tryz.underlying127 rfl ?hi ?_
     case ho=>rfl
     case zK9=>rfl
     case hx=>rfl
     case hi=>rw[Array.length_toList];exact rZ zKS.out _ _ _)
  | (refine wpList_buildTo rfl 136 #[(0,.const (.bool true)),(1,.tmp 23)] rfl (some 24) rfl (Gz iv cv rv G) (by rw[Array.toList_map];exact VV iv cv rv G zKS.out) ?_))
 go_ret2
 exact⟨_,rfl,⟨rs,HBN.out _ _ iv cv rv rs (yW _ _ _ (by unfold World.setRow;simp)) HRs.out (HMc2.out _)⟩,HB2.out _⟩
theorem zDA:zAV:=fun w a c ls h hn=>zIQ w a c ls h hn
end Go.Proofs.YtnbpdffdnphbeabGreatDoor
