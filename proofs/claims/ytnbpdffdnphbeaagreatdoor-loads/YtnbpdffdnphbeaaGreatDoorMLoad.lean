import Derived.Test.YtnbpdffdnphbeaaGreatDoorPRound
import Derived.Deep.MidRow
import Derived.Test.YtnbpdffdnphbeaaGreatDoorMMake3
set_option maxHeartbeats 2000000
set_option maxRecDepth 100000
namespace Go.Proofs.YtnbpdffdnphbeaaGreatDoor
open Go.RowKit
variable{C:List (Bs × Nat)}{rs:List MX}{I:List yH}{w':World}(iv:Value)(l:Bs)(cv:Value)(P:List PT)(rv:Value)(w:World)(G:List Bool)(k:Int)
def mO(iv cv rv:Value)(G:List Bool)(k:Int):Array Value:=dM iv cv rv G ++ #[.int .i64 k]
def XB(iv cv rv:Value)(G:List Bool)(k:Int):Obj:=.cells (mO iv cv rv G k) 98 (0,0)
abbrev xD:Value:=.slice none 0 0
theorem kF:(mO iv cv rv G k).size=4+G.length:=by unfold mO;rw[Array.size_append,lS];simp;omega
theorem aF:Tryz.zeroCells98=mO xD xD xD gZ 0:=by kernel_rfl
theorem kq:Tryz.prog.built 98 [(1,.int .i64 k)]=some (mO xD xD xD gZ k):=by kernel_rfl
theorem kr(h:G.length=64):Tryz.prog.built 98 [(0,.agg (dM iv cv rv G))]=some (mO iv cv rv G 0):=by
 have key:∀b:Nat->Bool,Tryz.prog.built 98 [(0,.agg (dM iv cv rv ((List.range 64).map b)))]=some (mO iv cv rv ((List.range 64).map b) 0):=fun b=>by kernel_rfl
 rw[Ki G h];exact key _
theorem gH{G:List Bool}(h:G.length=64)(iv cv rv:Value)(k:Int):(Tryz.prog.info? 98).map (·.size)=some (mO iv cv rv G k).size:=by rw[kF,h];kernel_rfl
theorem oB{iv cv rv:Value}(h0:iv.oneCell'=true)(h1:cv.oneCell'=true)(h2:rv.oneCell'=true)(G:List Bool)(k:Int):(mO iv cv rv G k).all (·.oneCell')=true:=by
 rw[Array.all_eq_true_iff_forall_mem];intro v hv;unfold mO at hv;rcases Array.mem_append.1 hv with h|h
 ·exact Array.all_eq_true_iff_forall_mem.1 (Ks h0 h1 h2 G) v h
 ·simp at h;subst h;rfl
theorem YQ{iv cv rv:Value}{G:List Bool}(h:G.length=64)(k:Int):(mO iv cv rv G k)[67]? = some (.int .i64 k):=by
 unfold mO;rw[dy (by rw[lS,h];exact t9 _),lS,h];rfl
def sT(F:List zF)(w w':World)(e:Ending):Prop:=∃iv cv rv rs,e=.returned (.agg (mO iv cv rv (xB (kZ (xH F) F gZ)) 0))/\rs.map Prod.fst=kN ((yM F).map yH.name) ((uY F).map Prod.fst) F/\dC w' iv cv rv (yM F) (uY F) rs/\Below w.heap.size w w'
theorem dC.one{w:World}{iv cv rv:Value}(h:dC w iv cv rv I C rs):iv.oneCell'=true/\cv.oneCell'=true/\rv.oneCell'=true:=by
 obtain⟨a,c,rfl,-⟩:=h.inp;obtain⟨a,c,rfl,-⟩:=h.con;obtain⟨a,c,rfl,-⟩:=h.rul;exact⟨rfl,rfl,rfl⟩
theorem dC.keepT{w:World}{iv cv rv:Value}(h:dC w iv cv rv I C rs)(hk:∀(t:TypeId) (g:Nat) (cs:Array Value) (fz:Nat × Nat),t≠98->t≠158->w.heap[g]? = some (Obj.cells cs t fz)->w'.heap[g]? = w.heap[g]?):dC w' iv cv rv I C rs:=by
 obtain⟨a1,c1,e1,h1⟩:=h.inp;obtain⟨a2,c2,e2,h2⟩:=h.con;obtain⟨a3,c3,e3,h3⟩:=h.rul;refine⟨⟨a1,c1,e1,h1.keep fun g cs fz hg=>hk _ g cs fz (by decide) (by decide) hg⟩,⟨a2,c2,e2,h2.keep fun g cs fz hg=>hk _ g cs fz (by decide) (by decide) hg⟩,⟨a3,c3,e3,h3.keep fun g cs fz hg=>hk _ g cs fz (by decide) (by decide) hg⟩,fun x hx=>?_,h.few1,h.few2,h.few3⟩;have hm:=h.rows x hx;obtain⟨a',c',h4,h5⟩:=hm.sum;obtain⟨a'',c'',h6,h7⟩:=hm.guard;exact⟨⟨a',c',h4,h5.keep fun g cs fz hg=>hk _ g cs fz (by decide) (by decide) hg⟩,⟨a'',c'',h6,h7.keep fun g cs fz hg=>hk _ g cs fz (by decide) (by decide) hg⟩,hm.few1,hm.few2⟩
theorem dC.below{w:World}{iv cv rv:Value}(h:dC w iv cv rv I C rs)(hb:Below w.heap.size w w'):dC w' iv cv rv I C rs :=
 h.keepT fun _ g _ _ _ _ hg=>hb.block g (yI hg)
theorem oQ(hk:k=1\/k=2)(p:Int)(hR:∀o,Calls Tryz.prog 60 #[.string ⟨l.toArray⟩] (w.alloc o) fun e w'=>e=.returned (fA (.slice none 0 0) k p)/\Below (w.alloc o).heap.size (w.alloc o) w') :
 Calls Tryz.prog 37 #[.string ⟨l.toArray⟩] w fun e w'=>e=.returned (.agg (mO xD xD xD gZ k))/\Below w.heap.size w w':=by
 have HR:=zA hR;have e1:(k != 0)=true:=by rcases hk with rfl|rfl <;> rfl
 clear hR hk
 go_enter Tryz.func37,Tryz.ntmps37
 go_wp2_with fail
 refine(HR.out _).mono ?_;rintro e w1 ⟨rfl,hb⟩;have HZ:Hid (w1.heap[w.heap.size]? = some (XB xD xD xD gZ 0)):=by unfold Hid XB;rw[hb.block _ (yK _ _),<-aF];exact zM _ _
 have HB:Hid (Below w.heap.size w w1):=(gj (t9 _) _).trans (hb.mono (p8 (yK _ _)));have hs:=ti (yK w _) hb.size;clear hb HR;unfold fA;have HZ1:Hid (∀o,(w1.alloc o).heap[w.heap.size]? = some (XB xD xD xD gZ 0)):=fun o=>yJ HZ.out
 go_wp2_with (first
  | (refine wpList_buildTo rfl 98 #[(1,.tmp 11)] rfl (some 12) rfl (mO xD xD xD gZ k) (by rw[Array.toList_map];exact kq k) ?_)
  | (refine wpList_store_row ?zIO 98 (.tmp 2) (.tmp 12) ?ho w.heap.size (mO xD xD xD gZ k) ?hx ?hy 98 (mO xD xD xD gZ 0) (HZ1.out _) (gH xP _ _ _ _) ?zIN (oB rfl rfl rfl _ _) ?_
     case ho=>rfl
     case zIO=>rfl
     case hx=>rfl
     case hy=>rfl
     case zIN=>rw[kF,kF]))
 refine ph (v:=.agg (mO xD xD xD gZ k)) (results_cell_row Tryz.results37 _ _ w.heap.size 98 (mO xD xD xD gZ k) (0,0) _ rfl (lk _ _ _ _ _ _ (HZ1.out _)) Tryz.underlying98 rfl (gH xP _ _ _ _)) rfl ⟨rfl,xA (HB.out.alloc (p8 hs) _) (t9 _) _⟩
def zBE:Prop:=∀(w:World) (a:Option Addr) (c:Nat) (ls:List LX),pD w a ls->(∀x∈ls,x.1.nd.length<=10000)->Calls Tryz.prog 69 #[.slice a ls.length c] w fun e w'=>Yc (fs ls) w w' e
theorem zCI(F:List zF)(w w':World)(e:Ending)(I:List yH)(C:List (Bs × Nat))(G:List Bool)(iv cv rv:Value)(rs:List MX)(h1:I=yM F)(h2:C=uY F)(h3:G=xB (kZ (xH F) F gZ))(h4:rs.map Prod.fst=kN ((yM F).map yH.name) ((uY F).map Prod.fst) F)(h5:dC w' iv cv rv I C rs)(h6:Below w.heap.size w w')(h7:e=.returned (.agg (mO iv cv rv G 0))):sT F w w' e:=by
 unfold sT;rw[<-h3];rw[h1,h2]at h5;exact⟨iv,cv,rv,rs,h7,h4,h5,h6⟩
def MkN(F:List zF)(I:List yH)(C:List (Bs × Nat))(G:List Bool)(w w':World)(e:Ending):Prop:=∃iv cv rv rs,e=.returned (.agg (dM iv cv rv G))/\rs.map Prod.fst=kN ((yM F).map yH.name) ((uY F).map Prod.fst) F/\dC w' iv cv rv I C rs/\Below w.heap.size w w'
theorem JG(hl:l.length<=4000)(hf:(yZ l).2.2=false)(hg:∀x∈(yZ l).1,dG x)(hm:(yZ l).1.length<=10000)(hnd:∀x∈(yZ l).1,x.nd.length<=10000)(hMk:zBE) :
 Calls Tryz.prog 37 #[.string ⟨l.toArray⟩] w fun e w'=>((qL (yZ l).1).1≠0->e=.returned (.agg (mO xD xD xD gZ (qL (yZ l).1).1))/\Below w.heap.size w w')/\((qL (yZ l).1).1=0->sT (yZ l).1 w w' e):=by
 have HR:=zA (fun o=>oT l (w.alloc o) hl)
 have HRI:Hid (∀w0 w' e,Ya w0 w' l e->∃lv ls,e=.returned (fA lv 0 0)/\ls.map Prod.fst=(yZ l).1/\KS w' w0.heap.size lv ls):=by
  intro w0 w' e h;unfold Ya at h;rw[hf]at h;exact h
 generalize (yZ l).1=F at *;have HG:=zA hg;have HMn:=zA hm;have HNd:=zA hnd;have HMk:=zA hMk;clear hg hm hf hnd hMk;generalize hck:qL F=ck at *;have HCk:=zA hck;clear hck;obtain⟨ck1,ck2⟩:=ck;simp only;obtain⟨G,hG⟩:∃G,G=xB (kZ (xH F) F gZ):=⟨_,rfl⟩;obtain⟨I,hI⟩:∃I,I=yM F:=⟨_,rfl⟩;obtain⟨C,hC⟩:∃C,C=uY F:=⟨_,rfl⟩;have HGL:Hid (G.length=64):=by unfold Hid;rw[hG];unfold xB;rw[rJ,cH];exact xP
 have HMN:Hid (∀w' w'' e,Yc F w' w'' e->MkN F I C G w' w'' e):=fun w' w'' e h=>by unfold MkN;rw[hG,hI,hC];exact h
 have HRN:Hid (∀w' e iv cv rv rs,rs.map Prod.fst=kN ((yM F).map yH.name) ((uY F).map Prod.fst) F->dC w' iv cv rv I C rs->Below w.heap.size w w'->e=.returned (.agg (mO iv cv rv G 0))->sT F w w' e):=fun w' e iv cv rv rs h4 h5 h6 h7=>zCI F w w' e I C G iv cv rv rs hI hC hG h4 h5 h6 h7;clear hG hI hC
 go_enter Tryz.func37,Tryz.ntmps37
 go_wp2_with fail
 refine(HR.out _).mono ?_;rintro e w1 ⟨hri,hb⟩;obtain⟨lv,ls,rfl,hmap,hlin⟩:=HRI.out _ _ _ hri;have HZ:Hid (w1.heap[w.heap.size]? = some (XB xD xD xD gZ 0)):=by unfold Hid XB;rw[hb.block _ (yK _ _),<-aF];exact zM _ _
 have HB:Hid (Below w.heap.size w w1):=(gj (t9 _) _).trans (hb.mono (p8 (yK _ _)));have hs:=ti (yK w _) hb.size;have hLn:ls.length<=10000:=by have h9:=congrArg List.length hmap;rw[ms]at h9;rw[h9];exact HMn.out
 obtain⟨la,lc,rfl,hlc,hlv⟩:=zGE hlin (fun x hx=>HG.out _ (by rw[<-hmap];exact mn.2 ⟨x,hx,rfl⟩)) hLn
 have HCl:Hid (∀o,Calls Tryz.prog 62 #[.slice la ls.length lc] (w1.alloc o) fun e w'=>e=.returned (sK (ck1,ck2))/\Below (w1.alloc o).heap.size (w1.alloc o) w'):=fun o=>by
  have:=zEQ (w1.alloc o) la lc ls hlc (hlv.below (gj (t9 _) o) (t9 _));rw[show fs ls=F from hmap,HCk.out]at this;exact this
 have HMk1:Hid (∀w',Below w1.heap.size w1 w'->Calls Tryz.prog 69 #[.slice la ls.length lc] w' fun e w''=>MkN F I C G w' w'' e):=fun w' hb'=>by
  have:=HMk.out w' la lc ls (hlv.below hb' (t9 _)) (fun x hx=>HNd.out _ (by rw[<-hmap];exact mn.2 ⟨x,hx,rfl⟩));rw[show fs ls=F from hmap]at this;exact this.mono fun e w'' h=>HMN.out _ _ _ h
 clear hb hri hlin hlv hmap HR HRI HG HMn HCk HNd HMk;unfold fA;go_wp2_with fail
 refine(HCl.out _).mono ?_;rintro e w2 ⟨rfl,hb2⟩;have HZ2:Hid (∀o,(w2.alloc o).heap[w.heap.size]? = some (XB xD xD xD gZ 0)):=fun o=>yJ (by rw[hb2.block _ (by simp;omega)];exact yJ HZ.out)
 have HBr:Hid (∀o,Below w1.heap.size w1 ((w2.alloc o))):=fun o=>by
  have h1:=((tl w1.heap.size w1).alloc (t9 _) _).trans (hb2.mono (by simp));exact h1.alloc h1.size o
 have q2:w2.cell? ⟨w1.heap.size,0,none⟩=some (.slice la ls.length lc):=by
  rw[hb2.cell (p:=⟨w1.heap.size,0,none⟩) (yK _ _)];exact(zD (zM _ _) 0).trans rfl
 have zJ0:w1.heap.size<w2.heap.size:=ti (yK _ _) hb2.size;have HB2:Hid (Below w.heap.size w w2):=(HB.out.alloc (p8 hs) _).trans (hb2.mono (by simp;omega));have hs2:=HB2.out.size;clear HCl hb2;unfold sK;by_cases k0:ck1=0
 ·subst k0
  go_wp2_with fail
  refine(HMk1.out _ (HBr.out _)).mono ?_;rintro e w3 ⟨iv,cv,rv,rs,rfl,hrs,hmc,hb3⟩;have HZ3:Hid (w3.heap[w.heap.size]? = some (XB xD xD xD gZ 0)):=by unfold Hid;rw[hb3.block _ (by simp;omega)];exact HZ2.out _
  have HB3:Hid (Below w.heap.size w w3):=(HB2.out.alloc hs2 _).trans (hb3.mono (by simp;omega));have HMc:=zA hmc;have HRs:=zA hrs;obtain⟨o1,o2,o3⟩:=hmc.one;clear hb3 hmc hrs HMk1
  go_wp2_with (first
   | (refine wpList_buildTo rfl 98 #[(0,.tmp 24)] rfl (some 25) rfl (mO iv cv rv G 0) (by rw[Array.toList_map];exact kr iv cv rv _ HGL.out) ?_)
   | (refine wpList_store_row ?zIO 98 (.tmp 2) (.tmp 25) ?ho w.heap.size (mO iv cv rv G 0) ?hx ?hy 98 (mO xD xD xD gZ 0) HZ3.out (gH HGL.out _ _ _ _) ?zIN (oB o1 o2 o3 _ _) ?_
      case ho=>rfl
      case zIO=>rfl
      case hx=>rfl
      case hy=>rfl
      case zIN=>rw[kF,kF,xP,HGL.out]))
  have HFin:Hid (dC (w3.setRow w.heap.size (mO iv cv rv G 0)) iv cv rv I C rs):=HMc.out.keepT fun t g cs fz h1 _ hg=>setRow_other _ _ _ _ (fun e=>by
   subst e;have h8:=HZ3.out;unfold XB at h8;rw[hg]at h8;simp only[cx,Obj.cells.injEq]at h8;exact h1 h8.2.1)
  refine ph (v:=.agg (mO iv cv rv G 0)) (results_cell_row Tryz.results37 _ _ w.heap.size 98 (mO iv cv rv G 0) (0,0) _ rfl (lk _ _ _ _ _ _ HZ3.out) Tryz.underlying98 rfl (gH HGL.out _ _ _ _)) rfl ?_;exact HRN.out _ _ iv cv rv rs HRs.out HFin.out (xA HB3.out (t9 _) _) rfl
 ·have b0:(ck1 != 0)=true:=by simpa using k0
  have HK:=zA k0;clear k0
  go_wp2_with (first
   | (refine wpList_buildTo rfl 98 #[(1,.tmp 20)] rfl (some 21) rfl (mO xD xD xD gZ ck1) (by rw[Array.toList_map];exact kq ck1) ?_)
   | (refine wpList_store_row ?zIO 98 (.tmp 2) (.tmp 21) ?ho w.heap.size (mO xD xD xD gZ ck1) ?hx ?hy 98 (mO xD xD xD gZ 0) (HZ2.out _) (gH xP _ _ _ _) ?zIN (oB rfl rfl rfl _ _) ?_
      case ho=>rfl
      case zIO=>rfl
      case hx=>rfl
      case hy=>rfl
      case zIN=>rw[kF,kF]))
  refine ph (v:=.agg (mO xD xD xD gZ ck1)) (results_cell_row Tryz.results37 _ _ w.heap.size 98 (mO xD xD xD gZ ck1) (0,0) _ rfl (lk _ _ _ _ _ _ (HZ2.out _)) Tryz.underlying98 rfl (gH xP _ _ _ _)) rfl ?_;exact⟨fun _=>⟨rfl,xA (HB2.out.alloc hs2 _) (t9 _) _⟩,fun h=>absurd h HK.out⟩
def xa(iv cv rv:Value)(G:List Bool):Array Value := #[.bool true]++dM iv cv rv G
theorem zEB:(xa iv cv rv G)[0]? = some (.bool true)/\(xa iv cv rv G)[1]? = some iv/\(xa iv cv rv G)[2]? = some cv/\(xa iv cv rv G)[3]? = some rv/\∀k,k<G.length->(xa iv cv rv G)[4+k]? = some (.bool (G.getD k false)):=by
 unfold xa;obtain⟨h0,h1,h2⟩:=Kt iv cv rv G;refine⟨?_,?_,?_,?_,fun k hk=>?_⟩
 ·rw[dt (by simp)];rfl
 ·rw[dy (by simp)];exact h0
 ·rw[dy (by simp)];exact h1
 ·rw[dy (by simp)];exact h2
 ·rw[dy (by simp;try omega)]
  have:=XF iv cv rv G k hk;rw[<-this];congr 1
  simp;try omega
theorem U5(h:G.length=64):Tryz.prog.built 158 [(0,.bool true),(1,.agg (dM iv cv rv G))]=some (xa iv cv rv G):=by
 have key:∀b:Nat->Bool,Tryz.prog.built 158 [(0,.bool true),(1,.agg (dM iv cv rv ((List.range 64).map b)))]=some (xa iv cv rv ((List.range 64).map b)):=fun b=>by kernel_rfl
 rw[Ki G h];exact key _
structure Y5(w:World)(b:Nat)(F:List zF)(rs:List MX):Prop where
 there:∃iv cv rv,w.heap[b]? = some (.cells (xa iv cv rv (xB (kZ (xH F) F gZ))) 158 (0,0))/\dC w iv cv rv (yM F) (uY F) rs
 rul:rs.map Prod.fst=kN ((yM F).map yH.name) ((uY F).map Prod.fst) F
theorem Y5.below{w:World}{b:Nat}{F:List zF}(h:Y5 w b F rs)(hb:Below w.heap.size w w'):Y5 w' b F rs:=by
 obtain⟨iv,cv,rv,h1,h2⟩:=h.there;exact⟨⟨iv,cv,rv,by rw[hb.block _ (yI h1)];exact h1,h2.below hb⟩,h.rul⟩
theorem Y5.base{w:World}{b:Nat}{F:List zF}(h:Y5 w b F rs):Q4 w b (uY F):=by
 obtain⟨iv,cv,rv,h1,h2⟩:=h.there;obtain⟨a,c,e,hc⟩:=h2.con;obtain⟨g0,-,g2,-⟩:=zEB iv cv rv (xB (kZ (xH F) F gZ));refine⟨(zD h1 0).trans g0,a,c,?_,?_⟩
 ·rw[<-e];exact(zD h1 2).trans g2
 ·refine⟨fun h0=>?_,h2.few2⟩
  rcases hc with hc|⟨g,cs,fz,ha,hb,hcs⟩
  ·exfalso
   have:=(DF (uY F) 0 h0).1;rw[hc]at this;simp at this
  ·refine⟨g,ha,fun i hi=>?_⟩
   obtain⟨p1,p2⟩:=DF (uY F) i hi;have l1:=(List.getElem?_eq_some_iff.1 p1).1;have l2:=(List.getElem?_eq_some_iff.1 p2).1;exact⟨(zD hb _).trans ((hcs _ l1).trans p1),(zD hb _).trans ((hcs _ l2).trans p2)⟩
def Fi(l:Bs)(w w':World)(e:Ending):Prop:=∃pv,e=.returned (.tuple #[pv,.int .i64 (jV l).1])/\Below w.heap.size w w'/\((jV l).1≠0->pv=.pointer none)/\((jV l).1=0->∃b rs,pv=.pointer (some ⟨b,0,none⟩)/\Y5 w' b (yZ l).1 rs)
theorem Fi.is{l:Bs}{w:World}{e:Ending}(h:Fi l w w' e):Qz l w w' e:=by
 obtain⟨pv,h1,h2,h3,h4⟩:=h;exact⟨pv,h1,h2,h3,fun hk=>by obtain⟨b,rs,h5,h6⟩:=h4 hk;exact⟨b,h5,h6.base⟩⟩
theorem CV(hk:k≠0)(hR:Calls Tryz.prog 37 #[.string ⟨l.toArray⟩] w fun e w'=>e=.returned (.agg (mO xD xD xD gZ k))/\Below w.heap.size w w') :
 Calls Tryz.prog 26 #[.string ⟨l.toArray⟩,.bool false] w fun e w'=>e=.returned (.tuple #[.pointer none,.int .i64 k])/\Below w.heap.size w w':=by
 have HR:=zA hR;have b0:(k != 0)=true:=by simpa using hk
 clear hR hk
 go_enter Tryz.func26,Tryz.ntmps26
 go_wp2_with fail
 refine HR.out.mono ?_;rintro e w1 ⟨rfl,hb⟩;have HB:=zA hb;have hs:=hb.size;clear hb HR;have zJ4:Hid ((w1.alloc (.cells Tryz.zeroCells98 98)).heap[w1.heap.size]? = some (.cells Tryz.zeroCells98 98 (0,0))):=zM _ _;have hM:((w1.alloc (.cells Tryz.zeroCells98 98)).setRow w1.heap.size (mO xD xD xD gZ k)).heap[w1.heap.size]? = some (XB xD xD xD gZ k):=lk _ _ _ _ _ _ zJ4.out;have c67:((w1.alloc (.cells Tryz.zeroCells98 98)).setRow w1.heap.size (mO xD xD xD gZ k)).cell? ⟨w1.heap.size,67,none⟩=some (.int .i64 k):=by unfold XB at hM;exact(zD hM 67).trans (YQ xP k)
 clear hM
 go_wp2_with (refine wpList_store_row ?zIO 98 (.tmp 6) (.tmp 9) ?ho w1.heap.size (mO xD xD xD gZ k) ?hx ?hy 98 Tryz.zeroCells98 zJ4.out (gH xP _ _ _ _) ?zIN (oB rfl rfl rfl _ _) ?_
              case ho=>rfl
              case zIO=>rfl
              case hx=>rfl
              case hy=>rfl
              case zIN=>rw[aF,kF,kF])
 go_quiet (fail)
 go_wp2_with fail
 go_ret2
 exact⟨rfl,yC (xA (HB.out.alloc hs _) hs _) _⟩
theorem UJ(F:List zF)(hR:Calls Tryz.prog 37 #[.string ⟨l.toArray⟩] w fun e w'=>sT F w w' e) :
 Calls Tryz.prog 26 #[.string ⟨l.toArray⟩,.bool false] w fun e w'=>∃b,e=.returned (.tuple #[.pointer (some ⟨b,0,none⟩),.int .i64 0])/\(∃rs,Y5 w' b F rs)/\Below w.heap.size w w':=by
 have HR:=zA hR;clear hR;obtain⟨G,hG⟩:∃G,G=xB (kZ (xH F) F gZ):=⟨_,rfl⟩;have HGL:Hid (G.length=64):=by unfold Hid;rw[hG];unfold xB;rw[rJ,cH];exact xP
 have HRN:Hid (∀w' e,sT F w w' e->∃iv cv rv rs,e=.returned (.agg (mO iv cv rv G 0))/\rs.map Prod.fst=kN ((yM F).map yH.name) ((uY F).map Prod.fst) F/\dC w' iv cv rv (yM F) (uY F) rs/\Below w.heap.size w w'):=fun w' e h=>by rw[hG];exact h
 have HBN:Hid (∀w' b iv cv rv rs,w'.heap[b]? = some (.cells (xa iv cv rv G) 158 (0,0))->rs.map Prod.fst=kN ((yM F).map yH.name) ((uY F).map Prod.fst) F->dC w' iv cv rv (yM F) (uY F) rs->Y5 w' b F rs):=fun w' b iv cv rv rs h1 h2 h3=>⟨⟨iv,cv,rv,by rw[<-hG];exact h1,h3⟩,h2⟩;clear hG
 go_enter Tryz.func26,Tryz.ntmps26
 go_wp2_with fail
 refine HR.out.mono ?_;rintro e w1 hri;obtain⟨iv,cv,rv,rs,rfl,hrs,hmc,hb⟩:=HRN.out _ _ hri;obtain⟨o1,o2,o3⟩:=hmc.one;have HB:=zA hb;have HMc:=zA hmc;have HRs:=zA hrs;have hs:=hb.size;clear hb HR hri hmc hrs HRN;have zJ4:Hid ((w1.alloc (.cells Tryz.zeroCells98 98)).heap[w1.heap.size]? = some (.cells Tryz.zeroCells98 98 (0,0))):=zM _ _;have HM:Hid (((w1.alloc (.cells Tryz.zeroCells98 98)).setRow w1.heap.size (mO iv cv rv G 0)).heap[w1.heap.size]? = some (XB iv cv rv G 0)):=lk _ _ _ _ _ _ zJ4.out;have c67:((w1.alloc (.cells Tryz.zeroCells98 98)).setRow w1.heap.size (mO iv cv rv G 0)).cell? ⟨w1.heap.size,67,none⟩=some (.int .i64 0):=by have h8:=HM.out;unfold XB at h8;exact(zD h8 67).trans (YQ HGL.out 0)
 have HRg:Hid (((w1.alloc (.cells Tryz.zeroCells98 98)).setRow w1.heap.size (mO iv cv rv G 0)).rangeAt w1.heap.size 0 (dM iv cv rv G).toList):=fun j v hv=>by
  have h8:=HM.out;unfold XB mO at h8;have hj:j<(dM iv cv rv G).size:=by have:=(List.getElem?_eq_some_iff.1 hv).1;simpa using this
  rw[l8];refine(zD h8 j).trans ?_;rw[dt hj];rw[<-hv,ge]
 have HB2:Hid (∀o,Below w.heap.size w (((w1.alloc (.cells Tryz.zeroCells98 98)).setRow w1.heap.size (mO iv cv rv G 0)).alloc o)):=fun o=>(xA (HB.out.alloc hs _) hs _).alloc (by have:=(xA (HB.out.alloc hs (.cells Tryz.zeroCells98 98)) hs (mO iv cv rv G 0)).size;exact this) o
 have HMc2:Hid (∀o,dC (((w1.alloc (.cells Tryz.zeroCells98 98)).setRow w1.heap.size (mO iv cv rv G 0)).alloc o) iv cv rv (yM F) (uY F) rs):=fun o=>by
  have h1:dC ((w1.alloc (.cells Tryz.zeroCells98 98)).setRow w1.heap.size (mO iv cv rv G 0)) iv cv rv (yM F) (uY F) rs:=HMc.out.keepT fun t g cs fz _ _ hg=>by
   have hgl:=yI hg;rw[setRow_other _ _ _ _ (by omega)];exact(ml w1 _ g hgl)
  exact h1.below (gj (t9 _) o)
 go_wp2_with (first
  | (refine wpList_store_row ?zIO 98 (.tmp 6) (.tmp 9) ?ho w1.heap.size (mO iv cv rv G 0) ?hx ?hy 98 Tryz.zeroCells98 zJ4.out (gH HGL.out _ _ _ _) ?zIN (oB o1 o2 o3 _ _) ?_
     case ho=>rfl
     case zIO=>rfl
     case hx=>rfl
     case hy=>rfl
     case zIN=>rw[aF,kF,kF,xP,HGL.out])
  | (refine wpList_load_mid ?zIO 96 (.tmp 22) ?ho w1.heap.size 0 ?hx (dM iv cv rv G).toList _ HRg.out Tryz.underlying96 rfl ?hi ?_
     case ho=>rfl
     case zIO=>rfl
     case hx=>rfl
     case hi=>rw[Array.length_toList];exact aE HGL.out _ _ _)
  | (refine wpList_buildTo rfl 158 #[(0,.const (.bool true)),(1,.tmp 23)] rfl (some 24) rfl (xa iv cv rv G) (by rw[Array.toList_map];exact U5 iv cv rv G HGL.out) ?_))
 go_ret2
 exact⟨_,rfl,⟨rs,HBN.out _ _ iv cv rv rs (xY _ _ _ (by unfold World.setRow;simp)) HRs.out (HMc2.out _)⟩,HB2.out _⟩
theorem VF(item:GS->Int × GS)(tok:Bs)(kind:Int)(hit:∀q,(item q).2.nd.length+2*q.s.1<=q.nd.length+2*(item q).2.s.1+1)(k:Nat):∀l q,(mW P item tok kind k l q).2.nd.length+2*q.s.1<=q.nd.length+2*(mW P item tok kind k l q).2.s.1:=by
 induction k with
 | zero=>intro l q;exact t9 _
 | succ k ih =>
   intro l q;have h1:=xN P tok q.s;rw[mW];split
   ·show q.nd.length+2*q.s.1<=q.nd.length+2*(zC P tok q.s).2.1;omega
   ·rename_i hsk
    have h2:=qQ hsk;have h3:=ih ((item (q.to (zC P tok q.s).2)).2.nd.length:Nat) ((item (q.to (zC P tok q.s).2)).2.add ⟨kind,l,(item (q.to (zC P tok q.s).2)).1,[],[],[],0⟩);have h4:=hit (q.to (zC P tok q.s).2);have e1:(q.to (zC P tok q.s).2).s.1=(zC P tok q.s).2.1:=rfl;have e2:(q.to (zC P tok q.s).2).nd=q.nd:=rfl;have e3:((item (q.to (zC P tok q.s).2)).2.add ⟨kind,l,(item (q.to (zC P tok q.s).2)).1,[],[],[],0⟩).nd.length=(item (q.to (zC P tok q.s).2)).2.nd.length+1:=by simp[GS.add]
    have e4:((item (q.to (zC P tok q.s).2)).2.add ⟨kind,l,(item (q.to (zC P tok q.s).2)).1,[],[],[],0⟩).s=(item (q.to (zC P tok q.s).2)).2.s:=rfl;rw[e3,e4]at h3;rw[e1,e2]at h4;omega
theorem QS(fact:GS->Int->Int × GS)(hf:∀q d,(fact q d).2.nd.length+2*q.s.1<=q.nd.length+2*(fact q d).2.s.1+1)(q:GS)(d:Int):(mM P fact q d).2.nd.length+2*q.s.1<=q.nd.length+2*(mM P fact q d).2.s.1+1:=by
 have h1:=hf q d;have h2:=VF P (fun q=>fact q d) yE 2 (fun q=>hf q d) P.length (fact q d).1 (fact q d).2;unfold mM;omega
theorem Fc(fact:GS->Int->Int × GS)(hf:∀q d,(fact q d).2.nd.length+2*q.s.1<=q.nd.length+2*(fact q d).2.s.1+1)(q:GS)(d:Int):(aW P fact q d).2.nd.length+2*q.s.1<=q.nd.length+2*(aW P fact q d).2.s.1+1:=by
 have h1:=QS P fact hf q d;have h2:=VF P (fun q=>mM P fact q d) xX 1 (fun q=>QS P fact hf q d) P.length (mM P fact q d).1 (mM P fact q d).2;unfold aW;omega
theorem qf(n:Nat):∀q d,(xG P n q d).2.nd.length+2*q.s.1<=q.nd.length+2*(xG P n q d).2.s.1+1:=by
 induction n with
 | zero=>intro q d;exact bm _
 | succ n ih =>
   intro q d;have h1:=xN P yW q.s;rw[xG];split
   ·rename_i hsk
    have h2:=qQ hsk;have h3:=ih (q.to (zC P yW q.s).2) (d+1);have e1:(q.to (zC P yW q.s).2).s.1=(zC P yW q.s).2.1:=rfl;have e2:(q.to (zC P yW q.s).2).nd=q.nd:=rfl;rw[e1,e2]at h3;show ((xG P n (q.to (zC P yW q.s).2) (d+1)).2.nd++[_]).length+2*q.s.1<=q.nd.length+2*(xG P n (q.to (zC P yW q.s).2) (d+1)).2.s.1+1;rw[tq,pd];omega
   ·have h2:=xN P yP (zC P yW q.s).2
    split
    ·have h3:=Fc P (xG P n) ih (q.to (zC P yP (zC P yW q.s).2).2) (d+1)
     have e1:(q.to (zC P yP (zC P yW q.s).2).2).s.1=(zC P yP (zC P yW q.s).2).2.1:=rfl;have e2:(q.to (zC P yP (zC P yW q.s).2).2).nd=q.nd:=rfl;rw[e1,e2]at h3;have h4:=qP P xT (aW P (xG P n) (q.to (zC P yP (zC P yW q.s).2).2) (d+1)).2.s;show (aW P (xG P n) (q.to (zC P yP (zC P yW q.s).2).2) (d+1)).2.nd.length+2*q.s.1<=q.nd.length+2*(zU P xT (aW P (xG P n) (q.to (zC P yP (zC P yW q.s).2).2) (d+1)).2.s).1+1;omega
    ·have h3:=iB P (zC P yP (zC P yW q.s).2).2
     show (q.nd++[_]).length+2*q.s.1<=q.nd.length+2*(vA P (zC P yP (zC P yW q.s).2).2).2.1+1;rw[tq,pd];omega
theorem FY(s:St):(vW P s).2.nd.length<=2*(vW P s).2.s.1+1:=by
 have:=Fc P (xG P P.length) (qf P P.length) ⟨s,[],0,0⟩ 0;have e:(vW P s)=aW P (xG P P.length) ⟨s,[],0,0⟩ 0:=rfl;rw[e];simp only[List.length_nil]at this;omega
theorem qe(s:St):(uF P s).1.nd.length<=2*(uF P s).2.1+1:=by
 unfold uF;split
 ·exact tr _
 ·split
  ·exact tr _
  ·split
   ·generalize (zC P [114,117,108,101] (zC P [102,108,97,103] (zC P [110,117,109] s).2).2).2=s3
    have h1:=FY P (zU P xO (tO P (zU P [61] (zI P (zU P [58] (zI P s3).2)).2)).2);have h2:=qP P [59] (vW P (zU P xO (tO P (zU P [61] (zI P (zU P [58] (zI P s3).2)).2)).2)).2.s;exact tx h1 (by show _<=2*(zU P [59] (vW P (zU P xO (tO P (zU P [61] (zI P (zU P [58] (zI P s3).2)).2)).2)).2.s).1+1;omega)
   ·exact tr _
theorem jf{ts:zG}{len:Nat}(zJ1:fM ts)(zIH:ts.length<=4000)(n:Nat):∀(i:Nat) (acc:List zF),i<=ts.length->(∀x∈acc,x.nd.length<=10000)->(pY (pp ts len) n (i,false) acc).2.2=false->∀x∈(pY (pp ts len) n (i,false) acc).1,x.nd.length<=10000:=by
 induction n with
 | zero=>intro i acc _ ha _ x hx;exact ha x hx
 | succ n ih =>
   intro i acc hi ha;rw[pY];simp only;by_cases hk:(yV (pp ts len) i).k=0
   ·rw[tj hk];exact fun _ x hx=>ha x hx
   ·rw[tg hk]
    have hi':i<ts.length:=by
     rcases po i ts.length with h|h
     ·exact h
     ·exact absurd ((jv (len:=len) hi).2 (by omega)) hk
    have hL:=VK (len:=len) zJ1 zIH hi';have hN:=qe (pp ts len) (i,false);generalize uF (pp ts len) (i,false)=r at hL hN ⊢;obtain⟨x,⟨j,f⟩⟩:=r;rcases hL with ⟨h1,h2⟩|⟨h1,h2,h3,_⟩
    ·simp only at h1;subst h1
     rw[DG];intro h;exact absurd (show true=false from h) (by decide)
    ·simp only at h1 h2 h3 hN;subst h1
     refine ih j (acc++[x]) h3 (fun y hy=>?_);rcases pt.1 hy with h|h
     ·exact ha y h
     ·rw[pu.1 h];omega
theorem qy{l:Bs}(hl:l.length<=4000)(hf:(yZ l).2.2=false):∀x∈(yZ l).1,x.nd.length<=10000:=by
 have ht:(yR l 0).length<=4000:=tx (kW l 0) hl;exact jf (len:=l.length) (QP l) ht (2*(wD l).length+1) 0 [] (tr _) (by simp) hf
theorem DC:zBE:=fun w a c ls h hn=>zH6 w a c ls h hn
theorem yu(zJ3:l.length<=maxLen)(hg:l.length<=4000->(yZ l).2.2=false->∀x∈(yZ l).1,dG x)(hm:l.length<=4000->(yZ l).1.length<=10000) :
 Calls Tryz.prog 26 #[.string ⟨l.toArray⟩,.bool false] w fun e w'=>Fi l w w' e:=by
 have bad:∀k:Int,k≠0->(jV l).1=k->Calls Tryz.prog 37 #[.string ⟨l.toArray⟩] w (fun e w'=>e=.returned (.agg (mO xD xD xD gZ k))/\Below w.heap.size w w')->Calls Tryz.prog 26 #[.string ⟨l.toArray⟩,.bool false] w fun e w'=>Fi l w w' e:=fun k hk hc hR=>by
  refine(CV l w k hk hR).mono ?_;rintro e w' ⟨h1,h2⟩;exact⟨.pointer none,by rw[hc];exact h1,h2,fun _=>rfl,fun h=>absurd (hc.symm.trans h) hk⟩
 by_cases hl:4000<l.length
 ·have ec:jV l=(1,0):=by unfold jV;rw[tj hl]
  exact bad 1 (by decide) (by rw[ec]) (oQ l w 1 (.inl rfl) 0 (fun o=>eJ l (w.alloc o) zJ3 hl))
 ·cases hf:(yZ l).2.2
  ·have ec:jV l=qL (yZ l).1:=by unfold jV;rw[tg hl,hf]
   have hR:=JG l w (by omega) hf (hg (by omega) hf) (hm (by omega)) (qy (by omega) hf) DC;by_cases hk:(qL (yZ l).1).1=0
   ·refine(UJ l w (yZ l).1 (hR.mono fun e w' h=>h.2 hk)).mono ?_
    rintro e w' ⟨b,h1,⟨rs,h2⟩,h3⟩;have hc:(jV l).1=0:=by rw[ec];exact hk
    exact⟨_,by rw[hc];exact h1,h3,fun h=>absurd hc h,fun _=>⟨b,rs,rfl,h2⟩⟩
   ·exact bad _ hk (by rw[ec]) (hR.mono fun e w' h=>h.1 hk)
  ·have ec:jV l=(2,((yV (wD l) (yZ l).2.1).p:Int)):=by unfold jV;rw[tg hl,hf]
   refine bad 2 (by decide) (by rw[ec]) (oQ l w 2 (.inr rfl) ((yV (wD l) (yZ l).2.1).p:Int) (fun o=>(oT l (w.alloc o) (by omega)).mono ?_));rintro e w' ⟨h1,h2⟩;unfold Ya at h1;rw[hf]at h1;exact⟨h1,h2⟩
theorem CW(zJ3:l.length<=maxLen)(hg:l.length<=4000->(yZ l).2.2=false->∀x∈(yZ l).1,dG x)(hm:l.length<=4000->(yZ l).1.length<=10000) :
 Calls Tryz.prog 26 #[.string ⟨l.toArray⟩,.bool false] w fun e w'=>Qz l w w' e :=
 (yu l w zJ3 hg hm).mono fun _ _ h=>h.is
end Go.Proofs.YtnbpdffdnphbeaaGreatDoor
