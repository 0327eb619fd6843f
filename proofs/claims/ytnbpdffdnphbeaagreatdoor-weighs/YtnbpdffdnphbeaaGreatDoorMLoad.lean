import Derived.Test.YtnbpdffdnphbeaaGreatDoorPRound
import Derived.Deep.MidRow
import Derived.Test.YtnbpdffdnphbeaaGreatDoorMMake3
set_option maxHeartbeats 2000000
set_option maxRecDepth 100000
namespace Go.Proofs.YtnbpdffdnphbeaaGreatDoor
open Go.RowKit
def dQ(iv cv rv:Value)(G:List Bool)(k:Int):Array Value:=fT iv cv rv G ++ #[.int .i64 k]
def Fd(iv cv rv:Value)(G:List Bool)(k:Int):Obj:=.cells (dQ iv cv rv G k) 98 (0,0)
abbrev vG:Value:=.slice none 0 0
theorem tU(iv cv rv:Value)(G:List Bool)(k:Int):(dQ iv cv rv G k).size=4+G.length:=by unfold dQ;rw[Array.size_append,cG];simp;omega
theorem Y8:Tryz.zeroCells98=dQ vG vG vG gZ 0:=by kernel_rfl
theorem x7(k:Int):Tryz.prog.built 98 [(1,.int .i64 k)]=some (dQ vG vG vG gZ k):=by kernel_rfl
theorem x8(iv cv rv:Value)(G:List Bool)(h:G.length=64):Tryz.prog.built 98 [(0,.agg (fT iv cv rv G))]=some (dQ iv cv rv G 0):=by
 have key:∀b:Nat->Bool,Tryz.prog.built 98 [(0,.agg (fT iv cv rv ((List.range 64).map b)))]=some (dQ iv cv rv ((List.range 64).map b) 0):=fun b=>by kernel_rfl
 rw[J3 G h];exact key _
theorem sK{G:List Bool}(h:G.length=64)(iv cv rv:Value)(k:Int):(Tryz.prog.info? 98).map (·.size)=some (dQ iv cv rv G k).size:=by rw[tU,h];kernel_rfl
theorem wW{iv cv rv:Value}(h0:iv.oneCell'=true)(h1:cv.oneCell'=true)(h2:rv.oneCell'=true)(G:List Bool)(k:Int):(dQ iv cv rv G k).all (·.oneCell')=true:=by
 rw[Array.all_eq_true_iff_forall_mem];intro v hv;unfold dQ at hv;rcases Array.mem_append.1 hv with h|h
 ·exact Array.all_eq_true_iff_forall_mem.1 (JF h0 h1 h2 G) v h
 ·simp at h;subst h;rfl
theorem CH{iv cv rv:Value}{G:List Bool}(h:G.length=64)(k:Int):(dQ iv cv rv G k)[67]? = some (.int .i64 k):=by
 unfold dQ;rw[Array.getElem?_append_right (by rw[cG,h];exact Nat.le_refl _),cG,h];rfl
def ZI(F:List zH)(w w':World)(e:Ending):Prop:=∃iv cv rv rs,e=.returned (.agg (dQ iv cv rv (yY (qG (yZ F) F gZ)) 0))/\rs.map Prod.fst=pQ ((yJ F).map yT.name) ((vW F).map Prod.fst) F/\fX w' iv cv rv (yJ F) (vW F) rs/\Below w.heap.size w w'
theorem fX.one{w:World}{iv cv rv:Value}{I:List yT}{C:List (Bs × Nat)}{rs:List MX}(h:fX w iv cv rv I C rs):iv.oneCell'=true/\cv.oneCell'=true/\rv.oneCell'=true:=by
 obtain⟨a,c,rfl,-⟩:=h.inp;obtain⟨a,c,rfl,-⟩:=h.con;obtain⟨a,c,rfl,-⟩:=h.rul;exact⟨rfl,rfl,rfl⟩
theorem fX.keepT{w w':World}{iv cv rv:Value}{I:List yT}{C:List (Bs × Nat)}{rs:List MX}(h:fX w iv cv rv I C rs)(hk:∀(t:TypeId) (g:Nat) (cs:Array Value) (fz:Nat × Nat),t≠98->t≠158->w.heap[g]? = some (Obj.cells cs t fz)->w'.heap[g]? = w.heap[g]?):fX w' iv cv rv I C rs:=by
 obtain⟨a1,c1,e1,h1⟩:=h.inp;obtain⟨a2,c2,e2,h2⟩:=h.con;obtain⟨a3,c3,e3,h3⟩:=h.rul;refine⟨⟨a1,c1,e1,h1.keep fun g cs fz hg=>hk _ g cs fz (by decide) (by decide) hg⟩,⟨a2,c2,e2,h2.keep fun g cs fz hg=>hk _ g cs fz (by decide) (by decide) hg⟩,⟨a3,c3,e3,h3.keep fun g cs fz hg=>hk _ g cs fz (by decide) (by decide) hg⟩,fun x hx=>?_,h.few1,h.few2,h.few3⟩;have hm:=h.rows x hx;obtain⟨a',c',h4,h5⟩:=hm.sum;obtain⟨a'',c'',h6,h7⟩:=hm.guard;exact⟨⟨a',c',h4,h5.keep fun g cs fz hg=>hk _ g cs fz (by decide) (by decide) hg⟩,⟨a'',c'',h6,h7.keep fun g cs fz hg=>hk _ g cs fz (by decide) (by decide) hg⟩,hm.few1,hm.few2⟩
theorem fX.below{w w':World}{iv cv rv:Value}{I:List yT}{C:List (Bs × Nat)}{rs:List MX}(h:fX w iv cv rv I C rs)(hb:Below w.heap.size w w'):fX w' iv cv rv I C rs :=
 h.keepT fun _ g _ _ _ _ hg=>hb.block g (yD hg)
theorem XY(l:Bs)(w:World)(k:Int)(hk:k=1\/k=2)(p:Int)(hR:∀o,Calls Tryz.prog 60 #[.string ⟨l.toArray⟩] (w.alloc o) fun e w'=>e=.returned (fA (.slice none 0 0) k p)/\Below (w.alloc o).heap.size (w.alloc o) w') :
 Calls Tryz.prog 37 #[.string ⟨l.toArray⟩] w fun e w'=>e=.returned (.agg (dQ vG vG vG gZ k))/\Below w.heap.size w w':=by
 have HR:=zA hR;have e1:(k != 0)=true:=by rcases hk with rfl|rfl <;> rfl
 clear hR hk
 go_enter Tryz.func37,Tryz.ntmps37
 go_wp2_with fail
 refine(HR.out _).mono ?_;rintro e w1 ⟨rfl,hb⟩;have HZ:Hid (w1.heap[w.heap.size]? = some (Fd vG vG vG gZ 0)):=by unfold Hid Fd;rw[hb.block _ (zD _ _),<-Y8];exact zS _ _
 have HB:Hid (Below w.heap.size w w1):=((Below.refl _ _).alloc (Nat.le_refl _) _).trans (hb.mono (Nat.le_of_lt (zD _ _)));have hs:=Nat.lt_of_lt_of_le (zD w _) hb.size;clear hb HR;unfold fA;have HZ1:Hid (∀o,(w1.alloc o).heap[w.heap.size]? = some (Fd vG vG vG gZ 0)):=fun o=>zQ HZ.out
 go_wp2_with (first
  | (refine wpList_buildTo rfl 98 #[(1,.tmp 11)] rfl (some 12) rfl (dQ vG vG vG gZ k) (by rw[Array.toList_map];exact x7 k) ?_)
  | (refine wpList_store_row ?zGC 98 (.tmp 2) (.tmp 12) ?ho w.heap.size (dQ vG vG vG gZ k) ?hx ?hy 98 (dQ vG vG vG gZ 0) (HZ1.out _) (sK xP _ _ _ _) ?zGF (wW rfl rfl rfl _ _) ?_
     case ho=>rfl
     case zGC=>rfl
     case hx=>rfl
     case hy=>rfl
     case zGF=>rw[tU,tU]))
 refine bodyPost_ret (v:=.agg (dQ vG vG vG gZ k)) (results_cell_row Tryz.results37 _ _ w.heap.size 98 (dQ vG vG vG gZ k) (0,0) _ rfl (setRow_heap _ _ _ _ _ _ (HZ1.out _)) Tryz.underlying98 rfl (sK xP _ _ _ _)) rfl ⟨rfl,xX (HB.out.alloc (Nat.le_of_lt hs) _) (Nat.le_refl _) _⟩
def kr:Prop:=∀(w:World) (a:Option Addr) (c:Nat) (ls:List LX),pB w a ls->(∀x∈ls,x.1.nd.length<=10000)->Calls Tryz.prog 69 #[.slice a ls.length c] w fun e w'=>ZK (fs ls) w w' e
theorem zA9(F:List zH)(w w':World)(e:Ending)(I:List yT)(C:List (Bs × Nat))(G:List Bool)(iv cv rv:Value)(rs:List MX)(h1:I=yJ F)(h2:C=vW F)(h3:G=yY (qG (yZ F) F gZ))(h4:rs.map Prod.fst=pQ ((yJ F).map yT.name) ((vW F).map Prod.fst) F)(h5:fX w' iv cv rv I C rs)(h6:Below w.heap.size w w')(h7:e=.returned (.agg (dQ iv cv rv G 0))):ZI F w w' e:=by
 unfold ZI;rw[<-h3];rw[h1,h2]at h5;exact⟨iv,cv,rv,rs,h7,h4,h5,h6⟩
def MkN(F:List zH)(I:List yT)(C:List (Bs × Nat))(G:List Bool)(w w':World)(e:Ending):Prop:=∃iv cv rv rs,e=.returned (.agg (fT iv cv rv G))/\rs.map Prod.fst=pQ ((yJ F).map yT.name) ((vW F).map Prod.fst) F/\fX w' iv cv rv I C rs/\Below w.heap.size w w'
theorem G2(l:Bs)(w:World)(hl:l.length<=4000)(hf:(xS l).2.2=false)(hg:∀x∈(xS l).1,gU x)(hm:(xS l).1.length<=10000)(hnd:∀x∈(xS l).1,x.nd.length<=10000)(hMk:kr) :
 Calls Tryz.prog 37 #[.string ⟨l.toArray⟩] w fun e w'=>((qP (xS l).1).1≠0->e=.returned (.agg (dQ vG vG vG gZ (qP (xS l).1).1))/\Below w.heap.size w w')/\((qP (xS l).1).1=0->ZI (xS l).1 w w' e):=by
 have HR:=zA (fun o=>Zq l (w.alloc o) hl)
 have HRI:Hid (∀w0 w' e,XZ w0 w' l e->∃lv ls,e=.returned (fA lv 0 0)/\ls.map Prod.fst=(xS l).1/\Ki w' w0.heap.size lv ls):=by
  intro w0 w' e h;unfold XZ at h;rw[hf]at h;exact h
 generalize (xS l).1=F at *;have HG:=zA hg;have HMn:=zA hm;have HNd:=zA hnd;have HMk:=zA hMk;clear hg hm hf hnd hMk;generalize hck:qP F=ck at *;have HCk:=zA hck;clear hck;obtain⟨ck1,ck2⟩:=ck;simp only;obtain⟨G,hG⟩:∃G,G=yY (qG (yZ F) F gZ):=⟨_,rfl⟩;obtain⟨I,hI⟩:∃I,I=yJ F:=⟨_,rfl⟩;obtain⟨C,hC⟩:∃C,C=vW F:=⟨_,rfl⟩;have HGL:Hid (G.length=64):=by unfold Hid;rw[hG];unfold yY;rw[rS,lK];exact xP
 have HMN:Hid (∀w' w'' e,ZK F w' w'' e->MkN F I C G w' w'' e):=fun w' w'' e h=>by unfold MkN;rw[hG,hI,hC];exact h
 have HRN:Hid (∀w' e iv cv rv rs,rs.map Prod.fst=pQ ((yJ F).map yT.name) ((vW F).map Prod.fst) F->fX w' iv cv rv I C rs->Below w.heap.size w w'->e=.returned (.agg (dQ iv cv rv G 0))->ZI F w w' e):=fun w' e iv cv rv rs h4 h5 h6 h7=>zA9 F w w' e I C G iv cv rv rs hI hC hG h4 h5 h6 h7;clear hG hI hC
 go_enter Tryz.func37,Tryz.ntmps37
 go_wp2_with fail
 refine(HR.out _).mono ?_;rintro e w1 ⟨hri,hb⟩;obtain⟨lv,ls,rfl,hmap,hlin⟩:=HRI.out _ _ _ hri;have HZ:Hid (w1.heap[w.heap.size]? = some (Fd vG vG vG gZ 0)):=by unfold Hid Fd;rw[hb.block _ (zD _ _),<-Y8];exact zS _ _
 have HB:Hid (Below w.heap.size w w1):=((Below.refl _ _).alloc (Nat.le_refl _) _).trans (hb.mono (Nat.le_of_lt (zD _ _)));have hs:=Nat.lt_of_lt_of_le (zD w _) hb.size;have hLn:ls.length<=10000:=by have h9:=congrArg List.length hmap;rw[List.length_map]at h9;rw[h9];exact HMn.out
 obtain⟨la,lc,rfl,hlc,hlv⟩:=zDZ hlin (fun x hx=>HG.out _ (by rw[<-hmap];exact List.mem_map.2 ⟨x,hx,rfl⟩)) hLn
 have HCl:Hid (∀o,Calls Tryz.prog 62 #[.slice la ls.length lc] (w1.alloc o) fun e w'=>e=.returned (sY (ck1,ck2))/\Below (w1.alloc o).heap.size (w1.alloc o) w'):=fun o=>by
  have:=zCH (w1.alloc o) la lc ls hlc (hlv.below ((Below.refl _ _).alloc (Nat.le_refl _) o) (Nat.le_refl _));rw[show fs ls=F from hmap,HCk.out]at this;exact this
 have HMk1:Hid (∀w',Below w1.heap.size w1 w'->Calls Tryz.prog 69 #[.slice la ls.length lc] w' fun e w''=>MkN F I C G w' w'' e):=fun w' hb'=>by
  have:=HMk.out w' la lc ls (hlv.below hb' (Nat.le_refl _)) (fun x hx=>HNd.out _ (by rw[<-hmap];exact List.mem_map.2 ⟨x,hx,rfl⟩));rw[show fs ls=F from hmap]at this;exact this.mono fun e w'' h=>HMN.out _ _ _ h
 clear hb hri hlin hlv hmap HR HRI HG HMn HCk HNd HMk;unfold fA;go_wp2_with fail
 refine(HCl.out _).mono ?_;rintro e w2 ⟨rfl,hb2⟩;have HZ2:Hid (∀o,(w2.alloc o).heap[w.heap.size]? = some (Fd vG vG vG gZ 0)):=fun o=>zQ (by rw[hb2.block _ (by simp;omega)];exact zQ HZ.out)
 have zGQ:Hid (∀o,Below w1.heap.size w1 ((w2.alloc o))):=fun o=>by
  have h1:=((Below.refl w1.heap.size w1).alloc (Nat.le_refl _) _).trans (hb2.mono (by simp));exact h1.alloc h1.size o
 have q2:w2.cell? ⟨w1.heap.size,0,none⟩=some (.slice la ls.length lc):=by
  rw[hb2.cell (p:=⟨w1.heap.size,0,none⟩) (zD _ _)];exact(zF (zS _ _) 0).trans rfl
 have zGT:w1.heap.size<w2.heap.size:=Nat.lt_of_lt_of_le (zD _ _) hb2.size;have HB2:Hid (Below w.heap.size w w2):=(HB.out.alloc (Nat.le_of_lt hs) _).trans (hb2.mono (by simp;omega));have hs2:=HB2.out.size;clear HCl hb2;unfold sY;by_cases k0:ck1=0
 ·subst k0
  go_wp2_with fail
  refine(HMk1.out _ (zGQ.out _)).mono ?_;rintro e w3 ⟨iv,cv,rv,rs,rfl,hrs,hmc,hb3⟩;have HZ3:Hid (w3.heap[w.heap.size]? = some (Fd vG vG vG gZ 0)):=by unfold Hid;rw[hb3.block _ (by simp;omega)];exact HZ2.out _
  have HB3:Hid (Below w.heap.size w w3):=(HB2.out.alloc hs2 _).trans (hb3.mono (by simp;omega));have HMc:=zA hmc;have HRs:=zA hrs;obtain⟨o1,o2,o3⟩:=hmc.one;clear hb3 hmc hrs HMk1
  go_wp2_with (first
   | (refine wpList_buildTo rfl 98 #[(0,.tmp 24)] rfl (some 25) rfl (dQ iv cv rv G 0) (by rw[Array.toList_map];exact x8 iv cv rv _ HGL.out) ?_)
   | (refine wpList_store_row ?zGC 98 (.tmp 2) (.tmp 25) ?ho w.heap.size (dQ iv cv rv G 0) ?hx ?hy 98 (dQ vG vG vG gZ 0) HZ3.out (sK HGL.out _ _ _ _) ?zGF (wW o1 o2 o3 _ _) ?_
      case ho=>rfl
      case zGC=>rfl
      case hx=>rfl
      case hy=>rfl
      case zGF=>rw[tU,tU,xP,HGL.out]))
  have zGU:Hid (fX (w3.setRow w.heap.size (dQ iv cv rv G 0)) iv cv rv I C rs):=HMc.out.keepT fun t g cs fz h1 _ hg=>setRow_other _ _ _ _ (fun e=>by
   subst e;have h8:=HZ3.out;unfold Fd at h8;rw[hg]at h8;simp only[Option.some.injEq,Obj.cells.injEq]at h8;exact h1 h8.2.1)
  refine bodyPost_ret (v:=.agg (dQ iv cv rv G 0)) (results_cell_row Tryz.results37 _ _ w.heap.size 98 (dQ iv cv rv G 0) (0,0) _ rfl (setRow_heap _ _ _ _ _ _ HZ3.out) Tryz.underlying98 rfl (sK HGL.out _ _ _ _)) rfl ?_;exact HRN.out _ _ iv cv rv rs HRs.out zGU.out (xX HB3.out (Nat.le_refl _) _) rfl
 ·have b0:(ck1 != 0)=true:=by simpa using k0
  have HK:=zA k0;clear k0
  go_wp2_with (first
   | (refine wpList_buildTo rfl 98 #[(1,.tmp 20)] rfl (some 21) rfl (dQ vG vG vG gZ ck1) (by rw[Array.toList_map];exact x7 ck1) ?_)
   | (refine wpList_store_row ?zGC 98 (.tmp 2) (.tmp 21) ?ho w.heap.size (dQ vG vG vG gZ ck1) ?hx ?hy 98 (dQ vG vG vG gZ 0) (HZ2.out _) (sK xP _ _ _ _) ?zGF (wW rfl rfl rfl _ _) ?_
      case ho=>rfl
      case zGC=>rfl
      case hx=>rfl
      case hy=>rfl
      case zGF=>rw[tU,tU]))
  refine bodyPost_ret (v:=.agg (dQ vG vG vG gZ ck1)) (results_cell_row Tryz.results37 _ _ w.heap.size 98 (dQ vG vG vG gZ ck1) (0,0) _ rfl (setRow_heap _ _ _ _ _ _ (HZ2.out _)) Tryz.underlying98 rfl (sK xP _ _ _ _)) rfl ?_;exact⟨fun _=>⟨rfl,xX (HB2.out.alloc hs2 _) (Nat.le_refl _) _⟩,fun h=>absurd h HK.out⟩
def qn(iv cv rv:Value)(G:List Bool):Array Value := #[.bool true]++fT iv cv rv G
theorem YG(iv cv rv:Value)(G:List Bool):(qn iv cv rv G)[0]? = some (.bool true)/\(qn iv cv rv G)[1]? = some iv/\(qn iv cv rv G)[2]? = some cv/\(qn iv cv rv G)[3]? = some rv/\∀k,k<G.length->(qn iv cv rv G)[4+k]? = some (.bool (G.getD k false)):=by
 unfold qn;obtain⟨h0,h1,h2⟩:=CL iv cv rv G;refine⟨?_,?_,?_,?_,fun k hk=>?_⟩
 ·rw[Array.getElem?_append_left (by simp)];rfl
 ·rw[Array.getElem?_append_right (by simp)];exact h0
 ·rw[Array.getElem?_append_right (by simp)];exact h1
 ·rw[Array.getElem?_append_right (by simp)];exact h2
 ·rw[Array.getElem?_append_right (by simp;try omega)]
  have:=KP iv cv rv G k hk;rw[<-this];congr 1
  simp;try omega
theorem qm(iv cv rv:Value)(G:List Bool)(h:G.length=64):Tryz.prog.built 158 [(0,.bool true),(1,.agg (fT iv cv rv G))]=some (qn iv cv rv G):=by
 have key:∀b:Nat->Bool,Tryz.prog.built 158 [(0,.bool true),(1,.agg (fT iv cv rv ((List.range 64).map b)))]=some (qn iv cv rv ((List.range 64).map b)):=fun b=>by kernel_rfl
 rw[J3 G h];exact key _
structure lE(w:World)(b:Nat)(F:List zH)(rs:List MX):Prop where
 there:∃iv cv rv,w.heap[b]? = some (.cells (qn iv cv rv (yY (qG (yZ F) F gZ))) 158 (0,0))/\fX w iv cv rv (yJ F) (vW F) rs
 rul:rs.map Prod.fst=pQ ((yJ F).map yT.name) ((vW F).map Prod.fst) F
theorem lE.below{w w':World}{b:Nat}{F:List zH}{rs:List MX}(h:lE w b F rs)(hb:Below w.heap.size w w'):lE w' b F rs:=by
 obtain⟨iv,cv,rv,h1,h2⟩:=h.there;exact⟨⟨iv,cv,rv,by rw[hb.block _ (yD h1)];exact h1,h2.below hb⟩,h.rul⟩
theorem lE.base{w:World}{b:Nat}{F:List zH}{rs:List MX}(h:lE w b F rs):Uh w b (vW F):=by
 obtain⟨iv,cv,rv,h1,h2⟩:=h.there;obtain⟨a,c,e,hc⟩:=h2.con;obtain⟨g0,-,g2,-⟩:=YG iv cv rv (yY (qG (yZ F) F gZ));refine⟨(zF h1 0).trans g0,a,c,?_,?_⟩
 ·rw[<-e];exact(zF h1 2).trans g2
 ·refine⟨fun h0=>?_,h2.few2⟩
  rcases hc with hc|⟨g,cs,fz,ha,hb,hcs⟩
  ·exfalso
   have:=(JH (vW F) 0 h0).1;rw[hc]at this;simp at this
  ·refine⟨g,ha,fun i hi=>?_⟩
   obtain⟨p1,p2⟩:=JH (vW F) i hi;have l1:=(List.getElem?_eq_some_iff.1 p1).1;have l2:=(List.getElem?_eq_some_iff.1 p2).1;exact⟨(zF hb _).trans ((hcs _ l1).trans p1),(zF hb _).trans ((hcs _ l2).trans p2)⟩
def Jo(l:Bs)(w w':World)(e:Ending):Prop:=∃pv,e=.returned (.tuple #[pv,.int .i64 (bB l).1])/\Below w.heap.size w w'/\((bB l).1≠0->pv=.pointer none)/\((bB l).1=0->∃b rs,pv=.pointer (some ⟨b,0,none⟩)/\lE w' b (xS l).1 rs)
theorem Cn(l:Bs)(w:World)(k:Int)(hk:k≠0)(hR:Calls Tryz.prog 37 #[.string ⟨l.toArray⟩] w fun e w'=>e=.returned (.agg (dQ vG vG vG gZ k))/\Below w.heap.size w w') :
 Calls Tryz.prog 26 #[.string ⟨l.toArray⟩,.bool false] w fun e w'=>e=.returned (.tuple #[.pointer none,.int .i64 k])/\Below w.heap.size w w':=by
 have HR:=zA hR;have b0:(k != 0)=true:=by simpa using hk
 clear hR hk
 go_enter Tryz.func26,Tryz.ntmps26
 go_wp2_with fail
 refine HR.out.mono ?_;rintro e w1 ⟨rfl,hb⟩;have HB:=zA hb;have hs:=hb.size;clear hb HR;have HSt:Hid ((w1.alloc (.cells Tryz.zeroCells98 98)).heap[w1.heap.size]? = some (.cells Tryz.zeroCells98 98 (0,0))):=zS _ _;have hM:((w1.alloc (.cells Tryz.zeroCells98 98)).setRow w1.heap.size (dQ vG vG vG gZ k)).heap[w1.heap.size]? = some (Fd vG vG vG gZ k):=setRow_heap _ _ _ _ _ _ HSt.out;have c67:((w1.alloc (.cells Tryz.zeroCells98 98)).setRow w1.heap.size (dQ vG vG vG gZ k)).cell? ⟨w1.heap.size,67,none⟩=some (.int .i64 k):=by unfold Fd at hM;exact(zF hM 67).trans (CH xP k)
 clear hM
 go_wp2_with (refine wpList_store_row ?zGC 98 (.tmp 6) (.tmp 9) ?ho w1.heap.size (dQ vG vG vG gZ k) ?hx ?hy 98 Tryz.zeroCells98 HSt.out (sK xP _ _ _ _) ?zGF (wW rfl rfl rfl _ _) ?_
              case ho=>rfl
              case zGC=>rfl
              case hx=>rfl
              case hy=>rfl
              case zGF=>rw[Y8,tU,tU])
 go_quiet (fail)
 go_wp2_with fail
 go_ret2
 exact⟨rfl,yE (xX (HB.out.alloc hs _) hs _) _⟩
theorem VW(l:Bs)(w:World)(F:List zH)(hR:Calls Tryz.prog 37 #[.string ⟨l.toArray⟩] w fun e w'=>ZI F w w' e) :
 Calls Tryz.prog 26 #[.string ⟨l.toArray⟩,.bool false] w fun e w'=>∃b,e=.returned (.tuple #[.pointer (some ⟨b,0,none⟩),.int .i64 0])/\(∃rs,lE w' b F rs)/\Below w.heap.size w w':=by
 have HR:=zA hR;clear hR;obtain⟨G,hG⟩:∃G,G=yY (qG (yZ F) F gZ):=⟨_,rfl⟩;have HGL:Hid (G.length=64):=by unfold Hid;rw[hG];unfold yY;rw[rS,lK];exact xP
 have HRN:Hid (∀w' e,ZI F w w' e->∃iv cv rv rs,e=.returned (.agg (dQ iv cv rv G 0))/\rs.map Prod.fst=pQ ((yJ F).map yT.name) ((vW F).map Prod.fst) F/\fX w' iv cv rv (yJ F) (vW F) rs/\Below w.heap.size w w'):=fun w' e h=>by rw[hG];exact h
 have HBN:Hid (∀w' b iv cv rv rs,w'.heap[b]? = some (.cells (qn iv cv rv G) 158 (0,0))->rs.map Prod.fst=pQ ((yJ F).map yT.name) ((vW F).map Prod.fst) F->fX w' iv cv rv (yJ F) (vW F) rs->lE w' b F rs):=fun w' b iv cv rv rs h1 h2 h3=>⟨⟨iv,cv,rv,by rw[<-hG];exact h1,h3⟩,h2⟩;clear hG
 go_enter Tryz.func26,Tryz.ntmps26
 go_wp2_with fail
 refine HR.out.mono ?_;rintro e w1 hri;obtain⟨iv,cv,rv,rs,rfl,hrs,hmc,hb⟩:=HRN.out _ _ hri;obtain⟨o1,o2,o3⟩:=hmc.one;have HB:=zA hb;have HMc:=zA hmc;have HRs:=zA hrs;have hs:=hb.size;clear hb HR hri hmc hrs HRN;have HSt:Hid ((w1.alloc (.cells Tryz.zeroCells98 98)).heap[w1.heap.size]? = some (.cells Tryz.zeroCells98 98 (0,0))):=zS _ _;have HM:Hid (((w1.alloc (.cells Tryz.zeroCells98 98)).setRow w1.heap.size (dQ iv cv rv G 0)).heap[w1.heap.size]? = some (Fd iv cv rv G 0)):=setRow_heap _ _ _ _ _ _ HSt.out;have c67:((w1.alloc (.cells Tryz.zeroCells98 98)).setRow w1.heap.size (dQ iv cv rv G 0)).cell? ⟨w1.heap.size,67,none⟩=some (.int .i64 0):=by have h8:=HM.out;unfold Fd at h8;exact(zF h8 67).trans (CH HGL.out 0)
 have HRg:Hid (((w1.alloc (.cells Tryz.zeroCells98 98)).setRow w1.heap.size (dQ iv cv rv G 0)).rangeAt w1.heap.size 0 (fT iv cv rv G).toList):=fun j v hv=>by
  have h8:=HM.out;unfold Fd dQ at h8;have hj:j<(fT iv cv rv G).size:=by have:=(List.getElem?_eq_some_iff.1 hv).1;simpa using this
  rw[Nat.zero_add];refine(zF h8 j).trans ?_;rw[Array.getElem?_append_left hj];rw[<-hv,Array.getElem?_toList]
 have HB2:Hid (∀o,Below w.heap.size w (((w1.alloc (.cells Tryz.zeroCells98 98)).setRow w1.heap.size (dQ iv cv rv G 0)).alloc o)):=fun o=>(xX (HB.out.alloc hs _) hs _).alloc (by have:=(xX (HB.out.alloc hs (.cells Tryz.zeroCells98 98)) hs (dQ iv cv rv G 0)).size;exact this) o
 have HMc2:Hid (∀o,fX (((w1.alloc (.cells Tryz.zeroCells98 98)).setRow w1.heap.size (dQ iv cv rv G 0)).alloc o) iv cv rv (yJ F) (vW F) rs):=fun o=>by
  have h1:fX ((w1.alloc (.cells Tryz.zeroCells98 98)).setRow w1.heap.size (dQ iv cv rv G 0)) iv cv rv (yJ F) (vW F) rs:=HMc.out.keepT fun t g cs fz _ _ hg=>by
   have hgl:=yD hg;rw[setRow_other _ _ _ _ (by omega)];exact(Below.heap_alloc w1 _ g hgl)
  exact h1.below ((Below.refl _ _).alloc (Nat.le_refl _) o)
 go_wp2_with (first
  | (refine wpList_store_row ?zGC 98 (.tmp 6) (.tmp 9) ?ho w1.heap.size (dQ iv cv rv G 0) ?hx ?hy 98 Tryz.zeroCells98 HSt.out (sK HGL.out _ _ _ _) ?zGF (wW o1 o2 o3 _ _) ?_
     case ho=>rfl
     case zGC=>rfl
     case hx=>rfl
     case hy=>rfl
     case zGF=>rw[Y8,tU,tU,xP,HGL.out])
  | (refine wpList_load_mid ?zGC 96 (.tmp 22) ?ho w1.heap.size 0 ?hx (fT iv cv rv G).toList _ HRg.out Tryz.underlying96 rfl ?hi ?_
     case ho=>rfl
     case zGC=>rfl
     case hx=>rfl
     case hi=>rw[Array.length_toList];exact wV HGL.out _ _ _)
  | (refine wpList_buildTo rfl 158 #[(0,.const (.bool true)),(1,.tmp 23)] rfl (some 24) rfl (qn iv cv rv G) (by rw[Array.toList_map];exact qm iv cv rv G HGL.out) ?_))
 go_ret2
 exact⟨_,rfl,⟨rs,HBN.out _ _ iv cv rv rs (uZ _ _ _ (by unfold World.setRow;simp)) HRs.out (HMc2.out _)⟩,HB2.out _⟩
theorem KV(P:List PT)(item:GS->Int × GS)(tok:Bs)(kind:Int)(hit:∀q,(item q).2.nd.length+2*q.s.1<=q.nd.length+2*(item q).2.s.1+1)(k:Nat):∀l q,(mV P item tok kind k l q).2.nd.length+2*q.s.1<=q.nd.length+2*(mV P item tok kind k l q).2.s.1:=by
 induction k with
 | zero=>intro l q;exact Nat.le_refl _
 | succ k ih =>
   intro l q;have h1:=xW P tok q.s;rw[mV];split
   ·show q.nd.length+2*q.s.1<=q.nd.length+2*(zC P tok q.s).2.1;omega
   ·rename_i hsk
    have h2:=qL hsk;have h3:=ih ((item (q.to (zC P tok q.s).2)).2.nd.length:Nat) ((item (q.to (zC P tok q.s).2)).2.add ⟨kind,l,(item (q.to (zC P tok q.s).2)).1,[],[],[],0⟩);have h4:=hit (q.to (zC P tok q.s).2);have e1:(q.to (zC P tok q.s).2).s.1=(zC P tok q.s).2.1:=rfl;have e2:(q.to (zC P tok q.s).2).nd=q.nd:=rfl;have e3:((item (q.to (zC P tok q.s).2)).2.add ⟨kind,l,(item (q.to (zC P tok q.s).2)).1,[],[],[],0⟩).nd.length=(item (q.to (zC P tok q.s).2)).2.nd.length+1:=by simp[GS.add]
    have e4:((item (q.to (zC P tok q.s).2)).2.add ⟨kind,l,(item (q.to (zC P tok q.s).2)).1,[],[],[],0⟩).s=(item (q.to (zC P tok q.s).2)).2.s:=rfl;rw[e3,e4]at h3;rw[e1,e2]at h4;omega
theorem Q2(P:List PT)(fact:GS->Int->Int × GS)(hf:∀q d,(fact q d).2.nd.length+2*q.s.1<=q.nd.length+2*(fact q d).2.s.1+1)(q:GS)(d:Int):(mI P fact q d).2.nd.length+2*q.s.1<=q.nd.length+2*(mI P fact q d).2.s.1+1:=by
 have h1:=hf q d;have h2:=KV P (fun q=>fact q d) yL 2 (fun q=>hf q d) P.length (fact q d).1 (fact q d).2;unfold mI;omega
theorem Df(P:List PT)(fact:GS->Int->Int × GS)(hf:∀q d,(fact q d).2.nd.length+2*q.s.1<=q.nd.length+2*(fact q d).2.s.1+1)(q:GS)(d:Int):(eD P fact q d).2.nd.length+2*q.s.1<=q.nd.length+2*(eD P fact q d).2.s.1+1:=by
 have h1:=Q2 P fact hf q d;have h2:=KV P (fun q=>mI P fact q d) vK 1 (fun q=>Q2 P fact hf q d) P.length (mI P fact q d).1 (mI P fact q d).2;unfold eD;omega
theorem yh(P:List PT)(n:Nat):∀q d,(xK P n q d).2.nd.length+2*q.s.1<=q.nd.length+2*(xK P n q d).2.s.1+1:=by
 induction n with
 | zero=>intro q d;exact Nat.le_succ _
 | succ n ih =>
   intro q d;have h1:=xW P xF q.s;rw[xK];split
   ·rename_i hsk
    have h2:=qL hsk;have h3:=ih (q.to (zC P xF q.s).2) (d+1);have e1:(q.to (zC P xF q.s).2).s.1=(zC P xF q.s).2.1:=rfl;have e2:(q.to (zC P xF q.s).2).nd=q.nd:=rfl;rw[e1,e2]at h3;show ((xK P n (q.to (zC P xF q.s).2) (d+1)).2.nd++[_]).length+2*q.s.1<=q.nd.length+2*(xK P n (q.to (zC P xF q.s).2) (d+1)).2.s.1+1;rw[List.length_append,List.length_singleton];omega
   ·have h2:=xW P yU (zC P xF q.s).2
    split
    ·have h3:=Df P (xK P n) ih (q.to (zC P yU (zC P xF q.s).2).2) (d+1)
     have e1:(q.to (zC P yU (zC P xF q.s).2).2).s.1=(zC P yU (zC P xF q.s).2).2.1:=rfl;have e2:(q.to (zC P yU (zC P xF q.s).2).2).nd=q.nd:=rfl;rw[e1,e2]at h3;have h4:=qK P vD (eD P (xK P n) (q.to (zC P yU (zC P xF q.s).2).2) (d+1)).2.s;show (eD P (xK P n) (q.to (zC P yU (zC P xF q.s).2).2) (d+1)).2.nd.length+2*q.s.1<=q.nd.length+2*(zY P vD (eD P (xK P n) (q.to (zC P yU (zC P xF q.s).2).2) (d+1)).2.s).1+1;omega
    ·have h3:=iB P (zC P yU (zC P xF q.s).2).2
     show (q.nd++[_]).length+2*q.s.1<=q.nd.length+2*(vF P (zC P yU (zC P xF q.s).2).2).2.1+1;rw[List.length_append,List.length_singleton];omega
theorem DM(P:List PT)(s:St):(vU P s).2.nd.length<=2*(vU P s).2.s.1+1:=by
 have:=Df P (xK P P.length) (yh P P.length) ⟨s,[],0,0⟩ 0;have e:(vU P s)=eD P (xK P P.length) ⟨s,[],0,0⟩ 0:=rfl;rw[e];simp only[List.length_nil]at this;omega
theorem yg(P:List PT)(s:St):(uC P s).1.nd.length<=2*(uC P s).2.1+1:=by
 unfold uC;split
 ·exact Nat.zero_le _
 ·split
  ·exact Nat.zero_le _
  ·split
   ·generalize (zC P [114,117,108,101] (zC P [102,108,97,103] (zC P [110,117,109] s).2).2).2=s3
    have h1:=DM P (zY P xY (tG P (zY P [61] (zN P (zY P [58] (zN P s3).2)).2)).2);have h2:=qK P [59] (vU P (zY P xY (tG P (zY P [61] (zN P (zY P [58] (zN P s3).2)).2)).2)).2.s;exact Nat.le_trans h1 (by show _<=2*(zY P [59] (vU P (zY P xY (tG P (zY P [61] (zN P (zY P [58] (zN P s3).2)).2)).2)).2.s).1+1;omega)
   ·exact Nat.zero_le _
theorem xw{ts:zI}{len:Nat}(zGN:fO ts)(zG5:ts.length<=4000)(n:Nat):∀(i:Nat) (acc:List zH),i<=ts.length->(∀x∈acc,x.nd.length<=10000)->(pS (pp ts len) n (i,false) acc).2.2=false->∀x∈(pS (pp ts len) n (i,false) acc).1,x.nd.length<=10000:=by
 induction n with
 | zero=>intro i acc _ ha _ x hx;exact ha x hx
 | succ n ih =>
   intro i acc hi ha;rw[pS];simp only;by_cases hk:(yP (pp ts len) i).k=0
   ·rw[if_pos hk];exact fun _ x hx=>ha x hx
   ·rw[if_neg hk]
    have hi':i<ts.length:=by
     rcases Nat.lt_or_ge i ts.length with h|h
     ·exact h
     ·exact absurd ((CT (len:=len) hi).2 (by omega)) hk
    have hL:=KY (len:=len) zGN zG5 hi';have hN:=yg (pp ts len) (i,false);generalize uC (pp ts len) (i,false)=r at hL hN ⊢;obtain⟨x,⟨j,f⟩⟩:=r;rcases hL with ⟨h1,h2⟩|⟨h1,h2,h3,_⟩
    ·simp only at h1;subst h1
     rw[CO];intro h;exact absurd (show true=false from h) (by decide)
    ·simp only at h1 h2 h3 hN;subst h1
     refine ih j (acc++[x]) h3 (fun y hy=>?_);rcases List.mem_append.1 hy with h|h
     ·exact ha y h
     ·rw[List.mem_singleton.1 h];omega
theorem zDS{l:Bs}(hl:l.length<=4000)(hf:(xS l).2.2=false):∀x∈(xS l).1,x.nd.length<=10000:=by
 have ht:(zP l 0).length<=4000:=Nat.le_trans (uU l 0) hl;exact xw (len:=l.length) (Qz l) ht (2*(lW l).length+1) 0 [] (Nat.zero_le _) (by simp) hf
theorem zAX:kr:=fun w a c ls h hn=>zEX w a c ls h hn
theorem G3(l:Bs)(w:World)(zGO:l.length<=maxLen)(hg:l.length<=4000->(xS l).2.2=false->∀x∈(xS l).1,gU x)(hm:l.length<=4000->(xS l).1.length<=10000) :
 Calls Tryz.prog 26 #[.string ⟨l.toArray⟩,.bool false] w fun e w'=>Jo l w w' e:=by
 have bad:∀k:Int,k≠0->(bB l).1=k->Calls Tryz.prog 37 #[.string ⟨l.toArray⟩] w (fun e w'=>e=.returned (.agg (dQ vG vG vG gZ k))/\Below w.heap.size w w')->Calls Tryz.prog 26 #[.string ⟨l.toArray⟩,.bool false] w fun e w'=>Jo l w w' e:=fun k hk hc hR=>by
  refine(Cn l w k hk hR).mono ?_;rintro e w' ⟨h1,h2⟩;exact⟨.pointer none,by rw[hc];exact h1,h2,fun _=>rfl,fun h=>absurd (hc.symm.trans h) hk⟩
 by_cases hl:4000<l.length
 ·have ec:bB l=(1,0):=by unfold bB;rw[if_pos hl]
  exact bad 1 (by decide) (by rw[ec]) (XY l w 1 (.inl rfl) 0 (fun o=>Qw l (w.alloc o) zGO hl))
 ·cases hf:(xS l).2.2
  ·have ec:bB l=qP (xS l).1:=by unfold bB;rw[if_neg hl,hf]
   have hR:=G2 l w (by omega) hf (hg (by omega) hf) (hm (by omega)) (zDS (by omega) hf) zAX;by_cases hk:(qP (xS l).1).1=0
   ·refine(VW l w (xS l).1 (hR.mono fun e w' h=>h.2 hk)).mono ?_
    rintro e w' ⟨b,h1,⟨rs,h2⟩,h3⟩;have hc:(bB l).1=0:=by rw[ec];exact hk
    exact⟨_,by rw[hc];exact h1,h3,fun h=>absurd hc h,fun _=>⟨b,rs,rfl,h2⟩⟩
   ·exact bad _ hk (by rw[ec]) (hR.mono fun e w' h=>h.1 hk)
  ·have ec:bB l=(2,((yP (lW l) (xS l).2.1).p:Int)):=by unfold bB;rw[if_neg hl,hf]
   refine bad 2 (by decide) (by rw[ec]) (XY l w 2 (.inr rfl) ((yP (lW l) (xS l).2.1).p:Int) (fun o=>(Zq l (w.alloc o) (by omega)).mono ?_));rintro e w' ⟨h1,h2⟩;unfold XZ at h1;rw[hf]at h1;exact⟨h1,h2⟩
end Go.Proofs.YtnbpdffdnphbeaaGreatDoor
