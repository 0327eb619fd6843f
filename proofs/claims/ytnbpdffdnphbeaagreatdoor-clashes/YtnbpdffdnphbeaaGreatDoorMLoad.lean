import Derived.Test.YtnbpdffdnphbeaaGreatDoorPRound
import Derived.Deep.MidRow
import Derived.Test.YtnbpdffdnphbeaaGreatDoorMMake3
set_option maxHeartbeats 2000000
set_option maxRecDepth 100000
namespace Go.Proofs.YtnbpdffdnphbeaaGreatDoor
open Go.RowKit
variable{C:List (Bs × Nat)}{rs:List MX}{I:List yI}{w' w:World}(iv cv:Value)(P:List PT)(rv:Value)(G:List Bool)(k:Int)
def fK(iv cv rv:Value)(G:List Bool)(k:Int):Array Value:=nE iv cv rv G ++ #[.int .i64 k]
def C0(iv cv rv:Value)(G:List Bool)(k:Int):Obj:=.cells (fK iv cv rv G k) 98 (0,0)
abbrev vB:Value:=.slice none 0 0
theorem tY:(fK iv cv rv G k).size=4+G.length:=by unfold fK;rw[Array.size_append,lT];simp;omega
theorem YV:Tryz.zeroCells98=fK vB vB vB gZ 0:=by kernel_rfl
theorem ki:Tryz.prog.built 98 [(1,.int .i64 k)]=some (fK vB vB vB gZ k):=by kernel_rfl
theorem kj(h:G.length=64):Tryz.prog.built 98 [(0,.agg (nE iv cv rv G))]=some (fK iv cv rv G 0):=by
 have key:∀b:Nat->Bool,Tryz.prog.built 98 [(0,.agg (nE iv cv rv ((List.range 64).map b)))]=some (fK iv cv rv ((List.range 64).map b) 0):=fun b=>by kernel_rfl
 rw[D1 G h];exact key _
theorem sD{G:List Bool}(h:G.length=64)(iv cv rv:Value)(k:Int):(Tryz.prog.info? 98).map (·.size)=some (fK iv cv rv G k).size:=by rw[tY,h];kernel_rfl
theorem Zg{iv cv rv:Value}(h0:iv.oneCell'=true)(h1:cv.oneCell'=true)(h2:rv.oneCell'=true)(G:List Bool)(k:Int):(fK iv cv rv G k).all (·.oneCell')=true:=by
 rw[Array.all_eq_true_iff_forall_mem];intro v hv;unfold fK at hv;rcases Array.mem_append.1 hv with h|h
 ·exact Array.all_eq_true_iff_forall_mem.1 (Kv h0 h1 h2 G) v h
 ·simp at h;subst h;rfl
theorem DD{iv cv rv:Value}{G:List Bool}(h:G.length=64)(k:Int):(fK iv cv rv G k)[67]? = some (.int .i64 k):=by
 unfold fK;rw[dw (by rw[lT,h];exact t9 _),lT,h];rfl
def Yf(F:List zF)(w w':World)(e:Ending):Prop:=∃iv cv rv rs,e=.returned (.agg (fK iv cv rv (xE (jI (xH F) F gZ)) 0))/\rs.map Prod.fst=jN ((yG F).map yI.name) ((uI F).map Prod.fst) F/\gU w' iv cv rv (yG F) (uI F) rs/\Below w.heap.size w w'
theorem gU.one{iv cv rv:Value}(h:gU w iv cv rv I C rs):iv.oneCell'=true/\cv.oneCell'=true/\rv.oneCell'=true:=by
 obtain⟨a,c,rfl,-⟩:=h.inp;obtain⟨a,c,rfl,-⟩:=h.con;obtain⟨a,c,rfl,-⟩:=h.rul;exact⟨rfl,rfl,rfl⟩
theorem gU.keepT{iv cv rv:Value}(h:gU w iv cv rv I C rs)(hk:∀(t:TypeId) (g:Nat) (cs:Array Value) (fz:Nat × Nat),t≠98->t≠158->w.heap[g]? = some (Obj.cells cs t fz)->w'.heap[g]? = w.heap[g]?):gU w' iv cv rv I C rs:=by
 obtain⟨a1,c1,e1,h1⟩:=h.inp;obtain⟨a2,c2,e2,h2⟩:=h.con;obtain⟨a3,c3,e3,h3⟩:=h.rul;refine⟨⟨a1,c1,e1,h1.keep fun g cs fz hg=>hk _ g cs fz (by decide) (by decide) hg⟩,⟨a2,c2,e2,h2.keep fun g cs fz hg=>hk _ g cs fz (by decide) (by decide) hg⟩,⟨a3,c3,e3,h3.keep fun g cs fz hg=>hk _ g cs fz (by decide) (by decide) hg⟩,fun x hx=>?_,h.few1,h.few2,h.few3⟩;have hm:=h.rows x hx;obtain⟨a',c',h4,h5⟩:=hm.sum;obtain⟨a'',c'',h6,h7⟩:=hm.guard;exact⟨⟨a',c',h4,h5.keep fun g cs fz hg=>hk _ g cs fz (by decide) (by decide) hg⟩,⟨a'',c'',h6,h7.keep fun g cs fz hg=>hk _ g cs fz (by decide) (by decide) hg⟩,hm.few1,hm.few2⟩
theorem gU.below{iv cv rv:Value}(h:gU w iv cv rv I C rs)(hb:Below w.heap.size w w'):gU w' iv cv rv I C rs :=
 h.keepT fun _ g _ _ _ _ hg=>hb.block g (yK hg)
theorem Q0(l:Bs)(w:World)(k:Int)(hk:k=1\/k=2)(p:Int)(hR:∀o,Calls Tryz.prog 60 #[.string ⟨l.toArray⟩] (w.alloc o) fun e w'=>e=.returned (fD (.slice none 0 0) k p)/\Below (w.alloc o).heap.size (w.alloc o) w') :
 Calls Tryz.prog 37 #[.string ⟨l.toArray⟩] w fun e w'=>e=.returned (.agg (fK vB vB vB gZ k))/\Below w.heap.size w w':=by
 have HR:=zA hR;have e1:(k != 0)=true:=by rcases hk with rfl|rfl <;> rfl
 clear hR hk
 go_enter Tryz.func37,Tryz.ntmps37
 go_wp2_with fail
 refine(HR.out _).mono ?_;rintro e w1 ⟨rfl,hb⟩;have HZ:Hid (w1.heap[w.heap.size]? = some (C0 vB vB vB gZ 0)):=by unfold Hid C0;rw[hb.block _ (yL _ _),<-YV];exact zM _ _
 have HB:Hid (Below w.heap.size w w1):=(ge (t9 _) _).trans (hb.mono (p8 (yL _ _)));have hs:=ti (yL w _) hb.size;clear hb HR;unfold fD;have HZ1:Hid (∀o,(w1.alloc o).heap[w.heap.size]? = some (C0 vB vB vB gZ 0)):=fun o=>yJ HZ.out
 go_wp2_with (first
  | (refine wpList_buildTo rfl 98 #[(1,.tmp 11)] rfl (some 12) rfl (fK vB vB vB gZ k) (by rw[Array.toList_map];exact ki k) ?_)
  | (refine wpList_store_row ?zIM 98 (.tmp 2) (.tmp 12) ?ho w.heap.size (fK vB vB vB gZ k) ?hx ?hy 98 (fK vB vB vB gZ 0) (HZ1.out _) (sD vE _ _ _ _) ?zIL (Zg rfl rfl rfl _ _) ?_
     case ho=>rfl
     case zIM=>rfl
     case hx=>rfl
     case hy=>rfl
     case zIL=>rw[tY,tY]))
 refine ph (v:=.agg (fK vB vB vB gZ k)) (results_cell_row Tryz.results37 _ _ w.heap.size 98 (fK vB vB vB gZ k) (0,0) _ rfl (ly _ _ _ _ _ _ (HZ1.out _)) Tryz.underlying98 rfl (sD vE _ _ _ _)) rfl ⟨rfl,xL (HB.out.alloc (p8 hs) _) (t9 _) _⟩
def zB9:Prop:=∀(w:World) (a:Option Addr) (c:Nat) (ls:List LX),pG w a ls->(∀x∈ls,x.1.nd.length<=10000)->Calls Tryz.prog 69 #[.slice a ls.length c] w fun e w'=>Yh (fs ls) w w' e
theorem zCC(F:List zF)(w w':World)(e:Ending)(I:List yI)(C:List (Bs × Nat))(G:List Bool)(iv cv rv:Value)(rs:List MX)(h1:I=yG F)(h2:C=uI F)(h3:G=xE (jI (xH F) F gZ))(h4:rs.map Prod.fst=jN ((yG F).map yI.name) ((uI F).map Prod.fst) F)(h5:gU w' iv cv rv I C rs)(h6:Below w.heap.size w w')(h7:e=.returned (.agg (fK iv cv rv G 0))):Yf F w w' e:=by
 unfold Yf;rw[<-h3];rw[h1,h2]at h5;exact⟨iv,cv,rv,rs,h7,h4,h5,h6⟩
def MkN(F:List zF)(I:List yI)(C:List (Bs × Nat))(G:List Bool)(w w':World)(e:Ending):Prop:=∃iv cv rv rs,e=.returned (.agg (nE iv cv rv G))/\rs.map Prod.fst=jN ((yG F).map yI.name) ((uI F).map Prod.fst) F/\gU w' iv cv rv I C rs/\Below w.heap.size w w'
theorem yz(l:Bs)(w:World)(hl:l.length<=4000)(hf:(xZ l).2.2=false)(hg:∀x∈(xZ l).1,gE x)(hm:(xZ l).1.length<=10000)(hnd:∀x∈(xZ l).1,x.nd.length<=10000)(hMk:zB9) :
 Calls Tryz.prog 37 #[.string ⟨l.toArray⟩] w fun e w'=>((kC (xZ l).1).1≠0->e=.returned (.agg (fK vB vB vB gZ (kC (xZ l).1).1))/\Below w.heap.size w w')/\((kC (xZ l).1).1=0->Yf (xZ l).1 w w' e):=by
 have HR:=zA (fun o=>Z8 l (w.alloc o) hl)
 have HRI:Hid (∀w0 w' e,Q6 w0 w' l e->∃lv ls,e=.returned (fD lv 0 0)/\ls.map Prod.fst=(xZ l).1/\KW w' w0.heap.size lv ls):=by
  intro w0 w' e h;unfold Q6 at h;rw[hf]at h;exact h
 generalize (xZ l).1=F at *;have HG:=zA hg;have HMn:=zA hm;have HNd:=zA hnd;have HMk:=zA hMk;clear hg hm hf hnd hMk;generalize hck:kC F=ck at *;have HCk:=zA hck;clear hck;obtain⟨ck1,ck2⟩:=ck;simp only;obtain⟨G,hG⟩:∃G,G=xE (jI (xH F) F gZ):=⟨_,rfl⟩;obtain⟨I,hI⟩:∃I,I=yG F:=⟨_,rfl⟩;obtain⟨C,hC⟩:∃C,C=uI F:=⟨_,rfl⟩;have HGL:Hid (G.length=64):=by unfold Hid;rw[hG];unfold xE;rw[eO,fG];exact vE
 have HMN:Hid (∀w' w'' e,Yh F w' w'' e->MkN F I C G w' w'' e):=fun w' w'' e h=>by unfold MkN;rw[hG,hI,hC];exact h
 have HRN:Hid (∀w' e iv cv rv rs,rs.map Prod.fst=jN ((yG F).map yI.name) ((uI F).map Prod.fst) F->gU w' iv cv rv I C rs->Below w.heap.size w w'->e=.returned (.agg (fK iv cv rv G 0))->Yf F w w' e):=fun w' e iv cv rv rs h4 h5 h6 h7=>zCC F w w' e I C G iv cv rv rs hI hC hG h4 h5 h6 h7;clear hG hI hC
 go_enter Tryz.func37,Tryz.ntmps37
 go_wp2_with fail
 refine(HR.out _).mono ?_;rintro e w1 ⟨hri,hb⟩;obtain⟨lv,ls,rfl,hmap,hlin⟩:=HRI.out _ _ _ hri;have HZ:Hid (w1.heap[w.heap.size]? = some (C0 vB vB vB gZ 0)):=by unfold Hid C0;rw[hb.block _ (yL _ _),<-YV];exact zM _ _
 have HB:Hid (Below w.heap.size w w1):=(ge (t9 _) _).trans (hb.mono (p8 (yL _ _)));have hs:=ti (yL w _) hb.size;have hLn:ls.length<=10000:=by have h9:=congrArg List.length hmap;rw[ms]at h9;rw[h9];exact HMn.out
 obtain⟨la,lc,rfl,hlc,hlv⟩:=zG9 hlin (fun x hx=>HG.out _ (by rw[<-hmap];exact ml.2 ⟨x,hx,rfl⟩)) hLn
 have HCl:Hid (∀o,Calls Tryz.prog 62 #[.slice la ls.length lc] (w1.alloc o) fun e w'=>e=.returned (sN (ck1,ck2))/\Below (w1.alloc o).heap.size (w1.alloc o) w'):=fun o=>by
  have:=zEI (w1.alloc o) la lc ls hlc (hlv.below (ge (t9 _) o) (t9 _));rw[show fs ls=F from hmap,HCk.out]at this;exact this
 have HMk1:Hid (∀w',Below w1.heap.size w1 w'->Calls Tryz.prog 69 #[.slice la ls.length lc] w' fun e w''=>MkN F I C G w' w'' e):=fun w' hb'=>by
  have:=HMk.out w' la lc ls (hlv.below hb' (t9 _)) (fun x hx=>HNd.out _ (by rw[<-hmap];exact ml.2 ⟨x,hx,rfl⟩));rw[show fs ls=F from hmap]at this;exact this.mono fun e w'' h=>HMN.out _ _ _ h
 clear hb hri hlin hlv hmap HR HRI HG HMn HCk HNd HMk;unfold fD;go_wp2_with fail
 refine(HCl.out _).mono ?_;rintro e w2 ⟨rfl,hb2⟩;have HZ2:Hid (∀o,(w2.alloc o).heap[w.heap.size]? = some (C0 vB vB vB gZ 0)):=fun o=>yJ (by rw[hb2.block _ (by simp;omega)];exact yJ HZ.out)
 have HBr:Hid (∀o,Below w1.heap.size w1 ((w2.alloc o))):=fun o=>by
  have h1:=((tj w1.heap.size w1).alloc (t9 _) _).trans (hb2.mono (by simp));exact h1.alloc h1.size o
 have q2:w2.cell? ⟨w1.heap.size,0,none⟩=some (.slice la ls.length lc):=by
  rw[hb2.cell (p:=⟨w1.heap.size,0,none⟩) (yL _ _)];exact(zD (zM _ _) 0).trans rfl
 have zIV:w1.heap.size<w2.heap.size:=ti (yL _ _) hb2.size;have HB2:Hid (Below w.heap.size w w2):=(HB.out.alloc (p8 hs) _).trans (hb2.mono (by simp;omega));have hs2:=HB2.out.size;clear HCl hb2;unfold sN;by_cases k0:ck1=0
 ·subst k0
  go_wp2_with fail
  refine(HMk1.out _ (HBr.out _)).mono ?_;rintro e w3 ⟨iv,cv,rv,rs,rfl,hrs,hmc,hb3⟩;have HZ3:Hid (w3.heap[w.heap.size]? = some (C0 vB vB vB gZ 0)):=by unfold Hid;rw[hb3.block _ (by simp;omega)];exact HZ2.out _
  have HB3:Hid (Below w.heap.size w w3):=(HB2.out.alloc hs2 _).trans (hb3.mono (by simp;omega));have HMc:=zA hmc;have HRs:=zA hrs;obtain⟨o1,o2,o3⟩:=hmc.one;clear hb3 hmc hrs HMk1
  go_wp2_with (first
   | (refine wpList_buildTo rfl 98 #[(0,.tmp 24)] rfl (some 25) rfl (fK iv cv rv G 0) (by rw[Array.toList_map];exact kj iv cv rv _ HGL.out) ?_)
   | (refine wpList_store_row ?zIM 98 (.tmp 2) (.tmp 25) ?ho w.heap.size (fK iv cv rv G 0) ?hx ?hy 98 (fK vB vB vB gZ 0) HZ3.out (sD HGL.out _ _ _ _) ?zIL (Zg o1 o2 o3 _ _) ?_
      case ho=>rfl
      case zIM=>rfl
      case hx=>rfl
      case hy=>rfl
      case zIL=>rw[tY,tY,vE,HGL.out]))
  have HFin:Hid (gU (w3.setRow w.heap.size (fK iv cv rv G 0)) iv cv rv I C rs):=HMc.out.keepT fun t g cs fz h1 _ hg=>setRow_other _ _ _ _ (fun e=>by
   subst e;have h8:=HZ3.out;unfold C0 at h8;rw[hg]at h8;simp only[cx,Obj.cells.injEq]at h8;exact h1 h8.2.1)
  refine ph (v:=.agg (fK iv cv rv G 0)) (results_cell_row Tryz.results37 _ _ w.heap.size 98 (fK iv cv rv G 0) (0,0) _ rfl (ly _ _ _ _ _ _ HZ3.out) Tryz.underlying98 rfl (sD HGL.out _ _ _ _)) rfl ?_;exact HRN.out _ _ iv cv rv rs HRs.out HFin.out (xL HB3.out (t9 _) _) rfl
 ·have b0:(ck1 != 0)=true:=by simpa using k0
  have HK:=zA k0;clear k0
  go_wp2_with (first
   | (refine wpList_buildTo rfl 98 #[(1,.tmp 20)] rfl (some 21) rfl (fK vB vB vB gZ ck1) (by rw[Array.toList_map];exact ki ck1) ?_)
   | (refine wpList_store_row ?zIM 98 (.tmp 2) (.tmp 21) ?ho w.heap.size (fK vB vB vB gZ ck1) ?hx ?hy 98 (fK vB vB vB gZ 0) (HZ2.out _) (sD vE _ _ _ _) ?zIL (Zg rfl rfl rfl _ _) ?_
      case ho=>rfl
      case zIM=>rfl
      case hx=>rfl
      case hy=>rfl
      case zIL=>rw[tY,tY]))
  refine ph (v:=.agg (fK vB vB vB gZ ck1)) (results_cell_row Tryz.results37 _ _ w.heap.size 98 (fK vB vB vB gZ ck1) (0,0) _ rfl (ly _ _ _ _ _ _ (HZ2.out _)) Tryz.underlying98 rfl (sD vE _ _ _ _)) rfl ?_;exact⟨fun _=>⟨rfl,xL (HB2.out.alloc hs2 _) (t9 _) _⟩,fun h=>absurd h HK.out⟩
def zGS(iv cv rv:Value)(G:List Bool):Array Value := #[.bool true]++nE iv cv rv G
theorem zE5:(zGS iv cv rv G)[0]? = some (.bool true)/\(zGS iv cv rv G)[1]? = some iv/\(zGS iv cv rv G)[2]? = some cv/\(zGS iv cv rv G)[3]? = some rv/\∀k,k<G.length->(zGS iv cv rv G)[4+k]? = some (.bool (G.getD k false)):=by
 unfold zGS;obtain⟨h0,h1,h2⟩:=Kw iv cv rv G;refine⟨?_,?_,?_,?_,fun k hk=>?_⟩
 ·rw[Array.getElem?_append_left (by simp)];rfl
 ·rw[dw (by simp)];exact h0
 ·rw[dw (by simp)];exact h1
 ·rw[dw (by simp)];exact h2
 ·rw[dw (by simp;try omega)]
  have:=XL iv cv rv G k hk;rw[<-this];congr 1
  simp;try omega
structure Ba(w:World)(b:Nat)(F:List zF)(rs:List MX):Prop where
 there:∃iv cv rv,w.heap[b]? = some (.cells (zGS iv cv rv (xE (jI (xH F) F gZ))) 158 (0,0))/\gU w iv cv rv (yG F) (uI F) rs
 rul:rs.map Prod.fst=jN ((yG F).map yI.name) ((uI F).map Prod.fst) F
theorem Ba.below{b:Nat}{F:List zF}(h:Ba w b F rs)(hb:Below w.heap.size w w'):Ba w' b F rs:=by
 obtain⟨iv,cv,rv,h1,h2⟩:=h.there;exact⟨⟨iv,cv,rv,by rw[hb.block _ (yK h1)];exact h1,h2.below hb⟩,h.rul⟩
theorem Ba.base{b:Nat}{F:List zF}(h:Ba w b F rs):Fq w b (uI F):=by
 obtain⟨iv,cv,rv,h1,h2⟩:=h.there;obtain⟨a,c,e,hc⟩:=h2.con;obtain⟨g0,-,g2,-⟩:=zE5 iv cv rv (xE (jI (xH F) F gZ));refine⟨(zD h1 0).trans g0,a,c,?_,?_⟩
 ·rw[<-e];exact(zD h1 2).trans g2
 ·refine⟨fun h0=>?_,h2.few2⟩
  rcases hc with hc|⟨g,cs,fz,ha,hb,hcs⟩
  ·exfalso
   have:=(DJ (uI F) 0 h0).1;rw[hc]at this;simp at this
  ·refine⟨g,ha,fun i hi=>?_⟩
   obtain⟨p1,p2⟩:=DJ (uI F) i hi;have l1:=(List.getElem?_eq_some_iff.1 p1).1;have l2:=(List.getElem?_eq_some_iff.1 p2).1;exact⟨(zD hb _).trans ((hcs _ l1).trans p1),(zD hb _).trans ((hcs _ l2).trans p2)⟩
theorem VM(item:GS->Int × GS)(tok:Bs)(kind:Int)(hit:∀q,(item q).2.nd.length+2*q.s.1<=q.nd.length+2*(item q).2.s.1+1)(k:Nat):∀l q,(mY P item tok kind k l q).2.nd.length+2*q.s.1<=q.nd.length+2*(mY P item tok kind k l q).2.s.1:=by
 induction k with
 | zero=>intro l q;exact t9 _
 | succ k ih =>
   intro l q;have h1:=xN P tok q.s;rw[mY];split
   ·show q.nd.length+2*q.s.1<=q.nd.length+2*(zC P tok q.s).2.1;omega
   ·rename_i hsk
    have h2:=qU hsk;have h3:=ih ((item (q.to (zC P tok q.s).2)).2.nd.length:Nat) ((item (q.to (zC P tok q.s).2)).2.add ⟨kind,l,(item (q.to (zC P tok q.s).2)).1,[],[],[],0⟩);have h4:=hit (q.to (zC P tok q.s).2);have e1:(q.to (zC P tok q.s).2).s.1=(zC P tok q.s).2.1:=rfl;have e2:(q.to (zC P tok q.s).2).nd=q.nd:=rfl;have e3:((item (q.to (zC P tok q.s).2)).2.add ⟨kind,l,(item (q.to (zC P tok q.s).2)).1,[],[],[],0⟩).nd.length=(item (q.to (zC P tok q.s).2)).2.nd.length+1:=by simp[GS.add]
    have e4:((item (q.to (zC P tok q.s).2)).2.add ⟨kind,l,(item (q.to (zC P tok q.s).2)).1,[],[],[],0⟩).s=(item (q.to (zC P tok q.s).2)).2.s:=rfl;rw[e3,e4]at h3;rw[e1,e2]at h4;omega
theorem Ja(fact:GS->Int->Int × GS)(hf:∀q d,(fact q d).2.nd.length+2*q.s.1<=q.nd.length+2*(fact q d).2.s.1+1)(q:GS)(d:Int):(mO P fact q d).2.nd.length+2*q.s.1<=q.nd.length+2*(mO P fact q d).2.s.1+1:=by
 have h1:=hf q d;have h2:=VM P (fun q=>fact q d) yE 2 (fun q=>hf q d) P.length (fact q d).1 (fact q d).2;unfold mO;omega
theorem Fh(fact:GS->Int->Int × GS)(hf:∀q d,(fact q d).2.nd.length+2*q.s.1<=q.nd.length+2*(fact q d).2.s.1+1)(q:GS)(d:Int):(aY P fact q d).2.nd.length+2*q.s.1<=q.nd.length+2*(aY P fact q d).2.s.1+1:=by
 have h1:=Ja P fact hf q d;have h2:=VM P (fun q=>mO P fact q d) xW 1 (fun q=>Ja P fact hf q d) P.length (mO P fact q d).1 (mO P fact q d).2;unfold aY;omega
theorem qf(n:Nat):∀q d,(xF P n q d).2.nd.length+2*q.s.1<=q.nd.length+2*(xF P n q d).2.s.1+1:=by
 induction n with
 | zero=>intro q d;exact bm _
 | succ n ih =>
   intro q d;have h1:=xN P yY q.s;rw[xF];split
   ·rename_i hsk
    have h2:=qU hsk;have h3:=ih (q.to (zC P yY q.s).2) (d+1);have e1:(q.to (zC P yY q.s).2).s.1=(zC P yY q.s).2.1:=rfl;have e2:(q.to (zC P yY q.s).2).nd=q.nd:=rfl;rw[e1,e2]at h3;show ((xF P n (q.to (zC P yY q.s).2) (d+1)).2.nd++[_]).length+2*q.s.1<=q.nd.length+2*(xF P n (q.to (zC P yY q.s).2) (d+1)).2.s.1+1;rw[tq,pd];omega
   ·have h2:=xN P yQ (zC P yY q.s).2
    split
    ·have h3:=Fh P (xF P n) ih (q.to (zC P yQ (zC P yY q.s).2).2) (d+1)
     have e1:(q.to (zC P yQ (zC P yY q.s).2).2).s.1=(zC P yQ (zC P yY q.s).2).2.1:=rfl;have e2:(q.to (zC P yQ (zC P yY q.s).2).2).nd=q.nd:=rfl;rw[e1,e2]at h3;have h4:=qT P xS (aY P (xF P n) (q.to (zC P yQ (zC P yY q.s).2).2) (d+1)).2.s;show (aY P (xF P n) (q.to (zC P yQ (zC P yY q.s).2).2) (d+1)).2.nd.length+2*q.s.1<=q.nd.length+2*(zU P xS (aY P (xF P n) (q.to (zC P yQ (zC P yY q.s).2).2) (d+1)).2.s).1+1;omega
    ·have h3:=iB P (zC P yQ (zC P yY q.s).2).2
     show (q.nd++[_]).length+2*q.s.1<=q.nd.length+2*(vA P (zC P yQ (zC P yY q.s).2).2).2.1+1;rw[tq,pd];omega
theorem Gf(s:St):(vY P s).2.nd.length<=2*(vY P s).2.s.1+1:=by
 have:=Fh P (xF P P.length) (qf P P.length) ⟨s,[],0,0⟩ 0;have e:(vY P s)=aY P (xF P P.length) ⟨s,[],0,0⟩ 0:=rfl;rw[e];simp only[List.length_nil]at this;omega
theorem qe(s:St):(uH P s).1.nd.length<=2*(uH P s).2.1+1:=by
 unfold uH;split
 ·exact tr _
 ·split
  ·exact tr _
  ·split
   ·generalize (zC P [114,117,108,101] (zC P [102,108,97,103] (zC P [110,117,109] s).2).2).2=s3
    have h1:=Gf P (zU P xO (tQ P (zU P [61] (zI P (zU P [58] (zI P s3).2)).2)).2);have h2:=qT P [59] (vY P (zU P xO (tQ P (zU P [61] (zI P (zU P [58] (zI P s3).2)).2)).2)).2.s;exact tx h1 (by show _<=2*(zU P [59] (vY P (zU P xO (tQ P (zU P [61] (zI P (zU P [58] (zI P s3).2)).2)).2)).2.s).1+1;omega)
   ·exact tr _
theorem jb{ts:zG}{len:Nat}(zIW:fQ ts)(zIC:ts.length<=4000)(n:Nat):∀(i:Nat) (acc:List zF),i<=ts.length->(∀x∈acc,x.nd.length<=10000)->(pZ (pp ts len) n (i,false) acc).2.2=false->∀x∈(pZ (pp ts len) n (i,false) acc).1,x.nd.length<=10000:=by
 induction n with
 | zero=>intro i acc _ ha _ x hx;exact ha x hx
 | succ n ih =>
   intro i acc hi ha;rw[pZ];simp only;by_cases hk:(yW (pp ts len) i).k=0
   ·rw[tl hk];exact fun _ x hx=>ha x hx
   ·rw[tg hk]
    have hi':i<ts.length:=by
     rcases po i ts.length with h|h
     ·exact h
     ·exact absurd ((jq (len:=len) hi).2 (by omega)) hk
    have hL:=VQ (len:=len) zIW zIC hi';have hN:=qe (pp ts len) (i,false);generalize uH (pp ts len) (i,false)=r at hL hN ⊢;obtain⟨x,⟨j,f⟩⟩:=r;rcases hL with ⟨h1,h2⟩|⟨h1,h2,h3,_⟩
    ·simp only at h1;subst h1
     rw[DK];intro h;exact absurd (show true=false from h) (by decide)
    ·simp only at h1 h2 h3 hN;subst h1
     refine ih j (acc++[x]) h3 (fun y hy=>?_);rcases pt.1 hy with h|h
     ·exact ha y h
     ·rw[pu.1 h];omega
theorem zG1{l:Bs}(hl:l.length<=4000)(hf:(xZ l).2.2=false):∀x∈(xZ l).1,x.nd.length<=10000:=by
 have ht:(yR l 0).length<=4000:=tx (kY l 0) hl;exact jb (len:=l.length) (QX l) ht (2*(Z9 l).length+1) 0 [] (tr _) (by simp) hf
theorem zD4:zB9:=fun w a c ls h hn=>zH0 w a c ls h hn
end Go.Proofs.YtnbpdffdnphbeaaGreatDoor
