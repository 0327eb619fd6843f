import Derived.Deep.MidRow
import Derived.Test.YtnbpdffdnphbeabGreatDoorMMake3
open Go.Proofs.Tryz
set_option maxHeartbeats 2000000
set_option maxRecDepth 100000
namespace Go.Proofs.YtnbpdffdnphbeabGreatDoor
open Go.RowKit
variable{C:List (Bs × Nat)}{rs:List MX}{I:List yA}(iv:Value)(l:Bs)(cv:Value)(P:List PT)(rv:Value)(w:World)(G:List Bool)(k:Int)
def tR(iv cv rv:Value)(G:List Bool)(k:Int):Array Value:=cZ iv cv rv G ++ #[.int .i64 k]
def ZV(iv cv rv:Value)(G:List Bool)(k:Int):Obj:=.cells (tR iv cv rv G k) 129 (0,0)
abbrev xD:Value:=.slice none 0 0
theorem uL:(tR iv cv rv G k).size=4+G.length:=by unfold tR;rw[Array.size_append,lG];simp;omega
theorem fZ:zeroCells129=tR xD xD xD gZ 0:=by kernel_rfl
theorem Ip:prog.built 129 [(1,.int .i64 k)]=some (tR xD xD xD gZ k):=by kernel_rfl
theorem R7(h:G.length=64):prog.built 129 [(0,.agg (cZ iv cv rv G))]=some (tR iv cv rv G 0):=by
 have key:∀b:Nat->Bool,prog.built 129 [(0,.agg (cZ iv cv rv ((List.range 64).map b)))]=some (tR iv cv rv ((List.range 64).map b) 0):=λb=>by kernel_rfl
 rw[KR G h];exact key _
theorem cJ{G:List Bool}(h:G.length=64)(iv cv rv:Value)(k:Int):(prog.info? 129).map (·.size)=some (tR iv cv rv G k).size:=by rw[uL,h];kernel_rfl
theorem cX{iv cv rv:Value}(h0:iv.oneCell'=true)(h1:cv.oneCell'=true)(h2:rv.oneCell'=true)(G:List Bool)(k:Int):(tR iv cv rv G k).all (·.oneCell')=true:=by
 rw[Array.all_eq_true_iff_forall_mem];intro v hv;unfold tR at hv;rcases Array.mem_append.1 hv with h|h
 ·exact Array.all_eq_true_iff_forall_mem.1 (Vh h0 h1 h2 G) v h
 ·simp at h;subst h;rfl
theorem aM{iv cv rv:Value}{G:List Bool}(h:G.length=64)(k:Int):(tR iv cv rv G k)[67]? = some (.int .i64 k):=by
 unfold tR;rw[Array.getElem?_append_right (by rw[lG,h];exact tg _),lG,h];rfl
def lO(F:List zE)(w w':World)(e:Ending):Prop:=∃iv cv rv rs,e=.returned (.agg (tR iv cv rv (zT (qN (vQ F) F gZ)) 0))/\rs.map Prod.fst=uJ ((yC F).map yA.name) ((xR F).map Prod.fst) F/\lY w' iv cv rv (yC F) (xR F) rs/\Below w.heap.size w w'
theorem lY.one{w:World}{iv cv rv:Value}(h:lY w iv cv rv I C rs):iv.oneCell'=true/\cv.oneCell'=true/\rv.oneCell'=true:=by
 obtain⟨a,c,rfl,-⟩:=h.inp;obtain⟨a,c,rfl,-⟩:=h.r9;obtain⟨a,c,rfl,-⟩:=h.og;exact⟨rfl,rfl,rfl⟩
theorem lY.oq{w w':World}{iv cv rv:Value}(h:lY w iv cv rv I C rs)(hk:∀(t:TypeId) (g:Nat) (cs:Array Value) (fz:Nat × Nat),t≠129->t≠136->w.heap[g]? = some (Obj.cells cs t fz)->w'.heap[g]? = w.heap[g]?):lY w' iv cv rv I C rs:=by
 obtain⟨a1,c1,e1,h1⟩:=h.inp;obtain⟨a2,c2,e2,h2⟩:=h.r9;obtain⟨a3,c3,e3,h3⟩:=h.og;refine⟨⟨a1,c1,e1,h1.keep λg cs fz hg=>hk _ g cs fz (by decide) (by decide) hg⟩,⟨a2,c2,e2,h2.keep λg cs fz hg=>hk _ g cs fz (by decide) (by decide) hg⟩,⟨a3,c3,e3,h3.keep λg cs fz hg=>hk _ g cs fz (by decide) (by decide) hg⟩,λx hx=>?_,h.ek,h.ef,h.nh⟩;have hm:=h.rows x hx;obtain⟨a',c',h4,h5⟩:=hm.sum;obtain⟨bB,bA,h6,h7⟩:=hm.guard;exact⟨⟨a',c',h4,h5.keep λg cs fz hg=>hk _ g cs fz (by decide) (by decide) hg⟩,⟨bB,bA,h6,h7.keep λg cs fz hg=>hk _ g cs fz (by decide) (by decide) hg⟩,hm.ek,hm.ef⟩
theorem lY.below{w w':World}{iv cv rv:Value}(h:lY w iv cv rv I C rs)(hb:Below w.heap.size w w'):lY w' iv cv rv I C rs :=
 h.oq λ_ g _ _ _ _ hg=>hb.block g (zP hg)
theorem Jb(hk:k=1\/k=2)(p:Int)(hR:∀o,Calls prog 55 #[.string ⟨l.toArray⟩] (w.alloc o) λe w'=>e=.returned (jE (.slice none 0 0) k p)/\Below (w.alloc o).heap.size (w.alloc o) w') :
 Calls prog 50 #[.string ⟨l.toArray⟩] w λe w'=>e=.returned (.agg (tR xD xD xD gZ k))/\Below w.heap.size w w':=by
 have HR:=zA hR;have e1:(k != 0)=true:=by rcases hk with rfl|rfl <;> rfl
 clear hR hk
 go_enter func50,ntmps50
 go_wp2_with fail
 refine(HR.out _).mono ?_;rintro e w1 ⟨rfl,hb⟩;have HZ:Hid (w1.heap[w.heap.size]? = some (ZV xD xD xD gZ 0)):=by unfold Hid ZV;rw[hb.block _ (zY _ _),<-fZ];exact zF _ _
 have HB:Hid (Below w.heap.size w w1):=(fk (tg _) _).trans (hb.mono (p7 (zY _ _)));have hs:=tq (zY w _) hb.size;clear hb HR;unfold jE;have ag:Hid (∀o,(w1.alloc o).heap[w.heap.size]? = some (ZV xD xD xD gZ 0)):=λo=>yD HZ.out
 go_wp2_with (first
  | (refine wpList_buildTo rfl 129 #[(1,.tmp 11)] rfl (some 12) rfl (tR xD xD xD gZ k) (by rw[Array.toList_map];exact Ip k) ?_)
  | (refine wpList_store_row ?aA 129 (.tmp 2) (.tmp 12) ?ho w.heap.size (tR xD xD xD gZ k) ?hx ?hy 129 (tR xD xD xD gZ 0) (ag.out _) (cJ yX _ _ _ _) ?aC (cX rfl rfl rfl _ _) ?_
     case ho=>rfl
     case aA=>rfl
     case hx=>rfl
     case hy=>rfl
     case aC=>rw[uL,uL]))
 refine pe (v:=.agg (tR xD xD xD gZ k)) (results_cell_row results50 _ _ w.heap.size 129 (tR xD xD xD gZ k) (0,0) _ rfl (l9 _ _ _ _ (ag.out _)) underlying129 rfl (cJ yX _ _ _ _)) rfl ⟨rfl,yK (HB.out.alloc (p7 hs) _) (tg _) _⟩
def IY:Prop:=∀(w:World) (a:Option Addr) (c:Nat) (ls:List LX),tT w a ls->(∀x∈ls,x.1.nd.length<=10000)->Calls prog 64 #[.slice a ls.length c] w λe w'=>Y6 (fs ls) w w' e
theorem Oc(F:List zE)(w w':World)(e:Ending)(I:List yA)(C:List (Bs × Nat))(G:List Bool)(iv cv rv:Value)(rs:List MX)(h1:I=yC F)(h2:C=xR F)(h3:G=zT (qN (vQ F) F gZ))(h4:rs.map Prod.fst=uJ ((yC F).map yA.name) ((xR F).map Prod.fst) F)(h5:lY w' iv cv rv I C rs)(h6:Below w.heap.size w w')(h7:e=.returned (.agg (tR iv cv rv G 0))):lO F w w' e:=by
 unfold lO;rw[<-h3];rw[h1,h2]at h5;exact⟨iv,cv,rv,rs,h7,h4,h5,h6⟩
def Hu(F:List zE)(I:List yA)(C:List (Bs × Nat))(G:List Bool)(w w':World)(e:Ending):Prop:=∃iv cv rv rs,e=.returned (.agg (cZ iv cv rv G))/\rs.map Prod.fst=uJ ((yC F).map yA.name) ((xR F).map Prod.fst) F/\lY w' iv cv rv I C rs/\Below w.heap.size w w'
theorem K1(hl:l.length<=4000)(hf:(yZ l).2.2=false)(hg:∀x∈(yZ l).1,bG x)(hm:(yZ l).1.length<=10000)(hnd:∀x∈(yZ l).1,x.nd.length<=10000)(af:IY) :
 Calls prog 50 #[.string ⟨l.toArray⟩] w λe w'=>((uE (yZ l).1).1≠0->e=.returned (.agg (tR xD xD xD gZ (uE (yZ l).1).1))/\Below w.heap.size w w')/\((uE (yZ l).1).1=0->lO (yZ l).1 w w' e):=by
 have HR:=zA (λo=>lR l (w.alloc o) hl)
 have ah:Hid (∀w0 w' e,lP w0 w' l e->∃lv ls,e=.returned (jE lv 0 0)/\ls.map Prod.fst=(yZ l).1/\wV w' w0.heap.size lv ls):=by
  intro w0 w' e h;unfold lP at h;rw[hf]at h;exact h
 generalize (yZ l).1=F at *;have HG:=zA hg;have aj:=zA hm;have ai:=zA hnd;have ak:=zA af;clear hg hm hf hnd af;generalize ae:uE F=ck at *;have aq:=zA ae;clear ae;obtain⟨aD,a7⟩:=ck;simp only;obtain⟨G,hG⟩:∃G,G=zT (qN (vQ F) F gZ):=⟨_,rfl⟩;obtain⟨I,hI⟩:∃I,I=yC F:=⟨_,rfl⟩;obtain⟨C,hC⟩:∃C,C=xR F:=⟨_,rfl⟩;have aB:Hid (G.length=64):=by unfold Hid;rw[hG];unfold zT;rw[gW,mY];exact yX
 have bD:Hid (∀w' w'' e,Y6 F w' w'' e->Hu F I C G w' w'' e):=λw' w'' e h=>by unfold Hu;rw[hG,hI,hC];exact h
 have aQ:Hid (∀w' e iv cv rv rs,rs.map Prod.fst=uJ ((yC F).map yA.name) ((xR F).map Prod.fst) F->lY w' iv cv rv I C rs->Below w.heap.size w w'->e=.returned (.agg (tR iv cv rv G 0))->lO F w w' e):=λw' e iv cv rv rs h4 h5 h6 h7=>Oc F w w' e I C G iv cv rv rs hI hC hG h4 h5 h6 h7;clear hG hI hC
 go_enter func50,ntmps50
 go_wp2_with fail
 refine(HR.out _).mono ?_;rintro e w1 ⟨aL,hb⟩;obtain⟨lv,ls,rfl,aG,aN⟩:=ah.out _ _ _ aL;have HZ:Hid (w1.heap[w.heap.size]? = some (ZV xD xD xD gZ 0)):=by unfold Hid ZV;rw[hb.block _ (zY _ _),<-fZ];exact zF _ _
 have HB:Hid (Below w.heap.size w w1):=(fk (tg _) _).trans (hb.mono (p7 (zY _ _)));have hs:=tq (zY w _) hb.size;have a6:ls.length<=10000:=by have h9:=gk List.length aG;rw[pt]at h9;rw[h9];exact aj.out
 obtain⟨la,lc,rfl,aw,aS⟩:=Dz aN (λx hx=>HG.out _ (by rw[<-aG];exact pd.2 ⟨x,hx,rfl⟩)) a6
 have ao:Hid (∀o,Calls prog 56 #[.slice la ls.length lc] (w1.alloc o) λe w'=>e=.returned (cO (aD,a7))/\Below (w1.alloc o).heap.size (w1.alloc o) w'):=λo=>by
  have:=VG (w1.alloc o) la lc ls aw (aS.below (fk (tg _) o) (tg _));rw[show fs ls=F from aG,aq.out]at this;exact this
 have aO:Hid (∀w',Below w1.heap.size w1 w'->Calls prog 64 #[.slice la ls.length lc] w' λe w''=>Hu F I C G w' w'' e):=λw' az=>by
  have:=ak.out w' la lc ls (aS.below az (tg _)) (λx hx=>ai.out _ (by rw[<-aG];exact pd.2 ⟨x,hx,rfl⟩));rw[show fs ls=F from aG]at this;exact this.mono λe w'' h=>bD.out _ _ _ h
 clear hb aL aN aS aG HR ah HG aj aq ai ak;unfold jE;go_wp2_with fail
 refine(ao.out _).mono ?_;rintro e w2 ⟨rfl,aH⟩;have aV:Hid (∀o,(w2.alloc o).heap[w.heap.size]? = some (ZV xD xD xD gZ 0)):=λo=>yD (by rw[aH.block _ (by simp;omega)];exact yD HZ.out)
 have ar:Hid (∀o,Below w1.heap.size w1 ((w2.alloc o))):=λo=>by
  have h1:=((tl w1.heap.size w1).alloc (tg _) _).trans (aH.mono (by simp));exact h1.alloc h1.size o
 have q2:w2.cell? ⟨w1.heap.size,0,none⟩=some (.slice la ls.length lc):=by
  rw[aH.cell (p:=⟨w1.heap.size,0,none⟩) (zY _ _)];exact(zC (zF _ _) 0).trans rfl
 have bH:w1.heap.size<w2.heap.size:=tq (zY _ _) aH.size;have aP:Hid (Below w.heap.size w w2):=(HB.out.alloc (p7 hs) _).trans (aH.mono (by simp;omega));have aa:=aP.out.size;clear ao aH;unfold cO;by_cases k0:aD=0
 ·subst k0
  go_wp2_with fail
  refine(aO.out _ (ar.out _)).mono ?_;rintro e w3 ⟨iv,cv,rv,rs,rfl,aJ,aF,aT⟩;have aU:Hid (w3.heap[w.heap.size]? = some (ZV xD xD xD gZ 0)):=by unfold Hid;rw[aT.block _ (by simp;omega)];exact aV.out _
  have bF:Hid (Below w.heap.size w w3):=(aP.out.alloc aa _).trans (aT.mono (by simp;omega));have aY:=zA aF;have aW:=zA aJ;obtain⟨o1,o2,o3⟩:=aF.one;clear aT aF aJ aO
  go_wp2_with (first
   | (refine wpList_buildTo rfl 129 #[(0,.tmp 24)] rfl (some 25) rfl (tR iv cv rv G 0) (by rw[Array.toList_map];exact R7 iv cv rv _ aB.out) ?_)
   | (refine wpList_store_row ?aA 129 (.tmp 2) (.tmp 25) ?ho w.heap.size (tR iv cv rv G 0) ?hx ?hy 129 (tR xD xD xD gZ 0) aU.out (cJ aB.out _ _ _ _) ?aC (cX o1 o2 o3 _ _) ?_
      case ho=>rfl
      case aA=>rfl
      case hx=>rfl
      case hy=>rfl
      case aC=>rw[uL,uL,yX,aB.out]))
  have aZ:Hid (lY (w3.setRow w.heap.size (tR iv cv rv G 0)) iv cv rv I C rs):=aY.out.oq λt g cs fz h1 _ hg=>setRow_other _ _ _ _ (λe=>by
   subst e;have h8:=aU.out;unfold ZV at h8;rw[hg]at h8;simp only[bi,Obj.cells.injEq]at h8;exact h1 h8.2.1)
  refine pe (v:=.agg (tR iv cv rv G 0)) (results_cell_row results50 _ _ w.heap.size 129 (tR iv cv rv G 0) (0,0) _ rfl (l9 _ _ _ _ aU.out) underlying129 rfl (cJ aB.out _ _ _ _)) rfl ?_;exact aQ.out _ _ iv cv rv rs aW.out aZ.out (yK bF.out (tg _) _) rfl
 ·have b0:(aD != 0)=true:=by simpa using k0
  have HK:=zA k0;clear k0
  go_wp2_with (first
   | (refine wpList_buildTo rfl 129 #[(1,.tmp 20)] rfl (some 21) rfl (tR xD xD xD gZ aD) (by rw[Array.toList_map];exact Ip aD) ?_)
   | (refine wpList_store_row ?aA 129 (.tmp 2) (.tmp 21) ?ho w.heap.size (tR xD xD xD gZ aD) ?hx ?hy 129 (tR xD xD xD gZ 0) (aV.out _) (cJ yX _ _ _ _) ?aC (cX rfl rfl rfl _ _) ?_
      case ho=>rfl
      case aA=>rfl
      case hx=>rfl
      case hy=>rfl
      case aC=>rw[uL,uL]))
  refine pe (v:=.agg (tR xD xD xD gZ aD)) (results_cell_row results50 _ _ w.heap.size 129 (tR xD xD xD gZ aD) (0,0) _ rfl (l9 _ _ _ _ (aV.out _)) underlying129 rfl (cJ yX _ _ _ _)) rfl ?_;exact⟨λ_=>⟨rfl,yK (aP.out.alloc aa _) (tg _) _⟩,λh=>x' h HK.out⟩
def AP(iv cv rv:Value)(G:List Bool):Array Value := #[.bool true]++cZ iv cv rv G
theorem Bx(h:G.length=64):prog.built 136 [(0,.bool true),(1,.agg (cZ iv cv rv G))]=some (AP iv cv rv G):=by
 have key:∀b:Nat->Bool,prog.built 136 [(0,.bool true),(1,.agg (cZ iv cv rv ((List.range 64).map b)))]=some (AP iv cv rv ((List.range 64).map b)):=λb=>by kernel_rfl
 rw[KR G h];exact key _
structure K4(w:World)(b:Nat)(F:List zE)(rs:List MX):Prop where
 there:∃iv cv rv,w.heap[b]? = some (.cells (AP iv cv rv (zT (qN (vQ F) F gZ))) 136 (0,0))/\lY w iv cv rv (yC F) (xR F) rs
 og:rs.map Prod.fst=uJ ((yC F).map yA.name) ((xR F).map Prod.fst) F
theorem Fl(hk:k≠0)(hR:Calls prog 50 #[.string ⟨l.toArray⟩] w λe w'=>e=.returned (.agg (tR xD xD xD gZ k))/\Below w.heap.size w w') :
 Calls prog 27 #[.string ⟨l.toArray⟩,.bool false] w λe w'=>e=.returned (.tuple #[.pointer none,.int .i64 k])/\Below w.heap.size w w':=by
 have HR:=zA hR;have b0:(k != 0)=true:=by simpa using hk
 clear hR hk
 go_enter func27,ntmps27
 go_wp2_with fail
 refine HR.out.mono ?_;rintro e w1 ⟨rfl,hb⟩;have HB:=zA hb;have hs:=hb.size;clear hb HR;have aI:Hid ((w1.alloc (.cells zeroCells129 129)).heap[w1.heap.size]? = some (.cells zeroCells129 129 (0,0))):=zF _ _;have hM:((w1.alloc (.cells zeroCells129 129)).setRow w1.heap.size (tR xD xD xD gZ k)).heap[w1.heap.size]? = some (ZV xD xD xD gZ k):=l9 _ _ _ _ aI.out;have a8:((w1.alloc (.cells zeroCells129 129)).setRow w1.heap.size (tR xD xD xD gZ k)).cell? ⟨w1.heap.size,67,none⟩=some (.int .i64 k):=by unfold ZV at hM;exact(zC hM 67).trans (aM yX k)
 clear hM
 go_wp2_with (refine wpList_store_row ?aA 129 (.tmp 6) (.tmp 9) ?ho w1.heap.size (tR xD xD xD gZ k) ?hx ?hy 129 zeroCells129 aI.out (cJ yX _ _ _ _) ?aC (cX rfl rfl rfl _ _) ?_
              case ho=>rfl
              case aA=>rfl
              case hx=>rfl
              case hy=>rfl
              case aC=>rw[fZ,uL,uL])
 go_quiet (fail)
 go_wp2_with fail
 go_ret2
 exact⟨rfl,xQ (yK (HB.out.alloc hs _) hs _) _⟩
theorem BG(F:List zE)(hR:Calls prog 50 #[.string ⟨l.toArray⟩] w λe w'=>lO F w w' e) :
 Calls prog 27 #[.string ⟨l.toArray⟩,.bool false] w λe w'=>∃b,e=.returned (.tuple #[.pointer (some ⟨b,0,none⟩),.int .i64 0])/\(∃rs,K4 w' b F rs)/\Below w.heap.size w w':=by
 have HR:=zA hR;clear hR;obtain⟨G,hG⟩:∃G,G=zT (qN (vQ F) F gZ):=⟨_,rfl⟩;have aB:Hid (G.length=64):=by unfold Hid;rw[hG];unfold zT;rw[gW,mY];exact yX
 have aQ:Hid (∀w' e,lO F w w' e->∃iv cv rv rs,e=.returned (.agg (tR iv cv rv G 0))/\rs.map Prod.fst=uJ ((yC F).map yA.name) ((xR F).map Prod.fst) F/\lY w' iv cv rv (yC F) (xR F) rs/\Below w.heap.size w w'):=λw' e h=>by rw[hG];exact h
 have bE:Hid (∀w' b iv cv rv rs,w'.heap[b]? = some (.cells (AP iv cv rv G) 136 (0,0))->rs.map Prod.fst=uJ ((yC F).map yA.name) ((xR F).map Prod.fst) F->lY w' iv cv rv (yC F) (xR F) rs->K4 w' b F rs):=λw' b iv cv rv rs h1 h2 h3=>⟨⟨iv,cv,rv,by rw[<-hG];exact h1,h3⟩,h2⟩;clear hG
 go_enter func27,ntmps27
 go_wp2_with fail
 refine HR.out.mono ?_;rintro e w1 aL;obtain⟨iv,cv,rv,rs,rfl,aJ,aF,hb⟩:=aQ.out _ _ aL;obtain⟨o1,o2,o3⟩:=aF.one;have HB:=zA hb;have aY:=zA aF;have aW:=zA aJ;have hs:=hb.size;clear hb HR aL aF aJ aQ;have aI:Hid ((w1.alloc (.cells zeroCells129 129)).heap[w1.heap.size]? = some (.cells zeroCells129 129 (0,0))):=zF _ _;have HM:Hid (((w1.alloc (.cells zeroCells129 129)).setRow w1.heap.size (tR iv cv rv G 0)).heap[w1.heap.size]? = some (ZV iv cv rv G 0)):=l9 _ _ _ _ aI.out;have a8:((w1.alloc (.cells zeroCells129 129)).setRow w1.heap.size (tR iv cv rv G 0)).cell? ⟨w1.heap.size,67,none⟩=some (.int .i64 0):=by have h8:=HM.out;unfold ZV at h8;exact(zC h8 67).trans (aM aB.out 0)
 have bC:Hid (((w1.alloc (.cells zeroCells129 129)).setRow w1.heap.size (tR iv cv rv G 0)).rangeAt w1.heap.size 0 (cZ iv cv rv G).toList):=λj v hv=>by
  have h8:=HM.out;unfold ZV tR at h8;have hj:j<(cZ iv cv rv G).size:=by have:=(dl.1 hv).1;simpa using this
  rw[cw];refine(zC h8 j).trans ?_;rw[fg hj];rw[<-hv,da]
 have aP:Hid (∀o,Below w.heap.size w (((w1.alloc (.cells zeroCells129 129)).setRow w1.heap.size (tR iv cv rv G 0)).alloc o)):=λo=>(yK (HB.out.alloc hs _) hs _).alloc (by have:=(yK (HB.out.alloc hs (.cells zeroCells129 129)) hs (tR iv cv rv G 0)).size;exact this) o
 have aX:Hid (∀o,lY (((w1.alloc (.cells zeroCells129 129)).setRow w1.heap.size (tR iv cv rv G 0)).alloc o) iv cv rv (yC F) (xR F) rs):=λo=>by
  have h1:lY ((w1.alloc (.cells zeroCells129 129)).setRow w1.heap.size (tR iv cv rv G 0)) iv cv rv (yC F) (xR F) rs:=aY.out.oq λt g cs fz _ _ hg=>by
   have ay:=zP hg;rw[setRow_other _ _ _ _ (by omega)];exact(ld w1 g ay)
  exact h1.below (fk (tg _) o)
 go_wp2_with (first
  | (refine wpList_store_row ?aA 129 (.tmp 6) (.tmp 9) ?ho w1.heap.size (tR iv cv rv G 0) ?hx ?hy 129 zeroCells129 aI.out (cJ aB.out _ _ _ _) ?aC (cX o1 o2 o3 _ _) ?_
     case ho=>rfl
     case aA=>rfl
     case hx=>rfl
     case hy=>rfl
     case aC=>rw[fZ,uL,uL,yX,aB.out])
  | (refine wpList_load_mid ?aA 127 (.tmp 22) ?ho w1.heap.size 0 ?hx (cZ iv cv rv G).toList _ bC.out underlying127 rfl ?hi ?_
     case ho=>rfl
     case aA=>rfl
     case hx=>rfl
     case hi=>rw[Array.length_toList];exact aK aB.out _ _ _)
  | (refine wpList_buildTo rfl 136 #[(0,.const (.bool true)),(1,.tmp 23)] rfl (some 24) rfl (AP iv cv rv G) (by rw[Array.toList_map];exact Bx iv cv rv G aB.out) ?_))
 go_ret2
 exact⟨_,rfl,⟨rs,bE.out _ _ iv cv rv rs (uA _ _ _ (by unfold World.setRow;simp)) aW.out (aX.out _)⟩,aP.out _⟩
theorem UC(item:GS->Int × GS)(tok:Bs)(kind:Int)(ax:∀q,(item q).2.nd.length+2*q.s.1<=q.nd.length+2*(item q).2.s.1+1)(k:Nat):∀l q,(jK P item tok kind k l q).2.nd.length+2*q.s.1<=q.nd.length+2*(jK P item tok kind k l q).2.s.1:=by
 induction k with
 | zero=>intro l q;exact tg _
 | succ k ih =>
   intro l q;have h1:=xO P tok q.s;rw[jK];split
   ·show q.nd.length+2*q.s.1<=q.nd.length+2*(zD P tok q.s).2.1;omega
   ·rename_i aR
    have h2:=qL aR;have h3:=ih ((item (q.to (zD P tok q.s).2)).2.nd.length:Nat) ((item (q.to (zD P tok q.s).2)).2.add ⟨kind,l,(item (q.to (zD P tok q.s).2)).1,[],[],[],0⟩);have h4:=ax (q.to (zD P tok q.s).2);have e1:(q.to (zD P tok q.s).2).s.1=(zD P tok q.s).2.1:=rfl;have e2:(q.to (zD P tok q.s).2).nd=q.nd:=rfl;have e3:((item (q.to (zD P tok q.s).2)).2.add ⟨kind,l,(item (q.to (zD P tok q.s).2)).1,[],[],[],0⟩).nd.length=(item (q.to (zD P tok q.s).2)).2.nd.length+1:=(by simp[GS.add]);have e4:((item (q.to (zD P tok q.s).2)).2.add ⟨kind,l,(item (q.to (zD P tok q.s).2)).1,[],[],[],0⟩).s=(item (q.to (zD P tok q.s).2)).2.s:=rfl;rw[e3,e4]at h3;rw[e1,e2]at h4;omega
theorem JE(fact:GS->Int->Int × GS)(hf:∀q d,(fact q d).2.nd.length+2*q.s.1<=q.nd.length+2*(fact q d).2.s.1+1)(q:GS)(d:Int):(kR P fact q d).2.nd.length+2*q.s.1<=q.nd.length+2*(kR P fact q d).2.s.1+1:=by
 have h1:=hf q d;have h2:=UC P (λq=>fact q d) xW 2 (λq=>hf q d) P.length (fact q d).1 (fact q d).2;unfold kR;omega
theorem G8(fact:GS->Int->Int × GS)(hf:∀q d,(fact q d).2.nd.length+2*q.s.1<=q.nd.length+2*(fact q d).2.s.1+1)(q:GS)(d:Int):(dC P fact q d).2.nd.length+2*q.s.1<=q.nd.length+2*(dC P fact q d).2.s.1+1:=by
 have h1:=JE P fact hf q d;have h2:=UC P (λq=>kR P fact q d) tC 1 (λq=>JE P fact hf q d) P.length (kR P fact q d).1 (kR P fact q d).2;unfold dC;omega
theorem SX(n:Nat):∀q d,(yQ P n q d).2.nd.length+2*q.s.1<=q.nd.length+2*(yQ P n q d).2.s.1+1:=by
 induction n with
 | zero=>intro q d;exact my _
 | succ n ih =>
   intro q d;have h1:=xO P xE q.s;rw[yQ];split
   ·rename_i aR
    have h2:=qL aR;have h3:=ih (q.to (zD P xE q.s).2) (d+1);have e1:(q.to (zD P xE q.s).2).s.1=(zD P xE q.s).2.1:=rfl;have e2:(q.to (zD P xE q.s).2).nd=q.nd:=rfl;rw[e1,e2]at h3;show ((yQ P n (q.to (zD P xE q.s).2) (d+1)).2.nd++[_]).length+2*q.s.1<=q.nd.length+2*(yQ P n (q.to (zD P xE q.s).2) (d+1)).2.s.1+1;rw[tm,pu];omega
   ·have h2:=xO P yS (zD P xE q.s).2
    split
    ·have h3:=G8 P (yQ P n) ih (q.to (zD P yS (zD P xE q.s).2).2) (d+1)
     have e1:(q.to (zD P yS (zD P xE q.s).2).2).s.1=(zD P yS (zD P xE q.s).2).2.1:=rfl;have e2:(q.to (zD P yS (zD P xE q.s).2).2).nd=q.nd:=rfl;rw[e1,e2]at h3;have h4:=qK P vF (dC P (yQ P n) (q.to (zD P yS (zD P xE q.s).2).2) (d+1)).2.s;show (dC P (yQ P n) (q.to (zD P yS (zD P xE q.s).2).2) (d+1)).2.nd.length+2*q.s.1<=q.nd.length+2*(zR P vF (dC P (yQ P n) (q.to (zD P yS (zD P xE q.s).2).2) (d+1)).2.s).1+1;omega
    ·have h3:=iP P (zD P yS (zD P xE q.s).2).2
     show (q.nd++[_]).length+2*q.s.1<=q.nd.length+2*(xH P (zD P yS (zD P xE q.s).2).2).2.1+1;rw[tm,pu];omega
theorem x9(s:St):(vU P s).2.nd.length<=2*(vU P s).2.s.1+1:=by
 have:=G8 P (yQ P P.length) (SX P P.length) ⟨s,[],0,0⟩ 0;have e:(vU P s)=dC P (yQ P P.length) ⟨s,[],0,0⟩ 0:=rfl;rw[e];simp only[ge]at this;omega
theorem SY(s:St):(vP P s).1.nd.length<=2*(vP P s).2.1+1:=by
 unfold vP;split
 ·exact p8
 ·split
  ·exact p8
  ·split
   ·generalize (zD P [114,117,108,101] (zD P [102,108,97,103] (zD P [110,117,109] s).2).2).2=s3
    have h1:=x9 P (zR P xF (jS P (zR P [61] (zI P (zR P [58] (zI P s3).2)).2)).2);have h2:=qK P [59] (vU P (zR P xF (jS P (zR P [61] (zI P (zR P [58] (zI P s3).2)).2)).2)).2.s;exact tu h1 (by show _<=2*(zR P [59] (vU P (zR P xF (jS P (zR P [61] (zI P (zR P [58] (zI P s3).2)).2)).2)).2.s).1+1;omega)
   ·exact p8
theorem Ro{ts:yF}{len:Nat}(au:oW ts)(av:ts.length<=4000)(n:Nat):∀(i:Nat) (acc:List zE),i<=ts.length->(∀x∈acc,x.nd.length<=10000)->(jT (pp ts len) n (i,false) acc).2.2=false->∀x∈(jT (pp ts len) n (i,false) acc).1,x.nd.length<=10000:=by
 induction n with
 | zero=>intro i acc _ ha _ x hx;exact ha x hx
 | succ n ih =>
   intro i acc hi ha;rw[jT];simp only;by_cases hk:(yB (pp ts len) i).k=0
   ·rw[tr hk];exact λ_ x hx=>ha x hx
   ·rw[tj hk]
    have hi':i<ts.length:=by
     rcases mc i ts.length with h|h
     ·exact h
     ·exact x' ((Ev (len:=len) hi).2 (by omega)) hk
    have hL:=UH (len:=len) au av hi';have hN:=SY (pp ts len) (i,false);generalize vP (pp ts len) (i,false)=r at hL hN ⊢;obtain⟨x,⟨j,f⟩⟩:=r;rcases hL with ⟨h1,h2⟩|⟨h1,h2,h3,_⟩
    ·simp only at h1;subst h1
     rw[FY];intro h;exact M' (show true=false from h)
    ·simp only at h1 h2 h3 hN;subst h1
     refine ih j (acc++[x]) h3 (λy hy=>?_);rcases pj.1 hy with h|h
     ·exact ha y h
     ·rw[pr.1 h];omega
theorem Md{l:Bs}(hl:l.length<=4000)(hf:(yZ l).2.2=false):∀x∈(yZ l).1,x.nd.length<=10000:=by
 have ht:(xI l 0).length<=4000:=tu (oE l 0) hl;exact Ro (len:=l.length) (JB l) ht (2*(rB l).length+1) 0 [] (p8) (by simp) hf
theorem FT:IY:=λw a c ls h hn=>Lw w a c ls h hn
end Go.Proofs.YtnbpdffdnphbeabGreatDoor
