import Derived.Test.YtnbpdffdnphbeaaGreatDoorRgLinks
import Derived.Test.YtnbpdffdnphbeaaGreatDoorRfBase
import Derived.Laws.IdiomStrings
set_option maxHeartbeats 2000000
set_option maxRecDepth 100000
namespace Go.Proofs.YtnbpdffdnphbeaaGreatDoor
open Go.RowKit
def dC(w:World)(a:Option Addr)(xs:List Value):Prop:=xs=[]\/∃g,a=some ⟨g,0,none⟩/\∀j,j<xs.length->w.cell? ⟨g,j,none⟩=xs[j]?
theorem dC.below{w w':World}{a:Option Addr}{xs:List Value}(h:dC w a xs)(hb:Below w.heap.size w w'):dC w' a xs:=by
 rcases h with h|⟨g,h1,h2⟩
 ·exact .inl h
 ·refine .inr ⟨g,h1,fun j hj=>?_⟩
  have h3:=h2 j hj;rw[List.getElem?_eq_getElem hj]at h3;rw[hb.cell (p:=⟨g,j,none⟩) (yT h3),h3,List.getElem?_eq_getElem hj]
theorem dC.at{w:World}{a:Option Addr}{xs:List Value}(h:dC w a xs){j:Nat}{v:Value}(hj:xs[j]? = some v):∃g,a=some ⟨g,0,none⟩/\w.cell? ⟨g,j,none⟩=some v:=by
 rcases h with h|⟨g,h1,h2⟩
 ·rw[h]at hj;simp at hj
 ·exact⟨g,h1,(h2 j (List.getElem?_eq_some_iff.1 hj).1).trans hj⟩
theorem Y5{w:World}{B k n:Nat}{t:TypeId}{v:Value}{xs:List Value}(h:w.ownsRow B t k v n xs):∃a c,v=.slice a n c/\dC w a xs/\n<=c/\c<=maxLen:=by
 have hl:=h.1;rcases h.2 with ⟨h1,h2⟩|⟨g,cap,yO,h1,_,h3,h4,h5,_,h7⟩
 ·refine⟨none,0,by rw[h1,h2],.inl (List.eq_nil_of_length_eq_zero (by rw[hl,h2,Nat.zero_mul])),by omega,Nat.zero_le _⟩
 ·exact⟨some ⟨g,0,none⟩,cap,h1,.inr ⟨g,rfl,fun j hj=>by
   have:=List.getElem?_eq_getElem hj;rw[this];exact xQ h3 (n:=n*k) h7 this⟩,h4,h5⟩
theorem yQ{α:Type}(f:α->List Value)(k:Nat)(hf:∀x,(f x).length=k)(d:α)(L:List α):∀i r,i<L.length->r<k->(L.flatMap f)[i*k+r]? = (f (L.getD i d))[r]? := by
 induction L with
 | nil=>intro i r h;simp at h
 | cons x L ih =>
   intro i r hi hr;rw[List.flatMap_cons]
   cases i with
   | zero=>rw[Nat.zero_mul,Nat.zero_add,List.getElem?_append_left (by rw[hf];exact hr)];rfl
   | succ i =>
     rw[List.getElem?_append_right (by rw[hf];rw[Nat.succ_mul];omega),hf,show (i+1)*k+r-k=i*k+r by rw[Nat.succ_mul];omega,ih i r (by simpa using hi) hr];rfl
theorem oA{α:Type}(f:α->List Value)(k:Nat)(hf:∀x,(f x).length=k)(L:List α):(L.flatMap f).length=L.length*k:=by
 induction L with
 | nil=>simp
 | cons x L ih=>rw[List.flatMap_cons,List.length_append,hf,ih,List.length_cons,Nat.succ_mul,Nat.add_comm]
def kG(w:World)(t:TypeId)(a:Option Addr)(xs:List Value):Prop:=xs=[]\/∃g cs fz,a=some ⟨g,0,none⟩/\w.heap[g]? = some (.cells cs t fz)/\∀j,j<xs.length->cs[j]? = xs[j]?
theorem kG.cel{w:World}{t:TypeId}{a:Option Addr}{xs:List Value}(h:kG w t a xs):dC w a xs:=by
 rcases h with h|⟨g,cs,fz,h1,h2,h3⟩
 ·exact .inl h
 ·exact .inr ⟨g,h1,fun j hj=>(zF h2 j).trans (h3 j hj)⟩
theorem jG{w:World}{B k n:Nat}{t:TypeId}{v:Value}{xs:List Value}(h:w.ownsRow B t k v n xs):∃a c,v=.slice a n c/\kG w t a xs:=by
 have hl:=h.1;rcases h.2 with ⟨h1,h2⟩|⟨g,cap,yO,h1,_,h3,h4,h5,_,h7⟩
 ·exact⟨none,0,by rw[h1,h2],.inl (List.eq_nil_of_length_eq_zero (by rw[hl,h2,Nat.zero_mul]))⟩
 ·exact⟨some ⟨g,0,none⟩,cap,h1,.inr ⟨g,yO,_,rfl,h3,fun j hj=>by
   rw[<-h7,List.getElem?_take,if_pos (by rw[<-hl];exact hj),Array.getElem?_toList]⟩⟩
theorem kG.keep{w w':World}{t:TypeId}{a:Option Addr}{xs:List Value}(h:kG w t a xs)(hk:∀(g:Nat) (cs:Array Value) (fz:Nat × Nat),w.heap[g]? = some (Obj.cells cs t fz)->w'.heap[g]? = w.heap[g]?):kG w' t a xs:=by
 rcases h with h|⟨g,cs,fz,h1,h2,h3⟩
 ·exact .inl h
 ·exact .inr ⟨g,cs,fz,h1,by rw[hk g cs fz h2];exact h2,h3⟩
theorem kG.below{w w':World}{t:TypeId}{a:Option Addr}{xs:List Value}(h:kG w t a xs)(hb:Below w.heap.size w w'):kG w' t a xs :=
 h.keep fun g _ _ hg=>hb.block g (yD hg)
theorem kG.grown{w w':World}{t e:TypeId}{B k n:Nat}{v:Value}{ys:List Value}{a:Option Addr}{xs:List Value}(h:kG w t a xs)(zG0:w.ownsRow B e k v n ys)(zG7:t≠e)(hg:w.grownBy w' v.ownBlock):kG w' t a xs :=
 h.keep fun g cs fz hgg=>hg.block g (yD hgg) (fun e1=>by
  rcases zG0.2 with ⟨k1,_⟩|⟨g',cap,yO,k1,_,k3,_⟩
  ·rw[k1]at e1;simp[Value.ownBlock]at e1
  ·rw[k1]at e1;simp[Value.ownBlock]at e1
   subst e1;rw[hgg]at k3;simp only[Option.some.injEq,Obj.cells.injEq]at k3;exact zG7 k3.2.1)
theorem kG.set{w:World}{t:TypeId}{a:Option Addr}{xs:List Value}(h:kG w t a xs){b j:Nat}{u:Value}{cs:Array Value}{t':TypeId}{fz:Nat × Nat}(hb:w.heap[b]? = some (.cells cs t' fz))(zG7:t≠t'):kG (w.setCell ⟨b,j,none⟩ u) t a xs :=
 h.keep fun g cs' fz' hg=>Below.heap_setCell _ _ _ _ (fun e=>by
  subst e;rw[hb]at hg;simp only[Option.some.injEq,Obj.cells.injEq]at hg;exact zG7 hg.2.1.symm)
theorem uZ(w:World)(o:Obj)(H:Nat)(hH:w.heap.size=H):(w.alloc o).heap[H]? = some o:=by subst hH;exact zS _ _
structure lD where
 kind:Int
 left:Int
 right:Int
 place:Int
 two:Bool
 other:Int
 num:Int
 less:Bool
 equal:Bool
 more:Bool
def pT(x:lD):List Value:=[.int .i64 x.kind,.int .i64 x.left,.int .i64 x.right,.int .i64 x.place,.bool x.two,.int .i64 x.other,.int .i64 x.num,.bool x.less,.bool x.equal,.bool x.more]
def oN(x:lD):Value:=.agg #[.int .i64 x.kind,.int .i64 x.left,.int .i64 x.right,.int .i64 x.place,.bool x.two,.int .i64 x.other,.int .i64 x.num,.bool x.less,.bool x.equal,.bool x.more]
structure cS where
 kind:Int
 num:Int
 place:Int
def bM(x:cS):List Value:=[.int .i64 x.kind,.int .i64 x.num,.int .i64 x.place]
def yz:cS:=⟨0,0,0⟩
def Km:lD:=⟨0,0,0,0,false,0,0,false,false,false⟩
structure rK where
 label:Bs
 conc:Int
 sum:List cS
 guard:List lD
 root:Int
abbrev MX:=rK × Value × Value
def oM(x:MX):Value:=.agg #[.string ⟨x.1.label.toArray⟩,.int .i64 x.1.conc,x.2.1,x.2.2,.int .i64 x.1.root]
def nC(x:MX):List Value:=[.string ⟨x.1.label.toArray⟩,.int .i64 x.1.conc,x.2.1,x.2.2,.int .i64 x.1.root]
structure mF(w:World)(x:MX):Prop where
 sum:∃a c,x.2.1=.slice a x.1.sum.length c/\kG w 321 a (x.1.sum.flatMap bM)
 guard:∃a c,x.2.2=.slice a x.1.guard.length c/\kG w 324 a (x.1.guard.flatMap pT)
 few1:x.1.sum.length<=10000
 few2:x.1.guard.length<=10000
theorem mF.below{w w':World}{x:MX}(h:mF w x)(hb:Below w.heap.size w w'):mF w' x:=by
 obtain⟨a,c,h1,h2⟩:=h.sum;obtain⟨a',c',h3,h4⟩:=h.guard;exact⟨⟨a,c,h1,h2.below hb⟩,⟨a',c',h3,h4.below hb⟩,h.few1,h.few2⟩
structure yU where
 name:Bs
 isFlag:Bool
 low:Int
 high:Int
def CH(x:yU):Value:=.agg #[.string ⟨x.name.toArray⟩,.bool x.isFlag,.int .i64 x.low,.int .i64 x.high]
def qY(x:yU):List Value:=[.string ⟨x.name.toArray⟩,.bool x.isFlag,.int .i64 x.low,.int .i64 x.high]
def ZZ:yU:=⟨[],false,0,0⟩
def gJ(x:zH):yU:=if x.kind=1 then ⟨x.name,false,x.low,x.high⟩ else ⟨x.name,true,0,0⟩
def fH:List zH->List yU->List yU
 | [],acc=>acc
 | x::r,acc=>fH r (if x.kind=1\/x.kind=2 then acc++[gJ x] else acc)
def yJ(ls:List zH):List yU:=fH ls []
def zU(ls:List zH):List Bs:=(yJ ls).map yU.name
theorem BB(ls:List zH)(i:Nat)(acc:List yU)(h:i<ls.length):fH (ls.drop i) acc=fH (ls.drop (i+1)) (if (lA ls i).kind=1\/(lA ls i).kind=2 then acc++[gJ (lA ls i)] else acc):=by
 rw[List.drop_eq_getElem_cons h,fH];simp[lA,List.getD,h]
def Uk(ins:List Bs)(x:xC):Int:=if x.name=[] then 1 else if zM ins x.name<0 then 3 else 2
def jd(ins cs:List Bs)(x:xC):Int:=if x.name=[] then 0 else if zM ins x.name<0 then zM cs x.name else zM ins x.name
def Uj(x:xC):Int:=if x.name=[] then x.num else if x.starred then x.num else 1
def uQ(ins cs:List Bs)(x:xC):cS:=⟨Uk ins x,if x.minus then -Uj x else Uj x,jd ins cs x⟩
def je(ins cs:List Bs)(x:yB):Int:=if x.kind=5 then zM cs x.name else if x.kind=6\/x.kind=7 then zM ins x.name else 0
def zF5(ins:List Bs)(x:yB):Int:=if x.other=[] then 0 else zM ins x.other
def CM(m:Bs):Bool:=decide (m=[60]\/m=[60,61]\/m=[33,61])
def JF(m:Bs):Bool:=decide (m=[60,61]\/m=[61]\/m=[62,61])
def CL(m:Bs):Bool:=decide (m=[62]\/m=[62,61]\/m=[33,61])
def bY(ins cs:List Bs)(x:yB):lD:=⟨x.kind,x.left,x.right,je ins cs x,decide (x.other≠[]),zF5 ins x,x.num,CM x.mark,JF x.mark,CL x.mark⟩
def tK(ins cs:List Bs)(x:zH):rK:=⟨x.name,zM cs x.conc,x.sum.map (uQ ins cs),x.nd.map (bY ins cs),x.root⟩
def nB(ins cs:List Bs):List zH->List rK->List rK
 | [],acc=>acc
 | x::r,acc=>nB ins cs r (if x.kind=3 then acc++[tK ins cs x] else acc)
def pQ(ins cs:List Bs)(ls:List zH):List rK:=nB ins cs ls []
theorem K2(ins cs:List Bs)(ls:List zH)(i:Nat)(acc:List rK)(h:i<ls.length):nB ins cs (ls.drop i) acc=nB ins cs (ls.drop (i+1)) (if (lA ls i).kind=3 then acc++[tK ins cs (lA ls i)] else acc):=by
 rw[List.drop_eq_getElem_cons h,nB];simp[lA,List.getD,h]
theorem D3(ins cs:List Bs)(ls:List zH):∀acc,nB ins cs ls acc=acc++(ls.filter fun x=>decide (x.kind=3)).map (tK ins cs):=by
 induction ls with
 | nil=>intro acc;simp[nB]
 | cons x r ih=>intro acc;rw[nB,ih];by_cases h:x.kind=3 <;> simp[h]
theorem Vl(ls:List zH):∀acc,fH ls acc=acc++(ls.filter fun x=>decide (x.kind=1\/x.kind=2)).map gJ:=by
 induction ls with
 | nil=>intro acc;simp[fH]
 | cons x r ih=>intro acc;rw[fH,ih];by_cases h:x.kind=1\/x.kind=2 <;> simp[h]
theorem BC(x:zH):(gJ x).name=x.name:=by unfold gJ;split <;> rfl
theorem fI(ls:List zH):zU ls=(ls.filter fun x=>decide (x.kind=1\/x.kind=2)).map zH.name:=by
 unfold zU yJ;rw[Vl,List.nil_append,List.map_map];congr 1;funext x;exact BC x
theorem kx(w:World)(a:Option Addr)(c:Nat)(ls:List LX)(h:pB w a ls) :
 Calls Tryz.prog 117 #[.slice a ls.length c] w fun e w'=>e=.returned (.agg (gC (yZ (qG (xA (fs ls)) (fs ls) gZ))))/\Below w.heap.size w w':=by
 have HO:=zA (fun o=>Dg (w.alloc o) a c ls (h.below ((Below.refl _ _).alloc (Nat.le_refl _) o) (Nat.le_refl _)));have HGL:Hid ((qG (xA (fs ls)) (fs ls) gZ).length=64):=by unfold Hid;rw[lK];exact xP
 clear h;generalize qG (xA (fs ls)) (fs ls) gZ=Go at *;have HCL:Hid ((yZ Go).length=64):=by unfold Hid yZ;rw[rU];exact HGL.out
 have HCh:=zA (fun w' g (hg:iT w' g Go)=>VG w' g Go hg);generalize yZ Go=Gc at *
 go_enter Tryz.func117,Tryz.ntmps117
 go_wp2_with fail
 refine(HO.out _).mono ?_;rintro e w1 ⟨rfl,hb1⟩;have hz1:w1.heap[w.heap.size]? = some (.cells (gC gZ) 94 (0,0)):=by rw[hb1.block _ (zD _ _)];exact zS _ _
 have hs1:=Nat.lt_of_lt_of_le (zD w _) hb1.size;have HB1:Hid (Below w.heap.size w w1):=((Below.refl _ _).alloc (Nat.le_refl _) _).trans (hb1.mono (Nat.le_of_lt (zD _ _)));have HZ1:=zA hz1;clear hb1 hz1 HO
 go_wp2_with (refine wpList_store_row ?zGB 94 (.tmp 3) (.tmp 5) ?ho w1.heap.size (gC Go) ?hx ?hy 94 (gC gZ) (zS w1 _) (jL HGL.out) ?zGE (bS Go) ?_
              case ho=>rfl
              case zGB=>rfl
              case hx=>rfl
              case hy=>rfl
              case zGE=>rw[uR,uR,xP,HGL.out])
 refine(HCh.out _ w1.heap.size ⟨setRow_heap _ _ (gC gZ) _ _ _ (zS w1 _),HGL.out⟩).mono ?_;rintro e w2 ⟨rfl,hb2⟩;have HBm:Hid (Below w.heap.size w ((w1.alloc (.cells (gC gZ) 94 (0,0))).setRow w1.heap.size (gC Go))):=xX (HB1.out.alloc (Nat.le_of_lt hs1) _) (Nat.le_of_lt hs1) _;have zG8:((w1.alloc (.cells (gC gZ) 94 (0,0))).setRow w1.heap.size (gC Go)).heap.size=w1.heap.size+1:=by unfold World.setRow;simp
 have HB2:Hid (Below w.heap.size w w2):=HBm.out.trans (hb2.mono (by rw[zG8];omega))
 have HZ2:Hid (w2.heap[w.heap.size]? = some (.cells (gC gZ) 94 (0,0))):=by
  unfold Hid;rw[hb2.block _ (by rw[zG8];omega),setRow_other _ _ _ _ (by omega)];exact zQ HZ1.out
 clear hb2 HBm zG8 HCh
 go_wp2_with (refine wpList_store_row ?zGB 94 (.tmp 2) (.tmp 6) ?ho w.heap.size (gC Gc) ?hx ?hy 94 (gC gZ) HZ2.out (jL HCL.out) ?zGE (bS Gc) ?_
              case ho=>rfl
              case zGB=>rfl
              case hx=>rfl
              case hy=>rfl
              case zGE=>rw[uR,uR,xP,HCL.out])
 refine bodyPost_ret (v:=.agg (gC Gc)) (results_cell_row Tryz.results117 _ _ w.heap.size 94 (gC Gc) (0,0) _ rfl (setRow_heap _ _ (gC gZ) _ _ _ HZ2.out) Tryz.underlying94 rfl (jL HCL.out)) rfl ⟨rfl,xX HB2.out (Nat.le_refl _) _⟩
theorem BX(w:World)(s:Bs):∃wc cap,(convert 9 224 (.string ⟨s.toArray⟩)).run Tryz.prog w=.ok (.slice (some ⟨w.heap.size,0,none⟩) s.length cap) wc/\(convert 224 9 (.slice (some ⟨w.heap.size,0,none⟩) s.length cap)).run Tryz.prog wc=.ok (.string ⟨s.toArray⟩) wc/\Below w.heap.size w wc:=by
 have h1:=run_bytes_of_string (P:=Tryz.prog) w 9 224 5 ⟨s.toArray⟩ Tryz.underlying9 Tryz.underlying224 Tryz.underlying5;have zG8:(⟨s.toArray⟩:ByteArray).size=s.length:=by simp[ByteArray.size]
 rw[zG8]at h1;generalize grownCap w s.length 0 5=cap at h1;refine⟨_,cap,h1,?_,?_⟩
 ·refine run_convert_bytes_back (P:=Tryz.prog) _ 224 9 5 ⟨w.heap.size,0,none⟩ cap s Tryz.underlying224 Tryz.underlying5 Tryz.underlying9 (fun j hj=>?_)
  have h2:=zF (zS w.drew (.cells (bytesRow ⟨s.toArray⟩ cap) 5 ((bytesRow ⟨s.toArray⟩ cap).size,(bytesRow ⟨s.toArray⟩ cap).size+1))) j
  have h3:(bytesRow ⟨s.toArray⟩ cap)[j]? = some (.int .u8 (s[j].toNat:Int)):=by
   unfold bytesRow;rw[Array.getElem?_append_left (by simpa using hj)];simp[hj]
  rw[h3]at h2;have e:(⟨w.heap.size,0,none⟩:Addr).add j=⟨w.heap.size,j,none⟩:=by simp[Addr.add];omega
  rw[e];exact h2
 ·exact(yE (Below.refl w.heap.size w) 1).alloc (Nat.le_refl _) _
theorem C8(w:World)(s:Bs):Calls Tryz.prog 119 #[.string ⟨s.toArray⟩] w fun e w'=>e=.returned (.string ⟨s.toArray⟩)/\Below w.heap.size w w':=by
 obtain⟨wc,cap,kc1,kc2,hbc⟩:=BX w s;have HB:=zA hbc;clear hbc
 go_enter Tryz.func119,Tryz.ntmps119
 go_wp2_with fail
 go_ret
 exact⟨rfl,HB.out⟩
theorem xd(ls:List zH):(vR ls).length<=(zI ls).length:=by
 have key:∀(S:List Nat) (hd:List Bs) (i:Nat) (acc:List (Bs × Nat)),(eD S hd i acc).length<=acc.length+hd.length:=by
  intro S hd
  induction hd with
  | nil=>intro i acc;simp[eD]
  | cons n r ih=>intro i acc;rw[eD];have:=ih (i+1) (if i<8 then acc++[(n,S.getD i 0)] else acc);split at this <;> simp at this ⊢ <;> split <;> omega
 have:=key (pF (kE (zI ls) ls gZ)) (zI ls) 0 [];unfold vR;simpa using this
theorem BE(ls:List zH):(zI ls).length<=ls.length:=by
 have key:∀(ls:List zH) (acc:List Bs),(uO ls acc).length<=acc.length+ls.length:=by
  intro ls
  induction ls with
  | nil=>intro acc;simp[uO]
  | cons x r ih=>intro acc;rw[uO];have:=ih (if x.kind=3/\zM acc x.conc<0 then acc++[x.conc] else acc);split at this <;> simp at this ⊢ <;> split <;> omega
 have:=key ls [];unfold zI;simpa using this
def fT(iv cv rv:Value)(G:List Bool):Array Value := #[iv,cv,rv]++gC G
def dK(iv cv rv:Value)(G:List Bool):Obj:=.cells (fT iv cv rv G) 96 (0,0)
theorem cG(iv cv rv:Value)(G:List Bool):(fT iv cv rv G).size=3+G.length:=by unfold fT;rw[Array.size_append,uR];rfl
theorem KO(iv cv rv:Value)(G:List Bool)(k:Nat)(hk:k<G.length):(fT iv cv rv G)[3+k]? = some (.bool (G.getD k false)):=by
 unfold fT gC;rw[Array.getElem?_append_right (by simp)];simp[List.getD,hk]
theorem CK(iv cv rv:Value)(G:List Bool):(fT iv cv rv G)[0]? = some iv/\(fT iv cv rv G)[1]? = some cv/\(fT iv cv rv G)[2]? = some rv:=by
 unfold fT;refine⟨?_,?_,?_⟩ <;> rw[Array.getElem?_append_left (by simp)] <;> rfl
theorem mH{w:World}{b:Nat}{iv cv rv:Value}{G:List Bool}(h:w.heap[b]? = some (dK iv cv rv G)):w.cell? ⟨b,0,none⟩=some iv/\w.cell? ⟨b,1,none⟩=some cv/\w.cell? ⟨b,2,none⟩=some rv/\(∀k,k<G.length->w.cell? ⟨b,3+k,none⟩=some (.bool (G.getD k false)))/\∀j,w.frozen? ⟨b,j,none⟩=false:=by
 unfold dK at h;obtain⟨h0,h1,h2⟩:=CK iv cv rv G;exact⟨(zF h 0).trans h0,(zF h 1).trans h1,(zF h 2).trans h2,fun k hk=>(zF h _).trans (KO iv cv rv G k hk),fun j=>by simp[World.frozen?,h]⟩
theorem CJ{w:World}{b:Nat}{iv cv rv v:Value}{G:List Bool}(h:w.heap[b]? = some (dK iv cv rv G)):(w.setCell ⟨b,0,none⟩ v).heap[b]? = some (dK v cv rv G):=by
 unfold dK at h ⊢;rw[heap_setCell_same w b 0 _ _ _ h];congr 2;unfold fT;rw[Array.setIfInBounds_append,if_pos (by simp)];rfl
theorem zAU{w:World}{b:Nat}{iv cv rv v:Value}{G:List Bool}(h:w.heap[b]? = some (dK iv cv rv G)):(w.setCell ⟨b,1,none⟩ v).heap[b]? = some (dK iv v rv G):=by
 unfold dK at h ⊢;rw[heap_setCell_same w b 1 _ _ _ h];congr 2;unfold fT;rw[Array.setIfInBounds_append,if_pos (by simp)];rfl
theorem zAT{w:World}{b:Nat}{iv cv rv v:Value}{G:List Bool}(h:w.heap[b]? = some (dK iv cv rv G)):(w.setCell ⟨b,2,none⟩ v).heap[b]? = some (dK iv cv v G):=by
 unfold dK at h ⊢;rw[heap_setCell_same w b 2 _ _ _ h];congr 2;unfold fT;rw[Array.setIfInBounds_append,if_pos (by simp)];rfl
theorem J2(G:List Bool)(h:G.length=64):G=(List.range 64).map (fun i=>G.getD i false):=by
 apply List.ext_getElem?
 intro i;by_cases hi:i<64
 ·simp[hi,List.getD,h]
 ·rw[List.getElem?_eq_none (by omega),List.getElem?_eq_none (by simp;omega)]
theorem DZ(G:List Bool)(h:G.length=64):Tryz.prog.built 96 [(3,.agg (gC G))]=some (fT (.slice none 0 0) (.slice none 0 0) (.slice none 0 0) G):=by
 have key:∀b:Nat->Bool,Tryz.prog.built 96 [(3,.agg (gC ((List.range 64).map b)))]=some (fT (.slice none 0 0) (.slice none 0 0) (.slice none 0 0) ((List.range 64).map b)):=fun b=>by kernel_rfl
 rw[J2 G h];exact key _
theorem zBI(G:List Bool):∀v∈gC G,v.oneCell'=true:=by
 intro v hv;have:=Array.all_eq_true_iff_forall_mem.1 (bS G) v hv;exact this
theorem JE{iv cv rv:Value}(h0:iv.oneCell'=true)(h1:cv.oneCell'=true)(h2:rv.oneCell'=true)(G:List Bool):(fT iv cv rv G).all (·.oneCell')=true:=by
 rw[Array.all_eq_true_iff_forall_mem];intro v hv;unfold fT at hv;rcases Array.mem_append.1 hv with h|h
 ·simp at h;rcases h with rfl|rfl|rfl <;> assumption
 ·exact zBI G v h
theorem wX{G:List Bool}(h:G.length=64)(iv cv rv:Value):(Tryz.prog.info? 96).map (·.size)=some (fT iv cv rv G).size:=by rw[cG,h];kernel_rfl
theorem KN:Tryz.zeroCells96=fT (.slice none 0 0) (.slice none 0 0) (.slice none 0 0) gZ:=by kernel_rfl
theorem xe(L:List (Bs × Nat))(i:Nat)(h:i<L.length):Yq (L.take (i+1))=Yq (L.take i)++[.string ⟨(L.getD i ([],0)).1.toArray⟩,.int .i64 ((L.getD i ([],0)).2:Nat)]:=by
 have:L.take (i+1)=L.take i++[L.getD i ([],0)]:=by rw[List.take_add_one];simp[List.getD,h]
 rw[this,KR]
theorem wK(w:World)(B:Nat)(t:TypeId)(k:Nat):w.ownsRow B t k (.slice none 0 0) 0 []:=⟨by simp,.inl ⟨rfl,rfl⟩⟩
theorem Yk(w:World)(b o:Nat)(ia:Option Addr)(ic:Nat)(L:List yU)(nm:Bs)(hm:w.cell? ⟨b,o,none⟩=some (.slice ia L.length ic))(hc:dC w ia (L.flatMap qY))(hf:L.length<=10000) :
 Calls Tryz.prog 177 #[.pointer (some ⟨b,o,none⟩),.string ⟨nm.toArray⟩] w fun e w'=>e=.returned (.int .i64 (zM (L.map yU.name) nm))/\Below w.heap.size w w':=by
 have HC:=zA hc;clear hc
 go_enter Tryz.func177,Tryz.ntmps177
 go_wp2_with fail
 go_loopw [12] (fun iv wr=>∃(i:Nat),i<=L.length/\iv=.int .i64 i/\Hid (Below w.heap.size w wr)/\Hid (vW nm ((L.map yU.name).drop i) i=zM (L.map yU.name) nm)) (fun iv _=>L.length-(intOf iv).toNat)
 case atStart=>exact⟨0,Nat.zero_le _,rfl,zA (Below.refl _ _),zA rfl⟩
 case round =>
  obtain⟨i,hi,rfl,HB,HE⟩:=hrel;have zG8:=HB.out.size;by_cases zFY:i<L.length
  ·have hcr:=HC.out.below HB.out
   obtain⟨g,rfl,q0⟩:=hcr.at ((yQ qY 4 (fun _=>rfl) ZZ L i 0 zFY (by decide)).trans rfl);have q1:=(hcr.at ((yQ qY 4 (fun _=>rfl) ZZ L i 1 zFY (by decide)).trans rfl)).elim fun g' h=>(show g=g' by simpa using h.1) ▸ h.2;have q2:=(hcr.at ((yQ qY 4 (fun _=>rfl) ZZ L i 2 zFY (by decide)).trans rfl)).elim fun g' h=>(show g=g' by simpa using h.1) ▸ h.2;have q3:=(hcr.at ((yQ qY 4 (fun _=>rfl) ZZ L i 3 zFY (by decide)).trans rfl)).elim fun g' h=>(show g=g' by simpa using h.1) ▸ h.2;rw[Nat.add_zero]at q0;have hE:=HE.out;rw[oT nm (L.map yU.name) i (by simpa using zFY)]at hE;have zGB:(L.map yU.name).getD i []=yU.name (L.getD i ZZ):=by simp[List.getD,zFY]
   rw[zGB]at hE;have HE2:=zA hE;have lg:=yT q0;have mg:wr.heap.size≠g:=by omega
   clear HE hE hcr zGB;generalize L.getD i ZZ=x at *;obtain⟨x0,x1,x2,x3⟩:=x;simp only at q0 q1 q2 q3 HE2;by_cases k1:x0=nm
   ·have HE3:Hid (zM (L.map yU.name) nm=i):=by have:=HE2.out;rw[if_pos k1]at this;exact this.symm
    have b1:(x0==nm)=true:=by simpa using k1
    clear HE2 k1;go_wp2_with fail
    go_ret
    exact⟨yA HE3.out.symm,HB.out.alloc zG8 _⟩
   ·have HE3:Hid (vW nm ((L.map yU.name).drop (i+1)) (i+1)=zM (L.map yU.name) nm):=by have:=HE2.out;rw[if_neg k1]at this;exact this
    have b1:(x0==nm)=false:=by simpa using k1
    clear HE2 k1;go_wp2_with fail
    go_roundw
    case rel=>exact⟨i+1,by omega,by go_num,zA (HB.out.alloc zG8 _),HE3⟩
    case measure=>simp[intOf];omega
  ·have HE3:Hid (zM (L.map yU.name) nm = -1):=by have:=HE.out;rw[List.drop_eq_nil_of_le (by simp;omega)]at this;exact this.symm
   clear HE;go_wp2_with fail
   go_ret
   exact⟨yA HE3.out.symm,HB.out⟩
def zAX(x:Bs × Nat):List Value:=[.string ⟨x.1.toArray⟩,.int .i64 (x.2:Nat)]
theorem BT(w:World)(b o:Nat)(ia:Option Addr)(ic:Nat)(L:List (Bs × Nat))(nm:Bs)(hm:w.cell? ⟨b,o+1,none⟩=some (.slice ia L.length ic))(hc:dC w ia (L.flatMap zAX))(hf:L.length<=10000) :
 Calls Tryz.prog 184 #[.pointer (some ⟨b,o,none⟩),.string ⟨nm.toArray⟩] w fun e w'=>e=.returned (.int .i64 (zM (L.map Prod.fst) nm))/\Below w.heap.size w w':=by
 have HC:=zA hc;clear hc
 go_enter Tryz.func184,Tryz.ntmps184
 go_wp2_with fail
 go_loopw [12] (fun iv wr=>∃(i:Nat),i<=L.length/\iv=.int .i64 i/\Hid (Below w.heap.size w wr)/\Hid (vW nm ((L.map Prod.fst).drop i) i=zM (L.map Prod.fst) nm)) (fun iv _=>L.length-(intOf iv).toNat)
 case atStart=>exact⟨0,Nat.zero_le _,rfl,zA (Below.refl _ _),zA rfl⟩
 case round =>
  obtain⟨i,hi,rfl,HB,HE⟩:=hrel;have zG8:=HB.out.size;by_cases zFY:i<L.length
  ·have hcr:=HC.out.below HB.out
   obtain⟨g,rfl,q0⟩:=hcr.at ((yQ zAX 2 (fun _=>rfl) ([],0) L i 0 zFY (by decide)).trans rfl);have q1:=(hcr.at ((yQ zAX 2 (fun _=>rfl) ([],0) L i 1 zFY (by decide)).trans rfl)).elim fun g' h=>(show g=g' by simpa using h.1) ▸ h.2;rw[Nat.add_zero]at q0;have hE:=HE.out;rw[oT nm (L.map Prod.fst) i (by simpa using zFY)]at hE;have zGB:(L.map Prod.fst).getD i []=Prod.fst (L.getD i ([],0)):=by simp[List.getD,zFY]
   rw[zGB]at hE;have HE2:=zA hE;have lg:=yT q0;have mg:wr.heap.size≠g:=by omega
   clear HE hE hcr zGB;generalize L.getD i ([],0)=x at *;obtain⟨x0,x1⟩:=x;simp only at q0 q1 HE2;by_cases k1:x0=nm
   ·have HE3:Hid (zM (L.map Prod.fst) nm=i):=by have:=HE2.out;rw[if_pos k1]at this;exact this.symm
    have b1:(x0==nm)=true:=by simpa using k1
    clear HE2 k1;go_wp2_with fail
    go_ret
    exact⟨yA HE3.out.symm,HB.out.alloc zG8 _⟩
   ·have HE3:Hid (vW nm ((L.map Prod.fst).drop (i+1)) (i+1)=zM (L.map Prod.fst) nm):=by have:=HE2.out;rw[if_neg k1]at this;exact this
    have b1:(x0==nm)=false:=by simpa using k1
    clear HE2 k1;go_wp2_with fail
    go_roundw
    case rel=>exact⟨i+1,by omega,by go_num,zA (HB.out.alloc zG8 _),HE3⟩
    case measure=>simp[intOf];omega
  ·have HE3:Hid (zM (L.map Prod.fst) nm = -1):=by have:=HE.out;rw[List.drop_eq_nil_of_le (by simp;omega)]at this;exact this.symm
   clear HE;go_wp2_with fail
   go_ret
   exact⟨yA HE3.out.symm,HB.out⟩
end Go.Proofs.YtnbpdffdnphbeaaGreatDoor
