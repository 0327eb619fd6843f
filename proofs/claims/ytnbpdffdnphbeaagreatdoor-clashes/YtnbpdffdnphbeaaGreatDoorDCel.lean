import Derived.Test.YtnbpdffdnphbeaaGreatDoorRgLinks
import Derived.Test.YtnbpdffdnphbeaaGreatDoorRfBase
import Derived.Laws.IdiomStrings
set_option maxHeartbeats 2000000
set_option maxRecDepth 100000
namespace Go.Proofs.YtnbpdffdnphbeaaGreatDoor
open Go.RowKit
variable{xs:List Value}{b B n:Nat}{a:Option Addr}{t:TypeId}{iv cv rv v:Value}{w' w:World}(ls:List zF)(G:List Bool)
def jX(w:World)(a:Option Addr)(xs:List Value):Prop:=xs=[]\/∃g,a=some ⟨g,0,none⟩/\∀j,j<xs.length->w.cell? ⟨g,j,none⟩=xs[j]?
theorem jX.below(h:jX w a xs)(hb:Below w.heap.size w w'):jX w' a xs:=by
 rcases h with h|⟨g,h1,h2⟩
 ·exact .inl h
 ·refine .inr ⟨g,h1,fun j hj=>?_⟩
  have h3:=h2 j hj;rw[pe hj]at h3;rw[hb.cell (p:=⟨g,j,none⟩) (zP h3),h3,pe hj]
theorem jX.at(h:jX w a xs){j:Nat}(hj:xs[j]? = some v):∃g,a=some ⟨g,0,none⟩/\w.cell? ⟨g,j,none⟩=some v:=by
 rcases h with h|⟨g,h1,h2⟩
 ·rw[h]at hj;simp at hj
 ·exact⟨g,h1,(h2 j (List.getElem?_eq_some_iff.1 hj).1).trans hj⟩
theorem dN{k:Nat}(h:w.ownsRow B t k v n xs):∃a c,v=.slice a n c/\jX w a xs/\n<=c/\c<=maxLen:=by
 have hl:=h.1;rcases h.2 with ⟨h1,h2⟩|⟨g,cap,yW,h1,_,h3,h4,h5,_,h7⟩
 ·refine⟨none,0,by rw[h1,h2],.inl (mu (by rw[hl,h2,my])),by omega,tr _⟩
 ·exact⟨some ⟨g,0,none⟩,cap,h1,.inr ⟨g,rfl,fun j hj=>by
   have:=pe hj;rw[this];exact xB h3 (n:=n*k) h7 this⟩,h4,h5⟩
theorem zV{α:Type}(f:α->List Value)(k:Nat)(hf:∀x,(f x).length=k)(d:α)(L:List α):∀i r,i<L.length->r<k->(L.flatMap f)[i*k+r]? = (f (L.getD i d))[r]? := by
 induction L with
 | nil=>intro i r h;simp at h
 | cons x L ih =>
   intro i r hi hr;rw[fe]
   cases i with
   | zero=>rw[my,lu,pw (by rw[hf];exact hr)];rfl
   | succ i =>
     rw[pf (by rw[hf];rw[Nat.succ_mul];omega),hf,show (i+1)*k+r-k=i*k+r by rw[Nat.succ_mul];omega,ih i r (by simpa using hi) hr];rfl
theorem Qe{α:Type}(f:α->List Value)(k:Nat)(hf:∀x,(f x).length=k)(L:List α):(L.flatMap f).length=L.length*k:=by
 induction L with
 | nil=>simp
 | cons x L ih=>rw[fe,tq,hf,ih,p7,Nat.succ_mul,Nat.add_comm]
def uS(w:World)(t:TypeId)(a:Option Addr)(xs:List Value):Prop:=xs=[]\/∃g cs fz,a=some ⟨g,0,none⟩/\w.heap[g]? = some (.cells cs t fz)/\∀j,j<xs.length->cs[j]? = xs[j]?
theorem uS.cel(h:uS w t a xs):jX w a xs:=by
 rcases h with h|⟨g,cs,fz,h1,h2,h3⟩
 ·exact .inl h
 ·exact .inr ⟨g,h1,fun j hj=>(zD h2 j).trans (h3 j hj)⟩
theorem jP{k:Nat}(h:w.ownsRow B t k v n xs):∃a c,v=.slice a n c/\uS w t a xs:=by
 have hl:=h.1;rcases h.2 with ⟨h1,h2⟩|⟨g,cap,yW,h1,_,h3,h4,h5,_,h7⟩
 ·exact⟨none,0,by rw[h1,h2],.inl (mu (by rw[hl,h2,my]))⟩
 ·exact⟨some ⟨g,0,none⟩,cap,h1,.inr ⟨g,yW,_,rfl,h3,fun j hj=>by
   rw[<-h7,bv,tl (by rw[<-hl];exact hj),Array.getElem?_toList]⟩⟩
theorem uS.keep(h:uS w t a xs)(hk:∀(g:Nat) (cs:Array Value) (fz:Nat × Nat),w.heap[g]? = some (Obj.cells cs t fz)->w'.heap[g]? = w.heap[g]?):uS w' t a xs:=by
 rcases h with h|⟨g,cs,fz,h1,h2,h3⟩
 ·exact .inl h
 ·exact .inr ⟨g,cs,fz,h1,by rw[hk g cs fz h2];exact h2,h3⟩
theorem uS.below(h:uS w t a xs)(hb:Below w.heap.size w w'):uS w' t a xs :=
 h.keep fun g _ _ hg=>hb.block g (yK hg)
theorem uS.grown{e:TypeId}{k:Nat}{ys:List Value}(h:uS w t a xs)(zI8:w.ownsRow B e k v n ys)(zIH:t≠e)(hg:w.grownBy w' v.ownBlock):uS w' t a xs :=
 h.keep fun g cs fz hgg=>hg.block g (yK hgg) (fun e1=>by
  rcases zI8.2 with ⟨k1,_⟩|⟨g',cap,yW,k1,_,k3,_⟩
  ·rw[k1]at e1;simp[Value.ownBlock]at e1
  ·rw[k1]at e1;simp[Value.ownBlock]at e1
   subst e1;rw[hgg]at k3;simp only[cx,Obj.cells.injEq]at k3;exact zIH k3.2.1)
theorem uS.set(h:uS w t a xs){j:Nat}{u:Value}{cs:Array Value}{t':TypeId}{fz:Nat × Nat}(hb:w.heap[b]? = some (.cells cs t' fz))(zIH:t≠t'):uS (w.setCell ⟨b,j,none⟩ u) t a xs :=
 h.keep fun g cs' fz' hg=>lq _ _ _ _ (fun e=>by
  subst e;rw[hb]at hg;simp only[cx,Obj.cells.injEq]at hg;exact zIH hg.2.1.symm)
theorem xX(w:World)(o:Obj)(H:Nat)(hH:w.heap.size=H):(w.alloc o).heap[H]? = some o:=by subst hH;exact zM _ _
structure jH where
 kind:Int
 left:Int
 right:Int
 place:Int
 two:Bool
 other:Int
 num:Int
 less:Bool
 equal:Bool
 more:Bool
def kQ(x:jH):List Value:=[.int .i64 x.kind,.int .i64 x.left,.int .i64 x.right,.int .i64 x.place,.bool x.two,.int .i64 x.other,.int .i64 x.num,.bool x.less,.bool x.equal,.bool x.more]
def oE(x:jH):Value:=.agg #[.int .i64 x.kind,.int .i64 x.left,.int .i64 x.right,.int .i64 x.place,.bool x.two,.int .i64 x.other,.int .i64 x.num,.bool x.less,.bool x.equal,.bool x.more]
structure JO where
 kind:Int
 num:Int
 place:Int
def dA(x:JO):List Value:=[.int .i64 x.kind,.int .i64 x.num,.int .i64 x.place]
def zD1:JO:=⟨0,0,0⟩
def sC:jH:=⟨0,0,0,0,false,0,0,false,false,false⟩
structure vI where
 label:Bs
 conc:Int
 sum:List JO
 guard:List jH
 root:Int
abbrev MX:=vI × Value × Value
def kA(x:MX):Value:=.agg #[.string ⟨x.1.label.toArray⟩,.int .i64 x.1.conc,x.2.1,x.2.2,.int .i64 x.1.root]
def cZ(x:MX):List Value:=[.string ⟨x.1.label.toArray⟩,.int .i64 x.1.conc,x.2.1,x.2.2,.int .i64 x.1.root]
structure kM(w:World)(x:MX):Prop where
 sum:∃a c,x.2.1=.slice a x.1.sum.length c/\uS w 321 a (x.1.sum.flatMap dA)
 guard:∃a c,x.2.2=.slice a x.1.guard.length c/\uS w 324 a (x.1.guard.flatMap kQ)
 few1:x.1.sum.length<=10000
 few2:x.1.guard.length<=10000
theorem kM.below{x:MX}(h:kM w x)(hb:Below w.heap.size w w'):kM w' x:=by
 obtain⟨a,c,h1,h2⟩:=h.sum;obtain⟨a',c',h3,h4⟩:=h.guard;exact⟨⟨a,c,h1,h2.below hb⟩,⟨a',c',h3,h4.below hb⟩,h.few1,h.few2⟩
structure yI where
 name:Bs
 isFlag:Bool
 low:Int
 high:Int
def DE(x:yI):Value:=.agg #[.string ⟨x.name.toArray⟩,.bool x.isFlag,.int .i64 x.low,.int .i64 x.high]
def kJ(x:yI):List Value:=[.string ⟨x.name.toArray⟩,.bool x.isFlag,.int .i64 x.low,.int .i64 x.high]
def xb:yI:=⟨[],false,0,0⟩
def oZ(x:zF):yI:=if x.kind=1 then ⟨x.name,false,x.low,x.high⟩ else ⟨x.name,true,0,0⟩
def nG:List zF->List yI->List yI
 | [],acc=>acc
 | x::r,acc=>nG r (if x.kind=1\/x.kind=2 then acc++[oZ x] else acc)
def yG(ls:List zF):List yI:=nG ls []
def xI(ls:List zF):List Bs:=(yG ls).map yI.name
theorem CA(i:Nat)(acc:List yI)(h:i<ls.length):nG (ls.drop i) acc=nG (ls.drop (i+1)) (if (lA ls i).kind=1\/(lA ls i).kind=2 then acc++[oZ (lA ls i)] else acc):=by
 rw[pb h,nG];simp[lA,List.getD,h]
def zG5(ins:List Bs)(x:yZ):Int:=if x.name=[] then 1 else if zH ins x.name<0 then 3 else 2
def zG4(ins cs:List Bs)(x:yZ):Int:=if x.name=[] then 0 else if zH ins x.name<0 then zH cs x.name else zH ins x.name
def zHT(x:yZ):Int:=if x.name=[] then x.num else if x.starred then x.num else 1
def dO(ins cs:List Bs)(x:yZ):JO:=⟨zG5 ins x,if x.minus then -zHT x else zHT x,zG4 ins cs x⟩
def DC(ins cs:List Bs)(x:zX):Int:=if x.kind=5 then zH cs x.name else if x.kind=6\/x.kind=7 then zH ins x.name else 0
def zEO(ins:List Bs)(x:zX):Int:=if x.other=[] then 0 else zH ins x.other
def DI(m:Bs):Bool:=decide (m=[60]\/m=[60,61]\/m=[33,61])
def Kx(m:Bs):Bool:=decide (m=[60,61]\/m=[61]\/m=[62,61])
def DH(m:Bs):Bool:=decide (m=[62]\/m=[62,61]\/m=[33,61])
def lS(ins cs:List Bs)(x:zX):jH:=⟨x.kind,x.left,x.right,DC ins cs x,decide (x.other≠[]),zEO ins x,x.num,DI x.mark,Kx x.mark,DH x.mark⟩
def uR(ins cs:List Bs)(x:zF):vI:=⟨x.name,zH cs x.conc,x.sum.map (dO ins cs),x.nd.map (lS ins cs),x.root⟩
def gJ(ins cs:List Bs):List zF->List vI->List vI
 | [],acc=>acc
 | x::r,acc=>gJ ins cs r (if x.kind=3 then acc++[uR ins cs x] else acc)
def jN(ins cs:List Bs)(ls:List zF):List vI:=gJ ins cs ls []
theorem Vt(ins cs:List Bs)(ls:List zF)(i:Nat)(acc:List vI)(h:i<ls.length):gJ ins cs (ls.drop i) acc=gJ ins cs (ls.drop (i+1)) (if (lA ls i).kind=3 then acc++[uR ins cs (lA ls i)] else acc):=by
 rw[pb h,gJ];simp[lA,List.getD,h]
theorem FJ(ins cs:List Bs)(ls:List zF):∀acc,gJ ins cs ls acc=acc++(ls.filter fun x=>decide (x.kind=3)).map (uR ins cs):=by
 induction ls with
 | nil=>intro acc;simp[gJ]
 | cons x r ih=>intro acc;rw[gJ,ih];by_cases h:x.kind=3 <;> simp[h]
theorem Ug:∀acc,nG ls acc=acc++(ls.filter fun x=>decide (x.kind=1\/x.kind=2)).map oZ:=by
 induction ls with
 | nil=>intro acc;simp[nG]
 | cons x r ih=>intro acc;rw[nG,ih];by_cases h:x.kind=1\/x.kind=2 <;> simp[h]
theorem CB(x:zF):(oZ x).name=x.name:=by unfold oZ;split <;> rfl
theorem fL:xI ls=(ls.filter fun x=>decide (x.kind=1\/x.kind=2)).map zF.name:=by
 unfold xI yG;rw[Ug,bf,List.map_map];congr 1;funext x;exact CB x
theorem zBA(w:World)(a:Option Addr)(c:Nat)(ls:List LX)(h:pG w a ls) :
 Calls Tryz.prog 117 #[.slice a ls.length c] w fun e w'=>e=.returned (.agg (gC (xE (jI (xH (fs ls)) (fs ls) gZ))))/\Below w.heap.size w w':=by
 have HO:=zA (fun o=>Fl (w.alloc o) a c ls (h.below (ge (t9 _) o) (t9 _)));have HGL:Hid ((jI (xH (fs ls)) (fs ls) gZ).length=64):=by unfold Hid;rw[fG];exact vE
 clear h;generalize jI (xH (fs ls)) (fs ls) gZ=Go at *;have HCL:Hid ((xE Go).length=64):=by unfold Hid xE;rw[eO];exact HGL.out
 have HCh:=zA (fun w' g (hg:iY w' g Go)=>U9 w' g Go hg);generalize xE Go=Gc at *
 go_enter Tryz.func117,Tryz.ntmps117
 go_wp2_with fail
 refine(HO.out _).mono ?_;rintro e w1 ⟨rfl,hb1⟩;have hz1:w1.heap[w.heap.size]? = some (.cells (gC gZ) 94 (0,0)):=by rw[hb1.block _ (yL _ _)];exact zM _ _
 have hs1:=ti (yL w _) hb1.size;have HB1:Hid (Below w.heap.size w w1):=(ge (t9 _) _).trans (hb1.mono (p8 (yL _ _)));have HZ1:=zA hz1;clear hb1 hz1 HO
 go_wp2_with (refine wpList_store_row ?zIM 94 (.tmp 3) (.tmp 5) ?ho w1.heap.size (gC Go) ?hx ?hy 94 (gC gZ) (zM w1 _) (jU HGL.out) ?zIL (cB Go) ?_
              case ho=>rfl
              case zIM=>rfl
              case hx=>rfl
              case hy=>rfl
              case zIL=>rw[uY,uY,vE,HGL.out])
 refine(HCh.out _ w1.heap.size ⟨ly _ _ (gC gZ) _ _ _ (zM w1 _),HGL.out⟩).mono ?_;rintro e w2 ⟨rfl,hb2⟩;have HBm:Hid (Below w.heap.size w ((w1.alloc (.cells (gC gZ) 94 (0,0))).setRow w1.heap.size (gC Go))):=xL (HB1.out.alloc (p8 hs1) _) (p8 hs1) _;have zIJ:((w1.alloc (.cells (gC gZ) 94 (0,0))).setRow w1.heap.size (gC Go)).heap.size=w1.heap.size+1:=by unfold World.setRow;simp
 have HB2:Hid (Below w.heap.size w w2):=HBm.out.trans (hb2.mono (by rw[zIJ];omega))
 have HZ2:Hid (w2.heap[w.heap.size]? = some (.cells (gC gZ) 94 (0,0))):=by
  unfold Hid;rw[hb2.block _ (by rw[zIJ];omega),setRow_other _ _ _ _ (by omega)];exact yJ HZ1.out
 clear hb2 HBm zIJ HCh
 go_wp2_with (refine wpList_store_row ?zIM 94 (.tmp 2) (.tmp 6) ?ho w.heap.size (gC Gc) ?hx ?hy 94 (gC gZ) HZ2.out (jU HCL.out) ?zIL (cB Gc) ?_
              case ho=>rfl
              case zIM=>rfl
              case hx=>rfl
              case hy=>rfl
              case zIL=>rw[uY,uY,vE,HCL.out])
 refine ph (v:=.agg (gC Gc)) (results_cell_row Tryz.results117 _ _ w.heap.size 94 (gC Gc) (0,0) _ rfl (ly _ _ (gC gZ) _ _ _ HZ2.out) Tryz.underlying94 rfl (jU HCL.out)) rfl ⟨rfl,xL HB2.out (t9 _) _⟩
theorem Da(w:World)(s:Bs):∃wc cap,(convert 9 224 (.string ⟨s.toArray⟩)).run Tryz.prog w=.ok (.slice (some ⟨w.heap.size,0,none⟩) s.length cap) wc/\(convert 224 9 (.slice (some ⟨w.heap.size,0,none⟩) s.length cap)).run Tryz.prog wc=.ok (.string ⟨s.toArray⟩) wc/\Below w.heap.size w wc:=by
 have h1:=run_bytes_of_string (P:=Tryz.prog) w 9 224 5 ⟨s.toArray⟩ Tryz.underlying9 Tryz.underlying224 Tryz.underlying5;have zIJ:(⟨s.toArray⟩:ByteArray).size=s.length:=by simp[ByteArray.size]
 rw[zIJ]at h1;generalize grownCap w s.length 0 5=cap at h1;refine⟨_,cap,h1,?_,?_⟩
 ·refine run_convert_bytes_back (P:=Tryz.prog) _ 224 9 5 ⟨w.heap.size,0,none⟩ cap s Tryz.underlying224 Tryz.underlying5 Tryz.underlying9 (fun j hj=>?_)
  have h2:=zD (zM w.drew (.cells (bytesRow ⟨s.toArray⟩ cap) 5 ((bytesRow ⟨s.toArray⟩ cap).size,(bytesRow ⟨s.toArray⟩ cap).size+1))) j
  have h3:(bytesRow ⟨s.toArray⟩ cap)[j]? = some (.int .u8 (s[j].toNat:Int)):=by
   unfold bytesRow;rw[Array.getElem?_append_left (by simpa using hj)];simp[hj]
  rw[h3]at h2;have e:(⟨w.heap.size,0,none⟩:Addr).add j=⟨w.heap.size,j,none⟩:=by simp[Addr.add];omega
  rw[e];exact h2
 ·exact(yA (tj w.heap.size w) 1).alloc (t9 _) _
theorem D4(w:World)(s:Bs):Calls Tryz.prog 119 #[.string ⟨s.toArray⟩] w fun e w'=>e=.returned (.string ⟨s.toArray⟩)/\Below w.heap.size w w':=by
 obtain⟨wc,cap,kc1,kc2,hbc⟩:=Da w s;have HB:=zA hbc;clear hbc
 go_enter Tryz.func119,Tryz.ntmps119
 go_wp2_with fail
 go_ret
 exact⟨rfl,HB.out⟩
theorem ky:(uI ls).length<=(zT ls).length:=by
 have key:∀(S:List Nat) (hd:List Bs) (i:Nat) (acc:List (Bs × Nat)),(aV S hd i acc).length<=acc.length+hd.length:=by
  intro S hd
  induction hd with
  | nil=>intro i acc;simp[aV]
  | cons n r ih=>intro i acc;rw[aV];have:=ih (i+1) (if i<8 then acc++[(n,S.getD i 0)] else acc);split at this <;> simp at this ⊢ <;> split <;> omega
 have:=key (pO (mA (zT ls) ls gZ)) (zT ls) 0 [];unfold uI;simpa using this
theorem CE:(zT ls).length<=ls.length:=by
 have key:∀(ls:List zF) (acc:List Bs),(uW ls acc).length<=acc.length+ls.length:=by
  intro ls
  induction ls with
  | nil=>intro acc;simp[uW]
  | cons x r ih=>intro acc;rw[uW];have:=ih (if x.kind=3/\zH acc x.conc<0 then acc++[x.conc] else acc);split at this <;> simp at this ⊢ <;> split <;> omega
 have:=key ls [];unfold zT;simpa using this
def nE(iv cv rv:Value)(G:List Bool):Array Value := #[iv,cv,rv]++gC G
def dP(iv cv rv:Value)(G:List Bool):Obj:=.cells (nE iv cv rv G) 96 (0,0)
theorem lT(iv cv rv:Value)(G:List Bool):(nE iv cv rv G).size=3+G.length:=by unfold nE;rw[Array.size_append,uY];rfl
theorem XL(iv cv rv:Value)(G:List Bool)(k:Nat)(hk:k<G.length):(nE iv cv rv G)[3+k]? = some (.bool (G.getD k false)):=by
 unfold nE gC;rw[dw (by simp)];simp[List.getD,hk]
theorem Kw(iv cv rv:Value)(G:List Bool):(nE iv cv rv G)[0]? = some iv/\(nE iv cv rv G)[1]? = some cv/\(nE iv cv rv G)[2]? = some rv:=by
 unfold nE;refine⟨?_,?_,?_⟩ <;> rw[Array.getElem?_append_left (by simp)] <;> rfl
theorem mN{G:List Bool}(h:w.heap[b]? = some (dP iv cv rv G)):w.cell? ⟨b,0,none⟩=some iv/\w.cell? ⟨b,1,none⟩=some cv/\w.cell? ⟨b,2,none⟩=some rv/\(∀k,k<G.length->w.cell? ⟨b,3+k,none⟩=some (.bool (G.getD k false)))/\∀j,w.frozen? ⟨b,j,none⟩=false:=by
 unfold dP at h;obtain⟨h0,h1,h2⟩:=Kw iv cv rv G;exact⟨(zD h 0).trans h0,(zD h 1).trans h1,(zD h 2).trans h2,fun k hk=>(zD h _).trans (XL iv cv rv G k hk),fun j=>by simp[World.frozen?,h]⟩
theorem DG{G:List Bool}(h:w.heap[b]? = some (dP iv cv rv G)):(w.setCell ⟨b,0,none⟩ v).heap[b]? = some (dP v cv rv G):=by
 unfold dP at h ⊢;rw[m6 w b 0 _ _ _ h];congr 2;unfold nE;rw[Array.setIfInBounds_append,tl (by simp)];rfl
theorem zD3{G:List Bool}(h:w.heap[b]? = some (dP iv cv rv G)):(w.setCell ⟨b,1,none⟩ v).heap[b]? = some (dP iv v rv G):=by
 unfold dP at h ⊢;rw[m6 w b 1 _ _ _ h];congr 2;unfold nE;rw[Array.setIfInBounds_append,tl (by simp)];rfl
theorem zD2{G:List Bool}(h:w.heap[b]? = some (dP iv cv rv G)):(w.setCell ⟨b,2,none⟩ v).heap[b]? = some (dP iv cv v G):=by
 unfold dP at h ⊢;rw[m6 w b 2 _ _ _ h];congr 2;unfold nE;rw[Array.setIfInBounds_append,tl (by simp)];rfl
theorem D1(h:G.length=64):G=(List.range 64).map (fun i=>G.getD i false):=by
 apply List.ext_getElem?
 intro i;by_cases hi:i<64
 ·simp[hi,List.getD,h]
 ·rw[fw (by omega),fw (by simp;omega)]
theorem G0(h:G.length=64):Tryz.prog.built 96 [(3,.agg (gC G))]=some (nE (.slice none 0 0) (.slice none 0 0) (.slice none 0 0) G):=by
 have key:∀b:Nat->Bool,Tryz.prog.built 96 [(3,.agg (gC ((List.range 64).map b)))]=some (nE (.slice none 0 0) (.slice none 0 0) (.slice none 0 0) ((List.range 64).map b)):=fun b=>by kernel_rfl
 rw[D1 G h];exact key _
theorem zDU:∀v∈gC G,v.oneCell'=true:=by
 intro v hv;have:=Array.all_eq_true_iff_forall_mem.1 (cB G) v hv;exact this
theorem Kv(h0:iv.oneCell'=true)(h1:cv.oneCell'=true)(h2:rv.oneCell'=true)(G:List Bool):(nE iv cv rv G).all (·.oneCell')=true:=by
 rw[Array.all_eq_true_iff_forall_mem];intro v hv;unfold nE at hv;rcases Array.mem_append.1 hv with h|h
 ·simp at h;rcases h with rfl|rfl|rfl <;> assumption
 ·exact zDU G v h
theorem YU{G:List Bool}(h:G.length=64)(iv cv rv:Value):(Tryz.prog.info? 96).map (·.size)=some (nE iv cv rv G).size:=by rw[lT,h];kernel_rfl
theorem VH:Tryz.zeroCells96=nE (.slice none 0 0) (.slice none 0 0) (.slice none 0 0) gZ:=by kernel_rfl
theorem j9(L:List (Bs × Nat))(i:Nat)(h:i<L.length):Yx (L.take (i+1))=Yx (L.take i)++[.string ⟨(L.getD i ([],0)).1.toArray⟩,.int .i64 ((L.getD i ([],0)).2:Nat)]:=by
 have:L.take (i+1)=L.take i++[L.getD i ([],0)]:=by rw[dj];simp[List.getD,h]
 rw[this,VJ]
theorem wT(w:World)(B:Nat)(t:TypeId)(k:Nat):w.ownsRow B t k (.slice none 0 0) 0 []:=⟨by simp,.inl ⟨rfl,rfl⟩⟩
theorem UW(w:World)(b o:Nat)(ia:Option Addr)(ic:Nat)(L:List yI)(nm:Bs)(hm:w.cell? ⟨b,o,none⟩=some (.slice ia L.length ic))(hc:jX w ia (L.flatMap kJ))(hf:L.length<=10000) :
 Calls Tryz.prog 177 #[.pointer (some ⟨b,o,none⟩),.string ⟨nm.toArray⟩] w fun e w'=>e=.returned (.int .i64 (zH (L.map yI.name) nm))/\Below w.heap.size w w':=by
 have HC:=zA hc;clear hc
 go_enter Tryz.func177,Tryz.ntmps177
 go_wp2_with fail
 go_loopw [12] (fun iv wr=>∃(i:Nat),i<=L.length/\iv=.int .i64 i/\Hid (Below w.heap.size w wr)/\Hid (uB nm ((L.map yI.name).drop i) i=zH (L.map yI.name) nm)) (fun iv _=>L.length-(intOf iv).toNat)
 case atStart=>exact⟨0,tr _,rfl,zA (tj _ _),zA rfl⟩
 case round =>
  obtain⟨i,hi,rfl,HB,HE⟩:=hrel;have zIJ:=HB.out.size;by_cases zI6:i<L.length
  ·have hcr:=HC.out.below HB.out
   obtain⟨g,rfl,q0⟩:=hcr.at ((zV kJ 4 (fun _=>rfl) xb L i 0 zI6 (by decide)).trans rfl);have q1:=(hcr.at ((zV kJ 4 (fun _=>rfl) xb L i 1 zI6 (by decide)).trans rfl)).elim fun g' h=>(show g=g' by simpa using h.1) ▸ h.2;have q2:=(hcr.at ((zV kJ 4 (fun _=>rfl) xb L i 2 zI6 (by decide)).trans rfl)).elim fun g' h=>(show g=g' by simpa using h.1) ▸ h.2;have q3:=(hcr.at ((zV kJ 4 (fun _=>rfl) xb L i 3 zI6 (by decide)).trans rfl)).elim fun g' h=>(show g=g' by simpa using h.1) ▸ h.2;rw[pq]at q0;have hE:=HE.out;rw[oL nm (L.map yI.name) i (by simpa using zI6)]at hE;have zIM:(L.map yI.name).getD i []=yI.name (L.getD i xb):=by simp[List.getD,zI6]
   rw[zIM]at hE;have HE2:=zA hE;have lg:=zP q0;have mg:wr.heap.size≠g:=by omega
   clear HE hE hcr zIM;generalize L.getD i xb=x at *;obtain⟨x0,x1,x2,x3⟩:=x;simp only at q0 q1 q2 q3 HE2;by_cases k1:x0=nm
   ·have HE3:Hid (zH (L.map yI.name) nm=i):=by have:=HE2.out;rw[tl k1]at this;exact this.symm
    have b1:(x0==nm)=true:=by simpa using k1
    clear HE2 k1;go_wp2_with fail
    go_ret
    exact⟨zY HE3.out.symm,HB.out.alloc zIJ _⟩
   ·have HE3:Hid (uB nm ((L.map yI.name).drop (i+1)) (i+1)=zH (L.map yI.name) nm):=by have:=HE2.out;rw[tg k1]at this;exact this
    have b1:(x0==nm)=false:=by simpa using k1
    clear HE2 k1;go_wp2_with fail
    go_roundw
    case rel=>exact⟨i+1,by omega,by go_num,zA (HB.out.alloc zIJ _),HE3⟩
    case measure=>simp[intOf];omega
  ·have HE3:Hid (zH (L.map yI.name) nm = -1):=by have:=HE.out;rw[tu (by simp;omega)]at this;exact this.symm
   clear HE;go_wp2_with fail
   go_ret
   exact⟨zY HE3.out.symm,HB.out⟩
def zD6(x:Bs × Nat):List Value:=[.string ⟨x.1.toArray⟩,.int .i64 (x.2:Nat)]
theorem CV(w:World)(b o:Nat)(ia:Option Addr)(ic:Nat)(L:List (Bs × Nat))(nm:Bs)(hm:w.cell? ⟨b,o+1,none⟩=some (.slice ia L.length ic))(hc:jX w ia (L.flatMap zD6))(hf:L.length<=10000) :
 Calls Tryz.prog 184 #[.pointer (some ⟨b,o,none⟩),.string ⟨nm.toArray⟩] w fun e w'=>e=.returned (.int .i64 (zH (L.map Prod.fst) nm))/\Below w.heap.size w w':=by
 have HC:=zA hc;clear hc
 go_enter Tryz.func184,Tryz.ntmps184
 go_wp2_with fail
 go_loopw [12] (fun iv wr=>∃(i:Nat),i<=L.length/\iv=.int .i64 i/\Hid (Below w.heap.size w wr)/\Hid (uB nm ((L.map Prod.fst).drop i) i=zH (L.map Prod.fst) nm)) (fun iv _=>L.length-(intOf iv).toNat)
 case atStart=>exact⟨0,tr _,rfl,zA (tj _ _),zA rfl⟩
 case round =>
  obtain⟨i,hi,rfl,HB,HE⟩:=hrel;have zIJ:=HB.out.size;by_cases zI6:i<L.length
  ·have hcr:=HC.out.below HB.out
   obtain⟨g,rfl,q0⟩:=hcr.at ((zV zD6 2 (fun _=>rfl) ([],0) L i 0 zI6 (by decide)).trans rfl);have q1:=(hcr.at ((zV zD6 2 (fun _=>rfl) ([],0) L i 1 zI6 (by decide)).trans rfl)).elim fun g' h=>(show g=g' by simpa using h.1) ▸ h.2;rw[pq]at q0;have hE:=HE.out;rw[oL nm (L.map Prod.fst) i (by simpa using zI6)]at hE;have zIM:(L.map Prod.fst).getD i []=Prod.fst (L.getD i ([],0)):=by simp[List.getD,zI6]
   rw[zIM]at hE;have HE2:=zA hE;have lg:=zP q0;have mg:wr.heap.size≠g:=by omega
   clear HE hE hcr zIM;generalize L.getD i ([],0)=x at *;obtain⟨x0,x1⟩:=x;simp only at q0 q1 HE2;by_cases k1:x0=nm
   ·have HE3:Hid (zH (L.map Prod.fst) nm=i):=by have:=HE2.out;rw[tl k1]at this;exact this.symm
    have b1:(x0==nm)=true:=by simpa using k1
    clear HE2 k1;go_wp2_with fail
    go_ret
    exact⟨zY HE3.out.symm,HB.out.alloc zIJ _⟩
   ·have HE3:Hid (uB nm ((L.map Prod.fst).drop (i+1)) (i+1)=zH (L.map Prod.fst) nm):=by have:=HE2.out;rw[tg k1]at this;exact this
    have b1:(x0==nm)=false:=by simpa using k1
    clear HE2 k1;go_wp2_with fail
    go_roundw
    case rel=>exact⟨i+1,by omega,by go_num,zA (HB.out.alloc zIJ _),HE3⟩
    case measure=>simp[intOf];omega
  ·have HE3:Hid (zH (L.map Prod.fst) nm = -1):=by have:=HE.out;rw[tu (by simp;omega)]at this;exact this.symm
   clear HE;go_wp2_with fail
   go_ret
   exact⟨zY HE3.out.symm,HB.out⟩
end Go.Proofs.YtnbpdffdnphbeaaGreatDoor
