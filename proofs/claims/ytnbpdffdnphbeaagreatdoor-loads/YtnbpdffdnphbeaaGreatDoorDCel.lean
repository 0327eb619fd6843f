import Derived.Test.YtnbpdffdnphbeaaGreatDoorRgLinks
import Derived.Test.YtnbpdffdnphbeaaGreatDoorRfBase
import Derived.Laws.IdiomStrings
set_option maxHeartbeats 2000000
set_option maxRecDepth 100000
namespace Go.Proofs.YtnbpdffdnphbeaaGreatDoor
open Go.RowKit
variable{xs:List Value}{n B b:Nat}{a:Option Addr}{t:TypeId}{v rv cv iv:Value}{w w':World}(ls:List zF)(G:List Bool)
def pE(w:World)(a:Option Addr)(xs:List Value):Prop:=xs=[]\/∃g,a=some ⟨g,0,none⟩/\∀j,j<xs.length->w.cell? ⟨g,j,none⟩=xs[j]?
theorem pE.below(h:pE w a xs)(hb:Below w.heap.size w w'):pE w' a xs:=by
 rcases h with h|⟨g,h1,h2⟩
 ·exact .inl h
 ·refine .inr ⟨g,h1,fun j hj=>?_⟩
  have h3:=h2 j hj;rw[pe hj]at h3;rw[hb.cell (p:=⟨g,j,none⟩) (zT h3),h3,pe hj]
theorem pE.at(h:pE w a xs){j:Nat}(hj:xs[j]? = some v):∃g,a=some ⟨g,0,none⟩/\w.cell? ⟨g,j,none⟩=some v:=by
 rcases h with h|⟨g,h1,h2⟩
 ·rw[h]at hj;simp at hj
 ·exact⟨g,h1,(h2 j (List.getElem?_eq_some_iff.1 hj).1).trans hj⟩
theorem dJ{k:Nat}(h:w.ownsRow B t k v n xs):∃a c,v=.slice a n c/\pE w a xs/\n<=c/\c<=maxLen:=by
 have hl:=h.1;rcases h.2 with ⟨h1,h2⟩|⟨g,cap,yV,h1,_,h3,h4,h5,_,h7⟩
 ·refine⟨none,0,by rw[h1,h2],.inl (mu (by rw[hl,h2,my])),by omega,tr _⟩
 ·exact⟨some ⟨g,0,none⟩,cap,h1,.inr ⟨g,rfl,fun j hj=>by
   have:=pe hj;rw[this];exact xC h3 (n:=n*k) h7 this⟩,h4,h5⟩
theorem zW{α:Type}(f:α->List Value)(k:Nat)(hf:∀x,(f x).length=k)(d:α)(L:List α):∀i r,i<L.length->r<k->(L.flatMap f)[i*k+r]? = (f (L.getD i d))[r]? := by
 induction L with
 | nil=>intro i r h;simp at h
 | cons x L ih =>
   intro i r hi hr;rw[ff]
   cases i with
   | zero=>rw[my,l8,m6 (by rw[hf];exact hr)];rfl
   | succ i =>
     rw[pf (by rw[hf];rw[Nat.succ_mul];omega),hf,show (i+1)*k+r-k=i*k+r by rw[Nat.succ_mul];omega,ih i r (by simpa using hi) hr];rfl
theorem Um{α:Type}(f:α->List Value)(k:Nat)(hf:∀x,(f x).length=k)(L:List α):(L.flatMap f).length=L.length*k:=by
 induction L with
 | nil=>simp
 | cons x L ih=>rw[ff,tq,hf,ih,p7,Nat.succ_mul,Nat.add_comm]
def uN(w:World)(t:TypeId)(a:Option Addr)(xs:List Value):Prop:=xs=[]\/∃g cs fz,a=some ⟨g,0,none⟩/\w.heap[g]? = some (.cells cs t fz)/\∀j,j<xs.length->cs[j]? = xs[j]?
theorem uN.cel(h:uN w t a xs):pE w a xs:=by
 rcases h with h|⟨g,cs,fz,h1,h2,h3⟩
 ·exact .inl h
 ·exact .inr ⟨g,h1,fun j hj=>(zD h2 j).trans (h3 j hj)⟩
theorem jO{k:Nat}(h:w.ownsRow B t k v n xs):∃a c,v=.slice a n c/\uN w t a xs:=by
 have hl:=h.1;rcases h.2 with ⟨h1,h2⟩|⟨g,cap,yV,h1,_,h3,h4,h5,_,h7⟩
 ·exact⟨none,0,by rw[h1,h2],.inl (mu (by rw[hl,h2,my]))⟩
 ·exact⟨some ⟨g,0,none⟩,cap,h1,.inr ⟨g,yV,_,rfl,h3,fun j hj=>by
   rw[<-h7,bv,tj (by rw[<-hl];exact hj),ge]⟩⟩
theorem uN.keep(h:uN w t a xs)(hk:∀(g:Nat) (cs:Array Value) (fz:Nat × Nat),w.heap[g]? = some (Obj.cells cs t fz)->w'.heap[g]? = w.heap[g]?):uN w' t a xs:=by
 rcases h with h|⟨g,cs,fz,h1,h2,h3⟩
 ·exact .inl h
 ·exact .inr ⟨g,cs,fz,h1,by rw[hk g cs fz h2];exact h2,h3⟩
theorem uN.below(h:uN w t a xs)(hb:Below w.heap.size w w'):uN w' t a xs :=
 h.keep fun g _ _ hg=>hb.block g (yI hg)
theorem uN.grown{e:TypeId}{k:Nat}{ys:List Value}(h:uN w t a xs)(zID:w.ownsRow B e k v n ys)(zIM:t≠e)(hg:w.grownBy w' v.ownBlock):uN w' t a xs :=
 h.keep fun g cs fz hgg=>hg.block g (yI hgg) (fun e1=>by
  rcases zID.2 with ⟨k1,_⟩|⟨g',cap,yV,k1,_,k3,_⟩
  ·rw[k1]at e1;simp[Value.ownBlock]at e1
  ·rw[k1]at e1;simp[Value.ownBlock]at e1
   subst e1;rw[hgg]at k3;simp only[cx,Obj.cells.injEq]at k3;exact zIM k3.2.1)
theorem uN.set(h:uN w t a xs){j:Nat}{u:Value}{cs:Array Value}{t':TypeId}{fz:Nat × Nat}(hb:w.heap[b]? = some (.cells cs t' fz))(zIM:t≠t'):uN (w.setCell ⟨b,j,none⟩ u) t a xs :=
 h.keep fun g cs' fz' hg=>ly _ _ _ _ (fun e=>by
  subst e;rw[hb]at hg;simp only[cx,Obj.cells.injEq]at hg;exact zIM hg.2.1.symm)
theorem xY(w:World)(o:Obj)(H:Nat)(hH:w.heap.size=H):(w.alloc o).heap[H]? = some o:=by subst hH;exact zM _ _
structure jJ where
 kind:Int
 left:Int
 right:Int
 place:Int
 two:Bool
 other:Int
 num:Int
 less:Bool
 equal:Bool
 more:Bool
def kO(x:jJ):List Value:=[.int .i64 x.kind,.int .i64 x.left,.int .i64 x.right,.int .i64 x.place,.bool x.two,.int .i64 x.other,.int .i64 x.num,.bool x.less,.bool x.equal,.bool x.more]
def oA(x:jJ):Value:=.agg #[.int .i64 x.kind,.int .i64 x.left,.int .i64 x.right,.int .i64 x.place,.bool x.two,.int .i64 x.other,.int .i64 x.num,.bool x.less,.bool x.equal,.bool x.more]
structure JK where
 kind:Int
 num:Int
 place:Int
def cW(x:JK):List Value:=[.int .i64 x.kind,.int .i64 x.num,.int .i64 x.place]
def zD7:JK:=⟨0,0,0⟩
def sB:jJ:=⟨0,0,0,0,false,0,0,false,false,false⟩
structure vG where
 label:Bs
 conc:Int
 sum:List JK
 guard:List jJ
 root:Int
abbrev MX:=vG × Value × Value
def qW(x:MX):Value:=.agg #[.string ⟨x.1.label.toArray⟩,.int .i64 x.1.conc,x.2.1,x.2.2,.int .i64 x.1.root]
def cV(x:MX):List Value:=[.string ⟨x.1.label.toArray⟩,.int .i64 x.1.conc,x.2.1,x.2.2,.int .i64 x.1.root]
structure kJ(w:World)(x:MX):Prop where
 sum:∃a c,x.2.1=.slice a x.1.sum.length c/\uN w 321 a (x.1.sum.flatMap cW)
 guard:∃a c,x.2.2=.slice a x.1.guard.length c/\uN w 324 a (x.1.guard.flatMap kO)
 few1:x.1.sum.length<=10000
 few2:x.1.guard.length<=10000
theorem kJ.below{x:MX}(h:kJ w x)(hb:Below w.heap.size w w'):kJ w' x:=by
 obtain⟨a,c,h1,h2⟩:=h.sum;obtain⟨a',c',h3,h4⟩:=h.guard;exact⟨⟨a,c,h1,h2.below hb⟩,⟨a',c',h3,h4.below hb⟩,h.few1,h.few2⟩
structure yH where
 name:Bs
 isFlag:Bool
 low:Int
 high:Int
def D9(x:yH):Value:=.agg #[.string ⟨x.name.toArray⟩,.bool x.isFlag,.int .i64 x.low,.int .i64 x.high]
def kG(x:yH):List Value:=[.string ⟨x.name.toArray⟩,.bool x.isFlag,.int .i64 x.low,.int .i64 x.high]
def x9:yH:=⟨[],false,0,0⟩
def oY(x:zF):yH:=if x.kind=1 then ⟨x.name,false,x.low,x.high⟩ else ⟨x.name,true,0,0⟩
def nC:List zF->List yH->List yH
 | [],acc=>acc
 | x::r,acc=>nC r (if x.kind=1\/x.kind=2 then acc++[oY x] else acc)
def yM(ls:List zF):List yH:=nC ls []
def xM(ls:List zF):List Bs:=(yM ls).map yH.name
theorem C0(i:Nat)(acc:List yH)(h:i<ls.length):nC (ls.drop i) acc=nC (ls.drop (i+1)) (if (lA ls i).kind=1\/(lA ls i).kind=2 then acc++[oY (lA ls i)] else acc):=by
 rw[pb h,nC];simp[lA,List.getD,h]
def zGA(ins:List Bs)(x:yX):Int:=if x.name=[] then 1 else if zH ins x.name<0 then 3 else 2
def zG9(ins cs:List Bs)(x:yX):Int:=if x.name=[] then 0 else if zH ins x.name<0 then zH cs x.name else zH ins x.name
def zHY(x:yX):Int:=if x.name=[] then x.num else if x.starred then x.num else 1
def dK(ins cs:List Bs)(x:yX):JK:=⟨zGA ins x,if x.minus then -zHY x else zHY x,zG9 ins cs x⟩
def D8(ins cs:List Bs)(x:zX):Int:=if x.kind=5 then zH cs x.name else if x.kind=6\/x.kind=7 then zH ins x.name else 0
def zEV(ins:List Bs)(x:zX):Int:=if x.other=[] then 0 else zH ins x.other
def DE(m:Bs):Bool:=decide (m=[60]\/m=[60,61]\/m=[33,61])
def Ku(m:Bs):Bool:=decide (m=[60,61]\/m=[61]\/m=[62,61])
def DD(m:Bs):Bool:=decide (m=[62]\/m=[62,61]\/m=[33,61])
def lR(ins cs:List Bs)(x:zX):jJ:=⟨x.kind,x.left,x.right,D8 ins cs x,decide (x.other≠[]),zEV ins x,x.num,DE x.mark,Ku x.mark,DD x.mark⟩
def qA(ins cs:List Bs)(x:zF):vG:=⟨x.name,zH cs x.conc,x.sum.map (dK ins cs),x.nd.map (lR ins cs),x.root⟩
def gE(ins cs:List Bs):List zF->List vG->List vG
 | [],acc=>acc
 | x::r,acc=>gE ins cs r (if x.kind=3 then acc++[qA ins cs x] else acc)
def kN(ins cs:List Bs)(ls:List zF):List vG:=gE ins cs ls []
theorem Vn(ins cs:List Bs)(ls:List zF)(i:Nat)(acc:List vG)(h:i<ls.length):gE ins cs (ls.drop i) acc=gE ins cs (ls.drop (i+1)) (if (lA ls i).kind=3 then acc++[qA ins cs (lA ls i)] else acc):=by
 rw[pb h,gE];simp[lA,List.getD,h]
theorem FE(ins cs:List Bs)(ls:List zF):∀acc,gE ins cs ls acc=acc++(ls.filter fun x=>decide (x.kind=3)).map (qA ins cs):=by
 induction ls with
 | nil=>intro acc;simp[gE]
 | cons x r ih=>intro acc;rw[gE,ih];by_cases h:x.kind=3 <;> simp[h]
theorem Ua:∀acc,nC ls acc=acc++(ls.filter fun x=>decide (x.kind=1\/x.kind=2)).map oY:=by
 induction ls with
 | nil=>intro acc;simp[nC]
 | cons x r ih=>intro acc;rw[nC,ih];by_cases h:x.kind=1\/x.kind=2 <;> simp[h]
theorem C1(x:zF):(oY x).name=x.name:=by unfold oY;split <;> rfl
theorem fF:xM ls=(ls.filter fun x=>decide (x.kind=1\/x.kind=2)).map zF.name:=by
 unfold xM yM;rw[Ua,bf,List.map_map];congr 1;funext x;exact C1 x
theorem zBH(w:World)(a:Option Addr)(c:Nat)(ls:List LX)(h:pD w a ls) :
 Calls Tryz.prog 117 #[.slice a ls.length c] w fun e w'=>e=.returned (.agg (gC (xB (kZ (xH (fs ls)) (fs ls) gZ))))/\Below w.heap.size w w':=by
 have HO:=zA (fun o=>Ff (w.alloc o) a c ls (h.below (gj (t9 _) o) (t9 _)));have HGL:Hid ((kZ (xH (fs ls)) (fs ls) gZ).length=64):=by unfold Hid;rw[cH];exact xP
 clear h;generalize kZ (xH (fs ls)) (fs ls) gZ=Go at *;have HCL:Hid ((xB Go).length=64):=by unfold Hid xB;rw[rJ];exact HGL.out
 have HCh:=zA (fun w' g (hg:iZ w' g Go)=>U4 w' g Go hg);generalize xB Go=Gc at *
 go_enter Tryz.func117,Tryz.ntmps117
 go_wp2_with fail
 refine(HO.out _).mono ?_;rintro e w1 ⟨rfl,hb1⟩;have hz1:w1.heap[w.heap.size]? = some (.cells (gC gZ) 94 (0,0)):=by rw[hb1.block _ (yK _ _)];exact zM _ _
 have hs1:=ti (yK w _) hb1.size;have HB1:Hid (Below w.heap.size w w1):=(gj (t9 _) _).trans (hb1.mono (p8 (yK _ _)));have HZ1:=zA hz1;clear hb1 hz1 HO
 go_wp2_with (refine wpList_store_row ?zIO 94 (.tmp 3) (.tmp 5) ?ho w1.heap.size (gC Go) ?hx ?hy 94 (gC gZ) (zM w1 _) (jT HGL.out) ?zIN (bY Go) ?_
              case ho=>rfl
              case zIO=>rfl
              case hx=>rfl
              case hy=>rfl
              case zIN=>rw[uT,uT,xP,HGL.out])
 refine(HCh.out _ w1.heap.size ⟨lk _ _ (gC gZ) _ _ _ (zM w1 _),HGL.out⟩).mono ?_;rintro e w2 ⟨rfl,hb2⟩;have HBm:Hid (Below w.heap.size w ((w1.alloc (.cells (gC gZ) 94 (0,0))).setRow w1.heap.size (gC Go))):=xA (HB1.out.alloc (p8 hs1) _) (p8 hs1) _;have zIQ:((w1.alloc (.cells (gC gZ) 94 (0,0))).setRow w1.heap.size (gC Go)).heap.size=w1.heap.size+1:=by unfold World.setRow;simp
 have HB2:Hid (Below w.heap.size w w2):=HBm.out.trans (hb2.mono (by rw[zIQ];omega))
 have HZ2:Hid (w2.heap[w.heap.size]? = some (.cells (gC gZ) 94 (0,0))):=by
  unfold Hid;rw[hb2.block _ (by rw[zIQ];omega),setRow_other _ _ _ _ (by omega)];exact yJ HZ1.out
 clear hb2 HBm zIQ HCh
 go_wp2_with (refine wpList_store_row ?zIO 94 (.tmp 2) (.tmp 6) ?ho w.heap.size (gC Gc) ?hx ?hy 94 (gC gZ) HZ2.out (jT HCL.out) ?zIN (bY Gc) ?_
              case ho=>rfl
              case zIO=>rfl
              case hx=>rfl
              case hy=>rfl
              case zIN=>rw[uT,uT,xP,HCL.out])
 refine ph (v:=.agg (gC Gc)) (results_cell_row Tryz.results117 _ _ w.heap.size 94 (gC Gc) (0,0) _ rfl (lk _ _ (gC gZ) _ _ _ HZ2.out) Tryz.underlying94 rfl (jT HCL.out)) rfl ⟨rfl,xA HB2.out (t9 _) _⟩
theorem CP(w:World)(s:Bs):∃wc cap,(convert 9 224 (.string ⟨s.toArray⟩)).run Tryz.prog w=.ok (.slice (some ⟨w.heap.size,0,none⟩) s.length cap) wc/\(convert 224 9 (.slice (some ⟨w.heap.size,0,none⟩) s.length cap)).run Tryz.prog wc=.ok (.string ⟨s.toArray⟩) wc/\Below w.heap.size w wc:=by
 have h1:=run_bytes_of_string (P:=Tryz.prog) w 9 224 5 ⟨s.toArray⟩ Tryz.underlying9 Tryz.underlying224 Tryz.underlying5;have zIQ:(⟨s.toArray⟩:ByteArray).size=s.length:=by simp[ByteArray.size]
 rw[zIQ]at h1;generalize grownCap w s.length 0 5=cap at h1;refine⟨_,cap,h1,?_,?_⟩
 ·refine run_convert_bytes_back (P:=Tryz.prog) _ 224 9 5 ⟨w.heap.size,0,none⟩ cap s Tryz.underlying224 Tryz.underlying5 Tryz.underlying9 (fun j hj=>?_)
  have h2:=zD (zM w.drew (.cells (bytesRow ⟨s.toArray⟩ cap) 5 ((bytesRow ⟨s.toArray⟩ cap).size,(bytesRow ⟨s.toArray⟩ cap).size+1))) j
  have h3:(bytesRow ⟨s.toArray⟩ cap)[j]? = some (.int .u8 (s[j].toNat:Int)):=by
   unfold bytesRow;rw[dt (by simpa using hj)];simp[hj]
  rw[h3]at h2;have e:(⟨w.heap.size,0,none⟩:Addr).add j=⟨w.heap.size,j,none⟩:=by simp[Addr.add];omega
  rw[e];exact h2
 ·exact(yC (tl w.heap.size w) 1).alloc (t9 _) _
theorem Dz(w:World)(s:Bs):Calls Tryz.prog 119 #[.string ⟨s.toArray⟩] w fun e w'=>e=.returned (.string ⟨s.toArray⟩)/\Below w.heap.size w w':=by
 obtain⟨wc,cap,kc1,kc2,hbc⟩:=CP w s;have HB:=zA hbc;clear hbc
 go_enter Tryz.func119,Tryz.ntmps119
 go_wp2_with fail
 go_ret
 exact⟨rfl,HB.out⟩
theorem j8:(uY ls).length<=(zS ls).length:=by
 have key:∀(S:List Nat) (hd:List Bs) (i:Nat) (acc:List (Bs × Nat)),(aU S hd i acc).length<=acc.length+hd.length:=by
  intro S hd
  induction hd with
  | nil=>intro i acc;simp[aU]
  | cons n r ih=>intro i acc;rw[aU];have:=ih (i+1) (if i<8 then acc++[(n,S.getD i 0)] else acc);split at this <;> simp at this ⊢ <;> split <;> omega
 have:=key (pK (pZ (zS ls) ls gZ)) (zS ls) 0 [];unfold uY;simpa using this
theorem C4:(zS ls).length<=ls.length:=by
 have key:∀(ls:List zF) (acc:List Bs),(uR ls acc).length<=acc.length+ls.length:=by
  intro ls
  induction ls with
  | nil=>intro acc;simp[uR]
  | cons x r ih=>intro acc;rw[uR];have:=ih (if x.kind=3/\zH acc x.conc<0 then acc++[x.conc] else acc);split at this <;> simp at this ⊢ <;> split <;> omega
 have:=key ls [];unfold zS;simpa using this
def dM(iv cv rv:Value)(G:List Bool):Array Value := #[iv,cv,rv]++gC G
def dL(iv cv rv:Value)(G:List Bool):Obj:=.cells (dM iv cv rv G) 96 (0,0)
theorem lS(iv cv rv:Value)(G:List Bool):(dM iv cv rv G).size=3+G.length:=by unfold dM;rw[Array.size_append,uT];rfl
theorem XF(iv cv rv:Value)(G:List Bool)(k:Nat)(hk:k<G.length):(dM iv cv rv G)[3+k]? = some (.bool (G.getD k false)):=by
 unfold dM gC;rw[dy (by simp)];simp[List.getD,hk]
theorem Kt(iv cv rv:Value)(G:List Bool):(dM iv cv rv G)[0]? = some iv/\(dM iv cv rv G)[1]? = some cv/\(dM iv cv rv G)[2]? = some rv:=by
 unfold dM;refine⟨?_,?_,?_⟩ <;> rw[dt (by simp)] <;> rfl
theorem mL{G:List Bool}(h:w.heap[b]? = some (dL iv cv rv G)):w.cell? ⟨b,0,none⟩=some iv/\w.cell? ⟨b,1,none⟩=some cv/\w.cell? ⟨b,2,none⟩=some rv/\(∀k,k<G.length->w.cell? ⟨b,3+k,none⟩=some (.bool (G.getD k false)))/\∀j,w.frozen? ⟨b,j,none⟩=false:=by
 unfold dL at h;obtain⟨h0,h1,h2⟩:=Kt iv cv rv G;exact⟨(zD h 0).trans h0,(zD h 1).trans h1,(zD h 2).trans h2,fun k hk=>(zD h _).trans (XF iv cv rv G k hk),fun j=>by simp[World.frozen?,h]⟩
theorem DB{G:List Bool}(h:w.heap[b]? = some (dL iv cv rv G)):(w.setCell ⟨b,0,none⟩ v).heap[b]? = some (dL v cv rv G):=by
 unfold dL at h ⊢;rw[py w b 0 _ _ _ h];congr 2;unfold dM;rw[Array.setIfInBounds_append,tj (by simp)];rfl
theorem zD9{G:List Bool}(h:w.heap[b]? = some (dL iv cv rv G)):(w.setCell ⟨b,1,none⟩ v).heap[b]? = some (dL iv v rv G):=by
 unfold dL at h ⊢;rw[py w b 1 _ _ _ h];congr 2;unfold dM;rw[Array.setIfInBounds_append,tj (by simp)];rfl
theorem zD8{G:List Bool}(h:w.heap[b]? = some (dL iv cv rv G)):(w.setCell ⟨b,2,none⟩ v).heap[b]? = some (dL iv cv v G):=by
 unfold dL at h ⊢;rw[py w b 2 _ _ _ h];congr 2;unfold dM;rw[Array.setIfInBounds_append,tj (by simp)];rfl
theorem Ki(h:G.length=64):G=(List.range 64).map (fun i=>G.getD i false):=by
 apply List.ext_getElem?
 intro i;by_cases hi:i<64
 ·simp[hi,List.getD,h]
 ·rw[gf (by omega),gf (by simp;omega)]
theorem Gv(h:G.length=64):Tryz.prog.built 96 [(3,.agg (gC G))]=some (dM (.slice none 0 0) (.slice none 0 0) (.slice none 0 0) G):=by
 have key:∀b:Nat->Bool,Tryz.prog.built 96 [(3,.agg (gC ((List.range 64).map b)))]=some (dM (.slice none 0 0) (.slice none 0 0) (.slice none 0 0) ((List.range 64).map b)):=fun b=>by kernel_rfl
 rw[Ki G h];exact key _
theorem zE0:∀v∈gC G,v.oneCell'=true:=by
 intro v hv;have:=Array.all_eq_true_iff_forall_mem.1 (bY G) v hv;exact this
theorem Ks(h0:iv.oneCell'=true)(h1:cv.oneCell'=true)(h2:rv.oneCell'=true)(G:List Bool):(dM iv cv rv G).all (·.oneCell')=true:=by
 rw[Array.all_eq_true_iff_forall_mem];intro v hv;unfold dM at hv;rcases Array.mem_append.1 hv with h|h
 ·simp at h;rcases h with rfl|rfl|rfl <;> assumption
 ·exact zE0 G v h
theorem aE{G:List Bool}(h:G.length=64)(iv cv rv:Value):(Tryz.prog.info? 96).map (·.size)=some (dM iv cv rv G).size:=by rw[lS,h];kernel_rfl
theorem V9:Tryz.zeroCells96=dM (.slice none 0 0) (.slice none 0 0) (.slice none 0 0) gZ:=by kernel_rfl
theorem jc(L:List (Bs × Nat))(i:Nat)(h:i<L.length):Ys (L.take (i+1))=Ys (L.take i)++[.string ⟨(L.getD i ([],0)).1.toArray⟩,.int .i64 ((L.getD i ([],0)).2:Nat)]:=by
 have:L.take (i+1)=L.take i++[L.getD i ([],0)]:=by rw[dj];simp[List.getD,h]
 rw[this,VC]
theorem wU(w:World)(B:Nat)(t:TypeId)(k:Nat):w.ownsRow B t k (.slice none 0 0) 0 []:=⟨by simp,.inl ⟨rfl,rfl⟩⟩
theorem UR(w:World)(b o:Nat)(ia:Option Addr)(ic:Nat)(L:List yH)(nm:Bs)(hm:w.cell? ⟨b,o,none⟩=some (.slice ia L.length ic))(hc:pE w ia (L.flatMap kG))(hf:L.length<=10000) :
 Calls Tryz.prog 177 #[.pointer (some ⟨b,o,none⟩),.string ⟨nm.toArray⟩] w fun e w'=>e=.returned (.int .i64 (zH (L.map yH.name) nm))/\Below w.heap.size w w':=by
 have HC:=zA hc;clear hc
 go_enter Tryz.func177,Tryz.ntmps177
 go_wp2_with fail
 go_loopw [12] (fun iv wr=>∃(i:Nat),i<=L.length/\iv=.int .i64 i/\Hid (Below w.heap.size w wr)/\Hid (vY nm ((L.map yH.name).drop i) i=zH (L.map yH.name) nm)) (fun iv _=>L.length-(intOf iv).toNat)
 case atStart=>exact⟨0,tr _,rfl,zA (tl _ _),zA rfl⟩
 case round =>
  obtain⟨i,hi,rfl,HB,HE⟩:=hrel;have zIQ:=HB.out.size;by_cases zIB:i<L.length
  ·have hcr:=HC.out.below HB.out
   obtain⟨g,rfl,q0⟩:=hcr.at ((zW kG 4 (fun _=>rfl) x9 L i 0 zIB (by decide)).trans rfl);have q1:=(hcr.at ((zW kG 4 (fun _=>rfl) x9 L i 1 zIB (by decide)).trans rfl)).elim fun g' h=>(show g=g' by simpa using h.1) ▸ h.2;have q2:=(hcr.at ((zW kG 4 (fun _=>rfl) x9 L i 2 zIB (by decide)).trans rfl)).elim fun g' h=>(show g=g' by simpa using h.1) ▸ h.2;have q3:=(hcr.at ((zW kG 4 (fun _=>rfl) x9 L i 3 zIB (by decide)).trans rfl)).elim fun g' h=>(show g=g' by simpa using h.1) ▸ h.2;rw[pq]at q0;have hE:=HE.out;rw[oI nm (L.map yH.name) i (by simpa using zIB)]at hE;have zIO:(L.map yH.name).getD i []=yH.name (L.getD i x9):=by simp[List.getD,zIB]
   rw[zIO]at hE;have HE2:=zA hE;have lg:=zT q0;have mg:wr.heap.size≠g:=by omega
   clear HE hE hcr zIO;generalize L.getD i x9=x at *;obtain⟨x0,x1,x2,x3⟩:=x;simp only at q0 q1 q2 q3 HE2;by_cases k1:x0=nm
   ·have HE3:Hid (zH (L.map yH.name) nm=i):=by have:=HE2.out;rw[tj k1]at this;exact this.symm
    have b1:(x0==nm)=true:=by simpa using k1
    clear HE2 k1;go_wp2_with fail
    go_ret
    exact⟨zY HE3.out.symm,HB.out.alloc zIQ _⟩
   ·have HE3:Hid (vY nm ((L.map yH.name).drop (i+1)) (i+1)=zH (L.map yH.name) nm):=by have:=HE2.out;rw[tg k1]at this;exact this
    have b1:(x0==nm)=false:=by simpa using k1
    clear HE2 k1;go_wp2_with fail
    go_roundw
    case rel=>exact⟨i+1,by omega,by go_num,zA (HB.out.alloc zIQ _),HE3⟩
    case measure=>simp[intOf];omega
  ·have HE3:Hid (zH (L.map yH.name) nm = -1):=by have:=HE.out;rw[tu (by simp;omega)]at this;exact this.symm
   clear HE;go_wp2_with fail
   go_ret
   exact⟨zY HE3.out.symm,HB.out⟩
def zDB(x:Bs × Nat):List Value:=[.string ⟨x.1.toArray⟩,.int .i64 (x.2:Nat)]
theorem CK(w:World)(b o:Nat)(ia:Option Addr)(ic:Nat)(L:List (Bs × Nat))(nm:Bs)(hm:w.cell? ⟨b,o+1,none⟩=some (.slice ia L.length ic))(hc:pE w ia (L.flatMap zDB))(hf:L.length<=10000) :
 Calls Tryz.prog 184 #[.pointer (some ⟨b,o,none⟩),.string ⟨nm.toArray⟩] w fun e w'=>e=.returned (.int .i64 (zH (L.map Prod.fst) nm))/\Below w.heap.size w w':=by
 have HC:=zA hc;clear hc
 go_enter Tryz.func184,Tryz.ntmps184
 go_wp2_with fail
 go_loopw [12] (fun iv wr=>∃(i:Nat),i<=L.length/\iv=.int .i64 i/\Hid (Below w.heap.size w wr)/\Hid (vY nm ((L.map Prod.fst).drop i) i=zH (L.map Prod.fst) nm)) (fun iv _=>L.length-(intOf iv).toNat)
 case atStart=>exact⟨0,tr _,rfl,zA (tl _ _),zA rfl⟩
 case round =>
  obtain⟨i,hi,rfl,HB,HE⟩:=hrel;have zIQ:=HB.out.size;by_cases zIB:i<L.length
  ·have hcr:=HC.out.below HB.out
   obtain⟨g,rfl,q0⟩:=hcr.at ((zW zDB 2 (fun _=>rfl) ([],0) L i 0 zIB (by decide)).trans rfl);have q1:=(hcr.at ((zW zDB 2 (fun _=>rfl) ([],0) L i 1 zIB (by decide)).trans rfl)).elim fun g' h=>(show g=g' by simpa using h.1) ▸ h.2;rw[pq]at q0;have hE:=HE.out;rw[oI nm (L.map Prod.fst) i (by simpa using zIB)]at hE;have zIO:(L.map Prod.fst).getD i []=Prod.fst (L.getD i ([],0)):=by simp[List.getD,zIB]
   rw[zIO]at hE;have HE2:=zA hE;have lg:=zT q0;have mg:wr.heap.size≠g:=by omega
   clear HE hE hcr zIO;generalize L.getD i ([],0)=x at *;obtain⟨x0,x1⟩:=x;simp only at q0 q1 HE2;by_cases k1:x0=nm
   ·have HE3:Hid (zH (L.map Prod.fst) nm=i):=by have:=HE2.out;rw[tj k1]at this;exact this.symm
    have b1:(x0==nm)=true:=by simpa using k1
    clear HE2 k1;go_wp2_with fail
    go_ret
    exact⟨zY HE3.out.symm,HB.out.alloc zIQ _⟩
   ·have HE3:Hid (vY nm ((L.map Prod.fst).drop (i+1)) (i+1)=zH (L.map Prod.fst) nm):=by have:=HE2.out;rw[tg k1]at this;exact this
    have b1:(x0==nm)=false:=by simpa using k1
    clear HE2 k1;go_wp2_with fail
    go_roundw
    case rel=>exact⟨i+1,by omega,by go_num,zA (HB.out.alloc zIQ _),HE3⟩
    case measure=>simp[intOf];omega
  ·have HE3:Hid (zH (L.map Prod.fst) nm = -1):=by have:=HE.out;rw[tu (by simp;omega)]at this;exact this.symm
   clear HE;go_wp2_with fail
   go_ret
   exact⟨zY HE3.out.symm,HB.out⟩
end Go.Proofs.YtnbpdffdnphbeaaGreatDoor
