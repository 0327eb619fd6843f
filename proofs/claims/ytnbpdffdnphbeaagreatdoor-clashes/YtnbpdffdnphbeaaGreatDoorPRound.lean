import Derived.Test.YtnbpdffdnphbeaaGreatDoorRgLinks
import Derived.Test.YtnbpdffdnphbeaaGreatDoorStCheck
namespace Go.Proofs.YtnbpdffdnphbeaaGreatDoor
open Go.RowKit
def zAF(ls:List zF):List (Bs × Nat):=(List.range (zT ls).length).map fun i=>((zT ls).getD i [],XP (mA (zT ls) ls gZ) i)
theorem kx(S:List Nat)(hd:List Bs):∀i acc,i+hd.length<=8->aV S hd i acc=acc++(List.range hd.length).map (fun j=>(hd.getD j [],S.getD (i+j) 0)):=by
 induction hd with
 | nil=>intro i acc _;simp[aV]
 | cons n r ih =>
   intro i acc h;simp only[p7]at h;rw[aV,tl (by omega),ih (i+1) _ (by omega),p7,List.range_succ_eq_map,dm,List.map_map,mn];congr 1
   simp only[List.singleton_append,List.getD_cons_zero,pq,List.cons.injEq,true_and];refine List.map_congr_left (fun j _=>?_);simp only[Function.comp,Nat.succ_eq_add_one,List.getD_cons_succ];rw[show i+1+j=i+(j+1) by omega]
theorem kr(ls:List zF)(h8:(zT ls).length<=8)(hr:jY (mA (zT ls) ls gZ)=false):uI ls=zAF ls:=by
 unfold uI zAF;rw[kx _ _ 0 [] (by omega),bf];refine List.map_congr_left (fun j hj=>?_);have hj8:j<8:=by have:=db.1 hj;omega
 rw[lu,C5 (by rw[Zc];exact vE) hr j hj8]
theorem DJ(L:List (Bs × Nat)):∀i,i<L.length->(Yx L)[i*2]? = some (.string ⟨(L.getD i ([],0)).1.toArray⟩)/\(Yx L)[i*2+1]? = some (.int .i64 (((L.getD i ([],0)).2:Nat):Int)):=by
 induction L with
 | nil=>intro i h;simp at h
 | cons x r ih =>
   intro i h;have e:Yx (x::r)=.string ⟨x.1.toArray⟩::.int .i64 (x.2:Nat)::Yx r:=by simp[Yx]
   rw[e]
   cases i with
   | zero=>simp[List.getD]
   | succ i =>
     have:=ih i (by simpa using h);rw[show (i+1)*2=i*2+1+1 by omega];simp only[cw,List.getD_cons_succ];exact this
structure PrV(w:World)(a:Option Addr)(L:List (Bs × Nat)):Prop where
 blk:0<L.length->∃g,a=some ⟨g,0,none⟩/\∀i,i<L.length->w.cell? ⟨g,i*2,none⟩=some (.string ⟨(L.getD i ([],0)).1.toArray⟩)/\w.cell? ⟨g,i*2+1,none⟩=some (.int .i64 (((L.getD i ([],0)).2:Nat):Int))
 few:L.length<=10000
theorem PrV.keepB{w w':World}{B:Nat}{a:Option Addr}{L:List (Bs × Nat)}(h:PrV w a L)(hb:Below B w w')(hB:w.heap.size<=B):PrV w' a L :=
 ⟨fun h0=>let ⟨g,e,p⟩:=h.blk h0;⟨g,e,fun j hj=>⟨by rw[hb.cell (p:=⟨g,j*2,none⟩) (ti (vW (p j hj).1) hB)];exact(p j hj).1,by rw[hb.cell (p:=⟨g,j*2+1,none⟩) (ti (vW (p j hj).1) hB)];exact(p j hj).2⟩⟩,h.few⟩
structure Fq(w:World)(b:Nat)(L:List (Bs × Nat)):Prop where
 on:w.cell? ⟨b,0,none⟩=some (.bool true)
 lev:∃a c,w.cell? ⟨b,2,none⟩=some (.slice a L.length c)/\PrV w a L
theorem Fq.below{w w':World}{b:Nat}{L:List (Bs × Nat)}(h:Fq w b L)(hb:Below w.heap.size w w'):Fq w' b L:=by
 obtain⟨a,c,h1,h2⟩:=h.lev;exact⟨by rw[hb.cell (p:=⟨b,0,none⟩) (vW h.on)];exact h.on,a,c,by rw[hb.cell (p:=⟨b,2,none⟩) (vW h.on)];exact h1,h2.keepB hb (t9 _)⟩
theorem zHR(k:Int)(w:World):Calls Tryz.prog 16 #[.int .i64 k] w fun e w'=>e=.returned (.int .i64 k)/\w'=w:=by
 go_enter Tryz.func16,Tryz.ntmps16
 go_wp2_with fail
 go_ret
 exact⟨rfl,rfl⟩
end Go.Proofs.YtnbpdffdnphbeaaGreatDoor
