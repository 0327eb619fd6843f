import Derived.Test.YtnbpdffdnphbeabGreatDoorFGuard
namespace Go.Proofs.YtnbpdffdnphbeabGreatDoor
open Go.RowKit
variable{L:List (List Bs)}{ws:List Bs}{vs:List Value}{v:Value}{w' w:World}
def UR(w:World)(v:Value)(ws:List Bs):Prop:=∃a c,v=.slice a ws.length c/\xA w 9 a (vJ ws)
def qM(w:World):List Value->List (List Bs)->Prop
 | [],[]=>True
 | v::vs,l::L=>UR w v l/\qM w vs L
 | _,_=>False
theorem UR.below(h:UR w v ws)(hb:Below w.heap.size w w'):UR w' v ws:=by
 obtain⟨a,c,e,p⟩:=h;exact⟨a,c,e,p.below hb⟩
theorem UR.grown{B n:Nat}{ov:Value}{ys:List Value}(h:UR w v ws)(zLM:w.ownsRow B 70 1 ov n ys)(hg:w.grownBy w' ov.ownBlock):UR w' v ws:=by
 obtain⟨a,c,e,p⟩:=h;exact⟨a,c,e,p.grown zLM (by decide) hg⟩
theorem qM.keep(hk:∀v ws,UR w v ws->UR w' v ws):∀(vs:List Value) (L:List (List Bs)),qM w vs L->qM w' vs L
 | [],[],_=>trivial
 | v::vs,l::L,h=>⟨hk v l h.1,qM.keep hk vs L h.2⟩
 | [],_::_,h=>absurd h id
 | _::_,[],h=>absurd h id
theorem qM.below(h:qM w vs L)(hb:Below w.heap.size w w'):qM w' vs L:=qM.keep (fun _ _ h=>h.below hb) vs L h
theorem qM.grown{B n:Nat}{ov:Value}{ys:List Value}(h:qM w vs L)(zLM:w.ownsRow B 70 1 ov n ys)(hg:w.grownBy w' ov.ownBlock):qM w' vs L:=qM.keep (fun _ _ h=>h.grown zLM hg) vs L h
theorem qM.snoc{l:List Bs}(hv:UR w v l):∀ {vs:List Value} {L:List (List Bs)},qM w vs L->qM w (vs++[v]) (L++[l])
 | [],[],_=>⟨hv,trivial⟩
 | _::_,_::_,h=>⟨h.1,qM.snoc hv h.2⟩
 | [],_::_,h=>absurd h id
 | _::_,[],h=>absurd h id
theorem qM.len:∀ {vs:List Value} {L:List (List Bs)},qM w vs L->vs.length=L.length
 | [],[],_=>rfl
 | _::_,_::_,h=>by rw[p9,p9,qM.len h.2]
 | [],_::_,h=>absurd h id
 | _::_,[],h=>absurd h id
def vA(vs:List Value)(i:Nat):Value:=vs.getD i (.slice none 0 0)
theorem qM.get:∀ {vs:List Value} {L:List (List Bs)},qM w vs L->∀i,i<L.length->vs[i]? = some (vA vs i)/\UR w (vA vs i) (L.getD i [])
 | [],[],_,i,hi=>absurd hi (by simp)
 | _::_,_::_,h,0,_=>⟨rfl,h.1⟩
 | _::vs,_::L,h,i+1,hi=>qM.get (vs:=vs) (L:=L) h.2 i (by simpa using hi)
 | [],_::_,h,_,_=>absurd h id
 | _::_,[],h,_,_=>absurd h id
theorem qM.pick(h:qM w vs L):∀is:List Nat,(∀i∈is,i<L.length)->qM w (is.map (vA vs)) (is.map fun j=>L.getD j [])
 | [],_=>trivial
 | i::is,hi=>⟨(h.get i (hi i (by simp))).2,qM.pick h is (fun j hj=>hi j (by simp[hj]))⟩
def QP(w:World)(a:Option Addr)(L:List (List Bs)):Prop:=∃vs,xA w 70 a vs/\qM w vs L
theorem QP.below{a:Option Addr}(h:QP w a L)(hb:Below w.heap.size w w'):QP w' a L:=by
 obtain⟨vs,h1,h2⟩:=h;exact⟨vs,h1.below hb,h2.below hb⟩
theorem QP.line{a:Option Addr}(h:QP w a L)(i:Nat)(hi:i<L.length):∃g la lc,a=some ⟨g,0,none⟩/\w.cell? ⟨g,i,none⟩=some (.slice la (L.getD i []).length lc)/\∀k,k<(L.getD i []).length->∃gl,la=some ⟨gl,0,none⟩/\w.cell? ⟨gl,k,none⟩=some (.string ⟨((L.getD i []).getD k []).toArray⟩):=by
 obtain⟨vs,h1,h2⟩:=h;obtain⟨e1,la,lc,e2,h3⟩:=h2.get i hi;obtain⟨g,e3,h4⟩:=h1.cel.at e1;rw[e2]at h4;exact⟨g,la,lc,e3,h4,fun k hk=>h3.cel.at (Xc _ k hk)⟩
def vj(ws:List Bs):Nat->Bs
 | 0=>[]
 | k+1=>(if 0<k/\ws.getD k []≠[59] then vj ws k++[32] else vj ws k)++ws.getD k []
def zCZ:List Bs->Bs
 | []=>[]
 | w::r=>(if w=[59] then w else 32::w)++zCZ r
theorem vx(l:List Bs)(w:Bs):zCZ (l++[w])=zCZ l++(if w=[59] then w else 32::w):=by
 induction l with
 | nil=>simp[zCZ]
 | cons x r ih=>rw[cd,zCZ,ih,zCZ,pr]
theorem zKG(l:List Bs):F7 l=zCZ l++[10]:=by
 induction l with
 | nil=>rfl
 | cons x r ih=>rw[F7,zCZ,ih,pr]
theorem zA1(w:Bs)(r:List Bs):∀k,k<=r.length->vj (w::r) (k+1)=w++zCZ (r.take k):=by
 intro k
 induction k with
 | zero=>intro _;simp[vj,zCZ]
 | succ k ih =>
   intro hk;have e:(w::r).getD (k+1) []=r.getD k []:=rfl
   have et:r.take (k+1)=r.take k++[r.getD k []]:=by
    rw[db];simp[List.getD,show k<r.length by omega]
   rw[vj,e,ih (by omega),et,vx];by_cases h:r.getD k []=[59]
   ·rw[tb (fun q=>q.2 h),tl h];simp
   ·rw[tl ⟨by omega,h⟩,tb h];simp
theorem zF3(ws:List Bs):vj ws ws.length++[10]=mV ws:=by
 cases ws with
 | nil=>rfl
 | cons w r=>rw[p9,zA1 w r _ (j1 _),ce,mV,zKG,pr]
theorem KV(L:List (List Bs))(i:Nat)(hi:i<L.length):gY (L.take (i+1))=gY (L.take i)++mV (L.getD i []):=by
 unfold gY;rw[db,lq];simp[List.getD,hi]
def aN(w:World):Prop:=zLA w/\∃g,Tryz.prog.globalNamed "internal/strconv.uint64pow10" = some g/\g<w.heap.size
theorem aN.below(h:aN w)(hb:Below w.heap.size w w'):aN w':=by
 obtain⟨h1,g,h2,h3⟩:=h;exact⟨h1.below ⟨g,h2,h3⟩ hb,g,h2,tj h3 hb.size⟩
theorem Zh(w:World)(n:Int)(h0:0<=n)(h1:n<=9999)(hT:aN w):Calls Tryz.prog 45 #[.int .i64 n] w fun e w'=>e=.returned (.string ⟨(Lib.itoa n).toArray⟩)/\Below w.heap.size w w':=by
 refine(Tryz.strconv_Itoa_laid n (by omega) (by omega) w hT.1).mono ?_;rintro e w' ⟨rfl,k,os,rfl⟩;exact⟨rfl,(KT.growN k os (j1 _)).below⟩
def sX(k:Nat):Bs:=([[60],[60,61],[61],[33,61],[62,61],[62]]:List Bs).getD k []
theorem Fc(w:World)(k:Nat)(hk:k<6):Calls Tryz.prog 135 #[.int .i64 (k:Int)] w fun e w'=>e=.returned (.string ⟨(sX k).toArray⟩)/\Below w.heap.size w w':=by
 have HB:Hid (∀o,Below w.heap.size w (w.alloc o)):=fun o=>fw (j1 _) o;have hc:k=0\/k=1\/k=2\/k=3\/k=4\/k=5:=by omega
 rcases hc with rfl|rfl|rfl|rfl|rfl|rfl
 all_goals
  go_enter Tryz.func135,Tryz.ntmps135
  go_wp2_with fail
  go_ret
  exact⟨rfl,HB.out _⟩
def uR(t:yC):List Bs :=
 if t.kind=0 then [wU] else if t.kind=1 then [yD t.x.toNat] else if t.kind=2 then [aU,xM 99 t.x.toNat] else
 if t.kind=3 then [yD t.x.toNat,sX t.mark.toNat,Lib.itoa t.n] else [yD t.x.toNat,sX t.mark.toNat,yD t.y.toNat]
def xC(t:yC)(lo:Bool):List Bs:=(if t.not=true then [[110,111,116]] else [])++(if (lo&&t.pair)=true then [[40]] else [])++uR t++(if (lo&&t.pair)=true then [[41]] else [])
structure KR(w wx:World)(bo:Obj)(v:Value)(ws:List Bs):Prop where
 box:wx.heap[w.heap.size]? = some bo
 own:wx.ownsRow (w.heap.size+1) 9 1 v ws.length (vJ ws)
 bel:Below w.heap.size w wx
theorem KR.below{wx:World}{bo:Obj}(h:KR w wx bo v ws)(hb:Below wx.heap.size wx w'):KR w w' bo v ws:=⟨(hb.block _ (zM h.box)).trans h.box,kL h.own hb,h.bel.trans (hb.mono h.bel.size)⟩
theorem KR.app{wx wz w9:World}{bo:Obj}{v9:Value}{ns:List Bs}(h:KR w wx bo v ws)(hz:Below wx.heap.size wx wz)(hg:wz.grownBy w9 v.ownBlock)(zLM:w9.ownsRow (w.heap.size+1) 9 1 v9 (ws.length+ns.length) (vJ ws++vJ ns)):KR w w9 bo v9 (ws++ns):=by
 have hZ:=h.below hz;have hb:Below (w.heap.size+1) wz w9:=(tg _ wz).grown hg (zM hZ.box) (zS hZ.own);refine⟨(hb.block _ (mz _)).trans hZ.box,?_,hZ.bel.trans (hb.mono (mw _))⟩;rw[tm];have e:vJ (ws++ns)=vJ ws++vJ ns:=by unfold vJ;rw[bf]
 rw[e];exact zLM
end Go.Proofs.YtnbpdffdnphbeabGreatDoor
