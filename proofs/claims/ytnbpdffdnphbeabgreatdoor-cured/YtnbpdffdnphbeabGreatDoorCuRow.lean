import Derived.Test.YtnbpdffdnphbeabGreatDoorCuWalk
import Derived.Test.YtnbpdffdnphbeabGreatDoorRows
import Derived.LaidMore
import Derived.Stop.Joined
import Derived.Stop.LaidErr
import Derived.Lib.LaidTab
set_option maxRecDepth 100000
namespace Go.Proofs.YtnbpdffdnphbeabGreatDoor
open Go.ChangeShapes Go.WideShapes Go.ChangeAt Go.WideMaps Go.WideElems Go.RowKit
theorem yd:ownKnob Tryz.prog.godebug=none:=by kernel_rfl
theorem ZU:laidOutB Tryz.prog=true:=by kernel_rfl
theorem BD:Tryz.prog.globalNamed "internal/strconv.uint64pow10" = some 0:=by kernel_rfl
theorem zGK:(Tryz.prog.globals[0]?).map (·.type)=some 275:=by kernel_rfl
theorem Jt{H:Type}:(Rows.laid_internal_strconv_uint64pow10:DataW H)=Lib.tabData .u64 Lib.pow10Tab:=by rfl
abbrev oB:List (String × DataW Unit):=[("math/bits.deBruijn32tab",Rows.laid_math_bits_deBruijn32tab),("math/bits.deBruijn64tab",Rows.laid_math_bits_deBruijn64tab),("internal/strconv.uint64pow10",Rows.laid_internal_strconv_uint64pow10)]
theorem YJ{W:World}(h:laidMetH Tryz.prog oB W):gU W:=by
 rw[MakeChecks.laidMetH_plain _ _ _ (by kernel_rfl)]at h;have h2:=laidMet.tail (laidMet.tail h)
 have hT:zI9 W:=by
  rw[Jt]at h2;exact Lib.tabIs_of_head BD zGK Tryz.underlying275 Tryz.underlying247 (by kernel_rfl) (by kernel_rfl) h2
 exact⟨hT,0,BD,World.block_lt_of_cell? _ _ (Lib.TabIs.cell hT BD 0 (by decide))⟩
theorem wZ(os:Os)(args:Array Value):laidMetH Tryz.prog oB ((World.doorLaid Tryz.prog 4000 os).forCall (fun _ _=>0) ⟨#[],args,[]⟩).memory :=
 laidMetH_of_parts3 (fuel:=8) (laidMet_of_run' 8 (by kernel_rfl) (by kernel_rfl)) (by kernel_rfl) (by kernel_rfl)
theorem zE2(os:Os)(started:os.Started)(H:Type)(enc:TypeId × Value->H) :
 ReturnsInHanded {} Tryz.checked os 7 .any (fun w args=>(Rows.curedSpec.pre enc Tryz.prog Tryz.f7 [] false w args/\laidMetH Tryz.prog oB w)/\sizedMet enc Tryz.prog Tryz.f7 (OpenSpec.ofChange Rows.curedSpec) false w args)
  (Rows.curedSpec.post enc Tryz.prog Tryz.f7 false true false false):=by
 refine returnsInHanded_of_change_and (C:=Tryz.checked) (X:=fun w _=>laidMetH Tryz.prog oB w) (fun _ _ _ hh h=>h.of_heap hh) yd started (by kernel_rfl) Tryz.func7
  (ChangeSpec.witness_shaped (enc:=enc) (C:=Tryz.checked) (os:=os) (X:=fun w _=>laidMetH Tryz.prog oB w) false (World.doorLaid Tryz.prog 4000 os) #[.agg #[.slice none 0 0,.slice none 0 0,.slice none 0 0]] 8 rfl (World.shaped_of_RefB (by kernel_rfl) (by kernel_rfl)) (by kernel_rfl) (by kernel_rfl) (by kernel_rfl) (wZ os _)) ?_
 intro W base args ds gs before hval0 hW _ _ hL _;have hval:∀(j:Nat) t v,(Tryz.f7).params[j]? = some t->args[j]? = some v->Value.okWide Tryz.prog W .any base t v:=hval0;have hW':=hW;obtain⟨p,q,hA0,hV,rfl,hfz,hnd⟩:=hW;have hA:DataW.TrodAll enc Tryz.prog W 0 (fun _=>true) true (Tryz.f7).params.toList args.toList ds p:=hA0;rw[Tryz.params7]at hA hval;obtain⟨v0,d0,rfl,rfl,h0⟩:=trodAll_one hA;obtain⟨rfl,rfl⟩:=trodVars_none hV;have h0k:=h0;have hlt0:∀x∈p,x.block<W.heap.size:=fun x hx=>by simpa using hW'.lt x (by simp[hx])
 obtain⟨la,ln,lc,wa,wn,wk,ra,rn,rc,hd,rfl,r0,r1,r2⟩:=QF (hval 0 25 v0 rfl rfl) h0;have hT:=YJ hL;clear hA0 hval0;refine(GI W la wa ra ln lc wn wk rn rc hd r0 r1 r2 hT).mono fun e W' ⟨he,hb⟩=>?_;subst he;refine⟨_,rfl,_,_,_,[],p,[],hW',?_,?_,?_,?_,?_⟩
 ·exact trodAll_mk1 (shut_bool Tryz.underlying4 _)
 ·exact trodAll_mk1 (Below.trod ZU (by kernel_rfl) (cg (by kernel_rfl)) h0k hb hlt0)
 ·rfl
 ·exact hb.frame _
 ·intro h;exact absurd h (by decide)
theorem VB:Rows.CuredSaid :=
 OpenClaim.holds_of_wide 7 Tryz.f7 rfl rfl rfl rfl rfl rfl rfl ⟨rfl,rfl,rfl,rfl,rfl⟩ rfl rfl rfl rfl rfl (by kernel_rfl) Tryz.func7 (by kernel_rfl)
  (cg (by kernel_rfl)) (by unfold Func.isWrapper;first|(rw[tr (by decide +kernel)];kernel_rfl)|(rw[tj (by decide +kernel)];exact⟨rfl,rfl⟩))
  (fun os started H enc _=>zE2 os started H enc)
end Go.Proofs.YtnbpdffdnphbeabGreatDoor
