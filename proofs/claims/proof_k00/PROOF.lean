import PyProof.Rows.All
import Wide.All
import OpenK.AllK
import Wide.FinOn
import KE.KExcTry
import KE.KExcIs
import KE.KExcStr
import KE.KExcSuper
import KE.OsRunLaw
import Open.Tops
import PyProof.Rows.CountFlat
import KE.KCallBy
import KE.KTurns
import KE.GoesEnum
import HandS.List
import PySem.Challenge.RW_unknowntakes_k00_error_classes
set_option Elab.async false
set_option rowWalk.seconds 0
section
open PySem PySem.W PySem.Calls PyProof.Rows
set_option maxRecDepth 100000
set_option maxHeartbeats 0
open_shared PySem.K00.sh for PySem.Challenge.pw_unknowntakes_k00_error_classes leaving 42
theorem k00_leftG {p q : Program} {loose : List PySem.Str} {Xt : Shared → Bool} {α : Type} {Yf : Shared → α} {Ya : World → α} {N M : Nat} (he : opening p = plainProg p.main.scope.names) (hN : Nat.ble 600 N = true) (hf : ∀ s, fenceModules? p s = some s) (hle : Nat.ble M N = true)
    (hrun : ∀ (w : World) (os : OsState), ∃ s : SharedT, topRun treeTable p w (boot_heap w.params).objs.size (HeadRun.bootAnn w) M ⟨boot_heap w.params, #[], boot_drawn, boot_toks, os⟩ (topStub p) = some s.abs ∧
      (HeadRun.looksF p (boot_heap w.params) s.abs, openSeen q loose (importedModules p.main.body) Xt true s.abs, Yf s.abs) = (true, openGood q loose, Ya w)) : LeftO p q loose Xt Yf Ya N true := by
  intro w
  obtain ⟨⟨h9, g9, d9, k9, os⟩, ha, hb⟩ := Option.map_eq_some_iff.mp (boot_open he hN hf w)
  obtain ⟨rfl, rfl, rfl, rfl⟩ : h9 = boot_heap w.params ∧ g9 = Array.mk [] ∧ d9 = boot_drawn ∧ k9 = boot_toks := by simpa using hb
  obtain ⟨s, hs, hv⟩ := hrun w os
  obtain ⟨v1, v2, v3⟩ : _ ∧ _ ∧ _ := by simpa only [Prod.mk.injEq] using hv
  have hr := topRun_mono (N - M) _ _ _ _ hs
  rw [show M + (N - M) = N by have := Nat.le_of_ble_eq_true hle; omega] at hr
  have ht : topFrom treeTable p w N ⟨boot_heap w.params, Array.mk [], boot_drawn, boot_toks, os⟩ = some s.abs := by
    unfold topFrom
    dsimp only
    rw [HeadRun.boot_ns]
    show (topRun treeTable p w (boot_heap w.params).objs.size (HeadRun.bootAnn w) N ⟨boot_heap w.params, #[], boot_drawn, boot_toks, os⟩ (topStub p)).bind _ = _
    rw [hr]
    show (match HeadRun.looksF p (boot_heap w.params) s.abs with | true => some s.abs | false => none) = _
    rw [v1]
  unfold openEnds
  rw [ha]
  show (topFrom treeTable p w N _).map _ = _
  rw [ht]
  exact congrArg some (Prod.ext v2 v3)
theorem k00_stmts : (PySem.K00.sh.sts_4 ++ (PySem.K00.sh.sts_53 ++ (PySem.K00.sh.sts_69 ++ (PySem.K00.sh.sts_94 ++ (PySem.K00.sh.sts_119 ++ (PySem.K00.sh.sts_144 ++ (PySem.K00.sh.sts_169 ++ (PySem.K00.sh.sts_194 ++ (PySem.K00.sh.sts_219 ++ (PySem.K00.sh.sts_244 ++ (PySem.K00.sh.sts_269 ++ (PySem.K00.sh.sts_294 ++ (PySem.K00.sh.sts_319 ++ (PySem.K00.sh.sts_344 ++ (PySem.K00.sh.sts_369 ++ (PySem.K00.sh.sts_394 ++ (PySem.K00.sh.sts_419 ++ (PySem.K00.sh.sts_444 ++ (PySem.K00.sh.sts_469 ++ (PySem.K00.sh.sts_494 ++ (PySem.K00.sh.sts_519 ++ (PySem.K00.sh.sts_544 ++ ((behindTheImports PySem.Challenge.rw_unknowntakes_k00_error_classes.row.prog).drop 30))))))))))))))))))))))) = behindTheImports PySem.Challenge.rw_unknowntakes_k00_error_classes.row.prog := by kernel_rfl
theorem k00_size (w : World) : (boot_heap w.params).objs.size = 11 := by kernel_rfl
theorem k00_ann (w : World) : HeadRun.bootAnn w = some (Value.ref 6) := by kernel_rfl
theorem k00_pre (w : World) (os : OsState) : topGo treeTable PySem.Challenge.rw_unknowntakes_k00_error_classes.row.prog w 11 (some (Value.ref 6)) 12 ⟨boot_heap w.params, #[], boot_drawn, boot_toks, os⟩ (topStub PySem.Challenge.rw_unknowntakes_k00_error_classes.row.prog) = some ((⟨PySem.K00.sh.tree_4 w.params, 15, {}, Array.mk [], {}, 187, os⟩ : SharedT).abs, ⟨denote treeTable (Code.body (behindTheImports PySem.Challenge.rw_unknowntakes_k00_error_classes.row.prog) PySem.K00.sh.env_1), (Code.body (behindTheImports PySem.Challenge.rw_unknowntakes_k00_error_classes.row.prog) PySem.K00.sh.env_1), ⟨0, 0, 0, 0⟩, [topFrame ⟨0, 0, 0, 0⟩]⟩) := by kernel_rfl
theorem k00_block (w : World) (os : OsState) : segRun treeTable PySem.Challenge.rw_unknowntakes_k00_error_classes.row.prog w 11 (some (Value.ref 6)) 1 1 (⟨PySem.K00.sh.tree_4 w.params, 15, {}, Array.mk [], {}, 187, os⟩ : SharedT).abs (blockOf (behindTheImports PySem.Challenge.rw_unknowntakes_k00_error_classes.row.prog) PySem.K00.sh.env_1 (Code.body (behindTheImports PySem.Challenge.rw_unknowntakes_k00_error_classes.row.prog) PySem.K00.sh.env_1) ⟨0, 0, 0, 0⟩ [topFrame ⟨0, 0, 0, 0⟩]) = some (.next, (⟨PySem.K00.sh.tree_4 w.params, 15, {}, Array.mk [], {}, 187, os⟩ : SharedT).abs, (Code.body (behindTheImports PySem.Challenge.rw_unknowntakes_k00_error_classes.row.prog) PySem.K00.sh.env_1), ⟨0, 0, 0, 0⟩) := by kernel_rfl
theorem k00_mid (w : World) (os : OsState) (M : Nat) (r : Shared) (h : topRun treeTable PySem.Challenge.rw_unknowntakes_k00_error_classes.row.prog w 11 (some (Value.ref 6)) M (⟨PySem.K00.sh.tree_567 w.params, 493, {}, Array.mk [], {}, 803, os⟩ : SharedT).abs (restOf ((behindTheImports PySem.Challenge.rw_unknowntakes_k00_error_classes.row.prog).drop 30) PySem.K00.sh.env_1 (Code.body (behindTheImports PySem.Challenge.rw_unknowntakes_k00_error_classes.row.prog) PySem.K00.sh.env_1) ⟨125, 0, 129, 24⟩ [topFrame ⟨0, 0, 0, 0⟩]) = some r) :
    topRun treeTable PySem.Challenge.rw_unknowntakes_k00_error_classes.row.prog w (boot_heap w.params).objs.size (HeadRun.bootAnn w) (12 + (1 + (Nat.add 235 (Nat.add 187 (Nat.add 262 (Nat.add 262 (Nat.add 262 (Nat.add 262 (Nat.add 262 (Nat.add 260 (Nat.add 260 (Nat.add 262 (Nat.add 262 (Nat.add 262 (Nat.add 262 (Nat.add 262 (Nat.add 260 (Nat.add 260 (Nat.add 260 (Nat.add 262 (Nat.add 260 (Nat.add 262 (Nat.add 262 (Nat.add 262 M)))))))))))))))))))))))) ⟨boot_heap w.params, #[], boot_drawn, boot_toks, os⟩ (topStub PySem.Challenge.rw_unknowntakes_k00_error_classes.row.prog) = some r := by
  have k := PySem.K00.sh.chain PySem.Challenge.rw_unknowntakes_k00_error_classes.row.prog (behindTheImports PySem.Challenge.rw_unknowntakes_k00_error_classes.row.prog) w os ((behindTheImports PySem.Challenge.rw_unknowntakes_k00_error_classes.row.prog).drop 30) M r h
  rw [k00_stmts] at k
  rw [k00_size, k00_ann]
  exact go_top (k00_pre w os) (piece_block (k00_block w os) k)
theorem k00_leftK {q : Program} {loose : List PySem.Str} {Xt : Shared → Bool} {K : Params → Frag} {as : List Addr} {ek : ∀ P, as = (K P).map (·.1)} {N : Nat} (he : opening PySem.Challenge.rw_unknowntakes_k00_error_classes.row.prog = plainProg PySem.Challenge.rw_unknowntakes_k00_error_classes.row.prog.main.scope.names) (hN : Nat.ble 600 N = true) (hf : ∀ s, fenceModules? PySem.Challenge.rw_unknowntakes_k00_error_classes.row.prog s = some s) (hle : Nat.ble (12 + (1 + (Nat.add 235 (Nat.add 187 (Nat.add 262 (Nat.add 262 (Nat.add 262 (Nat.add 262 (Nat.add 262 (Nat.add 260 (Nat.add 260 (Nat.add 262 (Nat.add 262 (Nat.add 262 (Nat.add 262 (Nat.add 262 (Nat.add 260 (Nat.add 260 (Nat.add 260 (Nat.add 262 (Nat.add 260 (Nat.add 262 (Nat.add 262 (Nat.add 262 9000)))))))))))))))))))))))) N = true)
    (hrun : ∀ (w : World) (os : OsState), (HeadRun.goF (HeadRun.stepQ (HeadRun.denQ HeadRun.tabQ) PySem.Challenge.rw_unknowntakes_k00_error_classes.row.prog w) 11 (some (Value.ref 6)) 9000 (⟨PySem.K00.sh.tree_567 w.params, 493, {}, Array.mk [], {}, 803, os⟩ : SharedT) (restOf ((behindTheImports PySem.Challenge.rw_unknowntakes_k00_error_classes.row.prog).drop 30) PySem.K00.sh.env_1 (Code.body (behindTheImports PySem.Challenge.rw_unknowntakes_k00_error_classes.row.prog) PySem.K00.sh.env_1) ⟨125, 0, 129, 24⟩ [topFrame ⟨0, 0, 0, 0⟩])).map (fun s => (HeadRun.looksF PySem.Challenge.rw_unknowntakes_k00_error_classes.row.prog (boot_heap w.params) s.abs, HeadRun.seenQ q loose (importedModules PySem.Challenge.rw_unknowntakes_k00_error_classes.row.prog.main.body) Xt s.abs, as.map (HeadRun.getT s))) = some (true, openGood q loose, (K w.params).map fun x => some x.2)) :
    LeftO PySem.Challenge.rw_unknowntakes_k00_error_classes.row.prog q loose Xt (Hook.obs (kHook K as ek)) (Hook.val (kHook K as ek)) N true := by
  refine k00_leftG he hN hf hle fun w os => ?_
  obtain ⟨s, hs, hv⟩ := Option.map_eq_some_iff.mp (hrun w os)
  refine ⟨s, ?_, ?_⟩
  · refine k00_mid w os 9000 _ ?_
    rw [← HeadRun.stepQ_eq, ← HeadRun.denQ_eq, ← HeadRun.tabQ_eq] at hs
    exact HeadRun.goF_ok hs
  · have q1 : as.map (HeadRun.getT s) = Hook.obs (kHook K as ek) s.abs := List.map_congr_left fun a _ => HeadRun.getT_eq s a
    rw [q1] at hv
    rw [HeadRun.seenQ_eq]
    exact hv
end
section
open PySem PySem.W PyProof.Rows
set_option maxRecDepth 100000
set_option maxHeartbeats 0
local macro_rules | `(tactic| k_head) => `(tactic| k_headL)
local macro_rules | `(tactic| refine $_f (M := $_m) $a $b $c $_d $_e) => `(tactic| refine k00_leftK $a $b $c (by decide +kernel) ?_)
open_top PySem.K00.hd for PySem.Challenge.rw_unknowntakes_k00_error_classes
end
section
open PySem PySem.W PyProof.Rows
theorem k00_off : True := by
  w_top off
  trivial
end
section
open PySem PySem.W PyProof.Rows
set_option linter.all false
set_option maxRecDepth 100000
set_option maxHeartbeats 2000000
namespace PySem
section
open PySem.PX
variable {prog : Program} {w : World} {A : Around} {E : Value → Shared → Prop} {R : Result → Shared → Prop} {h : Heap} {gs : Array GenState} {dr : Drawn} {tk : Nat} {os : OsState}
variable {nm qn : Str} {C NS : Addr} {bs bm bmB : List Value} {hd : Bool} {sn : List Str} {sb : List Value} {ab : Bool} {cl : Option Bool} {dd : Option Addr} {k0 k1 k2 k3 k5 : Option Value} {B nI iI : String} {rest : List Value}
theorem kq_check (F : ExcBaseFacts B nI iI bmB) (hT : ∀ X : String, bm.contains (.type X) = bmB.contains (.type X)) {kw : List (Str × Value)} {Q : Unit → Shared → Prop}
    (hC : h.get? C = some (excClassObj nm qn C NS bs bm hd sn sb ab cl dd k0 k1 k2 k3 k5 nI)) (hq : Q () ⟨h, gs, dr, tk, os⟩) :
    wpAny (model prog w) A (checkBuiltinCall nI ⟨.ref C :: rest, kw⟩) Q E ⟨h, gs, dr, tk, os⟩ := by
  have isB : (Value.ref C :: bm).contains (.type B) = true := by rw [List.contains_cons, hT, F.hasB, Bool.or_true]
  have star := F.noStar
  simp only [checkBuiltinCall, F.newKind, F.newSplit, F.newRow]
  repeat (first | refine wpAny_loadPart_at hC ?_ | (refine wpAny_isSubtype_exc hC ?_; rw [isB]) | refine wpAny_staticBase_exc hC ?_ | refine wpAny_madeBy_exc hC ?_ | simp only [bne_self_eq_false, Bool.false_eq_true, if_false] | wp_step)
  all_goals first | exact hq | skip
theorem kq_new (small : rest.length ≤ sizeLine) (F : ExcBaseFacts B nI iI bmB) (hT : ∀ X : String, bm.contains (.type X) = bmB.contains (.type X)) {kw : List (Str × Value)}
    (hC : h.get? C = some (excClassObj nm qn C NS bs bm hd sn sb ab cl dd k0 k1 k2 k3 k5 nI))
    (hq : R (.ok (.ret (.ref (h.objs.size + 1)))) ⟨(h.push (W.kdv_tup rest)).push (excO C h.objs.size), gs, dr, tk, os⟩) :
    codeAny (model prog w) A (.builtin nI ⟨.ref C :: rest, kw⟩) R ⟨h, gs, dr, tk, os⟩ := by
  have ends := F.ends
  have isB : (Value.ref C :: bm).contains (.type B) = true := by rw [List.contains_cons, hT, F.hasB, Bool.or_true]
  have notA : (Value.ref C :: bm).contains (.type "AttributeError") = false := by rw [List.contains_cons, hT, F.noAttr]; rfl
  have notN : (Value.ref C :: bm).contains (.type "NameError") = false := by rw [List.contains_cons, hT, F.noName]; rfl
  refine codeAny_builtinAt F.entry ?_
  unfold Builtin.«BaseException.__new__»
  refine wpAt_bind ?_
  show wpAt _ _ _ (stack >>= _) _ _ _
  refine wpAt_bind (wpAt_stack fun p below => wpAt_of_wpAny ?_)
  wp_walk
  refine wpAt_of_wpAny ?_
  rw [F.owner]
  repeat (first | with_reducible refine wpAny_madeHere_exc F.canon hC ?_ | with_reducible refine wpAny_loadPart_at hC ?_ | (with_reducible refine wpAny_isSubtype_exc hC ?_; first | rw [isB] | rw [notA] | rw [notN]) | wp_step)
  show R _ _
  rw [Heap.size_push]
  exact hq
theorem kq_type (small : rest.length ≤ sizeLine) (F : ExcBaseFacts B nI iI bmB) (hT : ∀ X : String, bm.contains (.type X) = bmB.contains (.type X)) {kw : List (Str × Value)} {fI : Addr} {Q : Fin → Shared → Prop}
    (hC : h.get? C = some (excClassObj nm qn C NS bs bm hd sn sb ab cl dd k0 k1 k2 k3 k5 nI))
    (hi : W.Looks (model prog w) h (typeLookup (.ref C) "__init__") (some (.ref fI))) (hb : ∀ self, W.Looks (model prog w) h (bindSpecial (.ref fI) self) (.ref fI, [self]))
    (hq : codeAny (model prog w) A (.call (.ref fI) ⟨.ref (h.objs.size + 1) :: rest, kw⟩)
      (fun r z => match r with | .ok (.ret v) => v = .none ∧ Q (.done (.ret (.ref (h.objs.size + 1)))) z | .ok _ => False | .error e => E e z) ⟨(h.push (W.kdv_tup rest)).push (excO C h.objs.size), gs, dr, tk, os⟩) :
    wpAny (model prog w) A (Builtin.«type.__call__» ⟨.ref C :: rest, kw⟩) Q E ⟨h, gs, dr, tk, os⟩ := by
  repeat (first | with_reducible refine wpAny_loadPart_at hC ?_ | with_reducible refine wpAny_madeBy_exc hC ?_ | wp_step)
  refine codeAny_call_builtin_code (Code.quiet_builtin _ F.quiet) (kq_check F hT hC ?_)
  refine kq_new small F hT hC ?_
  show wpAny _ _ _ _ _ _
  have old : ∀ b o, h.get? b = some o → ((h.push (W.kdv_tup rest)).push (excO C h.objs.size)).get? b = some o := fun b o e => Heap.get?_push_of_some _ (Heap.get?_push_of_some _ e)
  have C1 := old _ _ hC
  have got : ((h.push (W.kdv_tup rest)).push (excO C h.objs.size)).get? (h.objs.size + 1) = some (excO C h.objs.size) := by heap_get
  have self1 : (Value.ref C :: bm).contains (.ref C) = true := by simp
  have i1 := hi.keeps old
  have b1 := (hb (.ref (h.objs.size + 1))).keeps old
  unfold isInstance
  repeat (first | with_reducible refine wpAny_loadPart_at got ?_ | (with_reducible refine wpAny_isSubtype_exc C1 ?_; rw [self1]) | wp_step)
  show wpAny _ _ (typeLookup (.ref C) _) _ _ _
  refine i1.at ?_
  refine wpAny_holding (wpAny_bind (b1.at ?_))
  refine wpAny_bind (wpAny_call (codeAny_mono hq fun r z y => ?_))
  rcases r with e | (v | _ | _ | _) <;> first | exact y | exact y.elim | skip
  obtain ⟨rfl, y⟩ := y
  first
    | exact wpAny_pure (wpAny_pure y)
    | (wp_walk; exact y)
theorem kq_said {M : Model} {kw : List (Str × Value)} {Q : Unit → Shared → Prop} (hC : h.get? C = some (excClassObj nm qn C NS bs bm hd sn sb ab cl dd k0 k1 k2 k3 k5 nI))
    (hq : Q () ⟨h, gs, dr, tk, os⟩) : wpAny M A (checkBuiltinCall "type.__call__" ⟨.ref C :: rest, kw⟩) Q E ⟨h, gs, dr, tk, os⟩ := by
  have sub := tc_sub
  have isT : (⟨h, gs, dr, tk, os⟩ : Shared).TypeIs (.ref C) "type" := ⟨_, hC, rfl⟩
  simp only [checkBuiltinCall, tc_kind, tc_split]
  repeat (any_goals (first | assumption | with_reducible refine wpAny_loadPart_at hC ?_ | with_reducible refine wpAny_onRaise ?_ | with_reducible refine wpAny_map ?_ | wp_step))
theorem kq_call (small : rest.length ≤ sizeLine) (F : ExcBaseFacts B nI iI bmB) (hT : ∀ X : String, bm.contains (.type X) = bmB.contains (.type X)) {kw : List (Str × Value)} {fI : Addr}
    (hC : h.get? C = some (excClassObj nm qn C NS bs bm hd sn sb ab cl dd k0 k1 k2 k3 k5 nI))
    (hi : W.Looks (model prog w) h (typeLookup (.ref C) "__init__") (some (.ref fI))) (hb : ∀ self, W.Looks (model prog w) h (bindSpecial (.ref fI) self) (.ref fI, [self]))
    (hq : codeAny (model prog w) (A.under (.builtin "type.__call__" ⟨.ref C :: rest, kw⟩)) (.call (.ref fI) ⟨.ref (h.objs.size + 1) :: rest, kw⟩) (W.InitBack (h.objs.size + 1) R) ⟨(h.push (W.kdv_tup rest)).push (excO C h.objs.size), gs, dr, tk, os⟩) :
    codeAny (model prog w) A (.call (.ref C) ⟨rest, kw⟩) R ⟨h, gs, dr, tk, os⟩ := by
  have l1 := tc_lookup
  have l2 := tc_bind (.ref C)
  have isT : (⟨h, gs, dr, tk, os⟩ : Shared).TypeIs (.ref C) "type" := ⟨_, hC, rfl⟩
  refine codeAny_of_tree ?_
  show wpAny _ _ (callAny (.ref C) _) _ _ _
  repeat (any_goals (first | assumption | with_reducible refine wpAny_loadPart_at hC ?_ | wp_step))
  refine ⟨rfl, ?_⟩
  refine codeAny_call_builtin_at (Code.quiet_builtin _ (by decide +kernel)) entry_typeCall (kq_said hC (kq_type small F hT hC hi hb ?_))
  refine codeAny_mono hq fun r z y => ?_
  rcases r with e | (v | _ | _ | _) <;> exact y
end
end PySem
end
section
open PySem PySem.W PyProof.Rows PySem.Calls
set_option maxRecDepth 100000
namespace PySem
namespace W
section
variable {prog : Program} {w : World} {A : Around} {E : Value → Shared → Prop} {s : Shared} {h₀ : Heap} {L : Addr} {m : Str → Option Value} {news : List (Addr × Obj)} {K : Frag} {C : Addr} {B newId initId : String} {bmB : List Value}
theorem kq_callI {kw : List (Str × Value)} {pos : List Value} {fI : Addr} {Q : Value → Shared → Prop} (F : Fr h₀ L s.heap m) (X₀ : K.In h₀) (N : News h₀ L s.heap news) (FB : ExcBaseFacts B newId initId bmB)
    (hi : findIn K (.ref C) "__init__" = some (some (.ref fI))) (q : excInitIn K C bmB newId = true) (hf : isFn K (.ref fI) = true)
    (hz : pos.length ≤ sizeLine)
    (h : ∀ e t h', Fr h₀ L h' m → News h₀ L h' ((e, excObj C t none .none) :: (t, excTup pos) :: news) → AllNe e news → AllNe t news → e ≠ t →
      codeAny (model prog w) (A.under (.builtin "type.__call__" ⟨.ref C :: pos, kw⟩)) (.call (.ref fI) ⟨.ref e :: pos, kw⟩)
        (InitBack e fun r z => match r with | .ok (.ret v) => Q v z | .ok _ => False | .error x => E x z) { s with heap := h' }) :
    wpAny (model prog w) A (call (.ref C) pos kw) Q E s := by
  have X := X₀.keeps F.keep
  obtain ⟨nm, NS, qn, bs, bm, hd, sn, sb, ab, cl, dd, k0, k1, k2, k3, k5, hC, hT⟩ := excInit_of X q
  obtain ⟨oI, hoI, hcI⟩ : ∃ oI, s.heap.get? fI = some oI ∧ oI.cls = .type "function" := by
    obtain ⟨o, ho, hc⟩ := Option.map_eq_some_iff.mp (show (K.lookup fI).map (·.cls) = some (.type "function") from beq_iff_eq.mp hf)
    exact ⟨o, X _ _ ho, hc⟩
  have hl : Looks (model prog w) s.heap (typeLookup (.ref C) "__init__") (some (.ref fI)) := looks_findIn X hi
  obtain ⟨F2, N2, ne, nt⟩ := exc_two (o1 := excTup pos) (o2 := excObj C s.heap.objs.size none .none) F N rfl rfl
  obtain ⟨hh, g, d, tk, os⟩ := s
  refine wpAny_call (kq_call hz FB hT hC hl (fun self => exc_bind hoI hcI self) (codeAny_mono (h _ _ _ F2 N2 ne nt (Nat.succ_ne_self _)) fun r z y => ?_))
  rcases r with x | (v | _ | _ | _) <;> first | exact y | exact y.elim
end
end W
end PySem
end
section
open PySem PySem.W PyProof.Rows PySem.Calls PySem.Spec PyProof.V
set_option maxRecDepth 100000
namespace PySem
namespace W
section
variable {prog : Program} {w : World} {A₀ A : Around} {s : Shared} {base h₀ : Heap} {L a : Addr} {m : Str → Option Value} {cn : Str} {cs : Scope} {ccd : Value} {cl : List (Str × Addr)} {news : List (Addr × Obj)} {K : Frag} {p : Program} {loose : List Str} {mean : ExcName → Option Value} {mg mb : Str → Option Value}
    {R : Result → Shared → Prop} {name qual : Str} {params : Arguments} {body : List Stmt} {scope : Scope} {dV kV doc pm cdv ct oc : Value} {an od : Option Addr} {osl : Array (Option Value)} {f : Addr} {args : Args} {binds : List (Str × Value)}
theorem k00_def (B : Below A₀ base [] h₀) (F : Fr h₀ L s.heap m) (X₀ : K.In h₀) (N : News h₀ L s.heap news) (T : Top p loose mean mg mb h₀) (hA : A.frames = some [envX cn cs L a ccd cl])
    (ho : K.lookup f = some ⟨oc, od, .func (fnOf name qual params body scope dV kV doc pm an cdv ct), osl⟩) (hcd : codeIn K cdv qual = true) (hroom : A.depth < recursionLimit)
    (hbind : BindsTo s (fnOf name qual params body scope dV kV doc pm an cdv ct) args binds) (hloc : ∀ y ∈ binds, scope.names.lookup y.1 = some .local)
    (h : ∀ g L' h₁, Fr h₀ L g m → Fr g L' h₁ (fun y => binds.reverse.lookup y) → News g L' h₁ [] → Below A base [envX cn cs L a ccd cl] g → K.In g → Top p loose mean mg mb g → KtsDicts ([envX cn cs L a ccd cl].filterMap (·.frame)) g →
      wpAny (model prog w) (A.deeper (envOf qual scope L' f cdv)) (execs body (envOf qual scope L' f cdv))
        (fun fl z => LeaveS0 ([envX cn cs L a ccd cl].filterMap (·.frame)) h₀ L m g (fun r y => News h₀ L y.heap news → R r y) (match fl with | .ret v => v | _ => .none) z)
        (fun e z => wpAny (model prog w) (A.deeper (envOf qual scope L' f cdv)) («leaving» (envOf qual scope L' f cdv) e) (fun _ y => R (.error e) y) (fun e' y => R (.error e') y) z)
        { s with heap := h₁, toks := s.toks + binds.length })
    (hck : cs.kind = .function) (hco : scope.isCoroutine = false) (hgen : scope.isGenerator = false) (hk : scope.kind = .function)
    (hcell : ∀ x ∈ scope.names, x.2 ≠ .cell) : codeAny (model prog w) A (.call (.ref f) args) R s := by
  have X := X₀.keeps F.keep
  have none0 : h₀.get? L = none := kts_self F
  obtain ⟨oL, es, ep, hL, hLd, hLk, hLf⟩ := F.ns
  refine codeAny_call_def (fd := fnOf name qual params body scope dV kV doc pm an cdv ct) (body := body) (binds := binds) hroom (X _ _ ho) rfl (T.nolimit.keeps F.keep) (codeRec_of X hcd) rfl hbind hcell hloc (fun h₁ hns old => ?_) hco hgen hk
  have B₂ : Below A base [envX cn cs L a ccd cl] s.heap := by
    refine ⟨hA, fun b o e => F.keep b o (B.stays b o e), ⟨by show cs.kind ≠ .module; rw [hck]; decide, ⟨L, oL, rfl, ?_, hL, fun vs q => by rw [hLd] at q; cases q⟩, trivial⟩⟩
    cases q : base.get? L with
    | none => rfl
    | some o =>
      have z := B.stays L o q
      rw [none0] at z
      cases z
  refine wpAny_mono (h s.heap s.heap.objs.size h₁ F ⟨hns, fun b o e => old b o e, Nat.le_refl _⟩ (fun p hp => by cases hp) B₂ X (T.keeps F.keep) (fun b hb => by
      have hb' : b ∈ [L] := hb
      obtain rfl := List.mem_singleton.mp hb'
      exact ⟨oL, es, ep, hL, hLd⟩)) (fun fl z hl => ?_) fun _ _ y => y
  obtain ⟨g', L', m', news', T', F', N', k⟩ := hl
  obtain ⟨sl, hs⟩ := T'.up hL
  refine k ⟨⟨_, es, ep, F'.keep _ _ hs, hLd, hLk, hLf⟩, fun b o e => F'.keep b o (T'.other b o (F.keep b o e) (fun q => by
    have q' : b ∈ [L] := q
    rw [List.mem_singleton.mp q', none0] at e
    cases e)), F.above⟩ (fun p hp => ⟨(N' p hp).1, fun q => ?_, ?_⟩) fun p hp => ⟨F'.keep _ _ (T'.other p.1 p.2 (N p hp).1 (fun q => (N p hp).2.1 (List.mem_singleton.mp (show p.1 ∈ [L] from q)))), (N p hp).2⟩
  · have y := (N' p hp).2.2
    rw [q, hs] at y
    cases y
  · cases q : h₀.get? p.1 with
    | none => rfl
    | some o =>
      obtain ⟨sl', hs'⟩ := T'.up (F.keep _ _ q)
      have y := (N' p hp).2.2
      rw [hs'] at y
      cases y
end
end W
end PySem
end
section
open PySem
set_option maxRecDepth 100000
namespace PySem
set_option maxHeartbeats 1000000 in
theorem k00_newE {v : Value} {o : Obj} {H : Heap → Prop} (B : Begins v o H) :
    Meets (Builtin.«enumerate.__new__» ⟨[.type "enumerate", v], []⟩) (fun _ R s => H s.heap ∧
      R (.ok (.ret (.ref (s.heap.push o).objs.size))) { s with heap := (s.heap.push o).push { cls := .type "enumerate", data := .fields #[.none, .bool false, .ref s.heap.objs.size, rawInt 0, .none, .none] } }) :=
  .of_wp fun prog w A R s h => by
    obtain ⟨hp, gs, dr, tk, os⟩ := s
    obtain ⟨h1, h⟩ := h
    have sub := sub_enumerate
    have q1 : ∀ {A' : Around} {E : Value → Shared → Prop} {Q : Value → Shared → Prop}, Q (.ref hp.objs.size) ⟨hp.push o, gs, dr, tk, os⟩ → wpAny (model prog w) A' (pyIter v) Q E ⟨hp, gs, dr, tk, os⟩ :=
      fun q => B.iter prog w _ _ ⟨hp, gs, dr, tk, os⟩ _ h1 q
    wp_walk using q1
    refine wpAny_stack_any fun st => wpAny_pure ?_
    split
    · rename_i c _ _ _ _ _
      cases (c == Value.type "enumerate") <;> (wp_walk using q1; exact ⟨_, rfl, h⟩)
    · wp_walk using q1
      exact ⟨_, rfl, h⟩
theorem k00_enumCall {prog : Program} {w : World} {A : Around} {E : Value → Shared → Prop} {s : Shared} {v : Value} {o : Obj} {H : Heap → Prop} {Q : Value → Shared → Prop} (B : Begins v o H) (h1 : H s.heap)
    (h : ∀ h', IsEnum h' (s.heap.objs.size + 1) s.heap.objs.size 0 .none → h'.get? s.heap.objs.size = some o → h'.objs.size = s.heap.objs.size + 2 →
      (∀ b o, s.heap.get? b = some o → h'.get? b = some o) → Q (.ref (s.heap.objs.size + 1)) { s with heap := h' }) :
    wpAny (model prog w) A (call (.type "enumerate") [v]) Q E s := by
  refine callType_new F.called_enumerate (by decide) (F.typeCall_enumerate_1 _) (F.newCall_enumerate_1 _) (fun obj => F.args_object_init_2 obj _) F.entry_enumerate_new (k00_newE B) ⟨h1, ?_⟩
  have hz : (s.heap.push o).objs.size = s.heap.objs.size + 1 := Heap.size_push ..
  show _ ∧ _
  rw [hz]
  have he : IsEnum ((s.heap.push o).push { cls := .type "enumerate", data := .fields #[.none, .bool false, .ref s.heap.objs.size, rawInt 0, .none, .none] }) (s.heap.objs.size + 1) s.heap.objs.size 0 .none := by
    have z := Heap.get?_push_size (s.heap.push o) (o := { cls := .type "enumerate", data := .fields #[.none, .bool false, .ref s.heap.objs.size, rawInt 0, .none, .none] }) rfl
    rw [hz] at z
    exact z
  refine ⟨⟨_, he, rfl⟩, h _ he (Heap.get?_push_of_some _ (Heap.get?_push_size _ B.free)) (by rw [Heap.size_push, hz]) fun b o x => Heap.get?_push_of_some _ (Heap.get?_push_of_some _ x)⟩
namespace W
section
open PyProof.Rows
variable {prog : Program} {w : World} {A : Around} {E : Value → Shared → Prop} {s : Shared} {env : Env} {h₀ : Heap} {body : List Stmt} {Q : Flow → Shared → Prop}
theorem k00_enumT {elts : List Expr} {k : Nat} {pos : Pos} {t : Addr} {lo : Obj} {vs : List Value} {xs : List Itm} {n : Nat} {m₀ : Str → Option Value} {news : List (Addr × Obj)}
    (hh : A.handled = none) (F : Fr h₀ env.locals s.heap m₀) (N : News h₀ env.locals s.heap news) (hm : (t, lo) ∈ news) (hc : lo.cls = .type "tuple") (hd : lo.data = .seq vs.toArray n) (hx : enumItems 0 vs = xs)
    (rest₀ : ∀ I : Addr, (∀ p ∈ news, p.1 < I) → ItemsRest prog w A E h₀ env (.Tuple elts k pos) body Q s [(I + 1, "enumerate"), (I, "tuple_iterator")] [(t, lo)] xs m₀ news) :
    wpAny (model prog w) A (call (.type "enumerate") [.ref t]) (fun xv s₁ => wpAny (model prog w) A (pyIter xv) (fun it s₂ => TurnsAt prog w A h₀ env (.Tuple elts k pos) body Q E it s₂) E s₁) E s := by
  subst hx
  have here := N _ hm
  have ht : s.heap.IsTuple t vs.toArray := ⟨lo, here.1, hc, n, hd⟩
  have low : t < s.heap.objs.size := Heap.lt_size here.1
  have lowL : env.locals < s.heap.objs.size := F.ns.lt
  have hne : t ≠ s.heap.objs.size := Nat.ne_of_lt low
  refine k00_enumCall (begins_tuple t vs.toArray) ht fun h' hE hI hsz old => ?_
  refine wpAny_pyIter_enum hE ?_
  have D := Draws.tuple (prog := prog) (w := w) (A := A.in1) hh s.heap.objs.size t hne vs.toArray
  refine ktu_core (tk0 := s.toks) (keep := [(t, lo)]) (KTurns.ofWalksU (WalksT.enumerateD D (s.heap.objs.size + 1) (Nat.succ_ne_self _) (by
      intro q
      rcases List.mem_cons.mp q with e | q
      · exact Nat.succ_ne_self _ e
      · exact ktu_ne 1 low (List.mem_singleton.mp q).symm) (.head _)).toU) (by simp [enumItems_length]) ?_ ?_ ?_ ?_ ?_ ?_ ?_ ?_ (F.keeps old) (N.grown old) (And.intro hm trivial) (rest₀ _ fun p hp => Heap.lt_size (N p hp).1)
  · rintro i v h ⟨T, vals, rfl, ⟨u, x, hx, rfl⟩, hT⟩
    refine ⟨_, enumItems_get vs 0 i (v := x) (by simpa using hx), T, u, rfl, ?_⟩
    show IsTup h T #[.int ((0 + i : Nat) : Int) u, x]
    rw [Nat.zero_add]
    exact hT
  · rintro i h ⟨⟨was, he⟩, ⟨oi, hoi, hic, _⟩, _⟩
    have he' : ∃ oe : Obj, h.get? (s.heap.objs.size + 1) = some oe ∧ oe.cls = .type "enumerate" := ⟨_, he, rfl⟩
    obtain ⟨oe, h1, h2⟩ := he'
    refine ⟨[(s.heap.objs.size + 1, oe), (s.heap.objs.size, oi)], ⟨⟨rfl, h2⟩, ⟨rfl, hic⟩, trivial⟩, fun p hp => ?_⟩
    rcases List.mem_cons.mp hp with rfl | hp
    · exact h1
    · rw [List.mem_singleton.mp hp]; exact hoi
  · intro b hb
    have hb' : b = s.heap.objs.size + 1 ∨ b = s.heap.objs.size := by simpa using hb
    rcases hb' with rfl | rfl
    · exact ⟨by simp, ktu_new F (Nat.le_add_right _ _)⟩
    · exact ⟨by simp, ktu_new F (Nat.le_refl _)⟩
  · intro b hb
    simpa using hb
  · intro b hb
    have hb' : b = s.heap.objs.size + 1 ∨ b = s.heap.objs.size ∨ b = t := by simpa using hb
    rcases hb' with rfl | rfl | rfl
    · exact .inl (by simp)
    · exact .inl (by simp)
    · exact .inr ⟨lo, by simp⟩
  · intro q
    have hb' : env.locals = s.heap.objs.size + 1 ∨ env.locals = s.heap.objs.size ∨ env.locals = t := by simpa using q
    rcases hb' with e | e | e
    · exact ktu_ne 1 lowL e
    · exact Nat.ne_of_lt lowL e
    · exact here.2.1 e.symm
  · intro p hp q
    have hb' : p.1 = s.heap.objs.size + 1 ∨ p.1 = s.heap.objs.size := by simpa using q
    have z := Heap.lt_size (N p hp).1
    rcases hb' with e | e
    · exact ktu_ne 1 z e
    · exact Nat.ne_of_lt z e
  · refine ⟨⟨_, hE⟩, ?_, ht.at fun o e => old _ _ e⟩
    exact ⟨_, hI, rfl, rfl⟩
end
end W
end PySem
end
section
open PySem PySem.W PyProof.Rows
set_option maxRecDepth 100000
open PySem.Calls
-- 14:namespace HT
-- 106:end
-- 240:end
-- 241:end HT
-- 243:namespace L2
-- 362:end
section
variable {prog : Program} {w : World} {A : Around} {E : Value → Shared → Prop} {s : Shared} {h₀ : Heap} {L : Addr} {m : Str → Option Value} {news : List (Addr × Obj)}
theorem k00_cut {value slice : Expr} {t : Addr} {items : Array Value} {zs : List Value} {vl vu : Value} {lo hi : Option Int} {Q : Value → Shared → Prop}
    (F : Fr h₀ L s.heap m) (N : News h₀ L s.heap news) (ht : IsTup s.heap t items) (pl : IsPart vl lo) (pu : IsPart vu hi)
    (hw : ¬ (HT.sIx items.size 0 lo = 0 ∧ HT.sIx items.size items.size hi = items.size)) (hz : (items.toList.drop (HT.sIx items.size 0 lo)).take (HT.sIx items.size items.size hi - HT.sIx items.size 0 lo) = zs)
    (h : ∀ D h', Fr h₀ L h' m → News h₀ L h' ((D, { cls := .type "tuple", data := .seq zs.toArray }) :: news) → (∀ p ∈ news, p.1 < D) → Q (.ref D) { s with heap := h' })
    (hs : subscripted slice false (.ref t) (.ref s.heap.objs.size) = operate [.ref s.heap.objs.size, .ref t] (getItem (.ref t) (.ref s.heap.objs.size)))
    (hg : ∀ r, letTemporaryGo value (.ref t) r = pure ()) (hsz : items.size ≤ sizeLine) :
    wpAny (model prog w) A (subscriptTail value slice (.ref t) (.ref s.heap.objs.size)) Q E { s with heap := s.heap.push { cls := .type "slice", data := .fields #[vl, vu, .none] } } := by
  have ht' : IsTup (s.heap.push { cls := .type "slice", data := .fields #[vl, vu, .none] }) t items := ht.keeps fun _ _ e => Heap.get?_push_of_some _ e
  refine subscriptTail_ops (s := { s with heap := s.heap.push { cls := .type "slice", data := .fields #[vl, vu, .none] } }) ht'.typeIs slot_tuple_getitem.lookup
    (HT.getItem_tuple_cut ht' (Heap.IsSliceOf.new ..) pl pu hw ?_ hsz) hs hg
  rw [hz]
  have N1 := News.push (F.push { cls := .type "slice", data := .fields #[vl, vu, .none] }) (N.grown fun _ _ e => Heap.get?_push_of_some _ e) { cls := .type "tuple", data := .seq zs.toArray }
  rw [Heap.size_push] at N1
  show Q (.ref (s.heap.push _).objs.size) _
  rw [Heap.size_push]
  exact h _ _ ((F.push _).push _) N1 fun p hp => Nat.lt_succ_of_lt (Heap.lt_size (N p hp).1)
end
end
section
open PySem PySem.W PyProof.Rows PySem.Calls PySem.Spec PyProof.V
set_option maxRecDepth 100000
namespace PySem
namespace W
section
variable {prog : Program} {w : World} {A₀ A : Around} {s : Shared} {base h₀ : Heap} {L : Addr} {m : Str → Option Value} {env : Env} {outer : List Env} {news : List (Addr × Obj)} {K : Frag} {p : Program} {loose : List Str} {mean : ExcName → Option Value} {mg mb : Str → Option Value}
    {R : Result → Shared → Prop} {name qual : Str} {params : Arguments} {body : List Stmt} {scope : Scope} {dV kV doc pm cdv ct oc : Value} {an od : Option Addr} {osl : Array (Option Value)} {f : Addr} {args : Args} {binds : List (Str × Value)}
theorem k00_def2 (B : Below A₀ base outer h₀) (F : Fr h₀ L s.heap m) (X₀ : K.In h₀) (N : News h₀ L s.heap news) (T : Top p loose mean mg mb h₀) (hA : A.frames = some (env :: outer)) (hf : env.frame = some L) (hke : env.scope.kind = .function)
    (ho : K.lookup f = some ⟨oc, od, .func (fnOf name qual params body scope dV kV doc pm an cdv ct), osl⟩) (hcd : codeIn K cdv qual = true) (hroom : A.depth < recursionLimit)
    (hbind : BindsTo s (fnOf name qual params body scope dV kV doc pm an cdv ct) args binds) (hloc : ∀ y ∈ binds, scope.names.lookup y.1 = some .local)
    (h : ∀ g L' h₁, Fr g L' h₁ (fun y => binds.reverse.lookup y) → News g L' h₁ [] → Below A base (env :: outer) g → K.In g → Top p loose mean mg mb g →
      wpAny (model prog w) (A.deeper (envOf qual scope L' f cdv)) (execs body (envOf qual scope L' f cdv))
        (fun fl z => LeaveK h₀ L m g (fun r y => News h₀ L y.heap news → R r y) (match fl with | .ret v => v | _ => .none) z)
        (fun e z => wpAny (model prog w) (A.deeper (envOf qual scope L' f cdv)) («leaving» (envOf qual scope L' f cdv) e) (fun _ y => R (.error e) y) (fun e' y => R (.error e') y) z)
        { s with heap := h₁, toks := s.toks + binds.length })
    (hco : scope.isCoroutine = false) (hgen : scope.isGenerator = false) (hk : scope.kind = .function)
    (hcell : ∀ x ∈ scope.names, x.2 ≠ .cell) : codeAny (model prog w) A (.call (.ref f) args) R s := by
  have X := X₀.keeps F.keep
  have none0 : h₀.get? L = none := kts_self F
  have hnew : base.get? L = none := by
    cases q : base.get? L with
    | none => rfl
    | some o =>
      have z := B.stays L o q
      rw [none0] at z
      cases z
  obtain ⟨oL, es, ep, hL, hLd, hLk, hLf⟩ := F.ns
  refine codeAny_call_def (fd := fnOf name qual params body scope dV kV doc pm an cdv ct) (body := body) (binds := binds) hroom (X _ _ ho) rfl (T.nolimit.keeps F.keep) (codeRec_of X hcd) rfl hbind hcell hloc (fun h₁ hns old => ?_) hco hgen hk
  have B₂ : Below A base (env :: outer) s.heap := by
    refine ⟨hA, fun b o e => F.keep b o (B.stays b o e), ?_⟩
    exact .cons (by rw [hke]; decide) hf F.ns hnew (B.frames.of_keeps fun b o e _ => ⟨o, F.keep b o e, rfl⟩)
  refine wpAny_mono (h s.heap s.heap.objs.size h₁ ⟨hns, fun b o e => old b o e, Nat.le_refl _⟩ (fun p hp => by cases hp) B₂ X (T.keeps F.keep)) (fun fl z hl => ?_) fun _ _ y => y
  obtain ⟨L', m', news', F', N', k⟩ := hl
  refine k ⟨⟨oL, es, ep, F'.keep _ _ hL, hLd, hLk, hLf⟩, fun b o e => F'.keep b o (F.keep b o e), F.above⟩ (fun p hp => ⟨(N' p hp).1, fun q => ?_, ?_⟩) fun p hp => ⟨F'.keep _ _ (N p hp).1, (N p hp).2⟩
  · have y := (N' p hp).2.2
    rw [q, hL] at y
    cases y
  · cases q : h₀.get? p.1 with
    | none => rfl
    | some o =>
      have y := (N' p hp).2.2
      rw [F.keep _ _ q] at y
      cases y
end
end W
end PySem
end
section
open PySem PySem.W PyProof.Rows PySem.Calls PySem.Spec PyProof.V
set_option maxRecDepth 100000
namespace PySem
namespace W
section
variable {prog : Program} {w : World} {A₀ A : Around} {s : Shared} {base h₀ : Heap} {outer : List Env} {L : Addr} {m mg mb : Str → Option Value} {env : Env} {news old : List (Addr × Obj)} {K : Frag} {p : Program} {loose : List Str} {mean : ExcName → Option Value}
  {R : Result → Shared → Prop} {name qual : Str} {params : Arguments} {body : List Stmt} {scope : Scope} {dV kV doc pm cdv ct oc : Value} {an od : Option Addr} {osl : Array (Option Value)} {f cc : Addr} {args : Args} {binds : List (Str × Value)}
def k00_Held (h₀ : Heap) (L : Addr) (old : List (Addr × Obj)) (h : Heap) : Prop := News h₀ L h old
theorem k00_super (B : Below A₀ base outer h₀) (F : Fr h₀ L s.heap m) (X₀ : K.In h₀) (N : News h₀ L s.heap news) (O : News h₀ L s.heap old) (ap : ∀ p ∈ old, p.1 ∉ news.map (·.1)) (T : Top p loose mean mg mb h₀) (hA : A.frames = some (env :: outer)) (hf : env.frame = some L) (hke : env.scope.kind = .function)
    (ho : K.lookup f = some ⟨oc, od, .func (ksFn name qual params body scope dV kV doc pm an cdv ct cc), osl⟩) (hcd : codeIn K cdv qual = true) (hroom : A.depth < recursionLimit)
    (hbind : BindsTo s (ksFn name qual params body scope dV kV doc pm an cdv ct cc) args binds) (hloc : ∀ y ∈ binds, scope.names.lookup y.1 = some .local)
    (h : ∀ g L' h₁, Fr h₀ L g m → Fr g L' h₁ (fun y => binds.reverse.lookup y) → News g L' h₁ news → Below A base (env :: outer) g → K.In g → Top p loose mean mg mb g → (∀ p ∈ news, p.1 < L') →
      _root_.PySem.wpAt (model prog w) (A.deeper (ksEnv qual scope L' f cdv cc)) (.func body (ksEnv qual scope L' f cdv cc)) (execs body (ksEnv qual scope L' f cdv cc))
        (fun fl s' => LeaveK h₀ L m g (fun r y => k00_Held h₀ L old y.heap → R r y) (match fl with | .ret v => v | _ => .none) s')
        (fun e s' => wpAny (model prog w) (A.deeper (ksEnv qual scope L' f cdv cc)) («leaving» (ksEnv qual scope L' f cdv cc) e) (fun _ s'' => R (.error e) s'') (fun e' s'' => R (.error e') s'') s')
        { s with heap := h₁, toks := s.toks + binds.length })
    (hcell : ∀ x ∈ scope.names, x.2 ≠ .cell := by decide) (hco : scope.isCoroutine = false := by rfl) (hgen : scope.isGenerator = false := by rfl) (hk : scope.kind = .function := by rfl) : codeAny (model prog w) A (.call (.ref f) args) R s := by
  obtain ⟨FG, BG, st, lv⟩ := groundX (R := fun r y => k00_Held h₀ L old y.heap → R r y) B F N hA hf hke
  refine ks_codeAny_call_defAt (fd := ksFn name qual params body scope dV kV doc pm an cdv ct cc) (body := body) (binds := binds) hroom ((X₀.keeps F.keep) _ _ ho) rfl (T.nolimit.keeps F.keep) (codeRec_of (X₀.keeps F.keep) hcd) rfl hbind hcell hloc (fun h₁ hns hk₁ => ?_) hco hgen hk
  exact ks_wpAt_mono (h _ s.heap.objs.size h₁ FG ⟨hns, fun b o e => hk₁ b o (of_hideAll _ e), Nat.le_of_eq (hideAll_size _ _)⟩
    (fun p hp => ⟨hk₁ _ _ (N p hp).1, Nat.ne_of_lt (Heap.lt_size (N p hp).1), hideAll_none _ (List.mem_map_of_mem hp)⟩) BG (X₀.keeps st) (T.keeps st) (fun p hp => Heap.lt_size (N p hp).1))
    (fun fl s' hl => by
      have hl' := hl
      obtain ⟨L', m', news', F', N', k⟩ := hl'
      exact lv _ _ hl fun p hp => ⟨F'.keep _ _ (hideAll_get _ (O p hp).1 (ap p hp)), (O p hp).2⟩) fun _ _ y => y
theorem k00_superR (B : Below A₀ base outer h₀) (F : Fr h₀ L s.heap m) (X₀ : K.In h₀) (N : News h₀ L s.heap news) (O : News h₀ L s.heap old) (ap : ∀ p ∈ old, p.1 ∉ news.map (·.1)) {rv : Value} {rd : PyData} (rR : ReadsVia h₀ old rv rd) (T : Top p loose mean mg mb h₀) (hA : A.frames = some (env :: outer)) (hf : env.frame = some L) (hke : env.scope.kind = .function)
    (ho : K.lookup f = some ⟨oc, od, .func (ksFn name qual params body scope dV kV doc pm an cdv ct cc), osl⟩) (hcd : codeIn K cdv qual = true) (hroom : A.depth < recursionLimit)
    (hbind : BindsTo s (ksFn name qual params body scope dV kV doc pm an cdv ct cc) args binds) (hloc : ∀ y ∈ binds, scope.names.lookup y.1 = some .local)
    (h : ∀ g L' h₁, Fr h₀ L g m → Fr g L' h₁ (fun y => binds.reverse.lookup y) → News g L' h₁ news → Below A base (env :: outer) g → K.In g → Top p loose mean mg mb g → (∀ p ∈ news, p.1 < L') → (∃ as, Reads g rv rd as) →
      _root_.PySem.wpAt (model prog w) (A.deeper (ksEnv qual scope L' f cdv cc)) (.func body (ksEnv qual scope L' f cdv cc)) (execs body (ksEnv qual scope L' f cdv cc))
        (fun fl s' => LeaveK h₀ L m g (fun r y => k00_Held h₀ L old y.heap → R r y) (match fl with | .ret v => v | _ => .none) s')
        (fun e s' => wpAny (model prog w) (A.deeper (ksEnv qual scope L' f cdv cc)) («leaving» (ksEnv qual scope L' f cdv cc) e) (fun _ s'' => R (.error e) s'') (fun e' s'' => R (.error e') s'') s')
        { s with heap := h₁, toks := s.toks + binds.length })
    (hcell : ∀ x ∈ scope.names, x.2 ≠ .cell := by decide) (hco : scope.isCoroutine = false := by rfl) (hgen : scope.isGenerator = false := by rfl) (hk : scope.kind = .function := by rfl) : codeAny (model prog w) A (.call (.ref f) args) R s := by
  obtain ⟨FG, BG, st, lv⟩ := groundX (R := fun r y => k00_Held h₀ L old y.heap → R r y) B F N hA hf hke
  refine ks_codeAny_call_defAt (fd := ksFn name qual params body scope dV kV doc pm an cdv ct cc) (body := body) (binds := binds) hroom ((X₀.keeps F.keep) _ _ ho) rfl (T.nolimit.keeps F.keep) (codeRec_of (X₀.keeps F.keep) hcd) rfl hbind hcell hloc (fun h₁ hns hk₁ => ?_) hco hgen hk
  exact ks_wpAt_mono (h _ s.heap.objs.size h₁ FG ⟨hns, fun b o e => hk₁ b o (of_hideAll _ e), Nat.le_of_eq (hideAll_size _ _)⟩
    (fun p hp => ⟨hk₁ _ _ (N p hp).1, Nat.ne_of_lt (Heap.lt_size (N p hp).1), hideAll_none _ (List.mem_map_of_mem hp)⟩) BG (X₀.keeps st) (T.keeps st) (fun p hp => Heap.lt_size (N p hp).1) (rR _ st fun p hp => hideAll_get _ (O p hp).1 (ap p hp)))
    (fun fl s' hl => by
      have hl' := hl
      obtain ⟨L', m', news', F', N', k⟩ := hl'
      exact lv _ _ hl fun p hp => ⟨F'.keep _ _ (hideAll_get _ (O p hp).1 (ap p hp)), (O p hp).2⟩) fun _ _ y => y
end
theorem k00_split1 {h₀ h : Heap} {L : Addr} {p q : Addr × Obj} {old : List (Addr × Obj)} (N : News h₀ L h (p :: q :: old)) : News h₀ L h [p, q] := fun x hx => N x (by
  rcases List.mem_cons.mp hx with rfl | hx
  · exact .head _
  · obtain rfl := List.mem_singleton.mp hx
    exact .tail _ (.head _))
theorem k00_split2 {h₀ h : Heap} {L : Addr} {p q : Addr × Obj} {old : List (Addr × Obj)} (N : News h₀ L h (p :: q :: old)) : News h₀ L h old := fun x hx => N x (.tail _ (.tail _ hx))
theorem k00_allNe {e : Addr} {old : List (Addr × Obj)} (h : AllNe e old) : ∀ p ∈ old, p.1 ≠ e := by
  induction old with
  | nil => intro p hp; cases hp
  | cons q r ih =>
    intro p hp
    rcases List.mem_cons.mp hp with rfl | hp
    · exact h.1
    · exact ih h.2 p hp
theorem k00_apart {e t : Addr} {oe ot : Obj} {old : List (Addr × Obj)} (a1 : AllNe e old) (a2 : AllNe t old) : ∀ p ∈ old, p.1 ∉ [(e, oe), (t, ot)].map (·.1) := fun p hp q => by
  rcases List.mem_cons.mp q with z | q
  · exact k00_allNe a1 p hp z
  · exact k00_allNe a2 p hp (List.mem_singleton.mp q)
end W
end PySem
end
section
open PySem PySem.W PyProof.Rows
theorem k00_isi {prog : Program} {w : World} {A : Around} {E : Value → Shared → Prop} {s : Shared} {K : Frag} {h₀ : Heap} {L x C : Addr} {m : Str → Option Value} {ox : Obj} {od : Option Obj} {c : Value} {v : Bool} {gt : Option Value} {Q : Value → Shared → Prop}
    (F : Fr h₀ L s.heap m) (X₀ : K.In h₀) (I : InstAt s.heap x ox C od) (ee : kitOne K (.ref C) c = some v) (hcl : (clsIn K C).isSome = true)
    (hga : findIn K (.ref C) "__getattribute__" = some (some (.builtin "BaseException.__getattribute__"))) (hgt : findIn K (.ref C) "__getattr__" = some gt) (hsub : subIn K (.ref C) (.type "BaseException") = some true)
    (ha : findIn K (.ref C) "__class__" = some (some (.builtin "object.__class__"))) (hn : specialIn K (.builtin "object.__class__") "__get__" = some (some (.builtin "getset_descriptor.__get__")))
    (htk : takesIn K (.builtin "object.__class__") = some true) (hm : mroIn K C (.type "object") = some true) (h : ∀ tk, Q (.bool v) { s with toks := tk }) :
    wpAny (model prog w) A (call (.builtin "isinstance") [.ref x, c]) Q E s :=
  kia_one (kitx_exc hcl hga hgt hsub ha hn htk hm) (X₀.keeps F.keep) I ee (by intro q; cases q) h
local macro_rules | `(tactic| walk_at "call builtin:isinstance") => `(tactic| (k_here; (with_reducible show wpAny _ _ (call _ [Value.ref _, _]) _ _ _); kx_anyI; k_dflt (refine' k00_isi ?F ?X ?I ?ee ?k0 ?k4 ?k5 ?k6 ?k7 ?k8 ?k9 ?k10 ?_; (case F => k_asm); (case X => k_asm); (case I => k_inst); (case ee => kit_is); (case k0 => kernel_rfl); (case k4 => k_is); (case k5 => k_is); (case k6 => k_is); (case k7 => k_is); (case k8 => k_is); (case k9 => k_is); (case k10 => k_is); k_whole; intro _)))

theorem k00_isiM {prog : Program} {w : World} {A : Around} {E : Value → Shared → Prop} {s : Shared} {K : Frag} {h₀ : Heap} {L x dx C : Addr} {m : Str → Option Value} {news : List (Addr × Obj)} {ox odx : Obj} {od : Option Obj} {c : Value} {v : Bool} {gt : Option Value} {Q : Value → Shared → Prop}
    (F : Fr h₀ L s.heap m) (X₀ : K.In h₀) (N : News h₀ L s.heap news) (m1 : (x, ox) ∈ news) (m2 : (dx, odx) ∈ news) (HI : ∀ h : Heap, h.get? x = some ox → h.get? dx = some odx → InstAt h x ox C od) (ee : kitOne K (.ref C) c = some v) (hcl : (clsIn K C).isSome = true)
    (hga : findIn K (.ref C) "__getattribute__" = some (some (.builtin "BaseException.__getattribute__"))) (hgt : findIn K (.ref C) "__getattr__" = some gt) (hsub : subIn K (.ref C) (.type "BaseException") = some true)
    (ha : findIn K (.ref C) "__class__" = some (some (.builtin "object.__class__"))) (hn : specialIn K (.builtin "object.__class__") "__get__" = some (some (.builtin "getset_descriptor.__get__")))
    (htk : takesIn K (.builtin "object.__class__") = some true) (hm : mroIn K C (.type "object") = some true) (h : ∀ tk, Q (.bool v) { s with toks := tk }) :
    wpAny (model prog w) A (call (.builtin "isinstance") [.ref x, c]) Q E s :=
  k00_isi F X₀ (HI _ (N _ m1).1 (N _ m2).1) ee hcl hga hgt hsub ha hn htk hm h
local macro_rules | `(tactic| walk_at "call builtin:isinstance") => `(tactic| (k_here; (with_reducible show wpAny _ _ (call _ [Value.ref _, _]) _ _ _); k_dflt (refine' k00_isiM ?F ?X ?N ?m1 ?m2 ?I ?ee ?k0 ?k4 ?k5 ?k6 ?k7 ?k8 ?k9 ?k10 ?_; (case I => assumption); (case F => k_asm); (case X => k_asm); (case N => k_asm); (case m1 => k_mem); (case m2 => k_mem); (case ee => assumption); (case k0 => assumption); (case k4 => assumption); (case k5 => assumption); (case k6 => assumption); (case k7 => assumption); (case k8 => k_is); (case k9 => k_is); (case k10 => assumption); k_whole; intro _)))
set_option maxRecDepth 100000 in
set_option maxHeartbeats 0 in
theorem k00_marks (w : World) {mean : ExcName → Option Value} {mg mb : Str → Option Value} {A₀ : Around} {cn cn2 : Str} {nms nms2 : List (Str × NameKind)} {mr : List (Str × Const)} {a a2 : Addr} {ccd ccd2 : Value} {cl : List (Str × Addr)} {base h₀ : Heap} {L L1 e dx C : Addr} {m : Str → Option Value} {oe odx : Obj} {od : Option Obj} {gt : Option Value}
    {rest : List (Addr × Obj)} {s : Shared} {Q E : Value → Shared → Prop} {b0 b1 b2 b3 b4 b5 b6 b7 b8 b9 b10 b11 b12 b13 b14 b15 b16 b17 b18 b19 b20 b21 b22 b23 b24 : Bool}
    (kB : Below A₀ base [(envX cn { kind := .function, names := nms, isGenerator := false, isCoroutine := false, more := mr } L1 a ccd cl)] h₀) (kF : Fr h₀ L s.heap m) (kX : (PySem.K00.hd.heap_39 w.params).In h₀) (kN : News h₀ L s.heap ((e, oe) :: (dx, odx) :: rest)) (kT : Top PySem.K00.hd.view_39 (looseW PySem.K00.hd.view_39 [PySem.Str.ofString "Sheet"]) mean mg mb h₀)
    (HI : ∀ h : Heap, h.get? e = some oe → h.get? dx = some odx → InstAt h e oe C od) (hcl : (clsIn (PySem.K00.hd.heap_39 w.params) C).isSome = true)
    (hga : findIn (PySem.K00.hd.heap_39 w.params) (.ref C) "__getattribute__" = some (some (.builtin "BaseException.__getattribute__"))) (hgt : findIn (PySem.K00.hd.heap_39 w.params) (.ref C) "__getattr__" = some gt) (hsub : subIn (PySem.K00.hd.heap_39 w.params) (.ref C) (.type "BaseException") = some true)
    (ha : findIn (PySem.K00.hd.heap_39 w.params) (.ref C) "__class__" = some (some (.builtin "object.__class__"))) (hm : mroIn (PySem.K00.hd.heap_39 w.params) C (.type "object") = some true)
    (e0 : kitOne (PySem.K00.hd.heap_39 w.params) (.ref C) (.ref 574) = some b0) (e1 : kitOne (PySem.K00.hd.heap_39 w.params) (.ref C) (.ref 259) = some b1) (e2 : kitOne (PySem.K00.hd.heap_39 w.params) (.ref C) (.ref 133) = some b2) (e3 : kitOne (PySem.K00.hd.heap_39 w.params) (.ref C) (.ref 406) = some b3) (e4 : kitOne (PySem.K00.hd.heap_39 w.params) (.ref C) (.ref 91) = some b4) (e5 : kitOne (PySem.K00.hd.heap_39 w.params) (.ref C) (.ref 217) = some b5) (e6 : kitOne (PySem.K00.hd.heap_39 w.params) (.ref C) (.ref 427) = some b6) (e7 : kitOne (PySem.K00.hd.heap_39 w.params) (.ref C) (.ref 301) = some b7) (e8 : kitOne (PySem.K00.hd.heap_39 w.params) (.ref C) (.ref 280) = some b8) (e9 : kitOne (PySem.K00.hd.heap_39 w.params) (.ref C) (.ref 112) = some b9) (e10 : kitOne (PySem.K00.hd.heap_39 w.params) (.ref C) (.ref 322) = some b10) (e11 : kitOne (PySem.K00.hd.heap_39 w.params) (.ref C) (.ref 238) = some b11) (e12 : kitOne (PySem.K00.hd.heap_39 w.params) (.ref C) (.ref 469) = some b12) (e13 : kitOne (PySem.K00.hd.heap_39 w.params) (.ref C) (.ref 154) = some b13) (e14 : kitOne (PySem.K00.hd.heap_39 w.params) (.ref C) (.ref 595) = some b14) (e15 : kitOne (PySem.K00.hd.heap_39 w.params) (.ref C) (.ref 490) = some b15) (e16 : kitOne (PySem.K00.hd.heap_39 w.params) (.ref C) (.ref 511) = some b16) (e17 : kitOne (PySem.K00.hd.heap_39 w.params) (.ref C) (.ref 385) = some b17) (e18 : kitOne (PySem.K00.hd.heap_39 w.params) (.ref C) (.ref 532) = some b18) (e19 : kitOne (PySem.K00.hd.heap_39 w.params) (.ref C) (.ref 343) = some b19) (e20 : kitOne (PySem.K00.hd.heap_39 w.params) (.ref C) (.ref 448) = some b20) (e21 : kitOne (PySem.K00.hd.heap_39 w.params) (.ref C) (.ref 553) = some b21) (e22 : kitOne (PySem.K00.hd.heap_39 w.params) (.ref C) (.ref 175) = some b22) (e23 : kitOne (PySem.K00.hd.heap_39 w.params) (.ref C) (.ref 196) = some b23) (e24 : kitOne (PySem.K00.hd.heap_39 w.params) (.ref C) (.ref 364) = some b24)
    (hret : ∀ p h' tk', Fr h₀ L h' m → News h₀ L h' ((p, W.listOf #[Value.bool b0, Value.bool b1, Value.bool b2, Value.bool b3, Value.bool b4, Value.bool b5, Value.bool b6, Value.bool b7, Value.bool b8, Value.bool b9, Value.bool b10, Value.bool b11, Value.bool b12, Value.bool b13, Value.bool b14, Value.bool b15, Value.bool b16, Value.bool b17, Value.bool b18, Value.bool b19, Value.bool b20, Value.bool b21, Value.bool b22, Value.bool b23, Value.bool b24] 0) :: (e, oe) :: (dx, odx) :: rest) → Q (.ref p) { s with heap := h', toks := tk' }) :
    wpAny (model PySem.Challenge.rw_unknowntakes_k00_error_classes.row.prog w) (((callerA.deeper (envX cn { kind := .function, names := nms, isGenerator := false, isCoroutine := false, more := mr } L1 a ccd cl)).deeper (envOf cn2 { kind := .function, names := nms2, isGenerator := false, isCoroutine := false, more := [] } L a2 ccd2)).mark (some (.ref e))) (call (.ref 917) [.ref e]) Q E s := by
  w_strict (
    revert hm
    k_fill
    intro hm
    refine wpAny_call ?_
    k_dflt k_enter
    k_steps
    all_goals (refine' hret _ _ _ ?eF (cb_drop ?eN ?eS); (case eF => k_asm); (case eN => k_asm); (case eS => (intro p hp; simp only [List.mem_cons] at hp ⊢; grind))))
end
section
open PySem PySem.W PyProof.Rows
theorem k00_marksD {w : World} {mean : ExcName → Option Value} {mg mb : Str → Option Value} {A₀ : Around} {cn cn2 : Str} {nms nms2 : List (Str × NameKind)} {mr : List (Str × Const)} {a a2 : Addr} {ccd ccd2 : Value} {cl : List (Str × Addr)} {base h₀ : Heap} {L L1 e C : Addr} {m : Str → Option Value} {oe : Obj} {c2 : Value} {gt : Option Value} {dx : Addr} {odx : Obj}
    {news : List (Addr × Obj)} {s : Shared} {Q E : Value → Shared → Prop} {b0 b1 b2 b3 b4 b5 b6 b7 b8 b9 b10 b11 b12 b13 b14 b15 b16 b17 b18 b19 b20 b21 b22 b23 b24 : Bool}
    (kB : Below A₀ base [(envX cn { kind := .function, names := nms, isGenerator := false, isCoroutine := false, more := mr } L1 a ccd cl)] h₀) (kF : Fr h₀ L s.heap m) (kX : (PySem.K00.hd.heap_39 w.params).In h₀) (kN : News h₀ L s.heap news) (kT : Top PySem.K00.hd.view_39 (looseW PySem.K00.hd.view_39 [PySem.Str.ofString "Sheet"]) mean mg mb h₀)
    (m1 : (e, oe) ∈ news) (hc : oe.cls = .ref C) (hx : Ctx oe c2) (m2 : (dx, odx) ∈ news) (hd : oe.dict = some dx) (hcl : (clsIn (PySem.K00.hd.heap_39 w.params) C).isSome = true)
    (hga : findIn (PySem.K00.hd.heap_39 w.params) (.ref C) "__getattribute__" = some (some (.builtin "BaseException.__getattribute__"))) (hgt : findIn (PySem.K00.hd.heap_39 w.params) (.ref C) "__getattr__" = some gt) (hsub : subIn (PySem.K00.hd.heap_39 w.params) (.ref C) (.type "BaseException") = some true)
    (ha : findIn (PySem.K00.hd.heap_39 w.params) (.ref C) "__class__" = some (some (.builtin "object.__class__"))) (hm : mroIn (PySem.K00.hd.heap_39 w.params) C (.type "object") = some true)
    (e0 : kitOne (PySem.K00.hd.heap_39 w.params) (.ref C) (.ref 574) = some b0) (e1 : kitOne (PySem.K00.hd.heap_39 w.params) (.ref C) (.ref 259) = some b1) (e2 : kitOne (PySem.K00.hd.heap_39 w.params) (.ref C) (.ref 133) = some b2) (e3 : kitOne (PySem.K00.hd.heap_39 w.params) (.ref C) (.ref 406) = some b3) (e4 : kitOne (PySem.K00.hd.heap_39 w.params) (.ref C) (.ref 91) = some b4) (e5 : kitOne (PySem.K00.hd.heap_39 w.params) (.ref C) (.ref 217) = some b5) (e6 : kitOne (PySem.K00.hd.heap_39 w.params) (.ref C) (.ref 427) = some b6) (e7 : kitOne (PySem.K00.hd.heap_39 w.params) (.ref C) (.ref 301) = some b7) (e8 : kitOne (PySem.K00.hd.heap_39 w.params) (.ref C) (.ref 280) = some b8) (e9 : kitOne (PySem.K00.hd.heap_39 w.params) (.ref C) (.ref 112) = some b9) (e10 : kitOne (PySem.K00.hd.heap_39 w.params) (.ref C) (.ref 322) = some b10) (e11 : kitOne (PySem.K00.hd.heap_39 w.params) (.ref C) (.ref 238) = some b11) (e12 : kitOne (PySem.K00.hd.heap_39 w.params) (.ref C) (.ref 469) = some b12) (e13 : kitOne (PySem.K00.hd.heap_39 w.params) (.ref C) (.ref 154) = some b13) (e14 : kitOne (PySem.K00.hd.heap_39 w.params) (.ref C) (.ref 595) = some b14) (e15 : kitOne (PySem.K00.hd.heap_39 w.params) (.ref C) (.ref 490) = some b15) (e16 : kitOne (PySem.K00.hd.heap_39 w.params) (.ref C) (.ref 511) = some b16) (e17 : kitOne (PySem.K00.hd.heap_39 w.params) (.ref C) (.ref 385) = some b17) (e18 : kitOne (PySem.K00.hd.heap_39 w.params) (.ref C) (.ref 532) = some b18) (e19 : kitOne (PySem.K00.hd.heap_39 w.params) (.ref C) (.ref 343) = some b19) (e20 : kitOne (PySem.K00.hd.heap_39 w.params) (.ref C) (.ref 448) = some b20) (e21 : kitOne (PySem.K00.hd.heap_39 w.params) (.ref C) (.ref 553) = some b21) (e22 : kitOne (PySem.K00.hd.heap_39 w.params) (.ref C) (.ref 175) = some b22) (e23 : kitOne (PySem.K00.hd.heap_39 w.params) (.ref C) (.ref 196) = some b23) (e24 : kitOne (PySem.K00.hd.heap_39 w.params) (.ref C) (.ref 364) = some b24)
    (hret : ∀ p h' tk', Fr h₀ L h' m → News h₀ L h' ((p, W.listOf #[Value.bool b0, Value.bool b1, Value.bool b2, Value.bool b3, Value.bool b4, Value.bool b5, Value.bool b6, Value.bool b7, Value.bool b8, Value.bool b9, Value.bool b10, Value.bool b11, Value.bool b12, Value.bool b13, Value.bool b14, Value.bool b15, Value.bool b16, Value.bool b17, Value.bool b18, Value.bool b19, Value.bool b20, Value.bool b21, Value.bool b22, Value.bool b23, Value.bool b24] 0) :: news) → Q (.ref p) { s with heap := h', toks := tk' }) :
    wpAny (model PySem.Challenge.rw_unknowntakes_k00_error_classes.row.prog w) (((callerA.deeper (envX cn { kind := .function, names := nms, isGenerator := false, isCoroutine := false, more := mr } L1 a ccd cl)).deeper (envOf cn2 { kind := .function, names := nms2, isGenerator := false, isCoroutine := false, more := [] } L a2 ccd2)).mark (some (.ref e))) (call (.ref 917) [.ref e]) Q E s :=
  k00_marks w kB kF kX (rest := news) (dx := dx) (odx := odx) (od := some odx) (fun p hp => by
    rcases List.mem_cons.mp hp with rfl | hp
    · exact kN _ m1
    · rcases List.mem_cons.mp hp with rfl | hp
      · exact kN _ m2
      · exact kN _ hp) kT (fun h h1 h2 => ⟨h1, hc, hx.notCls, by rw [hd]; exact h2⟩) hcl hga hgt hsub ha hm e0 e1 e2 e3 e4 e5 e6 e7 e8 e9 e10 e11 e12 e13 e14 e15 e16 e17 e18 e19 e20 e21 e22 e23 e24
    fun p h' tk' F N => hret p h' tk' F fun q hq => N q (by
      rcases List.mem_cons.mp hq with rfl | hq
      · exact .head _
      · exact .tail _ (.tail _ (.tail _ hq)))
theorem k00_marks0 {w : World} {mean : ExcName → Option Value} {mg mb : Str → Option Value} {A₀ : Around} {cn cn2 : Str} {nms nms2 : List (Str × NameKind)} {mr : List (Str × Const)} {a a2 : Addr} {ccd ccd2 : Value} {cl : List (Str × Addr)} {base h₀ : Heap} {L L1 e C : Addr} {m : Str → Option Value} {oe : Obj} {c2 : Value} {gt : Option Value} 
    {news : List (Addr × Obj)} {s : Shared} {Q E : Value → Shared → Prop} {b0 b1 b2 b3 b4 b5 b6 b7 b8 b9 b10 b11 b12 b13 b14 b15 b16 b17 b18 b19 b20 b21 b22 b23 b24 : Bool}
    (kB : Below A₀ base [(envX cn { kind := .function, names := nms, isGenerator := false, isCoroutine := false, more := mr } L1 a ccd cl)] h₀) (kF : Fr h₀ L s.heap m) (kX : (PySem.K00.hd.heap_39 w.params).In h₀) (kN : News h₀ L s.heap news) (kT : Top PySem.K00.hd.view_39 (looseW PySem.K00.hd.view_39 [PySem.Str.ofString "Sheet"]) mean mg mb h₀)
    (m1 : (e, oe) ∈ news) (hc : oe.cls = .ref C) (hx : Ctx oe c2) (hd : oe.dict = none) (hcl : (clsIn (PySem.K00.hd.heap_39 w.params) C).isSome = true)
    (hga : findIn (PySem.K00.hd.heap_39 w.params) (.ref C) "__getattribute__" = some (some (.builtin "BaseException.__getattribute__"))) (hgt : findIn (PySem.K00.hd.heap_39 w.params) (.ref C) "__getattr__" = some gt) (hsub : subIn (PySem.K00.hd.heap_39 w.params) (.ref C) (.type "BaseException") = some true)
    (ha : findIn (PySem.K00.hd.heap_39 w.params) (.ref C) "__class__" = some (some (.builtin "object.__class__"))) (hm : mroIn (PySem.K00.hd.heap_39 w.params) C (.type "object") = some true)
    (e0 : kitOne (PySem.K00.hd.heap_39 w.params) (.ref C) (.ref 574) = some b0) (e1 : kitOne (PySem.K00.hd.heap_39 w.params) (.ref C) (.ref 259) = some b1) (e2 : kitOne (PySem.K00.hd.heap_39 w.params) (.ref C) (.ref 133) = some b2) (e3 : kitOne (PySem.K00.hd.heap_39 w.params) (.ref C) (.ref 406) = some b3) (e4 : kitOne (PySem.K00.hd.heap_39 w.params) (.ref C) (.ref 91) = some b4) (e5 : kitOne (PySem.K00.hd.heap_39 w.params) (.ref C) (.ref 217) = some b5) (e6 : kitOne (PySem.K00.hd.heap_39 w.params) (.ref C) (.ref 427) = some b6) (e7 : kitOne (PySem.K00.hd.heap_39 w.params) (.ref C) (.ref 301) = some b7) (e8 : kitOne (PySem.K00.hd.heap_39 w.params) (.ref C) (.ref 280) = some b8) (e9 : kitOne (PySem.K00.hd.heap_39 w.params) (.ref C) (.ref 112) = some b9) (e10 : kitOne (PySem.K00.hd.heap_39 w.params) (.ref C) (.ref 322) = some b10) (e11 : kitOne (PySem.K00.hd.heap_39 w.params) (.ref C) (.ref 238) = some b11) (e12 : kitOne (PySem.K00.hd.heap_39 w.params) (.ref C) (.ref 469) = some b12) (e13 : kitOne (PySem.K00.hd.heap_39 w.params) (.ref C) (.ref 154) = some b13) (e14 : kitOne (PySem.K00.hd.heap_39 w.params) (.ref C) (.ref 595) = some b14) (e15 : kitOne (PySem.K00.hd.heap_39 w.params) (.ref C) (.ref 490) = some b15) (e16 : kitOne (PySem.K00.hd.heap_39 w.params) (.ref C) (.ref 511) = some b16) (e17 : kitOne (PySem.K00.hd.heap_39 w.params) (.ref C) (.ref 385) = some b17) (e18 : kitOne (PySem.K00.hd.heap_39 w.params) (.ref C) (.ref 532) = some b18) (e19 : kitOne (PySem.K00.hd.heap_39 w.params) (.ref C) (.ref 343) = some b19) (e20 : kitOne (PySem.K00.hd.heap_39 w.params) (.ref C) (.ref 448) = some b20) (e21 : kitOne (PySem.K00.hd.heap_39 w.params) (.ref C) (.ref 553) = some b21) (e22 : kitOne (PySem.K00.hd.heap_39 w.params) (.ref C) (.ref 175) = some b22) (e23 : kitOne (PySem.K00.hd.heap_39 w.params) (.ref C) (.ref 196) = some b23) (e24 : kitOne (PySem.K00.hd.heap_39 w.params) (.ref C) (.ref 364) = some b24)
    (hret : ∀ p h' tk', Fr h₀ L h' m → News h₀ L h' ((p, W.listOf #[Value.bool b0, Value.bool b1, Value.bool b2, Value.bool b3, Value.bool b4, Value.bool b5, Value.bool b6, Value.bool b7, Value.bool b8, Value.bool b9, Value.bool b10, Value.bool b11, Value.bool b12, Value.bool b13, Value.bool b14, Value.bool b15, Value.bool b16, Value.bool b17, Value.bool b18, Value.bool b19, Value.bool b20, Value.bool b21, Value.bool b22, Value.bool b23, Value.bool b24] 0) :: news) → Q (.ref p) { s with heap := h', toks := tk' }) :
    wpAny (model PySem.Challenge.rw_unknowntakes_k00_error_classes.row.prog w) (((callerA.deeper (envX cn { kind := .function, names := nms, isGenerator := false, isCoroutine := false, more := mr } L1 a ccd cl)).deeper (envOf cn2 { kind := .function, names := nms2, isGenerator := false, isCoroutine := false, more := [] } L a2 ccd2)).mark (some (.ref e))) (call (.ref 917) [.ref e]) Q E s :=
  k00_marks w kB kF kX (rest := news) (dx := e) (odx := oe) (od := none) (fun p hp => by
    rcases List.mem_cons.mp hp with rfl | hp
    · exact kN _ m1
    · rcases List.mem_cons.mp hp with rfl | hp
      · exact kN _ m1
      · exact kN _ hp) kT (fun h h1 _ => ⟨h1, hc, hx.notCls, by rw [hd]; trivial⟩) hcl hga hgt hsub ha hm e0 e1 e2 e3 e4 e5 e6 e7 e8 e9 e10 e11 e12 e13 e14 e15 e16 e17 e18 e19 e20 e21 e22 e23 e24
    fun p h' tk' F N => hret p h' tk' F fun q hq => N q (by
      rcases List.mem_cons.mp hq with rfl | hq
      · exact .head _
      · exact .tail _ (.tail _ (.tail _ hq)))
end
section
open PySem PySem.W PyProof.Rows
open PySem.SeqAt PySem.Spec in
theorem k00_count {prog : Program} {w : World} {A : Around} {E : Value → Shared → Prop} {s : Shared} {l : Addr} {vs : List Value} {k : Bool} {n : Int} {Q : Value → Shared → Prop}
    (hl : s.heap.IsList l vs.toArray) (hb : ∀ y, y ∈ vs → ∃ b, y = Value.bool b) (hn : ((vs.countP (isBoolOf k) : Nat) : Int) = n)
    (h : Q (.int n s.toks) { s with toks := s.toks + 1 }) : wpAny (model prog w) A (call (.builtin "list.count") [.ref l, .bool k]) Q E s := by
  obtain ⟨⟨cls, dd, data, sl⟩, ho, hc, m, hd⟩ := id hl
  simp only at hc hd
  subst hc hd
  refine call_meets PySem.F.slot_list_count ⟨_, ho, rfl⟩ PySem.F.entry_list_count (PySem.F.args_list_count_2 _ _) (PySem.SeqAt.list_countAt l vs.toArray m dd sl (.bool k) (isBoolOf k)) ⟨ho, fun y hy => ?_, ?_⟩
  · obtain ⟨b, rfl⟩ := hb y (by simpa using hy)
    exact EqAt.bool_bool b k
  · rw [show vs.toArray.toList = vs from rfl, hn]
    exact h
theorem k00_item {prog : Program} {w : World} {A : Around} {E : Value → Shared → Prop} {s : Shared} {value slice : Expr} {l : Addr} {vs : List Value} {k : Int} {u : Tok} {v : Value} {Q : Value → Shared → Prop}
    (hl : s.heap.IsList l vs.toArray) (h0 : 0 ≤ k) (hh : k < 2 ^ 63) (hx : vs[k.toNat]? = some v) (h : Q v s)
    (hs : subscripted slice false (.ref l) (.int k u) = operate [.ref l, .int k u] (getItem (.ref l) (.int k u))) :
    wpAny (model prog w) A (subscriptTail value slice (.ref l) (.int k u)) Q E s :=
  tail_any hl.typeIs slot_list_getitem.lookup (wpAny_getItem_list hl h0 hh (by simpa using hx) h) hs
theorem k00_repr {prog : Program} {w : World} {A : Around} {E : Value → Shared → Prop} {s : Shared} {x y : Str} {t : Tok} {Q : Value → Shared → Prop}
    (hy : reprText x = y) (hz : y.length ≤ 40) (h : Q (.str y s.toks) { s with toks := s.toks + 1 }) : wpAny (model prog w) A (pyReprObj (.str x t)) Q E s :=
  pyReprObj_str (by rw [hy]; exact h) (by rw [hy, sizeLine_eq]; exact Nat.le_trans hz (by decide))
theorem k00_fmt {prog : Program} {w : World} {A : Around} {E : Value → Shared → Prop} {s : Shared} {h₀ : Heap} {L : Addr} {m : Str → Option Value} {news : List (Addr × Obj)} {v : Value} {d : PyData} {y : Str} {Q : Value → Shared → Prop}
    (r : ReadsVia h₀ news v d) (F : Fr h₀ L s.heap m) (N : News h₀ L s.heap news) (hs : d.showable = true) (hnd : d.hasDict = false) (hd : isDisplay d = true) (hg : A.guards = some []) (hu : A.units + (d.depth + 2) < cLine)
    (hy : d.shown = y) (hz : y.length ≤ 100) (hQ : ∀ h' u tk, Fr h₀ L h' m → News h₀ L h' news → Q (.str y u) { s with heap := h', toks := tk }) : wpAny (model prog w) A (formatField v Str.empty) Q E s :=
  formatField_via r F N hs hnd hd hg hu (by rw [hy]; exact hQ) (by rw [hy, sizeLine_eq]; exact Nat.le_trans hz (by decide))
theorem k00_tupK {prog : Program} {w : World} {A : Around} {E : Value → Shared → Prop} {s : Shared} {K : Frag} {h₀ : Heap} {L t : Addr} {m : Str → Option Value} {l : List Value} {n : Nat} {dd : Option Addr} {sl : Array (Option Value)} {Q : Value → Shared → Prop}
    (F : Fr h₀ L s.heap m) (X₀ : K.In h₀) (hl : K.lookup t = some ⟨.type "tuple", dd, .seq l.toArray n, sl⟩) (h : Q (.ref t) s) : wpAny (model prog w) A (call (.type "tuple") [.ref t]) Q E s :=
  call_tuple_tup (tupK (X₀.keeps F.keep) hl) h
open PySem.SeqAt PySem.Spec in
theorem k00_inB {prog : Program} {w : World} {A : Around} {E : Value → Shared → Prop} {s : Shared} {l : Addr} {vs : List Value} {k r : Bool} {Q : Value → Shared → Prop}
    (hl : s.heap.IsList l vs.toArray) (hb : ∀ y, y ∈ vs → ∃ b, y = Value.bool b) (hr : vs.any (isBoolOf k) = r) (h : Q (.bool r) s) : wpAny (model prog w) A (compareOp .In (.bool k) (.ref l)) Q E s := by
  refine in_listAt (isBoolOf k) hl (fun y hy => ?_) ?_
  · obtain ⟨b, rfl⟩ := hb y (by simpa using hy)
    exact EqAt.bool_bool b k
  · have e : vs.toArray.any (isBoolOf k) = r := by rw [List.any_toArray]; exact hr
    first
      | (rw [e]; exact h)
      | (simpa [e] using h)
theorem k00_pos {l : List Int} (h : decide (l = []) = false) : 0 < (l.length : Int) := by
  cases l with
  | nil => exact absurd h (by decide)
  | cons a r => rw [List.length_cons]; omega
theorem k00_ne {prog : Program} {w : World} {A : Around} {E : Value → Shared → Prop} {s : Shared} {a b : Value} {da db : PyData} {as bs : List Addr} {r : Bool} {Q : Value → Shared → Prop}
    (ra : Reads s.heap a da as) (rb : Reads s.heap b db bs) (ha : da.canLay0 = true) (hb : db.canLay0 = true) (hu : A.units + min da.depth db.depth < PySem.cLine) (hr : (!PyData.eqv da db) = r) (h : Q (.bool r) s) :
    wpAny (model prog w) A (compareOp .NotEq a b) Q E s := PySem.SeqAt.compareNe_reads ra rb ha hb hu (by rw [hr]; exact h)
theorem k00_eq {prog : Program} {w : World} {A : Around} {E : Value → Shared → Prop} {s : Shared} {a b : Value} {da db : PyData} {as bs : List Addr} {r : Bool} {Q : Value → Shared → Prop}
    (ra : Reads s.heap a da as) (rb : Reads s.heap b db bs) (ha : da.canLay0 = true) (hb : db.canLay0 = true) (hu : A.units + min da.depth db.depth < PySem.cLine) (hr : PyData.eqv da db = r) (h : Q (.bool r) s) :
    wpAny (model prog w) A (compareOp .Eq a b) Q E s := PySem.SeqAt.compareEq_reads ra rb ha hb hu (by rw [hr]; exact h)
def K00.Says (w : World) (f : Addr) (vs : List Value) (b : Bool) : Prop :=
  ∀ (mean : ExcName → Option Value) (mg mb : Str → Option Value) (A₀ : Around) (cn : Str) (nms : List (Str × NameKind)) (mr : List (Str × Const)) (a : Addr) (ccd : Value) (cl : List (Str × Addr)) (h₀ : Heap) (L : Addr) (m : Str → Option Value) (news : List (Addr × Obj)) (s : Shared) (Q E : Value → Shared → Prop),
    Below A₀ h₀ [] h₀ → Fr h₀ L s.heap m → (PySem.K00.hd.heap_39 w.params).In h₀ → News h₀ L s.heap news → Top PySem.K00.hd.view_39 (looseW PySem.K00.hd.view_39 [PySem.Str.ofString "Sheet"]) mean mg mb h₀ →
    (∀ h' tk', Fr h₀ L h' m → News h₀ L h' news → Q (.bool b) { s with heap := h', toks := tk' }) →
    wpAny (model PySem.Challenge.rw_unknowntakes_k00_error_classes.row.prog w) (callerA.deeper (envX cn { kind := .function, names := nms, isGenerator := false, isCoroutine := false, more := mr } L a ccd cl)) (call (.ref f) vs) Q E s
def K00.SaysIn (w : World) (f : Addr) (vs : List Value) (b : Bool) : Prop :=
  ∀ {mean : ExcName → Option Value} {mg mb : Str → Option Value} {A₀ : Around} {cn cn2 : Str} {nms nms2 : List (Str × NameKind)} {mr mr2 : List (Str × Const)} {a a2 : Addr} {ccd ccd2 : Value} {cl : List (Str × Addr)} {base h₀ : Heap} {L L1 : Addr} {m : Str → Option Value} {news : List (Addr × Obj)} {s : Shared} {Q E : Value → Shared → Prop},
    Below A₀ base [envX cn { kind := .function, names := nms, isGenerator := false, isCoroutine := false, more := mr } L1 a ccd cl] h₀ → Fr h₀ L s.heap m → (PySem.K00.hd.heap_39 w.params).In h₀ → News h₀ L s.heap news → Top PySem.K00.hd.view_39 (looseW PySem.K00.hd.view_39 [PySem.Str.ofString "Sheet"]) mean mg mb h₀ →
    (∀ h' tk', Fr h₀ L h' m → News h₀ L h' news → Q (.bool b) { s with heap := h', toks := tk' }) →
    wpAny (model PySem.Challenge.rw_unknowntakes_k00_error_classes.row.prog w) ((callerA.deeper (envX cn { kind := .function, names := nms, isGenerator := false, isCoroutine := false, more := mr } L1 a ccd cl)).deeper (envOf cn2 { kind := .function, names := nms2, isGenerator := false, isCoroutine := false, more := mr2 } L a2 ccd2)) (call (.ref f) vs) Q E s
def K00.Fld (w : World) (C : Addr) (pos : List Value) (kw : List (Str × Value)) (f : Str) (v : Value) : Prop :=
  ∀ {mean : ExcName → Option Value} {mg mb : Str → Option Value} {A₀ : Around} {cn cn2 cn3 : Str} {nms nms2 nms3 : List (Str × NameKind)} {mr mr2 mr3 : List (Str × Const)} {a a2 a3 : Addr} {ccd ccd2 ccd3 : Value} {cl : List (Str × Addr)} {base h₀ : Heap} {L L1 L2 : Addr} {m : Str → Option Value} {news : List (Addr × Obj)} {s : Shared} {Q E E2 : Value → Shared → Prop},
    Below A₀ base [envOf cn2 { kind := .function, names := nms2, isGenerator := false, isCoroutine := false, more := mr2 } L2 a2 ccd2, envX cn { kind := .function, names := nms, isGenerator := false, isCoroutine := false, more := mr } L1 a ccd cl] h₀ → Fr h₀ L s.heap m → (PySem.K00.hd.heap_39 w.params).In h₀ → News h₀ L s.heap news → Top PySem.K00.hd.view_39 (looseW PySem.K00.hd.view_39 [PySem.Str.ofString "Sheet"]) mean mg mb h₀ →
    (∀ h' tk', Fr h₀ L h' m → News h₀ L h' news → Q v { s with heap := h', toks := tk' }) →
    wpAny (model PySem.Challenge.rw_unknowntakes_k00_error_classes.row.prog w) (((callerA.deeper (envX cn { kind := .function, names := nms, isGenerator := false, isCoroutine := false, more := mr } L1 a ccd cl)).deeper (envOf cn2 { kind := .function, names := nms2, isGenerator := false, isCoroutine := false, more := mr2 } L2 a2 ccd2)).deeper (envOf cn3 { kind := .function, names := nms3, isGenerator := false, isCoroutine := false, more := mr3 } L a3 ccd3)) (call (.ref C) pos kw)
      (fun o s₁ => wpAny (model PySem.Challenge.rw_unknowntakes_k00_error_classes.row.prog w) (((callerA.deeper (envX cn { kind := .function, names := nms, isGenerator := false, isCoroutine := false, more := mr } L1 a ccd cl)).deeper (envOf cn2 { kind := .function, names := nms2, isGenerator := false, isCoroutine := false, more := mr2 } L2 a2 ccd2)).deeper (envOf cn3 { kind := .function, names := nms3, isGenerator := false, isCoroutine := false, more := mr3 } L a3 ccd3)) (getAttr o f true) Q E s₁) E2 s
end
section
open PySem PySem.W PyProof.Rows
local macro_rules | `(tactic| walk_at "subscriptTail") => `(tactic| (k_here; (with_reducible rename decide (_ = []) = false => ka0); (have ka1 := k00_pos ka0); clear ka0; walk_at "subscriptTail"))
local macro_rules | `(tactic| walk_at "wpAt") => `(tactic| (ks_step "exec Expr"; k_dflt (refine ks_wpAt_Expr_any ?_)))
local macro_rules | `(tactic| walk_at "wpAt") => `(tactic| (ks_step "eval Call"; k_dflt (refine ks_wpAt_MethodCall ?_)))
local macro_rules | `(tactic| walk_at "pyReprObj str") => `(tactic| (k_here; k_dflt (refine' k00_repr ?hy ?hz ?_; (case hy => first
  | exact (show reprText _ = ("'m'" : Str) from by decide +kernel) | exact (show reprText _ = ("'A'" : Str) from by decide +kernel) | exact (show reprText _ = ("'x'" : Str) from by decide +kernel)
  | exact (show reprText _ = ("''" : Str) from by decide +kernel) | exact (show reprText _ = ("'main'" : Str) from by decide +kernel) | exact (show reprText _ = ("'b'" : Str) from by decide +kernel)
  | exact (show reprText _ = ("'c'" : Str) from by decide +kernel) | exact (show reprText _ = ("'w'" : Str) from by decide +kernel) | exact (show reprText _ = ("'v'" : Str) from by decide +kernel)); (case hz => decide +kernel))))
local macro_rules | `(tactic| walk_at "formatField ref") => `(tactic| (k_here; (with_reducible show wpAny _ _ (formatField (Value.ref _) _) _ _ _); k_dflt (first
  | (refine' k00_fmt (d := .tuple [.tuple [.str "a", .str "b", .int 1], .tuple [.str "b", .str "a", .int (-2)]]) (y := "(('a', 'b', 1), ('b', 'a', -2))") (ReadsVia.tuple (vs := [.ref _, .ref _]) ?m0 (.cons (ReadsVia.tuple (vs := [_, _, _]) ?m1 (.cons (.str _ _) (.cons (.str _ _) (.cons (.int _ _) .nil)))) (.cons (ReadsVia.tuple (vs := [_, _, _]) ?m2 (.cons (.str _ _) (.cons (.str _ _) (.cons (.int _ _) .nil)))) .nil))) ?F ?N ?hs ?hnd ?hd ?hg ?hu ?hy ?hz ?_; (case F => k_asm); (case N => k_asm); (case m0 => k_mem); (case m1 => k_mem); (case m2 => k_mem); (case hs => rfl); (case hnd => rfl); (case hd => rfl); (case hg => with_unfolding_all rfl); (case hu => first | exact Nat.le_of_ble_eq_true rfl | decide); (case hy => decide +kernel); (case hz => decide +kernel))
  | (refine' k00_fmt (d := .tuple [.tuple [.str "a", .str "zero", .int (-1)]]) (y := "(('a', 'zero', -1),)") (ReadsVia.tuple (vs := [.ref _]) ?m0 (.cons (ReadsVia.tuple (vs := [_, _, _]) ?m1 (.cons (.str _ _) (.cons (.str _ _) (.cons (.int _ _) .nil)))) .nil)) ?F ?N ?hs ?hnd ?hd ?hg ?hu ?hy ?hz ?_; (case F => k_asm); (case N => k_asm); (case m0 => k_mem); (case m1 => k_mem); (case hs => rfl); (case hnd => rfl); (case hd => rfl); (case hg => with_unfolding_all rfl); (case hu => first | exact Nat.le_of_ble_eq_true rfl | decide); (case hy => decide +kernel); (case hz => decide +kernel))
  | (refine' k00_fmt (d := .tuple []) (y := "()") (ReadsVia.tuple (vs := []) ?m0 .nil) ?F ?N ?hs ?hnd ?hd ?hg ?hu ?hy ?hz ?_; (case F => k_asm); (case N => k_asm); (case m0 => k_mem); (case hs => rfl); (case hnd => rfl); (case hd => rfl); (case hg => with_unfolding_all rfl); (case hu => first | exact Nat.le_of_ble_eq_true rfl | decide); (case hy => decide +kernel); (case hz => decide +kernel))); intro h9 u9 tk9 F9 N9))
local macro_rules | `(tactic| k_ne) => `(tactic| first | (refine neN ?_; (try dsimp only); first | with_reducible assumption | exact Ne.symm (by with_reducible assumption) | exact Nat.ne_of_gt (by with_reducible assumption) | exact Nat.ne_of_lt (by with_reducible assumption)) | (refine neN ?_; (try dsimp only); omega))
local macro_rules | `(tactic| k_lt $h:ident) => `(tactic| (replace $h:ident := allLt_of $h; simp only [AllLt, and_true] at $h:ident; (repeat (have l9 := And.left $h; replace $h:ident := And.right $h))))
local macro_rules | `(tactic| kx_nes $a:ident) => `(tactic| (replace $a:ident := NeAll.of $a; (try simp only [NeAll, and_true] at $a:ident); (repeat (have l9 := And.left $a; replace $a:ident := And.right $a))))
local macro_rules | `(tactic| walk_at "wpAt") => `(tactic| (ks_step "attributeBase Call"; k_here; k_dflt (refine' ks_node ?F ?X ?N ?T ?hf ?hp ?hv ?I ?hc ?hvs ?hfi ?hce ?hD ?hsu ?hsp ?hat ?hks ?hkc ?hka ?hk ?htop ?hboot ?_; (case F => k_asm); (case X => k_asm); (case N => k_asm); (case T => k_asm); (case hf => k_is); (case hp => rfl); (case hv => rfl); (case I => k_inst); (case hc => k_is); (case hvs => rfl); (case hfi => first | rfl | decide +kernel); (case hce => k_is); (case hD => k_is); (case hsu => k_is); (case hsp => k_is); (case hat => decide); (case hks => rfl); (case hkc => rfl); (case hka => rfl); (case hk => rfl); (case htop => decide +kernel); (case hboot => first | boot_by_name | rfl | kernel_rfl)); intro so' h' F' N' l1; (try k_lt l1)))
local macro_rules | `(tactic| walk_at "InitBack") => `(tactic| ((with_reducible show PySem.W.InitBack _ _ _ _); dsimp only [PySem.W.InitBack]))
local macro_rules | `(tactic| k_in) => `(tactic| first | with_reducible assumption | exact Frag.In.keeps (by with_reducible assumption) (Fr.keep (by with_reducible assumption)))
set_option maxRecDepth 100000 in
set_option maxHeartbeats 0 in
theorem k00_fld0 (w : World) (t : Tok) : K00.Fld w 91 [.int 2 t] [] (Str.ofString "index") (.int 2 t) := by
  w_strict (
    unfold K00.Fld
    k_fill
    intro mean mg mb A₀ cn cn2 cn3 nms nms2 nms3 mr mr2 mr3 a a2 a3 ccd ccd2 ccd3 cl base h₀ L L1 L2 m news s Q E E2 kB kF kX kN kT hret
    k_dflt (refine' PySem.W.kq_callI ?F ?X ?N PySem.F.excBase_ValueError ?hi ?q ?hf ?hz ?_; (case X => exact kX); (case hi => k_is); (case q => kx_is); (case F => exact kF); (case N => exact kN); (case hf => k_is); (case hz => size_fits))
    intro e' t' h' F' N' a1' a2' a3'
    have a4' := neN a3'
    have N1 := k00_split1 N'
    have O1 := k00_split2 N'
    clear N' kF kN
    k_dflt (refine' k00_super ?k1 ?k2 ?k3 ?kN ?kO ?kP ?k5 ?kA ?kF ?kK ?k6 ?k7 ?k8 ?k9 ?kB ?_ ?c1 ?c2 ?c3 ?c4; (case kA => exact rfl); (case kF => exact rfl); (case kK => exact rfl); (case k1 => exact kB); (case k2 => exact F'); (case k3 => exact kX); (case kN => exact N1); (case kO => exact O1); (case kP => exact k00_apart a1' a2'); (case k5 => exact kT); (case k6 => k_is); (case k7 => k_is); (case k8 => k_room); (case k9 => exact BindsTo.of_eq rfl); (case kB => exact locs rfl); (case c1 => decide); (case c2 => exact rfl); (case c3 => exact rfl); (case c4 => exact rfl))
    clear O1 a1' a2'
    intro g' L' h' FG' F' N' B' X' T' l1; (try k_lt l1); (try dsimp only); (try k_lift B'); (try k_fold)
    k_steps
    all_goals (refine' hret _ _ ?eF ?eN; (case eF => k_asm); (case eN => assumption)))
set_option maxRecDepth 100000 in
set_option maxHeartbeats 0 in
theorem k00_fld1 (w : World) (t : Tok) : K00.Fld w 91 [] [(Str.ofString "index", .int 0 t)] (Str.ofString "index") (.int 0 t) := by
  w_strict (
    unfold K00.Fld
    k_fill
    intro mean mg mb A₀ cn cn2 cn3 nms nms2 nms3 mr mr2 mr3 a a2 a3 ccd ccd2 ccd3 cl base h₀ L L1 L2 m news s Q E E2 kB kF kX kN kT hret
    k_dflt (refine' PySem.W.kq_callI ?F ?X ?N PySem.F.excBase_ValueError ?hi ?q ?hf ?hz ?_; (case X => exact kX); (case hi => k_is); (case q => kx_is); (case F => exact kF); (case N => exact kN); (case hf => k_is); (case hz => size_fits))
    intro e' t' h' F' N' a1' a2' a3'
    have a4' := neN a3'
    have N1 := k00_split1 N'
    have O1 := k00_split2 N'
    clear N' kF kN
    k_dflt (refine' k00_super ?k1 ?k2 ?k3 ?kN ?kO ?kP ?k5 ?kA ?kF ?kK ?k6 ?k7 ?k8 ?k9 ?kB ?_ ?c1 ?c2 ?c3 ?c4; (case kA => exact rfl); (case kF => exact rfl); (case kK => exact rfl); (case k1 => exact kB); (case k2 => exact F'); (case k3 => exact kX); (case kN => exact N1); (case kO => exact O1); (case kP => exact k00_apart a1' a2'); (case k5 => exact kT); (case k6 => k_is); (case k7 => k_is); (case k8 => k_room); (case k9 => exact BindsTo.of_eq rfl); (case kB => exact locs rfl); (case c1 => decide); (case c2 => exact rfl); (case c3 => exact rfl); (case c4 => exact rfl))
    clear O1 a1' a2'
    intro g' L' h' FG' F' N' B' X' T' l1; (try k_lt l1); (try dsimp only); (try k_lift B'); (try k_fold)
    k_steps
    all_goals (refine' hret _ _ ?eF ?eN; (case eF => k_asm); (case eN => assumption)))
set_option maxRecDepth 100000 in
set_option maxHeartbeats 0 in
theorem k00_fld2 (w : World) (t : Tok) : K00.Fld w 112 [.int 1 t] [] (Str.ofString "index") (.int 1 t) := by
  w_strict (
    unfold K00.Fld
    k_fill
    intro mean mg mb A₀ cn cn2 cn3 nms nms2 nms3 mr mr2 mr3 a a2 a3 ccd ccd2 ccd3 cl base h₀ L L1 L2 m news s Q E E2 kB kF kX kN kT hret
    k_dflt (refine' PySem.W.kq_callI ?F ?X ?N PySem.F.excBase_ValueError ?hi ?q ?hf ?hz ?_; (case X => exact kX); (case hi => k_is); (case q => kx_is); (case F => exact kF); (case N => exact kN); (case hf => k_is); (case hz => size_fits))
    intro e' t' h' F' N' a1' a2' a3'
    have a4' := neN a3'
    have N1 := k00_split1 N'
    have O1 := k00_split2 N'
    clear N' kF kN
    k_dflt (refine' k00_super ?k1 ?k2 ?k3 ?kN ?kO ?kP ?k5 ?kA ?kF ?kK ?k6 ?k7 ?k8 ?k9 ?kB ?_ ?c1 ?c2 ?c3 ?c4; (case kA => exact rfl); (case kF => exact rfl); (case kK => exact rfl); (case k1 => exact kB); (case k2 => exact F'); (case k3 => exact kX); (case kN => exact N1); (case kO => exact O1); (case kP => exact k00_apart a1' a2'); (case k5 => exact kT); (case k6 => k_is); (case k7 => k_is); (case k8 => k_room); (case k9 => exact BindsTo.of_eq rfl); (case kB => exact locs rfl); (case c1 => decide); (case c2 => exact rfl); (case c3 => exact rfl); (case c4 => exact rfl))
    clear O1 a1' a2'
    intro g' L' h' FG' F' N' B' X' T' l1; (try k_lt l1); (try dsimp only); (try k_lift B'); (try k_fold)
    k_steps
    all_goals (refine' hret _ _ ?eF ?eN; (case eF => k_asm); (case eN => assumption)))
set_option maxRecDepth 100000 in
set_option maxHeartbeats 0 in
theorem k00_fld3 (w : World) (t : Tok) : K00.Fld w 112 [] [(Str.ofString "index", .int 3 t)] (Str.ofString "index") (.int 3 t) := by
  w_strict (
    unfold K00.Fld
    k_fill
    intro mean mg mb A₀ cn cn2 cn3 nms nms2 nms3 mr mr2 mr3 a a2 a3 ccd ccd2 ccd3 cl base h₀ L L1 L2 m news s Q E E2 kB kF kX kN kT hret
    k_dflt (refine' PySem.W.kq_callI ?F ?X ?N PySem.F.excBase_ValueError ?hi ?q ?hf ?hz ?_; (case X => exact kX); (case hi => k_is); (case q => kx_is); (case F => exact kF); (case N => exact kN); (case hf => k_is); (case hz => size_fits))
    intro e' t' h' F' N' a1' a2' a3'
    have a4' := neN a3'
    have N1 := k00_split1 N'
    have O1 := k00_split2 N'
    clear N' kF kN
    k_dflt (refine' k00_super ?k1 ?k2 ?k3 ?kN ?kO ?kP ?k5 ?kA ?kF ?kK ?k6 ?k7 ?k8 ?k9 ?kB ?_ ?c1 ?c2 ?c3 ?c4; (case kA => exact rfl); (case kF => exact rfl); (case kK => exact rfl); (case k1 => exact kB); (case k2 => exact F'); (case k3 => exact kX); (case kN => exact N1); (case kO => exact O1); (case kP => exact k00_apart a1' a2'); (case k5 => exact kT); (case k6 => k_is); (case k7 => k_is); (case k8 => k_room); (case k9 => exact BindsTo.of_eq rfl); (case kB => exact locs rfl); (case c1 => decide); (case c2 => exact rfl); (case c3 => exact rfl); (case c4 => exact rfl))
    clear O1 a1' a2'
    intro g' L' h' FG' F' N' B' X' T' l1; (try k_lt l1); (try dsimp only); (try k_lift B'); (try k_fold)
    k_steps
    all_goals (refine' hret _ _ ?eF ?eN; (case eF => k_asm); (case eN => assumption)))
set_option maxRecDepth 100000 in
set_option maxHeartbeats 0 in
theorem k00_fld4 (w : World) (t : Tok) : K00.Fld w 133 [.int 4 t] [] (Str.ofString "index") (.int 4 t) := by
  w_strict (
    unfold K00.Fld
    k_fill
    intro mean mg mb A₀ cn cn2 cn3 nms nms2 nms3 mr mr2 mr3 a a2 a3 ccd ccd2 ccd3 cl base h₀ L L1 L2 m news s Q E E2 kB kF kX kN kT hret
    k_dflt (refine' PySem.W.kq_callI ?F ?X ?N PySem.F.excBase_ValueError ?hi ?q ?hf ?hz ?_; (case X => exact kX); (case hi => k_is); (case q => kx_is); (case F => exact kF); (case N => exact kN); (case hf => k_is); (case hz => size_fits))
    intro e' t' h' F' N' a1' a2' a3'
    have a4' := neN a3'
    have N1 := k00_split1 N'
    have O1 := k00_split2 N'
    clear N' kF kN
    k_dflt (refine' k00_super ?k1 ?k2 ?k3 ?kN ?kO ?kP ?k5 ?kA ?kF ?kK ?k6 ?k7 ?k8 ?k9 ?kB ?_ ?c1 ?c2 ?c3 ?c4; (case kA => exact rfl); (case kF => exact rfl); (case kK => exact rfl); (case k1 => exact kB); (case k2 => exact F'); (case k3 => exact kX); (case kN => exact N1); (case kO => exact O1); (case kP => exact k00_apart a1' a2'); (case k5 => exact kT); (case k6 => k_is); (case k7 => k_is); (case k8 => k_room); (case k9 => exact BindsTo.of_eq rfl); (case kB => exact locs rfl); (case c1 => decide); (case c2 => exact rfl); (case c3 => exact rfl); (case c4 => exact rfl))
    clear O1 a1' a2'
    intro g' L' h' FG' F' N' B' X' T' l1; (try k_lt l1); (try dsimp only); (try k_lift B'); (try k_fold)
    k_steps
    all_goals (refine' hret _ _ ?eF ?eN; (case eF => k_asm); (case eN => assumption)))
set_option maxRecDepth 100000 in
set_option maxHeartbeats 0 in
theorem k00_fld5 (w : World) (t : Tok) : K00.Fld w 133 [] [(Str.ofString "index", .int 5 t)] (Str.ofString "index") (.int 5 t) := by
  w_strict (
    unfold K00.Fld
    k_fill
    intro mean mg mb A₀ cn cn2 cn3 nms nms2 nms3 mr mr2 mr3 a a2 a3 ccd ccd2 ccd3 cl base h₀ L L1 L2 m news s Q E E2 kB kF kX kN kT hret
    k_dflt (refine' PySem.W.kq_callI ?F ?X ?N PySem.F.excBase_ValueError ?hi ?q ?hf ?hz ?_; (case X => exact kX); (case hi => k_is); (case q => kx_is); (case F => exact kF); (case N => exact kN); (case hf => k_is); (case hz => size_fits))
    intro e' t' h' F' N' a1' a2' a3'
    have a4' := neN a3'
    have N1 := k00_split1 N'
    have O1 := k00_split2 N'
    clear N' kF kN
    k_dflt (refine' k00_super ?k1 ?k2 ?k3 ?kN ?kO ?kP ?k5 ?kA ?kF ?kK ?k6 ?k7 ?k8 ?k9 ?kB ?_ ?c1 ?c2 ?c3 ?c4; (case kA => exact rfl); (case kF => exact rfl); (case kK => exact rfl); (case k1 => exact kB); (case k2 => exact F'); (case k3 => exact kX); (case kN => exact N1); (case kO => exact O1); (case kP => exact k00_apart a1' a2'); (case k5 => exact kT); (case k6 => k_is); (case k7 => k_is); (case k8 => k_room); (case k9 => exact BindsTo.of_eq rfl); (case kB => exact locs rfl); (case c1 => decide); (case c2 => exact rfl); (case c3 => exact rfl); (case c4 => exact rfl))
    clear O1 a1' a2'
    intro g' L' h' FG' F' N' B' X' T' l1; (try k_lt l1); (try dsimp only); (try k_lift B'); (try k_fold)
    k_steps
    all_goals (refine' hret _ _ ?eF ?eN; (case eF => k_asm); (case eN => assumption)))
set_option maxRecDepth 100000 in
set_option maxHeartbeats 0 in
theorem k00_fld6 (w : World) (t : Tok) : K00.Fld w 238 [.int 1 t] [] (Str.ofString "index") (.int 1 t) := by
  w_strict (
    unfold K00.Fld
    k_fill
    intro mean mg mb A₀ cn cn2 cn3 nms nms2 nms3 mr mr2 mr3 a a2 a3 ccd ccd2 ccd3 cl base h₀ L L1 L2 m news s Q E E2 kB kF kX kN kT hret
    k_dflt (refine' PySem.W.kq_callI ?F ?X ?N PySem.F.excBase_ValueError ?hi ?q ?hf ?hz ?_; (case X => exact kX); (case hi => k_is); (case q => kx_is); (case F => exact kF); (case N => exact kN); (case hf => k_is); (case hz => size_fits))
    intro e' t' h' F' N' a1' a2' a3'
    have a4' := neN a3'
    have N1 := k00_split1 N'
    have O1 := k00_split2 N'
    clear N' kF kN
    k_dflt (refine' k00_super ?k1 ?k2 ?k3 ?kN ?kO ?kP ?k5 ?kA ?kF ?kK ?k6 ?k7 ?k8 ?k9 ?kB ?_ ?c1 ?c2 ?c3 ?c4; (case kA => exact rfl); (case kF => exact rfl); (case kK => exact rfl); (case k1 => exact kB); (case k2 => exact F'); (case k3 => exact kX); (case kN => exact N1); (case kO => exact O1); (case kP => exact k00_apart a1' a2'); (case k5 => exact kT); (case k6 => k_is); (case k7 => k_is); (case k8 => k_room); (case k9 => exact BindsTo.of_eq rfl); (case kB => exact locs rfl); (case c1 => decide); (case c2 => exact rfl); (case c3 => exact rfl); (case c4 => exact rfl))
    clear O1 a1' a2'
    intro g' L' h' FG' F' N' B' X' T' l1; (try k_lt l1); (try dsimp only); (try k_lift B'); (try k_fold)
    k_steps
    all_goals (refine' hret _ _ ?eF ?eN; (case eF => k_asm); (case eN => assumption)))
set_option maxRecDepth 100000 in
set_option maxHeartbeats 0 in
theorem k00_fld7 (w : World) (t : Tok) : K00.Fld w 238 [] [(Str.ofString "index", .int 0 t)] (Str.ofString "index") (.int 0 t) := by
  w_strict (
    unfold K00.Fld
    k_fill
    intro mean mg mb A₀ cn cn2 cn3 nms nms2 nms3 mr mr2 mr3 a a2 a3 ccd ccd2 ccd3 cl base h₀ L L1 L2 m news s Q E E2 kB kF kX kN kT hret
    k_dflt (refine' PySem.W.kq_callI ?F ?X ?N PySem.F.excBase_ValueError ?hi ?q ?hf ?hz ?_; (case X => exact kX); (case hi => k_is); (case q => kx_is); (case F => exact kF); (case N => exact kN); (case hf => k_is); (case hz => size_fits))
    intro e' t' h' F' N' a1' a2' a3'
    have a4' := neN a3'
    have N1 := k00_split1 N'
    have O1 := k00_split2 N'
    clear N' kF kN
    k_dflt (refine' k00_super ?k1 ?k2 ?k3 ?kN ?kO ?kP ?k5 ?kA ?kF ?kK ?k6 ?k7 ?k8 ?k9 ?kB ?_ ?c1 ?c2 ?c3 ?c4; (case kA => exact rfl); (case kF => exact rfl); (case kK => exact rfl); (case k1 => exact kB); (case k2 => exact F'); (case k3 => exact kX); (case kN => exact N1); (case kO => exact O1); (case kP => exact k00_apart a1' a2'); (case k5 => exact kT); (case k6 => k_is); (case k7 => k_is); (case k8 => k_room); (case k9 => exact BindsTo.of_eq rfl); (case kB => exact locs rfl); (case c1 => decide); (case c2 => exact rfl); (case c3 => exact rfl); (case c4 => exact rfl))
    clear O1 a1' a2'
    intro g' L' h' FG' F' N' B' X' T' l1; (try k_lt l1); (try dsimp only); (try k_lift B'); (try k_fold)
    k_steps
    all_goals (refine' hret _ _ ?eF ?eN; (case eF => k_asm); (case eN => assumption)))
set_option maxRecDepth 100000 in
set_option maxHeartbeats 0 in
theorem k00_fld8 (w : World) (t : Tok) : K00.Fld w 406 [.int 2 t] [] (Str.ofString "index") (.int 2 t) := by
  w_strict (
    unfold K00.Fld
    k_fill
    intro mean mg mb A₀ cn cn2 cn3 nms nms2 nms3 mr mr2 mr3 a a2 a3 ccd ccd2 ccd3 cl base h₀ L L1 L2 m news s Q E E2 kB kF kX kN kT hret
    k_dflt (refine' PySem.W.kq_callI ?F ?X ?N PySem.F.excBase_ValueError ?hi ?q ?hf ?hz ?_; (case X => exact kX); (case hi => k_is); (case q => kx_is); (case F => exact kF); (case N => exact kN); (case hf => k_is); (case hz => size_fits))
    intro e' t' h' F' N' a1' a2' a3'
    have a4' := neN a3'
    have N1 := k00_split1 N'
    have O1 := k00_split2 N'
    clear N' kF kN
    k_dflt (refine' k00_super ?k1 ?k2 ?k3 ?kN ?kO ?kP ?k5 ?kA ?kF ?kK ?k6 ?k7 ?k8 ?k9 ?kB ?_ ?c1 ?c2 ?c3 ?c4; (case kA => exact rfl); (case kF => exact rfl); (case kK => exact rfl); (case k1 => exact kB); (case k2 => exact F'); (case k3 => exact kX); (case kN => exact N1); (case kO => exact O1); (case kP => exact k00_apart a1' a2'); (case k5 => exact kT); (case k6 => k_is); (case k7 => k_is); (case k8 => k_room); (case k9 => exact BindsTo.of_eq rfl); (case kB => exact locs rfl); (case c1 => decide); (case c2 => exact rfl); (case c3 => exact rfl); (case c4 => exact rfl))
    clear O1 a1' a2'
    intro g' L' h' FG' F' N' B' X' T' l1; (try k_lt l1); (try dsimp only); (try k_lift B'); (try k_fold)
    k_steps
    all_goals (refine' hret _ _ ?eF ?eN; (case eF => k_asm); (case eN => assumption)))
set_option maxRecDepth 100000 in
set_option maxHeartbeats 0 in
theorem k00_fld9 (w : World) (t : Tok) : K00.Fld w 406 [] [(Str.ofString "index", .int 1 t)] (Str.ofString "index") (.int 1 t) := by
  w_strict (
    unfold K00.Fld
    k_fill
    intro mean mg mb A₀ cn cn2 cn3 nms nms2 nms3 mr mr2 mr3 a a2 a3 ccd ccd2 ccd3 cl base h₀ L L1 L2 m news s Q E E2 kB kF kX kN kT hret
    k_dflt (refine' PySem.W.kq_callI ?F ?X ?N PySem.F.excBase_ValueError ?hi ?q ?hf ?hz ?_; (case X => exact kX); (case hi => k_is); (case q => kx_is); (case F => exact kF); (case N => exact kN); (case hf => k_is); (case hz => size_fits))
    intro e' t' h' F' N' a1' a2' a3'
    have a4' := neN a3'
    have N1 := k00_split1 N'
    have O1 := k00_split2 N'
    clear N' kF kN
    k_dflt (refine' k00_super ?k1 ?k2 ?k3 ?kN ?kO ?kP ?k5 ?kA ?kF ?kK ?k6 ?k7 ?k8 ?k9 ?kB ?_ ?c1 ?c2 ?c3 ?c4; (case kA => exact rfl); (case kF => exact rfl); (case kK => exact rfl); (case k1 => exact kB); (case k2 => exact F'); (case k3 => exact kX); (case kN => exact N1); (case kO => exact O1); (case kP => exact k00_apart a1' a2'); (case k5 => exact kT); (case k6 => k_is); (case k7 => k_is); (case k8 => k_room); (case k9 => exact BindsTo.of_eq rfl); (case kB => exact locs rfl); (case c1 => decide); (case c2 => exact rfl); (case c3 => exact rfl); (case c4 => exact rfl))
    clear O1 a1' a2'
    intro g' L' h' FG' F' N' B' X' T' l1; (try k_lt l1); (try dsimp only); (try k_lift B'); (try k_fold)
    k_steps
    all_goals (refine' hret _ _ ?eF ?eN; (case eF => k_asm); (case eN => assumption)))
set_option maxRecDepth 100000 in
set_option maxHeartbeats 0 in
theorem k00_fld10 (w : World) (t : Tok) : K00.Fld w 469 [.int 6 t] [] (Str.ofString "index") (.int 6 t) := by
  w_strict (
    unfold K00.Fld
    k_fill
    intro mean mg mb A₀ cn cn2 cn3 nms nms2 nms3 mr mr2 mr3 a a2 a3 ccd ccd2 ccd3 cl base h₀ L L1 L2 m news s Q E E2 kB kF kX kN kT hret
    k_dflt (refine' PySem.W.kq_callI ?F ?X ?N PySem.F.excBase_ValueError ?hi ?q ?hf ?hz ?_; (case X => exact kX); (case hi => k_is); (case q => kx_is); (case F => exact kF); (case N => exact kN); (case hf => k_is); (case hz => size_fits))
    intro e' t' h' F' N' a1' a2' a3'
    have a4' := neN a3'
    have N1 := k00_split1 N'
    have O1 := k00_split2 N'
    clear N' kF kN
    k_dflt (refine' k00_super ?k1 ?k2 ?k3 ?kN ?kO ?kP ?k5 ?kA ?kF ?kK ?k6 ?k7 ?k8 ?k9 ?kB ?_ ?c1 ?c2 ?c3 ?c4; (case kA => exact rfl); (case kF => exact rfl); (case kK => exact rfl); (case k1 => exact kB); (case k2 => exact F'); (case k3 => exact kX); (case kN => exact N1); (case kO => exact O1); (case kP => exact k00_apart a1' a2'); (case k5 => exact kT); (case k6 => k_is); (case k7 => k_is); (case k8 => k_room); (case k9 => exact BindsTo.of_eq rfl); (case kB => exact locs rfl); (case c1 => decide); (case c2 => exact rfl); (case c3 => exact rfl); (case c4 => exact rfl))
    clear O1 a1' a2'
    intro g' L' h' FG' F' N' B' X' T' l1; (try k_lt l1); (try dsimp only); (try k_lift B'); (try k_fold)
    k_steps
    all_goals (refine' hret _ _ ?eF ?eN; (case eF => k_asm); (case eN => assumption)))
set_option maxRecDepth 100000 in
set_option maxHeartbeats 0 in
theorem k00_fld11 (w : World) (t : Tok) : K00.Fld w 469 [] [(Str.ofString "index", .int 7 t)] (Str.ofString "index") (.int 7 t) := by
  w_strict (
    unfold K00.Fld
    k_fill
    intro mean mg mb A₀ cn cn2 cn3 nms nms2 nms3 mr mr2 mr3 a a2 a3 ccd ccd2 ccd3 cl base h₀ L L1 L2 m news s Q E E2 kB kF kX kN kT hret
    k_dflt (refine' PySem.W.kq_callI ?F ?X ?N PySem.F.excBase_ValueError ?hi ?q ?hf ?hz ?_; (case X => exact kX); (case hi => k_is); (case q => kx_is); (case F => exact kF); (case N => exact kN); (case hf => k_is); (case hz => size_fits))
    intro e' t' h' F' N' a1' a2' a3'
    have a4' := neN a3'
    have N1 := k00_split1 N'
    have O1 := k00_split2 N'
    clear N' kF kN
    k_dflt (refine' k00_super ?k1 ?k2 ?k3 ?kN ?kO ?kP ?k5 ?kA ?kF ?kK ?k6 ?k7 ?k8 ?k9 ?kB ?_ ?c1 ?c2 ?c3 ?c4; (case kA => exact rfl); (case kF => exact rfl); (case kK => exact rfl); (case k1 => exact kB); (case k2 => exact F'); (case k3 => exact kX); (case kN => exact N1); (case kO => exact O1); (case kP => exact k00_apart a1' a2'); (case k5 => exact kT); (case k6 => k_is); (case k7 => k_is); (case k8 => k_room); (case k9 => exact BindsTo.of_eq rfl); (case kB => exact locs rfl); (case c1 => decide); (case c2 => exact rfl); (case c3 => exact rfl); (case c4 => exact rfl))
    clear O1 a1' a2'
    intro g' L' h' FG' F' N' B' X' T' l1; (try k_lt l1); (try dsimp only); (try k_lift B'); (try k_fold)
    k_steps
    all_goals (refine' hret _ _ ?eF ?eN; (case eF => k_asm); (case eN => assumption)))
set_option maxRecDepth 100000 in
set_option maxHeartbeats 0 in
theorem k00_fld12 (w : World) (t : Tok) : K00.Fld w 574 [.int 0 t] [] (Str.ofString "index") (.int 0 t) := by
  w_strict (
    unfold K00.Fld
    k_fill
    intro mean mg mb A₀ cn cn2 cn3 nms nms2 nms3 mr mr2 mr3 a a2 a3 ccd ccd2 ccd3 cl base h₀ L L1 L2 m news s Q E E2 kB kF kX kN kT hret
    k_dflt (refine' PySem.W.kq_callI ?F ?X ?N PySem.F.excBase_ValueError ?hi ?q ?hf ?hz ?_; (case X => exact kX); (case hi => k_is); (case q => kx_is); (case F => exact kF); (case N => exact kN); (case hf => k_is); (case hz => size_fits))
    intro e' t' h' F' N' a1' a2' a3'
    have a4' := neN a3'
    have N1 := k00_split1 N'
    have O1 := k00_split2 N'
    clear N' kF kN
    k_dflt (refine' k00_super ?k1 ?k2 ?k3 ?kN ?kO ?kP ?k5 ?kA ?kF ?kK ?k6 ?k7 ?k8 ?k9 ?kB ?_ ?c1 ?c2 ?c3 ?c4; (case kA => exact rfl); (case kF => exact rfl); (case kK => exact rfl); (case k1 => exact kB); (case k2 => exact F'); (case k3 => exact kX); (case kN => exact N1); (case kO => exact O1); (case kP => exact k00_apart a1' a2'); (case k5 => exact kT); (case k6 => k_is); (case k7 => k_is); (case k8 => k_room); (case k9 => exact BindsTo.of_eq rfl); (case kB => exact locs rfl); (case c1 => decide); (case c2 => exact rfl); (case c3 => exact rfl); (case c4 => exact rfl))
    clear O1 a1' a2'
    intro g' L' h' FG' F' N' B' X' T' l1; (try k_lt l1); (try dsimp only); (try k_lift B'); (try k_fold)
    k_steps
    all_goals (refine' hret _ _ ?eF ?eN; (case eF => k_asm); (case eN => assumption)))
set_option maxRecDepth 100000 in
set_option maxHeartbeats 0 in
theorem k00_fld13 (w : World) (t : Tok) : K00.Fld w 574 [] [(Str.ofString "index", .int 9 t)] (Str.ofString "index") (.int 9 t) := by
  w_strict (
    unfold K00.Fld
    k_fill
    intro mean mg mb A₀ cn cn2 cn3 nms nms2 nms3 mr mr2 mr3 a a2 a3 ccd ccd2 ccd3 cl base h₀ L L1 L2 m news s Q E E2 kB kF kX kN kT hret
    k_dflt (refine' PySem.W.kq_callI ?F ?X ?N PySem.F.excBase_ValueError ?hi ?q ?hf ?hz ?_; (case X => exact kX); (case hi => k_is); (case q => kx_is); (case F => exact kF); (case N => exact kN); (case hf => k_is); (case hz => size_fits))
    intro e' t' h' F' N' a1' a2' a3'
    have a4' := neN a3'
    have N1 := k00_split1 N'
    have O1 := k00_split2 N'
    clear N' kF kN
    k_dflt (refine' k00_super ?k1 ?k2 ?k3 ?kN ?kO ?kP ?k5 ?kA ?kF ?kK ?k6 ?k7 ?k8 ?k9 ?kB ?_ ?c1 ?c2 ?c3 ?c4; (case kA => exact rfl); (case kF => exact rfl); (case kK => exact rfl); (case k1 => exact kB); (case k2 => exact F'); (case k3 => exact kX); (case kN => exact N1); (case kO => exact O1); (case kP => exact k00_apart a1' a2'); (case k5 => exact kT); (case k6 => k_is); (case k7 => k_is); (case k8 => k_room); (case k9 => exact BindsTo.of_eq rfl); (case kB => exact locs rfl); (case c1 => decide); (case c2 => exact rfl); (case c3 => exact rfl); (case c4 => exact rfl))
    clear O1 a1' a2'
    intro g' L' h' FG' F' N' B' X' T' l1; (try k_lt l1); (try dsimp only); (try k_lift B'); (try k_fold)
    k_steps
    all_goals (refine' hret _ _ ?eF ?eN; (case eF => k_asm); (case eN => assumption)))
set_option maxRecDepth 100000 in
set_option maxHeartbeats 0 in
theorem k00_fld14 (w : World) (t : Tok) : K00.Fld w 301 [.int 1 t] [] (Str.ofString "index") (.int 1 t) := by
  w_strict (
    unfold K00.Fld
    k_fill
    intro mean mg mb A₀ cn cn2 cn3 nms nms2 nms3 mr mr2 mr3 a a2 a3 ccd ccd2 ccd3 cl base h₀ L L1 L2 m news s Q E E2 kB kF kX kN kT hret
    k_dflt (refine' PySem.W.kq_callI ?F ?X ?N PySem.F.excBase_ValueError ?hi ?q ?hf ?hz ?_; (case X => exact kX); (case hi => k_is); (case q => kx_is); (case F => exact kF); (case N => exact kN); (case hf => k_is); (case hz => size_fits))
    intro e' t' h' F' N' a1' a2' a3'
    have a4' := neN a3'
    have N1 := k00_split1 N'
    have O1 := k00_split2 N'
    clear N' kF kN
    k_dflt (refine' k00_super ?k1 ?k2 ?k3 ?kN ?kO ?kP ?k5 ?kA ?kF ?kK ?k6 ?k7 ?k8 ?k9 ?kB ?_ ?c1 ?c2 ?c3 ?c4; (case kA => exact rfl); (case kF => exact rfl); (case kK => exact rfl); (case k1 => exact kB); (case k2 => exact F'); (case k3 => exact kX); (case kN => exact N1); (case kO => exact O1); (case kP => exact k00_apart a1' a2'); (case k5 => exact kT); (case k6 => k_is); (case k7 => k_is); (case k8 => k_room); (case k9 => exact BindsTo.of_eq rfl); (case kB => exact locs rfl); (case c1 => decide); (case c2 => exact rfl); (case c3 => exact rfl); (case c4 => exact rfl))
    clear O1 a1' a2'
    intro g' L' h' FG' F' N' B' X' T' l1; (try k_lt l1); (try dsimp only); (try k_lift B'); (try k_fold)
    k_steps
    all_goals (refine' hret _ _ ?eF ?eN; (case eF => k_asm); (case eN => assumption)))
set_option maxRecDepth 100000 in
set_option maxHeartbeats 0 in
theorem k00_fld15 (w : World) (t : Tok) : K00.Fld w 301 [] [(Str.ofString "index", .int 2 t)] (Str.ofString "index") (.int 2 t) := by
  w_strict (
    unfold K00.Fld
    k_fill
    intro mean mg mb A₀ cn cn2 cn3 nms nms2 nms3 mr mr2 mr3 a a2 a3 ccd ccd2 ccd3 cl base h₀ L L1 L2 m news s Q E E2 kB kF kX kN kT hret
    k_dflt (refine' PySem.W.kq_callI ?F ?X ?N PySem.F.excBase_ValueError ?hi ?q ?hf ?hz ?_; (case X => exact kX); (case hi => k_is); (case q => kx_is); (case F => exact kF); (case N => exact kN); (case hf => k_is); (case hz => size_fits))
    intro e' t' h' F' N' a1' a2' a3'
    have a4' := neN a3'
    have N1 := k00_split1 N'
    have O1 := k00_split2 N'
    clear N' kF kN
    k_dflt (refine' k00_super ?k1 ?k2 ?k3 ?kN ?kO ?kP ?k5 ?kA ?kF ?kK ?k6 ?k7 ?k8 ?k9 ?kB ?_ ?c1 ?c2 ?c3 ?c4; (case kA => exact rfl); (case kF => exact rfl); (case kK => exact rfl); (case k1 => exact kB); (case k2 => exact F'); (case k3 => exact kX); (case kN => exact N1); (case kO => exact O1); (case kP => exact k00_apart a1' a2'); (case k5 => exact kT); (case k6 => k_is); (case k7 => k_is); (case k8 => k_room); (case k9 => exact BindsTo.of_eq rfl); (case kB => exact locs rfl); (case c1 => decide); (case c2 => exact rfl); (case c3 => exact rfl); (case c4 => exact rfl))
    clear O1 a1' a2'
    intro g' L' h' FG' F' N' B' X' T' l1; (try k_lt l1); (try dsimp only); (try k_lift B'); (try k_fold)
    k_steps
    all_goals (refine' hret _ _ ?eF ?eN; (case eF => k_asm); (case eN => assumption)))
set_option maxRecDepth 100000 in
set_option maxHeartbeats 0 in
theorem k00_fld16 (w : World) (t : Tok) : K00.Fld w 259 [.int 3 t] [] (Str.ofString "step") (.int 3 t) := by
  w_strict (
    unfold K00.Fld
    k_fill
    intro mean mg mb A₀ cn cn2 cn3 nms nms2 nms3 mr mr2 mr3 a a2 a3 ccd ccd2 ccd3 cl base h₀ L L1 L2 m news s Q E E2 kB kF kX kN kT hret
    k_dflt (refine' PySem.W.kq_callI ?F ?X ?N PySem.F.excBase_ValueError ?hi ?q ?hf ?hz ?_; (case X => exact kX); (case hi => k_is); (case q => kx_is); (case F => exact kF); (case N => exact kN); (case hf => k_is); (case hz => size_fits))
    intro e' t' h' F' N' a1' a2' a3'
    have a4' := neN a3'
    have N1 := k00_split1 N'
    have O1 := k00_split2 N'
    clear N' kF kN
    k_dflt (refine' k00_super ?k1 ?k2 ?k3 ?kN ?kO ?kP ?k5 ?kA ?kF ?kK ?k6 ?k7 ?k8 ?k9 ?kB ?_ ?c1 ?c2 ?c3 ?c4; (case kA => exact rfl); (case kF => exact rfl); (case kK => exact rfl); (case k1 => exact kB); (case k2 => exact F'); (case k3 => exact kX); (case kN => exact N1); (case kO => exact O1); (case kP => exact k00_apart a1' a2'); (case k5 => exact kT); (case k6 => k_is); (case k7 => k_is); (case k8 => k_room); (case k9 => exact BindsTo.of_eq rfl); (case kB => exact locs rfl); (case c1 => decide); (case c2 => exact rfl); (case c3 => exact rfl); (case c4 => exact rfl))
    clear O1 a1' a2'
    intro g' L' h' FG' F' N' B' X' T' l1; (try k_lt l1); (try dsimp only); (try k_lift B'); (try k_fold)
    k_steps
    all_goals (refine' hret _ _ ?eF ?eN; (case eF => k_asm); (case eN => assumption)))
set_option maxRecDepth 100000 in
set_option maxHeartbeats 0 in
theorem k00_fld17 (w : World) (t : Tok) : K00.Fld w 259 [] [(Str.ofString "step", .int 4 t)] (Str.ofString "step") (.int 4 t) := by
  w_strict (
    unfold K00.Fld
    k_fill
    intro mean mg mb A₀ cn cn2 cn3 nms nms2 nms3 mr mr2 mr3 a a2 a3 ccd ccd2 ccd3 cl base h₀ L L1 L2 m news s Q E E2 kB kF kX kN kT hret
    k_dflt (refine' PySem.W.kq_callI ?F ?X ?N PySem.F.excBase_ValueError ?hi ?q ?hf ?hz ?_; (case X => exact kX); (case hi => k_is); (case q => kx_is); (case F => exact kF); (case N => exact kN); (case hf => k_is); (case hz => size_fits))
    intro e' t' h' F' N' a1' a2' a3'
    have a4' := neN a3'
    have N1 := k00_split1 N'
    have O1 := k00_split2 N'
    clear N' kF kN
    k_dflt (refine' k00_super ?k1 ?k2 ?k3 ?kN ?kO ?kP ?k5 ?kA ?kF ?kK ?k6 ?k7 ?k8 ?k9 ?kB ?_ ?c1 ?c2 ?c3 ?c4; (case kA => exact rfl); (case kF => exact rfl); (case kK => exact rfl); (case k1 => exact kB); (case k2 => exact F'); (case k3 => exact kX); (case kN => exact N1); (case kO => exact O1); (case kP => exact k00_apart a1' a2'); (case k5 => exact kT); (case k6 => k_is); (case k7 => k_is); (case k8 => k_room); (case k9 => exact BindsTo.of_eq rfl); (case kB => exact locs rfl); (case c1 => decide); (case c2 => exact rfl); (case c3 => exact rfl); (case c4 => exact rfl))
    clear O1 a1' a2'
    intro g' L' h' FG' F' N' B' X' T' l1; (try k_lt l1); (try dsimp only); (try k_lift B'); (try k_fold)
    k_steps
    all_goals (refine' hret _ _ ?eF ?eN; (case eF => k_asm); (case eN => assumption)))
set_option maxRecDepth 100000 in
set_option maxHeartbeats 0 in
theorem k00_fld18 (w : World) (t : Tok) : K00.Fld w 280 [.int 5 t] [] (Str.ofString "step") (.int 5 t) := by
  w_strict (
    unfold K00.Fld
    k_fill
    intro mean mg mb A₀ cn cn2 cn3 nms nms2 nms3 mr mr2 mr3 a a2 a3 ccd ccd2 ccd3 cl base h₀ L L1 L2 m news s Q E E2 kB kF kX kN kT hret
    k_dflt (refine' PySem.W.kq_callI ?F ?X ?N PySem.F.excBase_ValueError ?hi ?q ?hf ?hz ?_; (case X => exact kX); (case hi => k_is); (case q => kx_is); (case F => exact kF); (case N => exact kN); (case hf => k_is); (case hz => size_fits))
    intro e' t' h' F' N' a1' a2' a3'
    have a4' := neN a3'
    have N1 := k00_split1 N'
    have O1 := k00_split2 N'
    clear N' kF kN
    k_dflt (refine' k00_super ?k1 ?k2 ?k3 ?kN ?kO ?kP ?k5 ?kA ?kF ?kK ?k6 ?k7 ?k8 ?k9 ?kB ?_ ?c1 ?c2 ?c3 ?c4; (case kA => exact rfl); (case kF => exact rfl); (case kK => exact rfl); (case k1 => exact kB); (case k2 => exact F'); (case k3 => exact kX); (case kN => exact N1); (case kO => exact O1); (case kP => exact k00_apart a1' a2'); (case k5 => exact kT); (case k6 => k_is); (case k7 => k_is); (case k8 => k_room); (case k9 => exact BindsTo.of_eq rfl); (case kB => exact locs rfl); (case c1 => decide); (case c2 => exact rfl); (case c3 => exact rfl); (case c4 => exact rfl))
    clear O1 a1' a2'
    intro g' L' h' FG' F' N' B' X' T' l1; (try k_lt l1); (try dsimp only); (try k_lift B'); (try k_fold)
    k_steps
    all_goals (refine' hret _ _ ?eF ?eN; (case eF => k_asm); (case eN => assumption)))
set_option maxRecDepth 100000 in
set_option maxHeartbeats 0 in
theorem k00_fld19 (w : World) (t : Tok) : K00.Fld w 280 [] [(Str.ofString "step", .int (-1) t)] (Str.ofString "step") (.int (-1) t) := by
  w_strict (
    unfold K00.Fld
    k_fill
    intro mean mg mb A₀ cn cn2 cn3 nms nms2 nms3 mr mr2 mr3 a a2 a3 ccd ccd2 ccd3 cl base h₀ L L1 L2 m news s Q E E2 kB kF kX kN kT hret
    k_dflt (refine' PySem.W.kq_callI ?F ?X ?N PySem.F.excBase_ValueError ?hi ?q ?hf ?hz ?_; (case X => exact kX); (case hi => k_is); (case q => kx_is); (case F => exact kF); (case N => exact kN); (case hf => k_is); (case hz => size_fits))
    intro e' t' h' F' N' a1' a2' a3'
    have a4' := neN a3'
    have N1 := k00_split1 N'
    have O1 := k00_split2 N'
    clear N' kF kN
    k_dflt (refine' k00_super ?k1 ?k2 ?k3 ?kN ?kO ?kP ?k5 ?kA ?kF ?kK ?k6 ?k7 ?k8 ?k9 ?kB ?_ ?c1 ?c2 ?c3 ?c4; (case kA => exact rfl); (case kF => exact rfl); (case kK => exact rfl); (case k1 => exact kB); (case k2 => exact F'); (case k3 => exact kX); (case kN => exact N1); (case kO => exact O1); (case kP => exact k00_apart a1' a2'); (case k5 => exact kT); (case k6 => k_is); (case k7 => k_is); (case k8 => k_room); (case k9 => exact BindsTo.of_eq rfl); (case kB => exact locs rfl); (case c1 => decide); (case c2 => exact rfl); (case c3 => exact rfl); (case c4 => exact rfl))
    clear O1 a1' a2'
    intro g' L' h' FG' F' N' B' X' T' l1; (try k_lt l1); (try dsimp only); (try k_lift B'); (try k_fold)
    k_steps
    all_goals (refine' hret _ _ ?eF ?eN; (case eF => k_asm); (case eN => assumption)))
set_option maxRecDepth 100000 in
set_option maxHeartbeats 0 in
theorem k00_fld20 (w : World) (t : Tok) : K00.Fld w 322 [.int 6 t] [] (Str.ofString "line") (.int 6 t) := by
  w_strict (
    unfold K00.Fld
    k_fill
    intro mean mg mb A₀ cn cn2 cn3 nms nms2 nms3 mr mr2 mr3 a a2 a3 ccd ccd2 ccd3 cl base h₀ L L1 L2 m news s Q E E2 kB kF kX kN kT hret
    k_dflt (refine' PySem.W.kq_callI ?F ?X ?N PySem.F.excBase_ValueError ?hi ?q ?hf ?hz ?_; (case X => exact kX); (case hi => k_is); (case q => kx_is); (case F => exact kF); (case N => exact kN); (case hf => k_is); (case hz => size_fits))
    intro e' t' h' F' N' a1' a2' a3'
    have a4' := neN a3'
    have N1 := k00_split1 N'
    have O1 := k00_split2 N'
    clear N' kF kN
    k_dflt (refine' k00_super ?k1 ?k2 ?k3 ?kN ?kO ?kP ?k5 ?kA ?kF ?kK ?k6 ?k7 ?k8 ?k9 ?kB ?_ ?c1 ?c2 ?c3 ?c4; (case kA => exact rfl); (case kF => exact rfl); (case kK => exact rfl); (case k1 => exact kB); (case k2 => exact F'); (case k3 => exact kX); (case kN => exact N1); (case kO => exact O1); (case kP => exact k00_apart a1' a2'); (case k5 => exact kT); (case k6 => k_is); (case k7 => k_is); (case k8 => k_room); (case k9 => exact BindsTo.of_eq rfl); (case kB => exact locs rfl); (case c1 => decide); (case c2 => exact rfl); (case c3 => exact rfl); (case c4 => exact rfl))
    clear O1 a1' a2'
    intro g' L' h' FG' F' N' B' X' T' l1; (try k_lt l1); (try dsimp only); (try k_lift B'); (try k_fold)
    k_steps
    all_goals (refine' hret _ _ ?eF ?eN; (case eF => k_asm); (case eN => assumption)))
set_option maxRecDepth 100000 in
set_option maxHeartbeats 0 in
theorem k00_fld21 (w : World) (t : Tok) : K00.Fld w 322 [] [(Str.ofString "line", .int 1 t)] (Str.ofString "line") (.int 1 t) := by
  w_strict (
    unfold K00.Fld
    k_fill
    intro mean mg mb A₀ cn cn2 cn3 nms nms2 nms3 mr mr2 mr3 a a2 a3 ccd ccd2 ccd3 cl base h₀ L L1 L2 m news s Q E E2 kB kF kX kN kT hret
    k_dflt (refine' PySem.W.kq_callI ?F ?X ?N PySem.F.excBase_ValueError ?hi ?q ?hf ?hz ?_; (case X => exact kX); (case hi => k_is); (case q => kx_is); (case F => exact kF); (case N => exact kN); (case hf => k_is); (case hz => size_fits))
    intro e' t' h' F' N' a1' a2' a3'
    have a4' := neN a3'
    have N1 := k00_split1 N'
    have O1 := k00_split2 N'
    clear N' kF kN
    k_dflt (refine' k00_super ?k1 ?k2 ?k3 ?kN ?kO ?kP ?k5 ?kA ?kF ?kK ?k6 ?k7 ?k8 ?k9 ?kB ?_ ?c1 ?c2 ?c3 ?c4; (case kA => exact rfl); (case kF => exact rfl); (case kK => exact rfl); (case k1 => exact kB); (case k2 => exact F'); (case k3 => exact kX); (case kN => exact N1); (case kO => exact O1); (case kP => exact k00_apart a1' a2'); (case k5 => exact kT); (case k6 => k_is); (case k7 => k_is); (case k8 => k_room); (case k9 => exact BindsTo.of_eq rfl); (case kB => exact locs rfl); (case c1 => decide); (case c2 => exact rfl); (case c3 => exact rfl); (case c4 => exact rfl))
    clear O1 a1' a2'
    intro g' L' h' FG' F' N' B' X' T' l1; (try k_lt l1); (try dsimp only); (try k_lift B'); (try k_fold)
    k_steps
    all_goals (refine' hret _ _ ?eF ?eN; (case eF => k_asm); (case eN => assumption)))
set_option maxRecDepth 100000 in
set_option maxHeartbeats 0 in
theorem k00_fld22 (w : World) (t : Tok) : K00.Fld w 175 [.str (Str.ofString "m") t] [] (Str.ofString "name") (.str (Str.ofString "m") t) := by
  w_strict (
    unfold K00.Fld
    k_fill
    intro mean mg mb A₀ cn cn2 cn3 nms nms2 nms3 mr mr2 mr3 a a2 a3 ccd ccd2 ccd3 cl base h₀ L L1 L2 m news s Q E E2 kB kF kX kN kT hret
    k_dflt (refine' PySem.W.kq_callI ?F ?X ?N PySem.F.excBase_ValueError ?hi ?q ?hf ?hz ?_; (case X => exact kX); (case hi => k_is); (case q => kx_is); (case F => exact kF); (case N => exact kN); (case hf => k_is); (case hz => size_fits))
    intro e' t' h' F' N' a1' a2' a3'
    have a4' := neN a3'
    have N1 := k00_split1 N'
    have O1 := k00_split2 N'
    clear N' kF kN
    k_dflt (refine' k00_super ?k1 ?k2 ?k3 ?kN ?kO ?kP ?k5 ?kA ?kF ?kK ?k6 ?k7 ?k8 ?k9 ?kB ?_ ?c1 ?c2 ?c3 ?c4; (case kA => exact rfl); (case kF => exact rfl); (case kK => exact rfl); (case k1 => exact kB); (case k2 => exact F'); (case k3 => exact kX); (case kN => exact N1); (case kO => exact O1); (case kP => exact k00_apart a1' a2'); (case k5 => exact kT); (case k6 => k_is); (case k7 => k_is); (case k8 => k_room); (case k9 => exact BindsTo.of_eq rfl); (case kB => exact locs rfl); (case c1 => decide); (case c2 => exact rfl); (case c3 => exact rfl); (case c4 => exact rfl))
    clear O1 a1' a2'
    intro g' L' h' FG' F' N' B' X' T' l1; (try k_lt l1); (try dsimp only); (try k_lift B'); (try k_fold)
    k_steps
    all_goals (refine' hret _ _ ?eF ?eN; (case eF => k_asm); (case eN => assumption)))
set_option maxRecDepth 100000 in
set_option maxHeartbeats 0 in
theorem k00_fld23 (w : World) (t : Tok) : K00.Fld w 175 [] [(Str.ofString "name", .str (Str.ofString "A") t)] (Str.ofString "name") (.str (Str.ofString "A") t) := by
  w_strict (
    unfold K00.Fld
    k_fill
    intro mean mg mb A₀ cn cn2 cn3 nms nms2 nms3 mr mr2 mr3 a a2 a3 ccd ccd2 ccd3 cl base h₀ L L1 L2 m news s Q E E2 kB kF kX kN kT hret
    k_dflt (refine' PySem.W.kq_callI ?F ?X ?N PySem.F.excBase_ValueError ?hi ?q ?hf ?hz ?_; (case X => exact kX); (case hi => k_is); (case q => kx_is); (case F => exact kF); (case N => exact kN); (case hf => k_is); (case hz => size_fits))
    intro e' t' h' F' N' a1' a2' a3'
    have a4' := neN a3'
    have N1 := k00_split1 N'
    have O1 := k00_split2 N'
    clear N' kF kN
    k_dflt (refine' k00_super ?k1 ?k2 ?k3 ?kN ?kO ?kP ?k5 ?kA ?kF ?kK ?k6 ?k7 ?k8 ?k9 ?kB ?_ ?c1 ?c2 ?c3 ?c4; (case kA => exact rfl); (case kF => exact rfl); (case kK => exact rfl); (case k1 => exact kB); (case k2 => exact F'); (case k3 => exact kX); (case kN => exact N1); (case kO => exact O1); (case kP => exact k00_apart a1' a2'); (case k5 => exact kT); (case k6 => k_is); (case k7 => k_is); (case k8 => k_room); (case k9 => exact BindsTo.of_eq rfl); (case kB => exact locs rfl); (case c1 => decide); (case c2 => exact rfl); (case c3 => exact rfl); (case c4 => exact rfl))
    clear O1 a1' a2'
    intro g' L' h' FG' F' N' B' X' T' l1; (try k_lt l1); (try dsimp only); (try k_lift B'); (try k_fold)
    k_steps
    all_goals (refine' hret _ _ ?eF ?eN; (case eF => k_asm); (case eN => assumption)))
set_option maxRecDepth 100000 in
set_option maxHeartbeats 0 in
theorem k00_fld24 (w : World) (t : Tok) : K00.Fld w 490 [.str (Str.ofString "x") t] [] (Str.ofString "name") (.str (Str.ofString "x") t) := by
  w_strict (
    unfold K00.Fld
    k_fill
    intro mean mg mb A₀ cn cn2 cn3 nms nms2 nms3 mr mr2 mr3 a a2 a3 ccd ccd2 ccd3 cl base h₀ L L1 L2 m news s Q E E2 kB kF kX kN kT hret
    k_dflt (refine' PySem.W.kq_callI ?F ?X ?N PySem.F.excBase_ValueError ?hi ?q ?hf ?hz ?_; (case X => exact kX); (case hi => k_is); (case q => kx_is); (case F => exact kF); (case N => exact kN); (case hf => k_is); (case hz => size_fits))
    intro e' t' h' F' N' a1' a2' a3'
    have a4' := neN a3'
    have N1 := k00_split1 N'
    have O1 := k00_split2 N'
    clear N' kF kN
    k_dflt (refine' k00_super ?k1 ?k2 ?k3 ?kN ?kO ?kP ?k5 ?kA ?kF ?kK ?k6 ?k7 ?k8 ?k9 ?kB ?_ ?c1 ?c2 ?c3 ?c4; (case kA => exact rfl); (case kF => exact rfl); (case kK => exact rfl); (case k1 => exact kB); (case k2 => exact F'); (case k3 => exact kX); (case kN => exact N1); (case kO => exact O1); (case kP => exact k00_apart a1' a2'); (case k5 => exact kT); (case k6 => k_is); (case k7 => k_is); (case k8 => k_room); (case k9 => exact BindsTo.of_eq rfl); (case kB => exact locs rfl); (case c1 => decide); (case c2 => exact rfl); (case c3 => exact rfl); (case c4 => exact rfl))
    clear O1 a1' a2'
    intro g' L' h' FG' F' N' B' X' T' l1; (try k_lt l1); (try dsimp only); (try k_lift B'); (try k_fold)
    k_steps
    all_goals (refine' hret _ _ ?eF ?eN; (case eF => k_asm); (case eN => assumption)))
set_option maxRecDepth 100000 in
set_option maxHeartbeats 0 in
theorem k00_fld25 (w : World) (t : Tok) : K00.Fld w 490 [] [(Str.ofString "name", .str (Str.ofString "") t)] (Str.ofString "name") (.str (Str.ofString "") t) := by
  w_strict (
    unfold K00.Fld
    k_fill
    intro mean mg mb A₀ cn cn2 cn3 nms nms2 nms3 mr mr2 mr3 a a2 a3 ccd ccd2 ccd3 cl base h₀ L L1 L2 m news s Q E E2 kB kF kX kN kT hret
    k_dflt (refine' PySem.W.kq_callI ?F ?X ?N PySem.F.excBase_ValueError ?hi ?q ?hf ?hz ?_; (case X => exact kX); (case hi => k_is); (case q => kx_is); (case F => exact kF); (case N => exact kN); (case hf => k_is); (case hz => size_fits))
    intro e' t' h' F' N' a1' a2' a3'
    have a4' := neN a3'
    have N1 := k00_split1 N'
    have O1 := k00_split2 N'
    clear N' kF kN
    k_dflt (refine' k00_super ?k1 ?k2 ?k3 ?kN ?kO ?kP ?k5 ?kA ?kF ?kK ?k6 ?k7 ?k8 ?k9 ?kB ?_ ?c1 ?c2 ?c3 ?c4; (case kA => exact rfl); (case kF => exact rfl); (case kK => exact rfl); (case k1 => exact kB); (case k2 => exact F'); (case k3 => exact kX); (case kN => exact N1); (case kO => exact O1); (case kP => exact k00_apart a1' a2'); (case k5 => exact kT); (case k6 => k_is); (case k7 => k_is); (case k8 => k_room); (case k9 => exact BindsTo.of_eq rfl); (case kB => exact locs rfl); (case c1 => decide); (case c2 => exact rfl); (case c3 => exact rfl); (case c4 => exact rfl))
    clear O1 a1' a2'
    intro g' L' h' FG' F' N' B' X' T' l1; (try k_lt l1); (try dsimp only); (try k_lift B'); (try k_fold)
    k_steps
    all_goals (refine' hret _ _ ?eF ?eN; (case eF => k_asm); (case eN => assumption)))
set_option maxRecDepth 100000 in
set_option maxHeartbeats 0 in
theorem k00_fld26 (w : World) (t : Tok) : K00.Fld w 511 [.str (Str.ofString "b") t] [] (Str.ofString "name") (.str (Str.ofString "b") t) := by
  w_strict (
    unfold K00.Fld
    k_fill
    intro mean mg mb A₀ cn cn2 cn3 nms nms2 nms3 mr mr2 mr3 a a2 a3 ccd ccd2 ccd3 cl base h₀ L L1 L2 m news s Q E E2 kB kF kX kN kT hret
    k_dflt (refine' PySem.W.kq_callI ?F ?X ?N PySem.F.excBase_ValueError ?hi ?q ?hf ?hz ?_; (case X => exact kX); (case hi => k_is); (case q => kx_is); (case F => exact kF); (case N => exact kN); (case hf => k_is); (case hz => size_fits))
    intro e' t' h' F' N' a1' a2' a3'
    have a4' := neN a3'
    have N1 := k00_split1 N'
    have O1 := k00_split2 N'
    clear N' kF kN
    k_dflt (refine' k00_super ?k1 ?k2 ?k3 ?kN ?kO ?kP ?k5 ?kA ?kF ?kK ?k6 ?k7 ?k8 ?k9 ?kB ?_ ?c1 ?c2 ?c3 ?c4; (case kA => exact rfl); (case kF => exact rfl); (case kK => exact rfl); (case k1 => exact kB); (case k2 => exact F'); (case k3 => exact kX); (case kN => exact N1); (case kO => exact O1); (case kP => exact k00_apart a1' a2'); (case k5 => exact kT); (case k6 => k_is); (case k7 => k_is); (case k8 => k_room); (case k9 => exact BindsTo.of_eq rfl); (case kB => exact locs rfl); (case c1 => decide); (case c2 => exact rfl); (case c3 => exact rfl); (case c4 => exact rfl))
    clear O1 a1' a2'
    intro g' L' h' FG' F' N' B' X' T' l1; (try k_lt l1); (try dsimp only); (try k_lift B'); (try k_fold)
    k_steps
    all_goals (refine' hret _ _ ?eF ?eN; (case eF => k_asm); (case eN => assumption)))
set_option maxRecDepth 100000 in
set_option maxHeartbeats 0 in
theorem k00_fld27 (w : World) (t : Tok) : K00.Fld w 511 [] [(Str.ofString "name", .str (Str.ofString "c") t)] (Str.ofString "name") (.str (Str.ofString "c") t) := by
  w_strict (
    unfold K00.Fld
    k_fill
    intro mean mg mb A₀ cn cn2 cn3 nms nms2 nms3 mr mr2 mr3 a a2 a3 ccd ccd2 ccd3 cl base h₀ L L1 L2 m news s Q E E2 kB kF kX kN kT hret
    k_dflt (refine' PySem.W.kq_callI ?F ?X ?N PySem.F.excBase_ValueError ?hi ?q ?hf ?hz ?_; (case X => exact kX); (case hi => k_is); (case q => kx_is); (case F => exact kF); (case N => exact kN); (case hf => k_is); (case hz => size_fits))
    intro e' t' h' F' N' a1' a2' a3'
    have a4' := neN a3'
    have N1 := k00_split1 N'
    have O1 := k00_split2 N'
    clear N' kF kN
    k_dflt (refine' k00_super ?k1 ?k2 ?k3 ?kN ?kO ?kP ?k5 ?kA ?kF ?kK ?k6 ?k7 ?k8 ?k9 ?kB ?_ ?c1 ?c2 ?c3 ?c4; (case kA => exact rfl); (case kF => exact rfl); (case kK => exact rfl); (case k1 => exact kB); (case k2 => exact F'); (case k3 => exact kX); (case kN => exact N1); (case kO => exact O1); (case kP => exact k00_apart a1' a2'); (case k5 => exact kT); (case k6 => k_is); (case k7 => k_is); (case k8 => k_room); (case k9 => exact BindsTo.of_eq rfl); (case kB => exact locs rfl); (case c1 => decide); (case c2 => exact rfl); (case c3 => exact rfl); (case c4 => exact rfl))
    clear O1 a1' a2'
    intro g' L' h' FG' F' N' B' X' T' l1; (try k_lt l1); (try dsimp only); (try k_lift B'); (try k_fold)
    k_steps
    all_goals (refine' hret _ _ ?eF ?eN; (case eF => k_asm); (case eN => assumption)))
set_option maxRecDepth 100000 in
set_option maxHeartbeats 0 in
theorem k00_fld28 (w : World) (t : Tok) : K00.Fld w 532 [.str (Str.ofString "w") t] [] (Str.ofString "name") (.str (Str.ofString "w") t) := by
  w_strict (
    unfold K00.Fld
    k_fill
    intro mean mg mb A₀ cn cn2 cn3 nms nms2 nms3 mr mr2 mr3 a a2 a3 ccd ccd2 ccd3 cl base h₀ L L1 L2 m news s Q E E2 kB kF kX kN kT hret
    k_dflt (refine' PySem.W.kq_callI ?F ?X ?N PySem.F.excBase_ValueError ?hi ?q ?hf ?hz ?_; (case X => exact kX); (case hi => k_is); (case q => kx_is); (case F => exact kF); (case N => exact kN); (case hf => k_is); (case hz => size_fits))
    intro e' t' h' F' N' a1' a2' a3'
    have a4' := neN a3'
    have N1 := k00_split1 N'
    have O1 := k00_split2 N'
    clear N' kF kN
    k_dflt (refine' k00_super ?k1 ?k2 ?k3 ?kN ?kO ?kP ?k5 ?kA ?kF ?kK ?k6 ?k7 ?k8 ?k9 ?kB ?_ ?c1 ?c2 ?c3 ?c4; (case kA => exact rfl); (case kF => exact rfl); (case kK => exact rfl); (case k1 => exact kB); (case k2 => exact F'); (case k3 => exact kX); (case kN => exact N1); (case kO => exact O1); (case kP => exact k00_apart a1' a2'); (case k5 => exact kT); (case k6 => k_is); (case k7 => k_is); (case k8 => k_room); (case k9 => exact BindsTo.of_eq rfl); (case kB => exact locs rfl); (case c1 => decide); (case c2 => exact rfl); (case c3 => exact rfl); (case c4 => exact rfl))
    clear O1 a1' a2'
    intro g' L' h' FG' F' N' B' X' T' l1; (try k_lt l1); (try dsimp only); (try k_lift B'); (try k_fold)
    k_steps
    all_goals (refine' hret _ _ ?eF ?eN; (case eF => k_asm); (case eN => assumption)))
set_option maxRecDepth 100000 in
set_option maxHeartbeats 0 in
theorem k00_fld29 (w : World) (t : Tok) : K00.Fld w 532 [] [(Str.ofString "name", .str (Str.ofString "v") t)] (Str.ofString "name") (.str (Str.ofString "v") t) := by
  w_strict (
    unfold K00.Fld
    k_fill
    intro mean mg mb A₀ cn cn2 cn3 nms nms2 nms3 mr mr2 mr3 a a2 a3 ccd ccd2 ccd3 cl base h₀ L L1 L2 m news s Q E E2 kB kF kX kN kT hret
    k_dflt (refine' PySem.W.kq_callI ?F ?X ?N PySem.F.excBase_ValueError ?hi ?q ?hf ?hz ?_; (case X => exact kX); (case hi => k_is); (case q => kx_is); (case F => exact kF); (case N => exact kN); (case hf => k_is); (case hz => size_fits))
    intro e' t' h' F' N' a1' a2' a3'
    have a4' := neN a3'
    have N1 := k00_split1 N'
    have O1 := k00_split2 N'
    clear N' kF kN
    k_dflt (refine' k00_super ?k1 ?k2 ?k3 ?kN ?kO ?kP ?k5 ?kA ?kF ?kK ?k6 ?k7 ?k8 ?k9 ?kB ?_ ?c1 ?c2 ?c3 ?c4; (case kA => exact rfl); (case kF => exact rfl); (case kK => exact rfl); (case k1 => exact kB); (case k2 => exact F'); (case k3 => exact kX); (case kN => exact N1); (case kO => exact O1); (case kP => exact k00_apart a1' a2'); (case k5 => exact kT); (case k6 => k_is); (case k7 => k_is); (case k8 => k_room); (case k9 => exact BindsTo.of_eq rfl); (case kB => exact locs rfl); (case c1 => decide); (case c2 => exact rfl); (case c3 => exact rfl); (case c4 => exact rfl))
    clear O1 a1' a2'
    intro g' L' h' FG' F' N' B' X' T' l1; (try k_lt l1); (try dsimp only); (try k_lift B'); (try k_fold)
    k_steps
    all_goals (refine' hret _ _ ?eF ?eN; (case eF => k_asm); (case eN => assumption)))
end
section
open PySem PySem.W PyProof.Rows
local macro_rules | `(tactic| walk_at "wpAt") => `(tactic| (ks_step "exec Expr"; k_dflt (refine ks_wpAt_Expr_any ?_)))
local macro_rules | `(tactic| walk_at "wpAt") => `(tactic| (ks_step "eval Call"; k_dflt (refine ks_wpAt_MethodCall ?_)))
local macro_rules | `(tactic| walk_at "pyReprObj str") => `(tactic| (k_here; k_dflt (refine' k00_repr ?hy ?hz ?_; (case hy => first
  | exact (show reprText _ = ("'m'" : Str) from by decide +kernel) | exact (show reprText _ = ("'A'" : Str) from by decide +kernel) | exact (show reprText _ = ("'x'" : Str) from by decide +kernel)
  | exact (show reprText _ = ("''" : Str) from by decide +kernel) | exact (show reprText _ = ("'main'" : Str) from by decide +kernel) | exact (show reprText _ = ("'b'" : Str) from by decide +kernel)
  | exact (show reprText _ = ("'c'" : Str) from by decide +kernel) | exact (show reprText _ = ("'w'" : Str) from by decide +kernel) | exact (show reprText _ = ("'v'" : Str) from by decide +kernel)); (case hz => decide +kernel))))
local macro_rules | `(tactic| walk_at "formatField ref") => `(tactic| (k_here; (with_reducible show wpAny _ _ (formatField (Value.ref _) _) _ _ _); k_dflt (first
  | (refine' k00_fmt (d := .tuple [.tuple [.str "a", .str "b", .int 1], .tuple [.str "b", .str "a", .int (-2)]]) (y := "(('a', 'b', 1), ('b', 'a', -2))") (ReadsVia.tuple (vs := [.ref _, .ref _]) ?m0 (.cons (ReadsVia.tuple (vs := [_, _, _]) ?m1 (.cons (.str _ _) (.cons (.str _ _) (.cons (.int _ _) .nil)))) (.cons (ReadsVia.tuple (vs := [_, _, _]) ?m2 (.cons (.str _ _) (.cons (.str _ _) (.cons (.int _ _) .nil)))) .nil))) ?F ?N ?hs ?hnd ?hd ?hg ?hu ?hy ?hz ?_; (case F => k_asm); (case N => k_asm); (case m0 => k_mem); (case m1 => k_mem); (case m2 => k_mem); (case hs => rfl); (case hnd => rfl); (case hd => rfl); (case hg => with_unfolding_all rfl); (case hu => first | exact Nat.le_of_ble_eq_true rfl | decide); (case hy => decide +kernel); (case hz => decide +kernel))
  | (refine' k00_fmt (d := .tuple [.tuple [.str "a", .str "zero", .int (-1)]]) (y := "(('a', 'zero', -1),)") (ReadsVia.tuple (vs := [.ref _]) ?m0 (.cons (ReadsVia.tuple (vs := [_, _, _]) ?m1 (.cons (.str _ _) (.cons (.str _ _) (.cons (.int _ _) .nil)))) .nil)) ?F ?N ?hs ?hnd ?hd ?hg ?hu ?hy ?hz ?_; (case F => k_asm); (case N => k_asm); (case m0 => k_mem); (case m1 => k_mem); (case hs => rfl); (case hnd => rfl); (case hd => rfl); (case hg => with_unfolding_all rfl); (case hu => first | exact Nat.le_of_ble_eq_true rfl | decide); (case hy => decide +kernel); (case hz => decide +kernel))
  | (refine' k00_fmt (d := .tuple []) (y := "()") (ReadsVia.tuple (vs := []) ?m0 .nil) ?F ?N ?hs ?hnd ?hd ?hg ?hu ?hy ?hz ?_; (case F => k_asm); (case N => k_asm); (case m0 => k_mem); (case hs => rfl); (case hnd => rfl); (case hd => rfl); (case hg => with_unfolding_all rfl); (case hu => first | exact Nat.le_of_ble_eq_true rfl | decide); (case hy => decide +kernel); (case hz => decide +kernel))); intro h9 u9 tk9 F9 N9))
local macro_rules | `(tactic| k_ne) => `(tactic| first | (refine neN ?_; (try dsimp only); first | with_reducible assumption | exact Ne.symm (by with_reducible assumption) | exact Nat.ne_of_gt (by with_reducible assumption) | exact Nat.ne_of_lt (by with_reducible assumption)) | (refine neN ?_; (try dsimp only); omega))
local macro_rules | `(tactic| k_lt $h:ident) => `(tactic| (replace $h:ident := allLt_of $h; simp only [AllLt, and_true] at $h:ident; (repeat (have l9 := And.left $h; replace $h:ident := And.right $h))))
local macro_rules | `(tactic| kx_nes $a:ident) => `(tactic| (replace $a:ident := NeAll.of $a; (try simp only [NeAll, and_true] at $a:ident); (repeat (have l9 := And.left $a; replace $a:ident := And.right $a))))
local macro_rules | `(tactic| walk_at "wpAt") => `(tactic| (ks_step "attributeBase Call"; k_here; k_dflt (refine' ks_node ?F ?X ?N ?T ?hf ?hp ?hv ?I ?hc ?hvs ?hfi ?hce ?hD ?hsu ?hsp ?hat ?hks ?hkc ?hka ?hk ?htop ?hboot ?_; (case F => k_asm); (case X => k_asm); (case N => k_asm); (case T => k_asm); (case hf => k_is); (case hp => rfl); (case hv => rfl); (case I => k_inst); (case hc => k_is); (case hvs => rfl); (case hfi => first | rfl | decide +kernel); (case hce => k_is); (case hD => k_is); (case hsu => k_is); (case hsp => k_is); (case hat => decide); (case hks => rfl); (case hkc => rfl); (case hka => rfl); (case hk => rfl); (case htop => decide +kernel); (case hboot => first | boot_by_name | rfl | kernel_rfl)); intro so' h' F' N' l1; (try k_lt l1)))
local macro_rules | `(tactic| walk_at "InitBack") => `(tactic| ((with_reducible show PySem.W.InitBack _ _ _ _); dsimp only [PySem.W.InitBack]))
local macro_rules | `(tactic| k_in) => `(tactic| first | with_reducible assumption | exact Frag.In.keeps (by with_reducible assumption) (Fr.keep (by with_reducible assumption)))
def K00.FldR (w : World) (C : Addr) (pos : List Value) (kw : List (Str × Value)) (f : Str) (v : Value) (rd : PyData) : Prop :=
  ∀ {mean : ExcName → Option Value} {mg mb : Str → Option Value} {A₀ : Around} {cn cn2 cn3 : Str} {nms nms2 nms3 : List (Str × NameKind)} {mr mr2 mr3 : List (Str × Const)} {a a2 a3 : Addr} {ccd ccd2 ccd3 : Value} {cl : List (Str × Addr)} {base h₀ : Heap} {L L1 L2 : Addr} {m : Str → Option Value} {news : List (Addr × Obj)} {s : Shared} {Q E E2 : Value → Shared → Prop},
    Below A₀ base [envOf cn2 { kind := .function, names := nms2, isGenerator := false, isCoroutine := false, more := mr2 } L2 a2 ccd2, envX cn { kind := .function, names := nms, isGenerator := false, isCoroutine := false, more := mr } L1 a ccd cl] h₀ → Fr h₀ L s.heap m → (PySem.K00.hd.heap_39 w.params).In h₀ → News h₀ L s.heap news → ReadsVia h₀ news v rd → Top PySem.K00.hd.view_39 (looseW PySem.K00.hd.view_39 [PySem.Str.ofString "Sheet"]) mean mg mb h₀ →
    (∀ h' tk', Fr h₀ L h' m → News h₀ L h' news → Q v { s with heap := h', toks := tk' }) →
    wpAny (model PySem.Challenge.rw_unknowntakes_k00_error_classes.row.prog w) (((callerA.deeper (envX cn { kind := .function, names := nms, isGenerator := false, isCoroutine := false, more := mr } L1 a ccd cl)).deeper (envOf cn2 { kind := .function, names := nms2, isGenerator := false, isCoroutine := false, more := mr2 } L2 a2 ccd2)).deeper (envOf cn3 { kind := .function, names := nms3, isGenerator := false, isCoroutine := false, more := mr3 } L a3 ccd3)) (call (.ref C) pos kw)
      (fun o s₁ => wpAny (model PySem.Challenge.rw_unknowntakes_k00_error_classes.row.prog w) (((callerA.deeper (envX cn { kind := .function, names := nms, isGenerator := false, isCoroutine := false, more := mr } L1 a ccd cl)).deeper (envOf cn2 { kind := .function, names := nms2, isGenerator := false, isCoroutine := false, more := mr2 } L2 a2 ccd2)).deeper (envOf cn3 { kind := .function, names := nms3, isGenerator := false, isCoroutine := false, more := mr3 } L a3 ccd3)) (getAttr o f true) Q E s₁) E2 s
local macro_rules | `(tactic| walk_at "formatField ref") => `(tactic| (k_here; (with_reducible show wpAny _ _ (formatField (Value.ref _) _) _ _ _); k_dflt (refine' k00_fmt (d := .tuple [.tuple [.str "a", .str "zero", .int (-1)]]) (y := "(('a', 'zero', -1),)") (ReadsVia.old ?hR) ?F ?N ?hs ?hnd ?hd ?hg ?hu ?hy ?hz ?_; (case hR => with_reducible assumption); (case F => k_asm); (case N => k_asm); (case hs => rfl); (case hnd => rfl); (case hd => rfl); (case hg => with_unfolding_all rfl); (case hu => first | exact Nat.le_of_ble_eq_true rfl | decide); (case hy => decide +kernel); (case hz => decide +kernel)); intro h9 u9 tk9 F9 N9))
set_option maxRecDepth 100000 in
set_option maxHeartbeats 0 in
theorem k00_fldR0 (w : World) (t : Addr) : K00.FldR w 154 [.ref t] [] (Str.ofString "ring") (.ref t) (.tuple [.tuple [.str "a", .str "zero", .int (-1)]]) := by
  w_strict (
    unfold K00.FldR
    k_fill
    intro mean mg mb A₀ cn cn2 cn3 nms nms2 nms3 mr mr2 mr3 a a2 a3 ccd ccd2 ccd3 cl base h₀ L L1 L2 m news s Q E E2 kB kF kX kN kR kT hret
    k_dflt (refine' PySem.W.kq_callI ?F ?X ?N PySem.F.excBase_ValueError ?hi ?q ?hf ?hz ?_; (case X => exact kX); (case hi => k_is); (case q => kx_is); (case F => exact kF); (case N => exact kN); (case hf => k_is); (case hz => size_fits))
    intro e' t' h' F' N' a1' a2' a3'
    have a4' := neN a3'
    have N1 := k00_split1 N'
    have O1 := k00_split2 N'
    clear N' kF kN
    k_dflt (refine' k00_superR ?k1 ?k2 ?k3 ?kN ?kO ?kP ?kR ?k5 ?kA ?kF ?kK ?k6 ?k7 ?k8 ?k9 ?kB ?_ ?c1 ?c2 ?c3 ?c4; (case kA => exact rfl); (case kF => exact rfl); (case kK => exact rfl); (case k1 => exact kB); (case k2 => exact F'); (case k3 => exact kX); (case kN => exact N1); (case kO => exact O1); (case kP => exact k00_apart a1' a2'); (case kR => exact kR); (case k5 => exact kT); (case k6 => k_is); (case k7 => k_is); (case k8 => k_room); (case k9 => exact BindsTo.of_eq rfl); (case kB => exact locs rfl); (case c1 => decide); (case c2 => exact rfl); (case c3 => exact rfl); (case c4 => exact rfl))
    clear O1 a1' a2' kR
    intro g' L' h' FG' F' N' B' X' T' l1 hrd; (obtain ⟨as9, hrd⟩ := hrd); (try k_lt l1); (try dsimp only); (try k_lift B'); (try k_fold)
    k_steps
    all_goals (refine' hret _ _ ?eF ?eN; (case eF => k_asm); (case eN => assumption)))
local macro_rules | `(tactic| walk_at "formatField ref") => `(tactic| (k_here; (with_reducible show wpAny _ _ (formatField (Value.ref _) _) _ _ _); k_dflt (refine' k00_fmt (d := .tuple []) (y := "()") (ReadsVia.old ?hR) ?F ?N ?hs ?hnd ?hd ?hg ?hu ?hy ?hz ?_; (case hR => with_reducible assumption); (case F => k_asm); (case N => k_asm); (case hs => rfl); (case hnd => rfl); (case hd => rfl); (case hg => with_unfolding_all rfl); (case hu => first | exact Nat.le_of_ble_eq_true rfl | decide); (case hy => decide +kernel); (case hz => decide +kernel)); intro h9 u9 tk9 F9 N9))
set_option maxRecDepth 100000 in
set_option maxHeartbeats 0 in
theorem k00_fldR1 (w : World) (t : Addr) : K00.FldR w 154 [] [(Str.ofString "ring", .ref t)] (Str.ofString "ring") (.ref t) (.tuple []) := by
  w_strict (
    unfold K00.FldR
    k_fill
    intro mean mg mb A₀ cn cn2 cn3 nms nms2 nms3 mr mr2 mr3 a a2 a3 ccd ccd2 ccd3 cl base h₀ L L1 L2 m news s Q E E2 kB kF kX kN kR kT hret
    k_dflt (refine' PySem.W.kq_callI ?F ?X ?N PySem.F.excBase_ValueError ?hi ?q ?hf ?hz ?_; (case X => exact kX); (case hi => k_is); (case q => kx_is); (case F => exact kF); (case N => exact kN); (case hf => k_is); (case hz => size_fits))
    intro e' t' h' F' N' a1' a2' a3'
    have a4' := neN a3'
    have N1 := k00_split1 N'
    have O1 := k00_split2 N'
    clear N' kF kN
    k_dflt (refine' k00_superR ?k1 ?k2 ?k3 ?kN ?kO ?kP ?kR ?k5 ?kA ?kF ?kK ?k6 ?k7 ?k8 ?k9 ?kB ?_ ?c1 ?c2 ?c3 ?c4; (case kA => exact rfl); (case kF => exact rfl); (case kK => exact rfl); (case k1 => exact kB); (case k2 => exact F'); (case k3 => exact kX); (case kN => exact N1); (case kO => exact O1); (case kP => exact k00_apart a1' a2'); (case kR => exact kR); (case k5 => exact kT); (case k6 => k_is); (case k7 => k_is); (case k8 => k_room); (case k9 => exact BindsTo.of_eq rfl); (case kB => exact locs rfl); (case c1 => decide); (case c2 => exact rfl); (case c3 => exact rfl); (case c4 => exact rfl))
    clear O1 a1' a2' kR
    intro g' L' h' FG' F' N' B' X' T' l1 hrd; (obtain ⟨as9, hrd⟩ := hrd); (try k_lt l1); (try dsimp only); (try k_lift B'); (try k_fold)
    k_steps
    all_goals (refine' hret _ _ ?eF ?eN; (case eF => k_asm); (case eN => assumption)))
local macro_rules | `(tactic| walk_at "formatField ref") => `(tactic| (k_here; (with_reducible show wpAny _ _ (formatField (Value.ref _) _) _ _ _); k_dflt (refine' k00_fmt (d := .tuple [.int 3]) (y := "(3,)") (ReadsVia.old ?hR) ?F ?N ?hs ?hnd ?hd ?hg ?hu ?hy ?hz ?_; (case hR => with_reducible assumption); (case F => k_asm); (case N => k_asm); (case hs => rfl); (case hnd => rfl); (case hd => rfl); (case hg => with_unfolding_all rfl); (case hu => first | exact Nat.le_of_ble_eq_true rfl | decide); (case hy => decide +kernel); (case hz => decide +kernel)); intro h9 u9 tk9 F9 N9))
set_option maxRecDepth 100000 in
set_option maxHeartbeats 0 in
theorem k00_fldR2 (w : World) (t : Addr) : K00.FldR w 448 [.ref t] [] (Str.ofString "recording") (.ref t) (.tuple [.int 3]) := by
  w_strict (
    unfold K00.FldR
    k_fill
    intro mean mg mb A₀ cn cn2 cn3 nms nms2 nms3 mr mr2 mr3 a a2 a3 ccd ccd2 ccd3 cl base h₀ L L1 L2 m news s Q E E2 kB kF kX kN kR kT hret
    k_dflt (refine' PySem.W.kq_callI ?F ?X ?N PySem.F.excBase_ValueError ?hi ?q ?hf ?hz ?_; (case X => exact kX); (case hi => k_is); (case q => kx_is); (case F => exact kF); (case N => exact kN); (case hf => k_is); (case hz => size_fits))
    intro e' t' h' F' N' a1' a2' a3'
    have a4' := neN a3'
    have N1 := k00_split1 N'
    have O1 := k00_split2 N'
    clear N' kF kN
    k_dflt (refine' k00_superR ?k1 ?k2 ?k3 ?kN ?kO ?kP ?kR ?k5 ?kA ?kF ?kK ?k6 ?k7 ?k8 ?k9 ?kB ?_ ?c1 ?c2 ?c3 ?c4; (case kA => exact rfl); (case kF => exact rfl); (case kK => exact rfl); (case k1 => exact kB); (case k2 => exact F'); (case k3 => exact kX); (case kN => exact N1); (case kO => exact O1); (case kP => exact k00_apart a1' a2'); (case kR => exact kR); (case k5 => exact kT); (case k6 => k_is); (case k7 => k_is); (case k8 => k_room); (case k9 => exact BindsTo.of_eq rfl); (case kB => exact locs rfl); (case c1 => decide); (case c2 => exact rfl); (case c3 => exact rfl); (case c4 => exact rfl))
    clear O1 a1' a2' kR
    intro g' L' h' FG' F' N' B' X' T' l1 hrd; (obtain ⟨as9, hrd⟩ := hrd); (try k_lt l1); (try dsimp only); (try k_lift B'); (try k_fold)
    k_steps
    all_goals (refine' hret _ _ ?eF ?eN; (case eF => k_asm); (case eN => assumption)))
local macro_rules | `(tactic| walk_at "formatField ref") => `(tactic| (k_here; (with_reducible show wpAny _ _ (formatField (Value.ref _) _) _ _ _); k_dflt (refine' k00_fmt (d := .tuple [.int 4, .int 5]) (y := "(4, 5)") (ReadsVia.old ?hR) ?F ?N ?hs ?hnd ?hd ?hg ?hu ?hy ?hz ?_; (case hR => with_reducible assumption); (case F => k_asm); (case N => k_asm); (case hs => rfl); (case hnd => rfl); (case hd => rfl); (case hg => with_unfolding_all rfl); (case hu => first | exact Nat.le_of_ble_eq_true rfl | decide); (case hy => decide +kernel); (case hz => decide +kernel)); intro h9 u9 tk9 F9 N9))
set_option maxRecDepth 100000 in
set_option maxHeartbeats 0 in
theorem k00_fldR3 (w : World) (t : Addr) : K00.FldR w 448 [] [(Str.ofString "recording", .ref t)] (Str.ofString "recording") (.ref t) (.tuple [.int 4, .int 5]) := by
  w_strict (
    unfold K00.FldR
    k_fill
    intro mean mg mb A₀ cn cn2 cn3 nms nms2 nms3 mr mr2 mr3 a a2 a3 ccd ccd2 ccd3 cl base h₀ L L1 L2 m news s Q E E2 kB kF kX kN kR kT hret
    k_dflt (refine' PySem.W.kq_callI ?F ?X ?N PySem.F.excBase_ValueError ?hi ?q ?hf ?hz ?_; (case X => exact kX); (case hi => k_is); (case q => kx_is); (case F => exact kF); (case N => exact kN); (case hf => k_is); (case hz => size_fits))
    intro e' t' h' F' N' a1' a2' a3'
    have a4' := neN a3'
    have N1 := k00_split1 N'
    have O1 := k00_split2 N'
    clear N' kF kN
    k_dflt (refine' k00_superR ?k1 ?k2 ?k3 ?kN ?kO ?kP ?kR ?k5 ?kA ?kF ?kK ?k6 ?k7 ?k8 ?k9 ?kB ?_ ?c1 ?c2 ?c3 ?c4; (case kA => exact rfl); (case kF => exact rfl); (case kK => exact rfl); (case k1 => exact kB); (case k2 => exact F'); (case k3 => exact kX); (case kN => exact N1); (case kO => exact O1); (case kP => exact k00_apart a1' a2'); (case kR => exact kR); (case k5 => exact kT); (case k6 => k_is); (case k7 => k_is); (case k8 => k_room); (case k9 => exact BindsTo.of_eq rfl); (case kB => exact locs rfl); (case c1 => decide); (case c2 => exact rfl); (case c3 => exact rfl); (case c4 => exact rfl))
    clear O1 a1' a2' kR
    intro g' L' h' FG' F' N' B' X' T' l1 hrd; (obtain ⟨as9, hrd⟩ := hrd); (try k_lt l1); (try dsimp only); (try k_lift B'); (try k_fold)
    k_steps
    all_goals (refine' hret _ _ ?eF ?eN; (case eF => k_asm); (case eN => assumption)))
end
section
open PySem PySem.W PyProof.Rows
local macro_rules | `(tactic| walk_at "call builtin:isinstance") => `(tactic| (k_here; (with_reducible show wpAny _ _ (call _ [Value.ref _, _]) _ _ _); kx_anyI; k_dflt (refine' k00_isi ?F ?X ?I ?ee ?k0 ?k4 ?k5 ?k6 ?k7 ?k8 ?k9 ?k10 ?_; (case F => k_asm); (case X => k_asm); (case I => k_inst); (case ee => kit_is); (case k0 => kernel_rfl); (case k4 => k_is); (case k5 => k_is); (case k6 => k_is); (case k7 => k_is); (case k8 => k_is); (case k9 => k_is); (case k10 => k_is); k_whole; intro _)))
local macro_rules | `(tactic| walk_at "call builtin:list.count") => `(tactic| (k_here; (with_reducible show wpAny _ _ (call (Value.builtin _) [Value.ref _, Value.bool _]) _ _ _); k_dflt (refine' k00_count ?hl ?hb ?hn ?_; (case hl => is_list); (case hb => simp only [List.cons_append, List.nil_append, List.forall_mem_cons, List.not_mem_nil, false_implies, implies_true, Value.bool.injEq, exists_eq', and_self]); (case hn => first | exact (show _ = (1 : Int) from by decide) | exact (show _ = (0 : Int) from by decide)))))
local macro_rules | `(tactic| walk_at "getMethod ref") => `(tactic| (k_here; (with_reducible show wpAny _ _ (getMethod (Value.ref _) (Str.ofString "count") _) _ _ _); k_dflt (refine getMethod_list_of PySem.F.slot_list_count PySem.F.type_list_count (by is_list) (by no_dict) ?_)))
local macro_rules | `(tactic| walk_at "subscriptTail Name Name ref int") => `(tactic| (k_here; (with_reducible show wpAny _ _ (subscriptTail _ _ (Value.ref _) (Value.int _ _)) _ _ _); k_dflt (refine' k00_item ?hl ?h0 ?hh ?hx ?_ ?hs; (case hl => is_list); (case h0 => decide); (case hh => decide); (case hx => exact rfl); (case hs => with_unfolding_all rfl))))
local macro_rules | `(tactic| walk_at "subscriptTail Name Constant ref int") => `(tactic| (k_here; (with_reducible show wpAny _ _ (subscriptTail _ _ (Value.ref _) (Value.int _ _)) _ _ _); k_dflt (refine' k00_item ?hl ?h0 ?hh ?hx ?_ ?hs; (case hl => is_list); (case h0 => decide); (case hh => decide); (case hx => exact rfl); (case hs => with_unfolding_all rfl))))
local macro_rules | `(tactic| walk_at "subscriptTail Name") => `(tactic| (k_here; (with_reducible show wpAny _ _ (subscriptTail _ _ (Value.ref _) (Value.int _ _)) _ _ _); k_dflt (refine' k00_item ?hl ?h0 ?hh ?hx ?_ ?hs; (case hl => is_list); (case h0 => decide); (case hh => decide); (case hx => exact rfl); (case hs => with_unfolding_all rfl))))
local macro_rules | `(tactic| walk_at "subscriptTail") => `(tactic| (k_here; (with_reducible show wpAny _ _ (subscriptTail _ _ (Value.ref _) (Value.int _ _)) _ _ _); k_dflt (refine' k00_item ?hl ?h0 ?hh ?hx ?_ ?hs; (case hl => is_list); (case h0 => decide); (case hh => decide); (case hx => exact rfl); (case hs => with_unfolding_all rfl))))
local macro_rules | `(tactic| walk_at "wpAt") => `(tactic| (ks_step "exec Expr"; k_dflt (refine ks_wpAt_Expr_any ?_)))
local macro_rules | `(tactic| walk_at "wpAt") => `(tactic| (ks_step "eval Call"; k_dflt (refine ks_wpAt_MethodCall ?_)))
local macro_rules | `(tactic| walk_at "pyReprObj str") => `(tactic| (k_here; k_dflt (refine' k00_repr ?hy ?hz ?_; (case hy => first
  | exact (show reprText _ = ("'m'" : Str) from by decide +kernel) | exact (show reprText _ = ("'A'" : Str) from by decide +kernel) | exact (show reprText _ = ("'x'" : Str) from by decide +kernel)
  | exact (show reprText _ = ("''" : Str) from by decide +kernel) | exact (show reprText _ = ("'main'" : Str) from by decide +kernel) | exact (show reprText _ = ("'b'" : Str) from by decide +kernel)
  | exact (show reprText _ = ("'c'" : Str) from by decide +kernel) | exact (show reprText _ = ("'w'" : Str) from by decide +kernel) | exact (show reprText _ = ("'v'" : Str) from by decide +kernel)); (case hz => decide +kernel))))
local macro_rules | `(tactic| walk_at "call ref") => `(tactic| (k_here; (with_reducible show wpAny _ _ (call (Value.ref _) _ _) _ _ _); (fail_if_success with_reducible show wpAny _ _ (call (Value.ref _) _ []) _ _ _); kx_here; k_dflt (refine' PySem.W.kq_callI ?F ?X ?N PySem.F.excBase_ValueError ?hi ?q ?hf ?hz ?_; (case X => k_asm); (case hi => k_is); (case q => kx_is); (case F => k_asm); (case N => k_asm); (case hf => k_is); (case hz => size_fits); k_whole); intro e' t' h' F' N' a1' a2' a3'; kx_nes a1'; kx_nes a2'; have a4' := neN a3'; (try k_sweep); first | k_dflt k_enter | k_dflt ks_enter))
local macro_rules | `(tactic| walk_at "formatField ref") => `(tactic| (k_here; (with_reducible show wpAny _ _ (formatField (Value.ref _) _) _ _ _); k_dflt (first
  | (refine' k00_fmt (d := .tuple [.tuple [.str "a", .str "b", .int 1], .tuple [.str "b", .str "a", .int (-2)]]) (y := "(('a', 'b', 1), ('b', 'a', -2))") (ReadsVia.tuple (vs := [.ref _, .ref _]) ?m0 (.cons (ReadsVia.tuple (vs := [_, _, _]) ?m1 (.cons (.str _ _) (.cons (.str _ _) (.cons (.int _ _) .nil)))) (.cons (ReadsVia.tuple (vs := [_, _, _]) ?m2 (.cons (.str _ _) (.cons (.str _ _) (.cons (.int _ _) .nil)))) .nil))) ?F ?N ?hs ?hnd ?hd ?hg ?hu ?hy ?hz ?_; (case F => k_asm); (case N => k_asm); (case m0 => k_mem); (case m1 => k_mem); (case m2 => k_mem); (case hs => rfl); (case hnd => rfl); (case hd => rfl); (case hg => with_unfolding_all rfl); (case hu => first | exact Nat.le_of_ble_eq_true rfl | decide); (case hy => decide +kernel); (case hz => decide +kernel))
  | (refine' k00_fmt (d := .tuple [.tuple [.str "a", .str "zero", .int (-1)]]) (y := "(('a', 'zero', -1),)") (ReadsVia.tuple (vs := [.ref _]) ?m0 (.cons (ReadsVia.tuple (vs := [_, _, _]) ?m1 (.cons (.str _ _) (.cons (.str _ _) (.cons (.int _ _) .nil)))) .nil)) ?F ?N ?hs ?hnd ?hd ?hg ?hu ?hy ?hz ?_; (case F => k_asm); (case N => k_asm); (case m0 => k_mem); (case m1 => k_mem); (case hs => rfl); (case hnd => rfl); (case hd => rfl); (case hg => with_unfolding_all rfl); (case hu => first | exact Nat.le_of_ble_eq_true rfl | decide); (case hy => decide +kernel); (case hz => decide +kernel))
  | (refine' k00_fmt (d := .tuple []) (y := "()") (ReadsVia.tuple (vs := []) ?m0 .nil) ?F ?N ?hs ?hnd ?hd ?hg ?hu ?hy ?hz ?_; (case F => k_asm); (case N => k_asm); (case m0 => k_mem); (case hs => rfl); (case hnd => rfl); (case hd => rfl); (case hg => with_unfolding_all rfl); (case hu => first | exact Nat.le_of_ble_eq_true rfl | decide); (case hy => decide +kernel); (case hz => decide +kernel))); intro h9 u9 tk9 F9 N9))
local macro_rules | `(tactic| walk_at "call type:tuple") => `(tactic| (k_here; (with_reducible show wpAny _ _ (call (Value.type "tuple") [Value.ref 761]) _ _ _); k_dflt (refine' k00_tupK ?F ?X ?hl ?_; (case F => k_asm); (case X => k_asm); (case hl => k_is))))
local macro_rules | `(tactic| k_ne) => `(tactic| first | (refine neN ?_; (try dsimp only); first | with_reducible assumption | exact Ne.symm (by with_reducible assumption) | exact Nat.ne_of_gt (by with_reducible assumption) | exact Nat.ne_of_lt (by with_reducible assumption)) | (refine neN ?_; (try dsimp only); omega))
local macro_rules | `(tactic| k_lt $h:ident) => `(tactic| (replace $h:ident := allLt_of $h; simp only [AllLt, and_true] at $h:ident; (repeat (have l9 := And.left $h; replace $h:ident := And.right $h))))
local macro_rules | `(tactic| kx_nes $a:ident) => `(tactic| (replace $a:ident := NeAll.of $a; (try simp only [NeAll, and_true] at $a:ident); (repeat (have l9 := And.left $a; replace $a:ident := And.right $a))))
local macro_rules | `(tactic| walk_at "wpAt") => `(tactic| (ks_step "attributeBase Call"; k_here; k_dflt (refine' ks_node ?F ?X ?N ?T ?hf ?hp ?hv ?I ?hc ?hvs ?hfi ?hce ?hD ?hsu ?hsp ?hat ?hks ?hkc ?hka ?hk ?htop ?hboot ?_; (case F => k_asm); (case X => k_asm); (case N => k_asm); (case T => k_asm); (case hf => k_is); (case hp => rfl); (case hv => rfl); (case I => k_inst); (case hc => k_is); (case hvs => rfl); (case hfi => first | rfl | decide +kernel); (case hce => k_is); (case hD => k_is); (case hsu => k_is); (case hsp => k_is); (case hat => decide); (case hks => rfl); (case hkc => rfl); (case hka => rfl); (case hk => rfl); (case htop => decide +kernel); (case hboot => first | boot_by_name | rfl | kernel_rfl)); intro so' h' F' N' l1; (try k_lt l1)))
local macro_rules | `(tactic| walk_at "InitBack") => `(tactic| ((with_reducible show PySem.W.InitBack _ _ _ _); dsimp only [PySem.W.InitBack]))
local macro_rules | `(tactic| walk_at "compareOp In") => `(tactic| (k_here; (with_reducible show wpAny _ _ (compareOp CmpOp.In (Value.bool _) (Value.ref _)) _ _ _); k_dflt (refine' k00_inB ?hl ?hb ?hr ?_; (case hl => is_list); (case hb => simp only [List.forall_mem_cons, List.not_mem_nil, false_implies, implies_true, Value.bool.injEq, exists_eq', and_self]); (case hr => first | exact (show _ = false from rfl) | exact (show _ = true from rfl)))))
local macro_rules | `(tactic| k_in) => `(tactic| first | with_reducible assumption | exact Frag.In.keeps (by with_reducible assumption) (Fr.keep (by with_reducible assumption)))
local macro_rules | `(tactic| walk_at "call ref") => `(tactic| (k_here; (with_reducible show wpAny _ _ (call (Value.ref _) _ _) (fun o s₁ => wpAny _ _ (getAttr o _ true) _ _ s₁) _ _); k_dflt (first
  | (refine' k00_fld0 _ _ ?kB ?kF ?kX ?kN ?kT ?_; (case kF => k_asm); (case kB => k_asm); (case kX => k_asm); (case kN => k_asm); (case kT => k_asm); k_whole)
  | (refine' k00_fld1 _ _ ?kB ?kF ?kX ?kN ?kT ?_; (case kF => k_asm); (case kB => k_asm); (case kX => k_asm); (case kN => k_asm); (case kT => k_asm); k_whole)
  | (refine' k00_fld2 _ _ ?kB ?kF ?kX ?kN ?kT ?_; (case kF => k_asm); (case kB => k_asm); (case kX => k_asm); (case kN => k_asm); (case kT => k_asm); k_whole)
  | (refine' k00_fld3 _ _ ?kB ?kF ?kX ?kN ?kT ?_; (case kF => k_asm); (case kB => k_asm); (case kX => k_asm); (case kN => k_asm); (case kT => k_asm); k_whole)
  | (refine' k00_fld4 _ _ ?kB ?kF ?kX ?kN ?kT ?_; (case kF => k_asm); (case kB => k_asm); (case kX => k_asm); (case kN => k_asm); (case kT => k_asm); k_whole)
  | (refine' k00_fld5 _ _ ?kB ?kF ?kX ?kN ?kT ?_; (case kF => k_asm); (case kB => k_asm); (case kX => k_asm); (case kN => k_asm); (case kT => k_asm); k_whole)
  | (refine' k00_fld6 _ _ ?kB ?kF ?kX ?kN ?kT ?_; (case kF => k_asm); (case kB => k_asm); (case kX => k_asm); (case kN => k_asm); (case kT => k_asm); k_whole)
  | (refine' k00_fld7 _ _ ?kB ?kF ?kX ?kN ?kT ?_; (case kF => k_asm); (case kB => k_asm); (case kX => k_asm); (case kN => k_asm); (case kT => k_asm); k_whole)
  | (refine' k00_fld8 _ _ ?kB ?kF ?kX ?kN ?kT ?_; (case kF => k_asm); (case kB => k_asm); (case kX => k_asm); (case kN => k_asm); (case kT => k_asm); k_whole)
  | (refine' k00_fld9 _ _ ?kB ?kF ?kX ?kN ?kT ?_; (case kF => k_asm); (case kB => k_asm); (case kX => k_asm); (case kN => k_asm); (case kT => k_asm); k_whole)
  | (refine' k00_fld10 _ _ ?kB ?kF ?kX ?kN ?kT ?_; (case kF => k_asm); (case kB => k_asm); (case kX => k_asm); (case kN => k_asm); (case kT => k_asm); k_whole)
  | (refine' k00_fld11 _ _ ?kB ?kF ?kX ?kN ?kT ?_; (case kF => k_asm); (case kB => k_asm); (case kX => k_asm); (case kN => k_asm); (case kT => k_asm); k_whole)
  | (refine' k00_fld12 _ _ ?kB ?kF ?kX ?kN ?kT ?_; (case kF => k_asm); (case kB => k_asm); (case kX => k_asm); (case kN => k_asm); (case kT => k_asm); k_whole)
  | (refine' k00_fld13 _ _ ?kB ?kF ?kX ?kN ?kT ?_; (case kF => k_asm); (case kB => k_asm); (case kX => k_asm); (case kN => k_asm); (case kT => k_asm); k_whole)
  | (refine' k00_fld14 _ _ ?kB ?kF ?kX ?kN ?kT ?_; (case kF => k_asm); (case kB => k_asm); (case kX => k_asm); (case kN => k_asm); (case kT => k_asm); k_whole)
  | (refine' k00_fld15 _ _ ?kB ?kF ?kX ?kN ?kT ?_; (case kF => k_asm); (case kB => k_asm); (case kX => k_asm); (case kN => k_asm); (case kT => k_asm); k_whole)
  | (refine' k00_fld16 _ _ ?kB ?kF ?kX ?kN ?kT ?_; (case kF => k_asm); (case kB => k_asm); (case kX => k_asm); (case kN => k_asm); (case kT => k_asm); k_whole)
  | (refine' k00_fld17 _ _ ?kB ?kF ?kX ?kN ?kT ?_; (case kF => k_asm); (case kB => k_asm); (case kX => k_asm); (case kN => k_asm); (case kT => k_asm); k_whole)
  | (refine' k00_fld18 _ _ ?kB ?kF ?kX ?kN ?kT ?_; (case kF => k_asm); (case kB => k_asm); (case kX => k_asm); (case kN => k_asm); (case kT => k_asm); k_whole)
  | (refine' k00_fld19 _ _ ?kB ?kF ?kX ?kN ?kT ?_; (case kF => k_asm); (case kB => k_asm); (case kX => k_asm); (case kN => k_asm); (case kT => k_asm); k_whole)
  | (refine' k00_fld20 _ _ ?kB ?kF ?kX ?kN ?kT ?_; (case kF => k_asm); (case kB => k_asm); (case kX => k_asm); (case kN => k_asm); (case kT => k_asm); k_whole)
  | (refine' k00_fld21 _ _ ?kB ?kF ?kX ?kN ?kT ?_; (case kF => k_asm); (case kB => k_asm); (case kX => k_asm); (case kN => k_asm); (case kT => k_asm); k_whole)
  | (refine' k00_fld22 _ _ ?kB ?kF ?kX ?kN ?kT ?_; (case kF => k_asm); (case kB => k_asm); (case kX => k_asm); (case kN => k_asm); (case kT => k_asm); k_whole)
  | (refine' k00_fld23 _ _ ?kB ?kF ?kX ?kN ?kT ?_; (case kF => k_asm); (case kB => k_asm); (case kX => k_asm); (case kN => k_asm); (case kT => k_asm); k_whole)
  | (refine' k00_fld24 _ _ ?kB ?kF ?kX ?kN ?kT ?_; (case kF => k_asm); (case kB => k_asm); (case kX => k_asm); (case kN => k_asm); (case kT => k_asm); k_whole)
  | (refine' k00_fld25 _ _ ?kB ?kF ?kX ?kN ?kT ?_; (case kF => k_asm); (case kB => k_asm); (case kX => k_asm); (case kN => k_asm); (case kT => k_asm); k_whole)
  | (refine' k00_fld26 _ _ ?kB ?kF ?kX ?kN ?kT ?_; (case kF => k_asm); (case kB => k_asm); (case kX => k_asm); (case kN => k_asm); (case kT => k_asm); k_whole)
  | (refine' k00_fld27 _ _ ?kB ?kF ?kX ?kN ?kT ?_; (case kF => k_asm); (case kB => k_asm); (case kX => k_asm); (case kN => k_asm); (case kT => k_asm); k_whole)
  | (refine' k00_fld28 _ _ ?kB ?kF ?kX ?kN ?kT ?_; (case kF => k_asm); (case kB => k_asm); (case kX => k_asm); (case kN => k_asm); (case kT => k_asm); k_whole)
  | (refine' k00_fld29 _ _ ?kB ?kF ?kX ?kN ?kT ?_; (case kF => k_asm); (case kB => k_asm); (case kX => k_asm); (case kN => k_asm); (case kT => k_asm); k_whole)); intro h9 tk9 F9 N9; (try dsimp only at N9); (try k_sweep)))
local macro_rules | `(tactic| walk_at "call ref") => `(tactic| (k_here; (with_reducible show wpAny _ _ (call (Value.ref _) _ _) (fun o s₁ => wpAny _ _ (getAttr o _ true) _ _ s₁) _ _); k_dflt (first
  | (refine' k00_fldR0 _ _ ?kB ?kF ?kX ?kN (ReadsVia.tuple (vs := [.ref _]) ?m0 (.cons (ReadsVia.tuple (vs := [_, _, _]) ?m1 (.cons (.str _ _) (.cons (.str _ _) (.cons (.int _ _) .nil)))) .nil)) ?kT ?_; (case kF => k_asm); (case kB => k_asm); (case kX => k_asm); (case kN => k_asm); (case kT => k_asm); (case m0 => k_mem); (case m1 => k_mem); k_whole)
  | (refine' k00_fldR1 _ _ ?kB ?kF ?kX ?kN (ReadsVia.tuple (vs := []) ?m0 .nil) ?kT ?_; (case kF => k_asm); (case kB => k_asm); (case kX => k_asm); (case kN => k_asm); (case kT => k_asm); (case m0 => k_mem); k_whole)
  | (refine' k00_fldR2 _ _ ?kB ?kF ?kX ?kN (ReadsVia.tuple (vs := [_]) ?m0 (.cons (.int _ _) .nil)) ?kT ?_; (case kF => k_asm); (case kB => k_asm); (case kX => k_asm); (case kN => k_asm); (case kT => k_asm); (case m0 => k_mem); k_whole)
  | (refine' k00_fldR3 _ _ ?kB ?kF ?kX ?kN (ReadsVia.tuple (vs := [_, _]) ?m0 (.cons (.int _ _) (.cons (.int _ _) .nil))) ?kT ?_; (case kF => k_asm); (case kB => k_asm); (case kX => k_asm); (case kN => k_asm); (case kT => k_asm); (case m0 => k_mem); k_whole)); intro h9 tk9 F9 N9; (try dsimp only at N9); (try k_sweep)))
local macro_rules | `(tactic| walk_at "callWith ref nil") => `(tactic| (k_here; (with_reducible show wpAny _ _ (callWith _ (Value.ref _) _ (backTo _ (starEach [] _)) (backToKw _ (keywordEach (_ :: _) _))) _ _ _); k_dflt (refine' callWith_KW0 ?k1 ?k2 ?k3 ?_; (case k1 => k_asm); (case k2 => k_is); (case k3 => exact rfl); k_whole)))
local macro_rules | `(tactic| walk_at "callWith ref nil") => `(tactic| (k_here; (with_reducible show wpAny _ _ (callWith _ (Value.ref _) _ (backTo _ (starEach (_ :: _) _)) (backToKw _ (keywordEach (_ :: _) _))) _ _ _); k_dflt (refine' callWith_KW ?k1 ?k2 ?k3 ?_; (case k1 => k_asm); (case k2 => k_is); (case k3 => exact rfl); k_whole)))
local macro_rules | `(tactic| walk_at "k00_read") => `(tactic| first
  | exact Reads.int _ _
  | exact Reads.str _ _
  | (refine' reads_list_at (News.get ?N ?M) ?a ?b ?c; (case N => with_reducible assumption); (case M => k_mem); (case a => rfl); (case b => rfl); (case c => walk_at "k00_reads"))
  | (refine' reads_tuple_at (News.get ?N ?M) ?a ?b ?c; (case N => with_reducible assumption); (case M => k_mem); (case a => rfl); (case b => rfl); (case c => walk_at "k00_reads")))
local macro_rules | `(tactic| walk_at "k00_reads") => `(tactic| first
  | exact ReadsAll.nil
  | (refine' ReadsAll.cons ?r ?rs; (case r => walk_at "k00_read"); (case rs => walk_at "k00_reads")))
local macro_rules | `(tactic| walk_at "compareOp NotEq ref ref") => `(tactic| (k_here; (with_reducible show wpAny _ _ (compareOp CmpOp.NotEq (Value.ref _) (Value.ref _)) _ _ _); k_dflt (first
  | (refine' k00_ne (da := .list [.str "m", .str "A", .str "x", .str "", .str "b", .str "c", .str "w", .str "v"]) (db := .list [.str "m", .str "A", .str "x", .str "", .str "b", .str "c", .str "w", .str "v"]) ?ra ?rb ?ha ?hb ?hu ?hr ?_; (case ra => walk_at "k00_read"); (case rb => walk_at "k00_read"); (case ha => decide +kernel); (case hb => decide +kernel); (case hu => ke_room); (case hr => (show _ = false); decide +kernel))
  | (refine' k00_ne (da := .list [.int 2, .int 0, .int 1, .int 3, .int 4, .int 5, .int 1, .int 0, .int 2, .int 1, .int 6, .int 7, .int 0, .int 9, .int 1, .int 2, .int 3, .int 4, .int 5, .int (-1), .int 6, .int 1]) (db := .list [.int 2, .int 0, .int 1, .int 3, .int 4, .int 5, .int 1, .int 0, .int 2, .int 1, .int 6, .int 7, .int 0, .int 9, .int 1, .int 2, .int 3, .int 4, .int 5, .int (-1), .int 6, .int 1]) ?ra ?rb ?ha ?hb ?hu ?hr ?_; (case ra => walk_at "k00_read"); (case rb => walk_at "k00_read"); (case ha => decide +kernel); (case hb => decide +kernel); (case hu => ke_room); (case hr => (show _ = false); decide +kernel)))))
local macro_rules | `(tactic| walk_at "compareOp Eq ref ref") => `(tactic| (k_here; (with_reducible show wpAny _ _ (compareOp CmpOp.Eq (Value.ref _) (Value.ref _)) _ _ _); k_dflt (refine' k00_eq (da := .list [.tuple [.tuple [.str "a", .str "zero", .int (-1)]], .tuple [], .tuple [.int 3], .tuple [.int 4, .int 5], .int 2, .str "late", .tuple [.int 1], .int 0, .str "x", .tuple []]) (db := .list [.tuple [.tuple [.str "a", .str "zero", .int (-1)]], .tuple [], .tuple [.int 3], .tuple [.int 4, .int 5], .int 2, .str "late", .tuple [.int 1], .int 0, .str "x", .tuple []]) ?ra ?rb ?ha ?hb ?hu ?hr ?_; (case ra => walk_at "k00_read"); (case rb => walk_at "k00_read"); (case ha => decide +kernel); (case hb => decide +kernel); (case hu => ke_room); (case hr => (show _ = true); decide +kernel))))
set_option maxRecDepth 100000 in
set_option maxHeartbeats 0 in
theorem k00_fields (w : World) : K00.SaysIn w 938 [] true := by
  w_strict (
    unfold K00.SaysIn
    k_fill
    intro mean mg mb A₀ cn cn2 nms nms2 mr mr2 a a2 ccd ccd2 cl base h₀ L L1 m news s Q E kB kF kX kN kT hret
    refine wpAny_call ?_
    k_dflt (refine' k00_def2 ?k1 ?k2 ?k3 ?k4 ?k5 ?kA ?kF ?kK ?k6 ?k7 ?k8 ?k9 ?kB ?_ ?c2 ?c3 ?c4 ?c5; (case kA => exact rfl); (case kF => exact rfl); (case kK => exact rfl); (case k1 => exact kB); (case k2 => exact kF); (case k3 => exact kX); (case k4 => exact kN); (case k5 => exact kT); (case k6 => k_is); (case k7 => k_is); (case k8 => k_room); (case k9 => exact BindsTo.of_eq rfl); (case c5 => decide); (case kB => exact locs rfl); (case c2 => exact rfl); (case c3 => exact rfl); (case c4 => exact rfl); k_whole; intro g' L' h' F' N' B' X' T'; (try dsimp only); (try k_lift B'); (try k_fold))
    k_steps
    all_goals (refine' hret _ _ ?eF ?eN; (case eF => k_asm); (case eN => assumption)))
end
section
open PySem PySem.W PyProof.Rows
local macro_rules | `(tactic| walk_at "call builtin:isinstance") => `(tactic| (k_here; (with_reducible show wpAny _ _ (call _ [Value.ref _, _]) _ _ _); kx_anyI; k_dflt (refine' k00_isi ?F ?X ?I ?ee ?k0 ?k4 ?k5 ?k6 ?k7 ?k8 ?k9 ?k10 ?_; (case F => k_asm); (case X => k_asm); (case I => k_inst); (case ee => kit_is); (case k0 => kernel_rfl); (case k4 => k_is); (case k5 => k_is); (case k6 => k_is); (case k7 => k_is); (case k8 => k_is); (case k9 => k_is); (case k10 => k_is); k_whole; intro _)))
local macro_rules | `(tactic| walk_at "call builtin:list.count") => `(tactic| (k_here; (with_reducible show wpAny _ _ (call (Value.builtin _) [Value.ref _, Value.bool _]) _ _ _); k_dflt (refine' k00_count ?hl ?hb ?hn ?_; (case hl => is_list); (case hb => simp only [List.cons_append, List.nil_append, List.forall_mem_cons, List.not_mem_nil, false_implies, implies_true, Value.bool.injEq, exists_eq', and_self]); (case hn => first | exact (show _ = (1 : Int) from by decide) | exact (show _ = (0 : Int) from by decide)))))
local macro_rules | `(tactic| walk_at "getMethod ref") => `(tactic| (k_here; (with_reducible show wpAny _ _ (getMethod (Value.ref _) (Str.ofString "count") _) _ _ _); k_dflt (refine getMethod_list_of PySem.F.slot_list_count PySem.F.type_list_count (by is_list) (by no_dict) ?_)))
local macro_rules | `(tactic| walk_at "subscriptTail") => `(tactic| (k_here; (with_reducible rename decide (_ = []) = false => ka0); (have ka1 := k00_pos ka0); clear ka0; walk_at "subscriptTail"))
local macro_rules | `(tactic| walk_at "subscriptTail Name Name ref int") => `(tactic| (k_here; (with_reducible show wpAny _ _ (subscriptTail _ _ (Value.ref _) (Value.int _ _)) _ _ _); k_dflt (refine' k00_item ?hl ?h0 ?hh ?hx ?_ ?hs; (case hl => is_list); (case h0 => decide); (case hh => decide); (case hx => exact rfl); (case hs => with_unfolding_all rfl))))
local macro_rules | `(tactic| walk_at "subscriptTail Name Constant ref int") => `(tactic| (k_here; (with_reducible show wpAny _ _ (subscriptTail _ _ (Value.ref _) (Value.int _ _)) _ _ _); k_dflt (refine' k00_item ?hl ?h0 ?hh ?hx ?_ ?hs; (case hl => is_list); (case h0 => decide); (case hh => decide); (case hx => exact rfl); (case hs => with_unfolding_all rfl))))
local macro_rules | `(tactic| walk_at "subscriptTail Name") => `(tactic| (k_here; (with_reducible show wpAny _ _ (subscriptTail _ _ (Value.ref _) (Value.int _ _)) _ _ _); k_dflt (refine' k00_item ?hl ?h0 ?hh ?hx ?_ ?hs; (case hl => is_list); (case h0 => decide); (case hh => decide); (case hx => exact rfl); (case hs => with_unfolding_all rfl))))
local macro_rules | `(tactic| walk_at "subscriptTail") => `(tactic| (k_here; (with_reducible show wpAny _ _ (subscriptTail _ _ (Value.ref _) (Value.int _ _)) _ _ _); k_dflt (refine' k00_item ?hl ?h0 ?hh ?hx ?_ ?hs; (case hl => is_list); (case h0 => decide); (case hh => decide); (case hx => exact rfl); (case hs => with_unfolding_all rfl))))
local macro_rules | `(tactic| walk_at "wpAt") => `(tactic| (ks_step "exec Expr"; k_dflt (refine ks_wpAt_Expr_any ?_)))
local macro_rules | `(tactic| walk_at "wpAt") => `(tactic| (ks_step "eval Call"; k_dflt (refine ks_wpAt_MethodCall ?_)))
local macro_rules | `(tactic| walk_at "pyReprObj str") => `(tactic| (k_here; k_dflt (refine' k00_repr ?hy ?hz ?_; (case hy => first
  | exact (show reprText _ = ("'m'" : Str) from by decide +kernel) | exact (show reprText _ = ("'A'" : Str) from by decide +kernel) | exact (show reprText _ = ("'x'" : Str) from by decide +kernel)
  | exact (show reprText _ = ("''" : Str) from by decide +kernel) | exact (show reprText _ = ("'main'" : Str) from by decide +kernel) | exact (show reprText _ = ("'b'" : Str) from by decide +kernel)
  | exact (show reprText _ = ("'c'" : Str) from by decide +kernel) | exact (show reprText _ = ("'w'" : Str) from by decide +kernel) | exact (show reprText _ = ("'v'" : Str) from by decide +kernel)); (case hz => decide +kernel))))
local macro_rules | `(tactic| walk_at "call ref") => `(tactic| (k_here; (with_reducible show wpAny _ _ (call (Value.ref _) _ _) _ _ _); (fail_if_success with_reducible show wpAny _ _ (call (Value.ref _) _ []) _ _ _); kx_here; k_dflt (refine' PySem.W.kq_callI ?F ?X ?N PySem.F.excBase_ValueError ?hi ?q ?hf ?hz ?_; (case X => k_asm); (case hi => k_is); (case q => kx_is); (case F => k_asm); (case N => k_asm); (case hf => k_is); (case hz => size_fits); k_whole); intro e' t' h' F' N' a1' a2' a3'; kx_nes a1'; kx_nes a2'; have a4' := neN a3'; (try k_sweep); first | k_dflt k_enter | k_dflt ks_enter))
local macro_rules | `(tactic| walk_at "call ref") => `(tactic| (k_here; (with_reducible show wpAny _ _ (call (Value.ref 917) [Value.ref _]) _ _ _); k_dflt (first
  | (refine' k00_marksD ?kB ?kF ?kX ?kN ?kT ?m1 ?hc ?hx ?m2 ?hd ?hcl ?hga ?hgt ?hsub ?ha ?hm ?e0 ?e1 ?e2 ?e3 ?e4 ?e5 ?e6 ?e7 ?e8 ?e9 ?e10 ?e11 ?e12 ?e13 ?e14 ?e15 ?e16 ?e17 ?e18 ?e19 ?e20 ?e21 ?e22 ?e23 ?e24 ?_; (case kB => assumption); (case kF => k_asm); (case kX => k_asm); (case kN => k_asm); (case kT => k_asm); (case m1 => k_mem); (case hc => with_reducible assumption); (case hx => assumption); (case hd => with_reducible assumption); (case m2 => k_mem); (case hcl => kernel_rfl); (case hga => k_is); (case hgt => k_is); (case hsub => k_is); (case ha => k_is); (case hm => k_is); (case e0 => kit_is); (case e1 => kit_is); (case e2 => kit_is); (case e3 => kit_is); (case e4 => kit_is); (case e5 => kit_is); (case e6 => kit_is); (case e7 => kit_is); (case e8 => kit_is); (case e9 => kit_is); (case e10 => kit_is); (case e11 => kit_is); (case e12 => kit_is); (case e13 => kit_is); (case e14 => kit_is); (case e15 => kit_is); (case e16 => kit_is); (case e17 => kit_is); (case e18 => kit_is); (case e19 => kit_is); (case e20 => kit_is); (case e21 => kit_is); (case e22 => kit_is); (case e23 => kit_is); (case e24 => kit_is); k_whole)
  | (refine' k00_marks0 ?kB ?kF ?kX ?kN ?kT ?m1 ?hc ?hx ?hd ?hcl ?hga ?hgt ?hsub ?ha ?hm ?e0 ?e1 ?e2 ?e3 ?e4 ?e5 ?e6 ?e7 ?e8 ?e9 ?e10 ?e11 ?e12 ?e13 ?e14 ?e15 ?e16 ?e17 ?e18 ?e19 ?e20 ?e21 ?e22 ?e23 ?e24 ?_; (case kB => assumption); (case kF => k_asm); (case kX => k_asm); (case kN => k_asm); (case kT => k_asm); (case m1 => k_mem); (case hc => with_reducible assumption); (case hx => assumption); (case hd => with_reducible assumption); (case hcl => kernel_rfl); (case hga => k_is); (case hgt => k_is); (case hsub => k_is); (case ha => k_is); (case hm => k_is); (case e0 => kit_is); (case e1 => kit_is); (case e2 => kit_is); (case e3 => kit_is); (case e4 => kit_is); (case e5 => kit_is); (case e6 => kit_is); (case e7 => kit_is); (case e8 => kit_is); (case e9 => kit_is); (case e10 => kit_is); (case e11 => kit_is); (case e12 => kit_is); (case e13 => kit_is); (case e14 => kit_is); (case e15 => kit_is); (case e16 => kit_is); (case e17 => kit_is); (case e18 => kit_is); (case e19 => kit_is); (case e20 => kit_is); (case e21 => kit_is); (case e22 => kit_is); (case e23 => kit_is); (case e24 => kit_is); k_whole)); intro p9 h9 tk9 F9 N9; (try dsimp only at N9)))
local macro_rules | `(tactic| walk_at "formatField ref") => `(tactic| (k_here; (with_reducible show wpAny _ _ (formatField (Value.ref _) _) _ _ _); k_dflt (first
  | (refine' k00_fmt (d := .tuple [.tuple [.str "a", .str "b", .int 1], .tuple [.str "b", .str "a", .int (-2)]]) (y := "(('a', 'b', 1), ('b', 'a', -2))") (ReadsVia.tuple (vs := [.ref _, .ref _]) ?m0 (.cons (ReadsVia.tuple (vs := [_, _, _]) ?m1 (.cons (.str _ _) (.cons (.str _ _) (.cons (.int _ _) .nil)))) (.cons (ReadsVia.tuple (vs := [_, _, _]) ?m2 (.cons (.str _ _) (.cons (.str _ _) (.cons (.int _ _) .nil)))) .nil))) ?F ?N ?hs ?hnd ?hd ?hg ?hu ?hy ?hz ?_; (case F => k_asm); (case N => k_asm); (case m0 => k_mem); (case m1 => k_mem); (case m2 => k_mem); (case hs => rfl); (case hnd => rfl); (case hd => rfl); (case hg => with_unfolding_all rfl); (case hu => first | exact Nat.le_of_ble_eq_true rfl | decide); (case hy => decide +kernel); (case hz => decide +kernel))
  | (refine' k00_fmt (d := .tuple [.tuple [.str "a", .str "zero", .int (-1)]]) (y := "(('a', 'zero', -1),)") (ReadsVia.tuple (vs := [.ref _]) ?m0 (.cons (ReadsVia.tuple (vs := [_, _, _]) ?m1 (.cons (.str _ _) (.cons (.str _ _) (.cons (.int _ _) .nil)))) .nil)) ?F ?N ?hs ?hnd ?hd ?hg ?hu ?hy ?hz ?_; (case F => k_asm); (case N => k_asm); (case m0 => k_mem); (case m1 => k_mem); (case hs => rfl); (case hnd => rfl); (case hd => rfl); (case hg => with_unfolding_all rfl); (case hu => first | exact Nat.le_of_ble_eq_true rfl | decide); (case hy => decide +kernel); (case hz => decide +kernel))
  | (refine' k00_fmt (d := .tuple []) (y := "()") (ReadsVia.tuple (vs := []) ?m0 .nil) ?F ?N ?hs ?hnd ?hd ?hg ?hu ?hy ?hz ?_; (case F => k_asm); (case N => k_asm); (case m0 => k_mem); (case hs => rfl); (case hnd => rfl); (case hd => rfl); (case hg => with_unfolding_all rfl); (case hu => first | exact Nat.le_of_ble_eq_true rfl | decide); (case hy => decide +kernel); (case hz => decide +kernel))); intro h9 u9 tk9 F9 N9))
local macro_rules | `(tactic| walk_at "call type:tuple") => `(tactic| (k_here; (with_reducible show wpAny _ _ (call (Value.type "tuple") [Value.ref 761]) _ _ _); k_dflt (refine' k00_tupK ?F ?X ?hl ?_; (case F => k_asm); (case X => k_asm); (case hl => k_is))))
local macro_rules | `(tactic| walk_at "exec For Tuple Call cons nil") => `(tactic| (k_here; (rename Fr _ _ _ _ => lF'); (with_unfolding_all refine' For_turns lF' ?_; k_whole)))
local macro_rules | `(tactic| walk_at "call type:enumerate") => `(tactic| (k_here; (with_reducible show wpAny _ _ (call (Value.type _) [Value.ref _]) (fun xv s₁ => wpAny _ _ (pyIter xv) (fun it s₂ => TurnsAt _ _ _ _ _ _ _ _ _ it s₂) _ s₁) _ _); (rename Fr _ _ _ _ => lF'); (with_unfolding_all refine' PySem.W.k00_enumT (vs := [_, _]) (xs := [Itm.pair (fun t => Value.int (0 : Int) t) _, Itm.pair (fun t => Value.int (1 : Int) t) _]) ?eh lF' ?eN ?em ?ec ?ed ?ex ?_; (case eh => rfl); (case eN => k_asm); (case em => k_mem); (case ec => rfl); (case ed => rfl); (case ex => rfl)); clear lF'; intro i' l1; (try k_lt l1)))
local macro_rules | `(tactic| walk_at "subscriptTail Name Slice ref ref") => `(tactic| (k_here; (with_reducible show wpAny _ _ (subscriptTail _ _ (Value.ref _) (Value.ref _)) _ _ _); k_dflt (refine' k00_cut (items := #[_, _]) ?F ?N ?T ?pl ?pu ?hw ?hz ?_ ?hs ?hg ?hsz; (case F => k_asm); (case N => k_asm); (case T => (refine' News.isTup ?iN ?im; (case iN => k_asm); (case im => k_mem))); (case pl => kmk_part); (case pu => kmk_part); (case hw => (show ¬ (HT.sIx 2 0 _ = 0 ∧ HT.sIx 2 2 _ = 2)); decide); (case hz => rfl); (case hs => with_unfolding_all rfl); (case hg => kmk_pure); (case hsz => exact Nat.le_of_ble_eq_true rfl)); intro D' h' F' N' l1; (try k_lt l1); (try k_sweep)))
local macro_rules | `(tactic| k_ne) => `(tactic| first | (refine neN ?_; (try dsimp only); first | with_reducible assumption | exact Ne.symm (by with_reducible assumption) | exact Nat.ne_of_gt (by with_reducible assumption) | exact Nat.ne_of_lt (by with_reducible assumption)) | (refine neN ?_; (try dsimp only); omega))
local macro_rules | `(tactic| k_lt $h:ident) => `(tactic| (replace $h:ident := allLt_of $h; simp only [AllLt, and_true] at $h:ident; (repeat (have l9 := And.left $h; replace $h:ident := And.right $h))))
local macro_rules | `(tactic| kx_nes $a:ident) => `(tactic| (replace $a:ident := NeAll.of $a; (try simp only [NeAll, and_true] at $a:ident); (repeat (have l9 := And.left $a; replace $a:ident := And.right $a))))
local macro_rules | `(tactic| walk_at "call ref") => `(tactic| (k_here; (with_reducible show wpAny _ _ (call (Value.ref 938) _) _ _ _); k_dflt (refine' k00_fields _ ?kB ?kF ?kX ?kN ?kT ?_; (case kF => k_asm); (case kB => k_asm); (case kX => k_asm); (case kN => k_asm); (case kT => k_asm); k_whole); intro h9 tk9 F9 N9; (try dsimp only at N9)))
local macro_rules | `(tactic| walk_at "wpAt") => `(tactic| (ks_step "attributeBase Call"; k_here; k_dflt (refine' ks_node ?F ?X ?N ?T ?hf ?hp ?hv ?I ?hc ?hvs ?hfi ?hce ?hD ?hsu ?hsp ?hat ?hks ?hkc ?hka ?hk ?htop ?hboot ?_; (case F => k_asm); (case X => k_asm); (case N => k_asm); (case T => k_asm); (case hf => k_is); (case hp => rfl); (case hv => rfl); (case I => k_inst); (case hc => k_is); (case hvs => rfl); (case hfi => first | rfl | decide +kernel); (case hce => k_is); (case hD => k_is); (case hsu => k_is); (case hsp => k_is); (case hat => decide); (case hks => rfl); (case hkc => rfl); (case hka => rfl); (case hk => rfl); (case htop => decide +kernel); (case hboot => first | boot_by_name | rfl | kernel_rfl)); intro so' h' F' N' l1; (try k_lt l1)))
local macro_rules | `(tactic| walk_at "InitBack") => `(tactic| ((with_reducible show PySem.W.InitBack _ _ _ _); dsimp only [PySem.W.InitBack]))
local macro_rules | `(tactic| walk_at "compareOp In") => `(tactic| (k_here; (with_reducible show wpAny _ _ (compareOp CmpOp.In (Value.bool _) (Value.ref _)) _ _ _); k_dflt (refine' k00_inB ?hl ?hb ?hr ?_; (case hl => is_list); (case hb => simp only [List.forall_mem_cons, List.not_mem_nil, false_implies, implies_true, Value.bool.injEq, exists_eq', and_self]); (case hr => first | exact (show _ = false from rfl) | exact (show _ = true from rfl)))))
local macro_rules | `(tactic| k_in) => `(tactic| first | with_reducible assumption | exact Frag.In.keeps (by with_reducible assumption) (Fr.keep (by with_reducible assumption)))
set_option maxRecDepth 100000 in
set_option maxHeartbeats 0 in
theorem k00_kept (w : World) : K00.Says w 931 [] true := by
  w_strict (
    unfold K00.Says
    k_fill
    intro mean mg mb A₀ cn nms mr a ccd cl h₀ L m news s Q E kB kF kX kN kT hret
    refine wpAny_call ?_
    k_dflt (refine' k00_def ?k1 ?k2 ?k3 ?k4 ?k5 ?kA ?k6 ?k7 ?k8 ?k9 ?kB ?_ ?cK ?c2 ?c3 ?c4 ?c5; (case kA => exact rfl); (case k2 => exact kF); (case k1 => exact kB); (case k3 => exact kX); (case k4 => exact kN); (case k5 => exact kT); (case k6 => k_is); (case k7 => k_is); (case k8 => k_room); (case k9 => exact BindsTo.of_eq rfl); (case kB => exact locs rfl); (case cK => exact rfl); (case c2 => exact rfl); (case c3 => exact rfl); (case c4 => exact rfl); (case c5 => decide); k_whole; intro g' L' h' FG' F' N' B' X' T' D'; (try dsimp only); (try k_lift B'); (try k_fold))
    k_steps
    all_goals (refine' hret _ _ ?eF ?eN; (case eF => k_asm); (case eN => assumption)))
end
section
open PySem PySem.W PyProof.Rows
local macro_rules | `(tactic| walk_at "call builtin:isinstance") => `(tactic| (k_here; (with_reducible show wpAny _ _ (call _ [Value.ref _, _]) _ _ _); kx_anyI; k_dflt (refine' k00_isi ?F ?X ?I ?ee ?k0 ?k4 ?k5 ?k6 ?k7 ?k8 ?k9 ?k10 ?_; (case F => k_asm); (case X => k_asm); (case I => k_inst); (case ee => kit_is); (case k0 => kernel_rfl); (case k4 => k_is); (case k5 => k_is); (case k6 => k_is); (case k7 => k_is); (case k8 => k_is); (case k9 => k_is); (case k10 => k_is); k_whole; intro _)))
local macro_rules | `(tactic| walk_at "call builtin:list.count") => `(tactic| (k_here; (with_reducible show wpAny _ _ (call (Value.builtin _) [Value.ref _, Value.bool _]) _ _ _); k_dflt (refine' k00_count ?hl ?hb ?hn ?_; (case hl => is_list); (case hb => simp only [List.cons_append, List.nil_append, List.forall_mem_cons, List.not_mem_nil, false_implies, implies_true, Value.bool.injEq, exists_eq', and_self]); (case hn => first | exact (show _ = (1 : Int) from by decide) | exact (show _ = (0 : Int) from by decide)))))
local macro_rules | `(tactic| walk_at "getMethod ref") => `(tactic| (k_here; (with_reducible show wpAny _ _ (getMethod (Value.ref _) (Str.ofString "count") _) _ _ _); k_dflt (refine getMethod_list_of PySem.F.slot_list_count PySem.F.type_list_count (by is_list) (by no_dict) ?_)))
local macro_rules | `(tactic| walk_at "subscriptTail") => `(tactic| (k_here; (with_reducible rename decide (_ = []) = false => ka0); (have ka1 := k00_pos ka0); clear ka0; walk_at "subscriptTail"))
local macro_rules | `(tactic| walk_at "subscriptTail Name Name ref int") => `(tactic| (k_here; (with_reducible show wpAny _ _ (subscriptTail _ _ (Value.ref _) (Value.int _ _)) _ _ _); k_dflt (refine' k00_item ?hl ?h0 ?hh ?hx ?_ ?hs; (case hl => is_list); (case h0 => decide); (case hh => decide); (case hx => exact rfl); (case hs => with_unfolding_all rfl))))
local macro_rules | `(tactic| walk_at "subscriptTail Name Constant ref int") => `(tactic| (k_here; (with_reducible show wpAny _ _ (subscriptTail _ _ (Value.ref _) (Value.int _ _)) _ _ _); k_dflt (refine' k00_item ?hl ?h0 ?hh ?hx ?_ ?hs; (case hl => is_list); (case h0 => decide); (case hh => decide); (case hx => exact rfl); (case hs => with_unfolding_all rfl))))
local macro_rules | `(tactic| walk_at "subscriptTail Name") => `(tactic| (k_here; (with_reducible show wpAny _ _ (subscriptTail _ _ (Value.ref _) (Value.int _ _)) _ _ _); k_dflt (refine' k00_item ?hl ?h0 ?hh ?hx ?_ ?hs; (case hl => is_list); (case h0 => decide); (case hh => decide); (case hx => exact rfl); (case hs => with_unfolding_all rfl))))
local macro_rules | `(tactic| walk_at "subscriptTail") => `(tactic| (k_here; (with_reducible show wpAny _ _ (subscriptTail _ _ (Value.ref _) (Value.int _ _)) _ _ _); k_dflt (refine' k00_item ?hl ?h0 ?hh ?hx ?_ ?hs; (case hl => is_list); (case h0 => decide); (case hh => decide); (case hx => exact rfl); (case hs => with_unfolding_all rfl))))
local macro_rules | `(tactic| walk_at "wpAt") => `(tactic| (ks_step "exec Expr"; k_dflt (refine ks_wpAt_Expr_any ?_)))
local macro_rules | `(tactic| walk_at "wpAt") => `(tactic| (ks_step "eval Call"; k_dflt (refine ks_wpAt_MethodCall ?_)))
local macro_rules | `(tactic| walk_at "pyReprObj str") => `(tactic| (k_here; k_dflt (refine' k00_repr ?hy ?hz ?_; (case hy => first
  | exact (show reprText _ = ("'m'" : Str) from by decide +kernel) | exact (show reprText _ = ("'A'" : Str) from by decide +kernel) | exact (show reprText _ = ("'x'" : Str) from by decide +kernel)
  | exact (show reprText _ = ("''" : Str) from by decide +kernel) | exact (show reprText _ = ("'main'" : Str) from by decide +kernel) | exact (show reprText _ = ("'b'" : Str) from by decide +kernel)
  | exact (show reprText _ = ("'c'" : Str) from by decide +kernel) | exact (show reprText _ = ("'w'" : Str) from by decide +kernel) | exact (show reprText _ = ("'v'" : Str) from by decide +kernel)); (case hz => decide +kernel))))
local macro_rules | `(tactic| walk_at "call ref") => `(tactic| (k_here; (with_reducible show wpAny _ _ (call (Value.ref _) _ _) _ _ _); (fail_if_success with_reducible show wpAny _ _ (call (Value.ref _) _ []) _ _ _); kx_here; k_dflt (refine' PySem.W.kq_callI ?F ?X ?N PySem.F.excBase_ValueError ?hi ?q ?hf ?hz ?_; (case X => k_asm); (case hi => k_is); (case q => kx_is); (case F => k_asm); (case N => k_asm); (case hf => k_is); (case hz => size_fits); k_whole); intro e' t' h' F' N' a1' a2' a3'; kx_nes a1'; kx_nes a2'; have a4' := neN a3'; (try k_sweep); first | k_dflt k_enter | k_dflt ks_enter))
local macro_rules | `(tactic| walk_at "call ref") => `(tactic| (k_here; (with_reducible show wpAny _ _ (call (Value.ref 917) [Value.ref _]) _ _ _); k_dflt (first
  | (refine' k00_marksD ?kB ?kF ?kX ?kN ?kT ?m1 ?hc ?hx ?m2 ?hd ?hcl ?hga ?hgt ?hsub ?ha ?hm ?e0 ?e1 ?e2 ?e3 ?e4 ?e5 ?e6 ?e7 ?e8 ?e9 ?e10 ?e11 ?e12 ?e13 ?e14 ?e15 ?e16 ?e17 ?e18 ?e19 ?e20 ?e21 ?e22 ?e23 ?e24 ?_; (case kB => assumption); (case kF => k_asm); (case kX => k_asm); (case kN => k_asm); (case kT => k_asm); (case m1 => k_mem); (case hc => with_reducible assumption); (case hx => assumption); (case hd => with_reducible assumption); (case m2 => k_mem); (case hcl => kernel_rfl); (case hga => k_is); (case hgt => k_is); (case hsub => k_is); (case ha => k_is); (case hm => k_is); (case e0 => kit_is); (case e1 => kit_is); (case e2 => kit_is); (case e3 => kit_is); (case e4 => kit_is); (case e5 => kit_is); (case e6 => kit_is); (case e7 => kit_is); (case e8 => kit_is); (case e9 => kit_is); (case e10 => kit_is); (case e11 => kit_is); (case e12 => kit_is); (case e13 => kit_is); (case e14 => kit_is); (case e15 => kit_is); (case e16 => kit_is); (case e17 => kit_is); (case e18 => kit_is); (case e19 => kit_is); (case e20 => kit_is); (case e21 => kit_is); (case e22 => kit_is); (case e23 => kit_is); (case e24 => kit_is); k_whole)
  | (refine' k00_marks0 ?kB ?kF ?kX ?kN ?kT ?m1 ?hc ?hx ?hd ?hcl ?hga ?hgt ?hsub ?ha ?hm ?e0 ?e1 ?e2 ?e3 ?e4 ?e5 ?e6 ?e7 ?e8 ?e9 ?e10 ?e11 ?e12 ?e13 ?e14 ?e15 ?e16 ?e17 ?e18 ?e19 ?e20 ?e21 ?e22 ?e23 ?e24 ?_; (case kB => assumption); (case kF => k_asm); (case kX => k_asm); (case kN => k_asm); (case kT => k_asm); (case m1 => k_mem); (case hc => with_reducible assumption); (case hx => assumption); (case hd => with_reducible assumption); (case hcl => kernel_rfl); (case hga => k_is); (case hgt => k_is); (case hsub => k_is); (case ha => k_is); (case hm => k_is); (case e0 => kit_is); (case e1 => kit_is); (case e2 => kit_is); (case e3 => kit_is); (case e4 => kit_is); (case e5 => kit_is); (case e6 => kit_is); (case e7 => kit_is); (case e8 => kit_is); (case e9 => kit_is); (case e10 => kit_is); (case e11 => kit_is); (case e12 => kit_is); (case e13 => kit_is); (case e14 => kit_is); (case e15 => kit_is); (case e16 => kit_is); (case e17 => kit_is); (case e18 => kit_is); (case e19 => kit_is); (case e20 => kit_is); (case e21 => kit_is); (case e22 => kit_is); (case e23 => kit_is); (case e24 => kit_is); k_whole)); intro p9 h9 tk9 F9 N9; (try dsimp only at N9)))
local macro_rules | `(tactic| k_ne) => `(tactic| first | (refine neN ?_; (try dsimp only); first | with_reducible assumption | exact Ne.symm (by with_reducible assumption) | exact Nat.ne_of_gt (by with_reducible assumption) | exact Nat.ne_of_lt (by with_reducible assumption)) | (refine neN ?_; (try dsimp only); omega))
local macro_rules | `(tactic| k_lt $h:ident) => `(tactic| (replace $h:ident := allLt_of $h; simp only [AllLt, and_true] at $h:ident; (repeat (have l9 := And.left $h; replace $h:ident := And.right $h))))
local macro_rules | `(tactic| kx_nes $a:ident) => `(tactic| (replace $a:ident := NeAll.of $a; (try simp only [NeAll, and_true] at $a:ident); (repeat (have l9 := And.left $a; replace $a:ident := And.right $a))))
local macro_rules | `(tactic| walk_at "formatField ref") => `(tactic| (k_here; (with_reducible show wpAny _ _ (formatField (Value.ref _) _) _ _ _); k_dflt (first
  | (refine' k00_fmt (d := .tuple [.tuple [.str "a", .str "b", .int 1], .tuple [.str "b", .str "a", .int (-2)]]) (y := "(('a', 'b', 1), ('b', 'a', -2))") (ReadsVia.tuple (vs := [.ref _, .ref _]) ?m0 (.cons (ReadsVia.tuple (vs := [_, _, _]) ?m1 (.cons (.str _ _) (.cons (.str _ _) (.cons (.int _ _) .nil)))) (.cons (ReadsVia.tuple (vs := [_, _, _]) ?m2 (.cons (.str _ _) (.cons (.str _ _) (.cons (.int _ _) .nil)))) .nil))) ?F ?N ?hs ?hnd ?hd ?hg ?hu ?hy ?hz ?_; (case F => k_asm); (case N => k_asm); (case m0 => k_mem); (case m1 => k_mem); (case m2 => k_mem); (case hs => rfl); (case hnd => rfl); (case hd => rfl); (case hg => with_unfolding_all rfl); (case hu => first | exact Nat.le_of_ble_eq_true rfl | decide); (case hy => decide +kernel); (case hz => decide +kernel))
  | (refine' k00_fmt (d := .tuple [.tuple [.str "a", .str "zero", .int (-1)]]) (y := "(('a', 'zero', -1),)") (ReadsVia.tuple (vs := [.ref _]) ?m0 (.cons (ReadsVia.tuple (vs := [_, _, _]) ?m1 (.cons (.str _ _) (.cons (.str _ _) (.cons (.int _ _) .nil)))) .nil)) ?F ?N ?hs ?hnd ?hd ?hg ?hu ?hy ?hz ?_; (case F => k_asm); (case N => k_asm); (case m0 => k_mem); (case m1 => k_mem); (case hs => rfl); (case hnd => rfl); (case hd => rfl); (case hg => with_unfolding_all rfl); (case hu => first | exact Nat.le_of_ble_eq_true rfl | decide); (case hy => decide +kernel); (case hz => decide +kernel))
  | (refine' k00_fmt (d := .tuple []) (y := "()") (ReadsVia.tuple (vs := []) ?m0 .nil) ?F ?N ?hs ?hnd ?hd ?hg ?hu ?hy ?hz ?_; (case F => k_asm); (case N => k_asm); (case m0 => k_mem); (case hs => rfl); (case hnd => rfl); (case hd => rfl); (case hg => with_unfolding_all rfl); (case hu => first | exact Nat.le_of_ble_eq_true rfl | decide); (case hy => decide +kernel); (case hz => decide +kernel))); intro h9 u9 tk9 F9 N9))
local macro_rules | `(tactic| k_in) => `(tactic| first | with_reducible assumption | exact Frag.In.keeps (by with_reducible assumption) (Fr.keep (by with_reducible assumption)))
set_option maxRecDepth 100000 in
set_option maxHeartbeats 0 in
theorem k00_way0 (w : World) (t1 t2 : Tok) : K00.Says w 924 [.int 0 t1, .int 25 t2] true := by
  w_strict (
    unfold K00.Says
    k_fill
    intro mean mg mb A₀ cn nms mr a ccd cl h₀ L m news s Q E kB kF kX kN kT hret
    refine wpAny_call ?_
    k_dflt (refine' k00_def ?k1 ?k2 ?k3 ?k4 ?k5 ?kA ?k6 ?k7 ?k8 ?k9 ?kB ?_ ?cK ?c2 ?c3 ?c4 ?c5; (case kA => exact rfl); (case k2 => exact kF); (case k1 => exact kB); (case k3 => exact kX); (case k4 => exact kN); (case k5 => exact kT); (case k6 => k_is); (case k7 => k_is); (case k8 => k_room); (case k9 => exact BindsTo.of_eq rfl); (case kB => exact locs rfl); (case cK => exact rfl); (case c2 => exact rfl); (case c3 => exact rfl); (case c4 => exact rfl); (case c5 => decide); k_whole; intro g' L' h' FG' F' N' B' X' T' D'; (try dsimp only); (try k_lift B'); (try k_fold))
    k_steps
    all_goals (refine' hret _ _ ?eF ?eN; (case eF => k_asm); (case eN => assumption)))
set_option maxRecDepth 100000 in
set_option maxHeartbeats 0 in
theorem k00_way1 (w : World) (t1 t2 : Tok) : K00.Says w 924 [.int 1 t1, .int 25 t2] true := by
  w_strict (
    unfold K00.Says
    k_fill
    intro mean mg mb A₀ cn nms mr a ccd cl h₀ L m news s Q E kB kF kX kN kT hret
    refine wpAny_call ?_
    k_dflt (refine' k00_def ?k1 ?k2 ?k3 ?k4 ?k5 ?kA ?k6 ?k7 ?k8 ?k9 ?kB ?_ ?cK ?c2 ?c3 ?c4 ?c5; (case kA => exact rfl); (case k2 => exact kF); (case k1 => exact kB); (case k3 => exact kX); (case k4 => exact kN); (case k5 => exact kT); (case k6 => k_is); (case k7 => k_is); (case k8 => k_room); (case k9 => exact BindsTo.of_eq rfl); (case kB => exact locs rfl); (case cK => exact rfl); (case c2 => exact rfl); (case c3 => exact rfl); (case c4 => exact rfl); (case c5 => decide); k_whole; intro g' L' h' FG' F' N' B' X' T' D'; (try dsimp only); (try k_lift B'); (try k_fold))
    k_steps
    all_goals (refine' hret _ _ ?eF ?eN; (case eF => k_asm); (case eN => assumption)))
set_option maxRecDepth 100000 in
set_option maxHeartbeats 0 in
theorem k00_way2 (w : World) (t1 t2 : Tok) : K00.Says w 924 [.int 2 t1, .int 25 t2] true := by
  w_strict (
    unfold K00.Says
    k_fill
    intro mean mg mb A₀ cn nms mr a ccd cl h₀ L m news s Q E kB kF kX kN kT hret
    refine wpAny_call ?_
    k_dflt (refine' k00_def ?k1 ?k2 ?k3 ?k4 ?k5 ?kA ?k6 ?k7 ?k8 ?k9 ?kB ?_ ?cK ?c2 ?c3 ?c4 ?c5; (case kA => exact rfl); (case k2 => exact kF); (case k1 => exact kB); (case k3 => exact kX); (case k4 => exact kN); (case k5 => exact kT); (case k6 => k_is); (case k7 => k_is); (case k8 => k_room); (case k9 => exact BindsTo.of_eq rfl); (case kB => exact locs rfl); (case cK => exact rfl); (case c2 => exact rfl); (case c3 => exact rfl); (case c4 => exact rfl); (case c5 => decide); k_whole; intro g' L' h' FG' F' N' B' X' T' D'; (try dsimp only); (try k_lift B'); (try k_fold))
    k_steps
    all_goals (refine' hret _ _ ?eF ?eN; (case eF => k_asm); (case eN => assumption)))
set_option maxRecDepth 100000 in
set_option maxHeartbeats 0 in
theorem k00_way3 (w : World) (t1 t2 : Tok) : K00.Says w 924 [.int 3 t1, .int 25 t2] true := by
  w_strict (
    unfold K00.Says
    k_fill
    intro mean mg mb A₀ cn nms mr a ccd cl h₀ L m news s Q E kB kF kX kN kT hret
    refine wpAny_call ?_
    k_dflt (refine' k00_def ?k1 ?k2 ?k3 ?k4 ?k5 ?kA ?k6 ?k7 ?k8 ?k9 ?kB ?_ ?cK ?c2 ?c3 ?c4 ?c5; (case kA => exact rfl); (case k2 => exact kF); (case k1 => exact kB); (case k3 => exact kX); (case k4 => exact kN); (case k5 => exact kT); (case k6 => k_is); (case k7 => k_is); (case k8 => k_room); (case k9 => exact BindsTo.of_eq rfl); (case kB => exact locs rfl); (case cK => exact rfl); (case c2 => exact rfl); (case c3 => exact rfl); (case c4 => exact rfl); (case c5 => decide); k_whole; intro g' L' h' FG' F' N' B' X' T' D'; (try dsimp only); (try k_lift B'); (try k_fold))
    k_steps
    all_goals (refine' hret _ _ ?eF ?eN; (case eF => k_asm); (case eN => assumption)))
set_option maxRecDepth 100000 in
set_option maxHeartbeats 0 in
theorem k00_way4 (w : World) (t1 t2 : Tok) : K00.Says w 924 [.int 4 t1, .int 25 t2] true := by
  w_strict (
    unfold K00.Says
    k_fill
    intro mean mg mb A₀ cn nms mr a ccd cl h₀ L m news s Q E kB kF kX kN kT hret
    refine wpAny_call ?_
    k_dflt (refine' k00_def ?k1 ?k2 ?k3 ?k4 ?k5 ?kA ?k6 ?k7 ?k8 ?k9 ?kB ?_ ?cK ?c2 ?c3 ?c4 ?c5; (case kA => exact rfl); (case k2 => exact kF); (case k1 => exact kB); (case k3 => exact kX); (case k4 => exact kN); (case k5 => exact kT); (case k6 => k_is); (case k7 => k_is); (case k8 => k_room); (case k9 => exact BindsTo.of_eq rfl); (case kB => exact locs rfl); (case cK => exact rfl); (case c2 => exact rfl); (case c3 => exact rfl); (case c4 => exact rfl); (case c5 => decide); k_whole; intro g' L' h' FG' F' N' B' X' T' D'; (try dsimp only); (try k_lift B'); (try k_fold))
    k_steps
    all_goals (refine' hret _ _ ?eF ?eN; (case eF => k_asm); (case eN => assumption)))
set_option maxRecDepth 100000 in
set_option maxHeartbeats 0 in
theorem k00_way5 (w : World) (t1 t2 : Tok) : K00.Says w 924 [.int 5 t1, .int 25 t2] true := by
  w_strict (
    unfold K00.Says
    k_fill
    intro mean mg mb A₀ cn nms mr a ccd cl h₀ L m news s Q E kB kF kX kN kT hret
    refine wpAny_call ?_
    k_dflt (refine' k00_def ?k1 ?k2 ?k3 ?k4 ?k5 ?kA ?k6 ?k7 ?k8 ?k9 ?kB ?_ ?cK ?c2 ?c3 ?c4 ?c5; (case kA => exact rfl); (case k2 => exact kF); (case k1 => exact kB); (case k3 => exact kX); (case k4 => exact kN); (case k5 => exact kT); (case k6 => k_is); (case k7 => k_is); (case k8 => k_room); (case k9 => exact BindsTo.of_eq rfl); (case kB => exact locs rfl); (case cK => exact rfl); (case c2 => exact rfl); (case c3 => exact rfl); (case c4 => exact rfl); (case c5 => decide); k_whole; intro g' L' h' FG' F' N' B' X' T' D'; (try dsimp only); (try k_lift B'); (try k_fold))
    k_steps
    all_goals (refine' hret _ _ ?eF ?eN; (case eF => k_asm); (case eN => assumption)))
set_option maxRecDepth 100000 in
set_option maxHeartbeats 0 in
theorem k00_way6 (w : World) (t1 t2 : Tok) : K00.Says w 924 [.int 6 t1, .int 25 t2] true := by
  w_strict (
    unfold K00.Says
    k_fill
    intro mean mg mb A₀ cn nms mr a ccd cl h₀ L m news s Q E kB kF kX kN kT hret
    refine wpAny_call ?_
    k_dflt (refine' k00_def ?k1 ?k2 ?k3 ?k4 ?k5 ?kA ?k6 ?k7 ?k8 ?k9 ?kB ?_ ?cK ?c2 ?c3 ?c4 ?c5; (case kA => exact rfl); (case k2 => exact kF); (case k1 => exact kB); (case k3 => exact kX); (case k4 => exact kN); (case k5 => exact kT); (case k6 => k_is); (case k7 => k_is); (case k8 => k_room); (case k9 => exact BindsTo.of_eq rfl); (case kB => exact locs rfl); (case cK => exact rfl); (case c2 => exact rfl); (case c3 => exact rfl); (case c4 => exact rfl); (case c5 => decide); k_whole; intro g' L' h' FG' F' N' B' X' T' D'; (try dsimp only); (try k_lift B'); (try k_fold))
    k_steps
    all_goals (refine' hret _ _ ?eF ?eN; (case eF => k_asm); (case eN => assumption)))
set_option maxRecDepth 100000 in
set_option maxHeartbeats 0 in
theorem k00_way7 (w : World) (t1 t2 : Tok) : K00.Says w 924 [.int 7 t1, .int 25 t2] true := by
  w_strict (
    unfold K00.Says
    k_fill
    intro mean mg mb A₀ cn nms mr a ccd cl h₀ L m news s Q E kB kF kX kN kT hret
    refine wpAny_call ?_
    k_dflt (refine' k00_def ?k1 ?k2 ?k3 ?k4 ?k5 ?kA ?k6 ?k7 ?k8 ?k9 ?kB ?_ ?cK ?c2 ?c3 ?c4 ?c5; (case kA => exact rfl); (case k2 => exact kF); (case k1 => exact kB); (case k3 => exact kX); (case k4 => exact kN); (case k5 => exact kT); (case k6 => k_is); (case k7 => k_is); (case k8 => k_room); (case k9 => exact BindsTo.of_eq rfl); (case kB => exact locs rfl); (case cK => exact rfl); (case c2 => exact rfl); (case c3 => exact rfl); (case c4 => exact rfl); (case c5 => decide); k_whole; intro g' L' h' FG' F' N' B' X' T' D'; (try dsimp only); (try k_lift B'); (try k_fold))
    k_steps
    all_goals (refine' hret _ _ ?eF ?eN; (case eF => k_asm); (case eN => assumption)))
set_option maxRecDepth 100000 in
set_option maxHeartbeats 0 in
theorem k00_way8 (w : World) (t1 t2 : Tok) : K00.Says w 924 [.int 8 t1, .int 25 t2] true := by
  w_strict (
    unfold K00.Says
    k_fill
    intro mean mg mb A₀ cn nms mr a ccd cl h₀ L m news s Q E kB kF kX kN kT hret
    refine wpAny_call ?_
    k_dflt (refine' k00_def ?k1 ?k2 ?k3 ?k4 ?k5 ?kA ?k6 ?k7 ?k8 ?k9 ?kB ?_ ?cK ?c2 ?c3 ?c4 ?c5; (case kA => exact rfl); (case k2 => exact kF); (case k1 => exact kB); (case k3 => exact kX); (case k4 => exact kN); (case k5 => exact kT); (case k6 => k_is); (case k7 => k_is); (case k8 => k_room); (case k9 => exact BindsTo.of_eq rfl); (case kB => exact locs rfl); (case cK => exact rfl); (case c2 => exact rfl); (case c3 => exact rfl); (case c4 => exact rfl); (case c5 => decide); k_whole; intro g' L' h' FG' F' N' B' X' T' D'; (try dsimp only); (try k_lift B'); (try k_fold))
    k_steps
    all_goals (refine' hret _ _ ?eF ?eN; (case eF => k_asm); (case eN => assumption)))
set_option maxRecDepth 100000 in
set_option maxHeartbeats 0 in
theorem k00_way9 (w : World) (t1 t2 : Tok) : K00.Says w 924 [.int 9 t1, .int 25 t2] true := by
  w_strict (
    unfold K00.Says
    k_fill
    intro mean mg mb A₀ cn nms mr a ccd cl h₀ L m news s Q E kB kF kX kN kT hret
    refine wpAny_call ?_
    k_dflt (refine' k00_def ?k1 ?k2 ?k3 ?k4 ?k5 ?kA ?k6 ?k7 ?k8 ?k9 ?kB ?_ ?cK ?c2 ?c3 ?c4 ?c5; (case kA => exact rfl); (case k2 => exact kF); (case k1 => exact kB); (case k3 => exact kX); (case k4 => exact kN); (case k5 => exact kT); (case k6 => k_is); (case k7 => k_is); (case k8 => k_room); (case k9 => exact BindsTo.of_eq rfl); (case kB => exact locs rfl); (case cK => exact rfl); (case c2 => exact rfl); (case c3 => exact rfl); (case c4 => exact rfl); (case c5 => decide); k_whole; intro g' L' h' FG' F' N' B' X' T' D'; (try dsimp only); (try k_lift B'); (try k_fold))
    k_steps
    all_goals (refine' hret _ _ ?eF ?eN; (case eF => k_asm); (case eN => assumption)))
set_option maxRecDepth 100000 in
set_option maxHeartbeats 0 in
theorem k00_way10 (w : World) (t1 t2 : Tok) : K00.Says w 924 [.int 10 t1, .int 25 t2] true := by
  w_strict (
    unfold K00.Says
    k_fill
    intro mean mg mb A₀ cn nms mr a ccd cl h₀ L m news s Q E kB kF kX kN kT hret
    refine wpAny_call ?_
    k_dflt (refine' k00_def ?k1 ?k2 ?k3 ?k4 ?k5 ?kA ?k6 ?k7 ?k8 ?k9 ?kB ?_ ?cK ?c2 ?c3 ?c4 ?c5; (case kA => exact rfl); (case k2 => exact kF); (case k1 => exact kB); (case k3 => exact kX); (case k4 => exact kN); (case k5 => exact kT); (case k6 => k_is); (case k7 => k_is); (case k8 => k_room); (case k9 => exact BindsTo.of_eq rfl); (case kB => exact locs rfl); (case cK => exact rfl); (case c2 => exact rfl); (case c3 => exact rfl); (case c4 => exact rfl); (case c5 => decide); k_whole; intro g' L' h' FG' F' N' B' X' T' D'; (try dsimp only); (try k_lift B'); (try k_fold))
    k_steps
    all_goals (refine' hret _ _ ?eF ?eN; (case eF => k_asm); (case eN => assumption)))
set_option maxRecDepth 100000 in
set_option maxHeartbeats 0 in
theorem k00_way11 (w : World) (t1 t2 : Tok) : K00.Says w 924 [.int 11 t1, .int 25 t2] true := by
  w_strict (
    unfold K00.Says
    k_fill
    intro mean mg mb A₀ cn nms mr a ccd cl h₀ L m news s Q E kB kF kX kN kT hret
    refine wpAny_call ?_
    k_dflt (refine' k00_def ?k1 ?k2 ?k3 ?k4 ?k5 ?kA ?k6 ?k7 ?k8 ?k9 ?kB ?_ ?cK ?c2 ?c3 ?c4 ?c5; (case kA => exact rfl); (case k2 => exact kF); (case k1 => exact kB); (case k3 => exact kX); (case k4 => exact kN); (case k5 => exact kT); (case k6 => k_is); (case k7 => k_is); (case k8 => k_room); (case k9 => exact BindsTo.of_eq rfl); (case kB => exact locs rfl); (case cK => exact rfl); (case c2 => exact rfl); (case c3 => exact rfl); (case c4 => exact rfl); (case c5 => decide); k_whole; intro g' L' h' FG' F' N' B' X' T' D'; (try dsimp only); (try k_lift B'); (try k_fold))
    k_steps
    all_goals (refine' hret _ _ ?eF ?eN; (case eF => k_asm); (case eN => assumption)))
set_option maxRecDepth 100000 in
set_option maxHeartbeats 0 in
theorem k00_way12 (w : World) (t1 t2 : Tok) : K00.Says w 924 [.int 12 t1, .int 25 t2] true := by
  w_strict (
    unfold K00.Says
    k_fill
    intro mean mg mb A₀ cn nms mr a ccd cl h₀ L m news s Q E kB kF kX kN kT hret
    refine wpAny_call ?_
    k_dflt (refine' k00_def ?k1 ?k2 ?k3 ?k4 ?k5 ?kA ?k6 ?k7 ?k8 ?k9 ?kB ?_ ?cK ?c2 ?c3 ?c4 ?c5; (case kA => exact rfl); (case k2 => exact kF); (case k1 => exact kB); (case k3 => exact kX); (case k4 => exact kN); (case k5 => exact kT); (case k6 => k_is); (case k7 => k_is); (case k8 => k_room); (case k9 => exact BindsTo.of_eq rfl); (case kB => exact locs rfl); (case cK => exact rfl); (case c2 => exact rfl); (case c3 => exact rfl); (case c4 => exact rfl); (case c5 => decide); k_whole; intro g' L' h' FG' F' N' B' X' T' D'; (try dsimp only); (try k_lift B'); (try k_fold))
    k_steps
    all_goals (refine' hret _ _ ?eF ?eN; (case eF => k_asm); (case eN => assumption)))
set_option maxRecDepth 100000 in
set_option maxHeartbeats 0 in
theorem k00_way13 (w : World) (t1 t2 : Tok) : K00.Says w 924 [.int 13 t1, .int 25 t2] true := by
  w_strict (
    unfold K00.Says
    k_fill
    intro mean mg mb A₀ cn nms mr a ccd cl h₀ L m news s Q E kB kF kX kN kT hret
    refine wpAny_call ?_
    k_dflt (refine' k00_def ?k1 ?k2 ?k3 ?k4 ?k5 ?kA ?k6 ?k7 ?k8 ?k9 ?kB ?_ ?cK ?c2 ?c3 ?c4 ?c5; (case kA => exact rfl); (case k2 => exact kF); (case k1 => exact kB); (case k3 => exact kX); (case k4 => exact kN); (case k5 => exact kT); (case k6 => k_is); (case k7 => k_is); (case k8 => k_room); (case k9 => exact BindsTo.of_eq rfl); (case kB => exact locs rfl); (case cK => exact rfl); (case c2 => exact rfl); (case c3 => exact rfl); (case c4 => exact rfl); (case c5 => decide); k_whole; intro g' L' h' FG' F' N' B' X' T' D'; (try dsimp only); (try k_lift B'); (try k_fold))
    k_steps
    all_goals (refine' hret _ _ ?eF ?eN; (case eF => k_asm); (case eN => assumption)))
set_option maxRecDepth 100000 in
set_option maxHeartbeats 0 in
theorem k00_way14 (w : World) (t1 t2 : Tok) : K00.Says w 924 [.int 14 t1, .int 25 t2] true := by
  w_strict (
    unfold K00.Says
    k_fill
    intro mean mg mb A₀ cn nms mr a ccd cl h₀ L m news s Q E kB kF kX kN kT hret
    refine wpAny_call ?_
    k_dflt (refine' k00_def ?k1 ?k2 ?k3 ?k4 ?k5 ?kA ?k6 ?k7 ?k8 ?k9 ?kB ?_ ?cK ?c2 ?c3 ?c4 ?c5; (case kA => exact rfl); (case k2 => exact kF); (case k1 => exact kB); (case k3 => exact kX); (case k4 => exact kN); (case k5 => exact kT); (case k6 => k_is); (case k7 => k_is); (case k8 => k_room); (case k9 => exact BindsTo.of_eq rfl); (case kB => exact locs rfl); (case cK => exact rfl); (case c2 => exact rfl); (case c3 => exact rfl); (case c4 => exact rfl); (case c5 => decide); k_whole; intro g' L' h' FG' F' N' B' X' T' D'; (try dsimp only); (try k_lift B'); (try k_fold))
    k_steps
    all_goals (refine' hret _ _ ?eF ?eN; (case eF => k_asm); (case eN => assumption)))
set_option maxRecDepth 100000 in
set_option maxHeartbeats 0 in
theorem k00_way15 (w : World) (t1 t2 : Tok) : K00.Says w 924 [.int 15 t1, .int 25 t2] true := by
  w_strict (
    unfold K00.Says
    k_fill
    intro mean mg mb A₀ cn nms mr a ccd cl h₀ L m news s Q E kB kF kX kN kT hret
    refine wpAny_call ?_
    k_dflt (refine' k00_def ?k1 ?k2 ?k3 ?k4 ?k5 ?kA ?k6 ?k7 ?k8 ?k9 ?kB ?_ ?cK ?c2 ?c3 ?c4 ?c5; (case kA => exact rfl); (case k2 => exact kF); (case k1 => exact kB); (case k3 => exact kX); (case k4 => exact kN); (case k5 => exact kT); (case k6 => k_is); (case k7 => k_is); (case k8 => k_room); (case k9 => exact BindsTo.of_eq rfl); (case kB => exact locs rfl); (case cK => exact rfl); (case c2 => exact rfl); (case c3 => exact rfl); (case c4 => exact rfl); (case c5 => decide); k_whole; intro g' L' h' FG' F' N' B' X' T' D'; (try dsimp only); (try k_lift B'); (try k_fold))
    k_steps
    all_goals (refine' hret _ _ ?eF ?eN; (case eF => k_asm); (case eN => assumption)))
set_option maxRecDepth 100000 in
set_option maxHeartbeats 0 in
theorem k00_way16 (w : World) (t1 t2 : Tok) : K00.Says w 924 [.int 16 t1, .int 25 t2] true := by
  w_strict (
    unfold K00.Says
    k_fill
    intro mean mg mb A₀ cn nms mr a ccd cl h₀ L m news s Q E kB kF kX kN kT hret
    refine wpAny_call ?_
    k_dflt (refine' k00_def ?k1 ?k2 ?k3 ?k4 ?k5 ?kA ?k6 ?k7 ?k8 ?k9 ?kB ?_ ?cK ?c2 ?c3 ?c4 ?c5; (case kA => exact rfl); (case k2 => exact kF); (case k1 => exact kB); (case k3 => exact kX); (case k4 => exact kN); (case k5 => exact kT); (case k6 => k_is); (case k7 => k_is); (case k8 => k_room); (case k9 => exact BindsTo.of_eq rfl); (case kB => exact locs rfl); (case cK => exact rfl); (case c2 => exact rfl); (case c3 => exact rfl); (case c4 => exact rfl); (case c5 => decide); k_whole; intro g' L' h' FG' F' N' B' X' T' D'; (try dsimp only); (try k_lift B'); (try k_fold))
    k_steps
    all_goals (refine' hret _ _ ?eF ?eN; (case eF => k_asm); (case eN => assumption)))
set_option maxRecDepth 100000 in
set_option maxHeartbeats 0 in
theorem k00_way17 (w : World) (t1 t2 : Tok) : K00.Says w 924 [.int 17 t1, .int 25 t2] true := by
  w_strict (
    unfold K00.Says
    k_fill
    intro mean mg mb A₀ cn nms mr a ccd cl h₀ L m news s Q E kB kF kX kN kT hret
    refine wpAny_call ?_
    k_dflt (refine' k00_def ?k1 ?k2 ?k3 ?k4 ?k5 ?kA ?k6 ?k7 ?k8 ?k9 ?kB ?_ ?cK ?c2 ?c3 ?c4 ?c5; (case kA => exact rfl); (case k2 => exact kF); (case k1 => exact kB); (case k3 => exact kX); (case k4 => exact kN); (case k5 => exact kT); (case k6 => k_is); (case k7 => k_is); (case k8 => k_room); (case k9 => exact BindsTo.of_eq rfl); (case kB => exact locs rfl); (case cK => exact rfl); (case c2 => exact rfl); (case c3 => exact rfl); (case c4 => exact rfl); (case c5 => decide); k_whole; intro g' L' h' FG' F' N' B' X' T' D'; (try dsimp only); (try k_lift B'); (try k_fold))
    k_steps
    all_goals (refine' hret _ _ ?eF ?eN; (case eF => k_asm); (case eN => assumption)))
set_option maxRecDepth 100000 in
set_option maxHeartbeats 0 in
theorem k00_way18 (w : World) (t1 t2 : Tok) : K00.Says w 924 [.int 18 t1, .int 25 t2] true := by
  w_strict (
    unfold K00.Says
    k_fill
    intro mean mg mb A₀ cn nms mr a ccd cl h₀ L m news s Q E kB kF kX kN kT hret
    refine wpAny_call ?_
    k_dflt (refine' k00_def ?k1 ?k2 ?k3 ?k4 ?k5 ?kA ?k6 ?k7 ?k8 ?k9 ?kB ?_ ?cK ?c2 ?c3 ?c4 ?c5; (case kA => exact rfl); (case k2 => exact kF); (case k1 => exact kB); (case k3 => exact kX); (case k4 => exact kN); (case k5 => exact kT); (case k6 => k_is); (case k7 => k_is); (case k8 => k_room); (case k9 => exact BindsTo.of_eq rfl); (case kB => exact locs rfl); (case cK => exact rfl); (case c2 => exact rfl); (case c3 => exact rfl); (case c4 => exact rfl); (case c5 => decide); k_whole; intro g' L' h' FG' F' N' B' X' T' D'; (try dsimp only); (try k_lift B'); (try k_fold))
    k_steps
    all_goals (refine' hret _ _ ?eF ?eN; (case eF => k_asm); (case eN => assumption)))
set_option maxRecDepth 100000 in
set_option maxHeartbeats 0 in
theorem k00_way19 (w : World) (t1 t2 : Tok) : K00.Says w 924 [.int 19 t1, .int 25 t2] true := by
  w_strict (
    unfold K00.Says
    k_fill
    intro mean mg mb A₀ cn nms mr a ccd cl h₀ L m news s Q E kB kF kX kN kT hret
    refine wpAny_call ?_
    k_dflt (refine' k00_def ?k1 ?k2 ?k3 ?k4 ?k5 ?kA ?k6 ?k7 ?k8 ?k9 ?kB ?_ ?cK ?c2 ?c3 ?c4 ?c5; (case kA => exact rfl); (case k2 => exact kF); (case k1 => exact kB); (case k3 => exact kX); (case k4 => exact kN); (case k5 => exact kT); (case k6 => k_is); (case k7 => k_is); (case k8 => k_room); (case k9 => exact BindsTo.of_eq rfl); (case kB => exact locs rfl); (case cK => exact rfl); (case c2 => exact rfl); (case c3 => exact rfl); (case c4 => exact rfl); (case c5 => decide); k_whole; intro g' L' h' FG' F' N' B' X' T' D'; (try dsimp only); (try k_lift B'); (try k_fold))
    k_steps
    all_goals (refine' hret _ _ ?eF ?eN; (case eF => k_asm); (case eN => assumption)))
set_option maxRecDepth 100000 in
set_option maxHeartbeats 0 in
theorem k00_way20 (w : World) (t1 t2 : Tok) : K00.Says w 924 [.int 20 t1, .int 25 t2] true := by
  w_strict (
    unfold K00.Says
    k_fill
    intro mean mg mb A₀ cn nms mr a ccd cl h₀ L m news s Q E kB kF kX kN kT hret
    refine wpAny_call ?_
    k_dflt (refine' k00_def ?k1 ?k2 ?k3 ?k4 ?k5 ?kA ?k6 ?k7 ?k8 ?k9 ?kB ?_ ?cK ?c2 ?c3 ?c4 ?c5; (case kA => exact rfl); (case k2 => exact kF); (case k1 => exact kB); (case k3 => exact kX); (case k4 => exact kN); (case k5 => exact kT); (case k6 => k_is); (case k7 => k_is); (case k8 => k_room); (case k9 => exact BindsTo.of_eq rfl); (case kB => exact locs rfl); (case cK => exact rfl); (case c2 => exact rfl); (case c3 => exact rfl); (case c4 => exact rfl); (case c5 => decide); k_whole; intro g' L' h' FG' F' N' B' X' T' D'; (try dsimp only); (try k_lift B'); (try k_fold))
    k_steps
    all_goals (refine' hret _ _ ?eF ?eN; (case eF => k_asm); (case eN => assumption)))
set_option maxRecDepth 100000 in
set_option maxHeartbeats 0 in
theorem k00_way21 (w : World) (t1 t2 : Tok) : K00.Says w 924 [.int 21 t1, .int 25 t2] true := by
  w_strict (
    unfold K00.Says
    k_fill
    intro mean mg mb A₀ cn nms mr a ccd cl h₀ L m news s Q E kB kF kX kN kT hret
    refine wpAny_call ?_
    k_dflt (refine' k00_def ?k1 ?k2 ?k3 ?k4 ?k5 ?kA ?k6 ?k7 ?k8 ?k9 ?kB ?_ ?cK ?c2 ?c3 ?c4 ?c5; (case kA => exact rfl); (case k2 => exact kF); (case k1 => exact kB); (case k3 => exact kX); (case k4 => exact kN); (case k5 => exact kT); (case k6 => k_is); (case k7 => k_is); (case k8 => k_room); (case k9 => exact BindsTo.of_eq rfl); (case kB => exact locs rfl); (case cK => exact rfl); (case c2 => exact rfl); (case c3 => exact rfl); (case c4 => exact rfl); (case c5 => decide); k_whole; intro g' L' h' FG' F' N' B' X' T' D'; (try dsimp only); (try k_lift B'); (try k_fold))
    k_steps
    all_goals (refine' hret _ _ ?eF ?eN; (case eF => k_asm); (case eN => assumption)))
set_option maxRecDepth 100000 in
set_option maxHeartbeats 0 in
theorem k00_way22 (w : World) (t1 t2 : Tok) : K00.Says w 924 [.int 22 t1, .int 25 t2] true := by
  w_strict (
    unfold K00.Says
    k_fill
    intro mean mg mb A₀ cn nms mr a ccd cl h₀ L m news s Q E kB kF kX kN kT hret
    refine wpAny_call ?_
    k_dflt (refine' k00_def ?k1 ?k2 ?k3 ?k4 ?k5 ?kA ?k6 ?k7 ?k8 ?k9 ?kB ?_ ?cK ?c2 ?c3 ?c4 ?c5; (case kA => exact rfl); (case k2 => exact kF); (case k1 => exact kB); (case k3 => exact kX); (case k4 => exact kN); (case k5 => exact kT); (case k6 => k_is); (case k7 => k_is); (case k8 => k_room); (case k9 => exact BindsTo.of_eq rfl); (case kB => exact locs rfl); (case cK => exact rfl); (case c2 => exact rfl); (case c3 => exact rfl); (case c4 => exact rfl); (case c5 => decide); k_whole; intro g' L' h' FG' F' N' B' X' T' D'; (try dsimp only); (try k_lift B'); (try k_fold))
    k_steps
    all_goals (refine' hret _ _ ?eF ?eN; (case eF => k_asm); (case eN => assumption)))
set_option maxRecDepth 100000 in
set_option maxHeartbeats 0 in
theorem k00_way23 (w : World) (t1 t2 : Tok) : K00.Says w 924 [.int 23 t1, .int 25 t2] true := by
  w_strict (
    unfold K00.Says
    k_fill
    intro mean mg mb A₀ cn nms mr a ccd cl h₀ L m news s Q E kB kF kX kN kT hret
    refine wpAny_call ?_
    k_dflt (refine' k00_def ?k1 ?k2 ?k3 ?k4 ?k5 ?kA ?k6 ?k7 ?k8 ?k9 ?kB ?_ ?cK ?c2 ?c3 ?c4 ?c5; (case kA => exact rfl); (case k2 => exact kF); (case k1 => exact kB); (case k3 => exact kX); (case k4 => exact kN); (case k5 => exact kT); (case k6 => k_is); (case k7 => k_is); (case k8 => k_room); (case k9 => exact BindsTo.of_eq rfl); (case kB => exact locs rfl); (case cK => exact rfl); (case c2 => exact rfl); (case c3 => exact rfl); (case c4 => exact rfl); (case c5 => decide); k_whole; intro g' L' h' FG' F' N' B' X' T' D'; (try dsimp only); (try k_lift B'); (try k_fold))
    k_steps
    all_goals (refine' hret _ _ ?eF ?eN; (case eF => k_asm); (case eN => assumption)))
set_option maxRecDepth 100000 in
set_option maxHeartbeats 0 in
theorem k00_way24 (w : World) (t1 t2 : Tok) : K00.Says w 924 [.int 24 t1, .int 25 t2] true := by
  w_strict (
    unfold K00.Says
    k_fill
    intro mean mg mb A₀ cn nms mr a ccd cl h₀ L m news s Q E kB kF kX kN kT hret
    refine wpAny_call ?_
    k_dflt (refine' k00_def ?k1 ?k2 ?k3 ?k4 ?k5 ?kA ?k6 ?k7 ?k8 ?k9 ?kB ?_ ?cK ?c2 ?c3 ?c4 ?c5; (case kA => exact rfl); (case k2 => exact kF); (case k1 => exact kB); (case k3 => exact kX); (case k4 => exact kN); (case k5 => exact kT); (case k6 => k_is); (case k7 => k_is); (case k8 => k_room); (case k9 => exact BindsTo.of_eq rfl); (case kB => exact locs rfl); (case cK => exact rfl); (case c2 => exact rfl); (case c3 => exact rfl); (case c4 => exact rfl); (case c5 => decide); k_whole; intro g' L' h' FG' F' N' B' X' T' D'; (try dsimp only); (try k_lift B'); (try k_fold))
    k_steps
    all_goals (refine' hret _ _ ?eF ?eN; (case eF => k_asm); (case eN => assumption)))
theorem k00_ways (w : World) {x : Int} (t1 t2 : Tok) (h0 : 0 ≤ x) (h1 : x < 25) : K00.Says w 924 [.int x t1, .int 25 t2] true := by
  rcases (show x = 0 ∨ x = 1 ∨ x = 2 ∨ x = 3 ∨ x = 4 ∨ x = 5 ∨ x = 6 ∨ x = 7 ∨ x = 8 ∨ x = 9 ∨ x = 10 ∨ x = 11 ∨ x = 12 ∨ x = 13 ∨ x = 14 ∨ x = 15 ∨ x = 16 ∨ x = 17 ∨ x = 18 ∨ x = 19 ∨ x = 20 ∨ x = 21 ∨ x = 22 ∨ x = 23 ∨ x = 24 from by omega) with rfl | rfl | rfl | rfl | rfl | rfl | rfl | rfl | rfl | rfl | rfl | rfl | rfl | rfl | rfl | rfl | rfl | rfl | rfl | rfl | rfl | rfl | rfl | rfl | rfl
  · exact k00_way0 w t1 t2
  · exact k00_way1 w t1 t2
  · exact k00_way2 w t1 t2
  · exact k00_way3 w t1 t2
  · exact k00_way4 w t1 t2
  · exact k00_way5 w t1 t2
  · exact k00_way6 w t1 t2
  · exact k00_way7 w t1 t2
  · exact k00_way8 w t1 t2
  · exact k00_way9 w t1 t2
  · exact k00_way10 w t1 t2
  · exact k00_way11 w t1 t2
  · exact k00_way12 w t1 t2
  · exact k00_way13 w t1 t2
  · exact k00_way14 w t1 t2
  · exact k00_way15 w t1 t2
  · exact k00_way16 w t1 t2
  · exact k00_way17 w t1 t2
  · exact k00_way18 w t1 t2
  · exact k00_way19 w t1 t2
  · exact k00_way20 w t1 t2
  · exact k00_way21 w t1 t2
  · exact k00_way22 w t1 t2
  · exact k00_way23 w t1 t2
  · exact k00_way24 w t1 t2
end
section
open PySem PySem.W PyProof.Rows
local macro_rules | `(tactic| walk_at "subscriptTail") => `(tactic| (k_here; (with_reducible rename decide (_ = []) = false => ka0); (have ka1 := k00_pos ka0); clear ka0; walk_at "subscriptTail"))
theorem k00_callS {w : World} {f : Addr} {vs : List Value} {b : Bool} (S : K00.Says w f vs b) {mean : ExcName → Option Value} {mg mb : Str → Option Value} {A₀ : Around} {cn : Str} {nms : List (Str × NameKind)} {mr : List (Str × Const)} {a : Addr} {ccd : Value} {cl : List (Str × Addr)} {h₀ : Heap} {L : Addr} {m : Str → Option Value} {news : List (Addr × Obj)} {s : Shared} {Q E : Value → Shared → Prop}
    (kB : Below A₀ h₀ [] h₀) (kF : Fr h₀ L s.heap m) (kX : (PySem.K00.hd.heap_39 w.params).In h₀) (kN : News h₀ L s.heap news) (kT : Top PySem.K00.hd.view_39 (looseW PySem.K00.hd.view_39 [PySem.Str.ofString "Sheet"]) mean mg mb h₀)
    (hret : ∀ h' tk', Fr h₀ L h' m → News h₀ L h' news → Q (.bool b) { s with heap := h', toks := tk' }) :
    wpAny (model PySem.Challenge.rw_unknowntakes_k00_error_classes.row.prog w) (callerA.deeper (envX cn { kind := .function, names := nms, isGenerator := false, isCoroutine := false, more := mr } L a ccd cl)) (call (.ref f) vs) Q E s :=
  S mean mg mb A₀ cn nms mr a ccd cl h₀ L m news s Q E kB kF kX kN kT hret
local macro_rules | `(tactic| walk_at "call ref") => `(tactic| (k_here; (with_reducible show wpAny _ _ (call (Value.ref 924) [Value.int _ _, Value.int _ _]) _ _ _); k_dflt (refine' k00_callS (k00_ways _ _ _ ?h0 ?h1) ?kB ?kF ?kX ?kN ?kT ?_; (case kF => k_asm); (case kB => k_asm); (case kX => k_asm); (case kN => k_asm); (case kT => k_asm); (case h0 => first | decide | exact Int.fmod_nonneg_of_pos _ (by decide) | omega); (case h1 => first | decide | exact Int.fmod_lt_of_pos _ (by decide) | omega | (simp only [Int.sub_zero, Int.zero_add] at *; omega)); k_whole); intro h9 tk9 F9 N9; (try dsimp only at N9)))
local macro_rules | `(tactic| walk_at "call ref") => `(tactic| (k_here; (with_reducible show wpAny _ _ (call (Value.ref 931) _) _ _ _); k_dflt (refine' k00_callS (k00_kept _) ?kB ?kF ?kX ?kN ?kT ?_; (case kF => k_asm); (case kB => k_asm); (case kX => k_asm); (case kN => k_asm); (case kT => k_asm); k_whole); intro h9 tk9 F9 N9; (try dsimp only at N9)))
set_option maxRecDepth 100000 in
set_option maxHeartbeats 0 in
theorem PySem.Challenge.cw_unknowntakes_k00_error_classes_holds : PySem.Challenge.rw_unknowntakes_k00_error_classes.Holds := by
  exact PySem.K00.hd (by w_strict k_go)
end
