import PyProof.Rows.All
import Wide.All
import OpenK.AllK
import Wide.FinOn
import HandS.ForMost
import HandS.Wide
import KE.KExcSuper
import HandS.ForSpec
import HandS.ExcInit
import HandS.ExcField
import HandS.TryMany
import HandS.FStr
import HandS.DictComp
import HandS.Conv
import HandS.ClsMeth
import HandS.Nested
import KE.Datum
import HandS.IsInst
import HandS.Codes
import HandS.IterVal
import KE.KOwnIter
import KE.KOpsOwn
import OpenK.KMeth
import OpenK.KOps
import HandS.OwnEq
import HandS.Star
import HandS.TupLen
import KE.KEqDict
import HandS.Defaults
import HandS.ExcIs
import HandS.ExcValue
import PyProof.NeKinds
import PySem.Challenge.RW_soundyard_k01_errors_and_fields
set_option Elab.async false
set_option linter.all false
set_option maxRecDepth 100000
set_option maxHeartbeats 4000000
namespace Yd
open PySem L2
/-! ### the text by places -/
def topS (i : Nat) : Stmt := PySem.Challenge.pw_soundyard_k01_errors_and_fields.main.body.getD i (.Pass ⟨0, 0, 0, 0⟩)
abbrev sRepeatedInit : Stmt := inClass (topS 2) 0
abbrev sUnknownInit : Stmt := inClass (topS 3) 0
abbrev sNoStepInit : Stmt := inClass (topS 4) 0
abbrev sBadCountInit : Stmt := inClass (topS 5) 0
abbrev sLackingInit : Stmt := inClass (topS 6) 0
abbrev sShutInit : Stmt := inClass (topS 7) 0
abbrev sUnmetInit : Stmt := inClass (topS 8) 0
abbrev sNeverInit : Stmt := inClass (topS 9) 0
abbrev sHoldInit : Stmt := inClass (topS 11) 0
abbrev sHoldIter : Stmt := inClass (topS 11) 1
abbrev sHoldLen : Stmt := inClass (topS 11) 2
abbrev sHoldIn : Stmt := inClass (topS 11) 3
abbrev sHoldLe : Stmt := inClass (topS 11) 4
abbrev sHoldEq : Stmt := inClass (topS 11) 5
abbrev sHoldOr : Stmt := inClass (topS 11) 6
abbrev sHoldAnd : Stmt := inClass (topS 11) 7
abbrev sHoldSub : Stmt := inClass (topS 11) 8
abbrev sPool : Stmt := topS 13
abbrev sTake : Stmt := topS 14
abbrev sBase : Stmt := topS 15
abbrev sName : Stmt := topS 16
abbrev sIsOnly : Stmt := topS 17
abbrev sLaw : Stmt := topS 18
end Yd
namespace Yd
open PySem L2
/-! ### tests whose answer is known -/
theorem yes {b : Bool} {A B : Prop} (e : b = true) (h : A) : if b = true then A else B := by subst e; exact (if_pos rfl).mpr h
theorem no {b : Bool} {A B : Prop} (e : b = false) (h : B) : if b = true then A else B := by subst e; exact (if_neg Bool.false_ne_true).mpr h
/-! ### the drawing of a script: the pool, a draw, the base of the names, a name -/
/-- what holds of the list of the pool at p (its cells, if it has some, at c) -/
def PoolL (H : Hp) (p c : Addr) (xs : List V) : Prop :=
  (c = p ∧ ∃ n : Int, xs = [.int n]) ∨ ∃ (x i : Int) (cs : List Int), xs = [.int x, .int i, .ref c] ∧ c ≠ p ∧ H c = some (.lst (cs.map V.int)) ∧ 0 < cs.length ∧ cs.length ≤ 63 ∧ (∀ z ∈ cs, 0 ≤ z ∧ z < 65537) ∧ 0 ≤ x ∧ x < 65537
def Pool (H : Hp) (p c : Addr) : Prop := ∃ xs, H p = some (.lst xs) ∧ PoolL H p c xs
theorem Pool.two {H : Hp} {p c : Addr} (h : Pool H p c) : (∃ o, H p = some o) ∧ ∃ o, H c = some o := by
  obtain ⟨xs, e, q⟩ := h
  refine ⟨⟨_, e⟩, ?_⟩
  rcases q with ⟨rfl, _⟩ | ⟨x, i, cs, _, _, e3, _⟩
  · exact ⟨_, e⟩
  · exact ⟨_, e3⟩
theorem Pool.ne {H : Hp} {p c q : Addr} (h : Pool H p c) (n : H q = none) : q ≠ p ∧ q ≠ c := by
  obtain ⟨⟨o, e⟩, u, e'⟩ := h.two
  exact ⟨(ne_of_none e n).symm, (ne_of_none e' n).symm⟩
theorem Pool.keep {H H' : Hp} {p c : Addr} (h : Pool H p c) (hp : ∀ o, H p = some o → H' p = some o) (hc : ∀ o, H c = some o → H' c = some o) : Pool H' p c := by
  obtain ⟨xs, e, q⟩ := h
  refine ⟨xs, hp _ e, ?_⟩
  rcases q with q | ⟨x, i, cs, e1, e2, e3, q⟩
  · exact .inl q
  · exact .inr ⟨x, i, cs, e1, e2, hc _ e3, q⟩
/-- all but p is as it was, and there may be more -/
def Gro (p : Addr) (H H' : Hp) : Prop := ∀ b o, H b = some o → b ≠ p → H' b = some o
theorem Gro.rfl' {p : Addr} {H : Hp} : Gro p H H := fun _ _ e _ => e
theorem Gro.trans {p : Addr} {H H1 H2 : Hp} (a : Gro p H H1) (b : Gro p H1 H2) : Gro p H H2 := fun q o e n => b q o (a q o e n) n
theorem Gro.new {p q : Addr} {H : Hp} {o : HO} (n : H q = none) : Gro p H (upd H q o) := fun b u e _ => by rw [upd_ne (ne_of_none e n)]; exact e
theorem Gro.own {p : Addr} {H : Hp} {o : HO} : Gro p H (upd H p o) := fun b u e n => by rw [upd_ne n]; exact e
theorem Gro.of_same {p : Addr} {H H' : Hp} (s : Same H H') : Gro p H H' := fun b o e _ => s b o e
theorem Gro.free {p q : Addr} {H H' : Hp} (g : Gro p H H') (n : H' q = none) (hq : q ≠ p) : H q = none := by
  cases e : H q with
  | none => rfl
  | some o => rw [g q o e hq] at n; cases n
theorem Pool.off {H : Hp} {p c q : Addr} {o : HO} (h : Pool H p c) (n1 : q ≠ p) (n2 : q ≠ c) : Pool (upd H q o) p c :=
  h.keep (fun u e => by rw [upd_ne n1.symm]; exact e) fun u e => by rw [upd_ne n2.symm]; exact e
theorem Pool.new {p c q : Addr} {H : Hp} {o : HO} (h : Pool H p c) (n : H q = none) : Pool (upd H q o) p c :=
  h.keep (fun u e => by rw [upd_ne (ne_of_none e n)]; exact e) fun u e => by rw [upd_ne (ne_of_none e n)]; exact e

def spPool (K : PySem.W.Frag) : Sp := fun vs H Q _ => ∃ (a : Addr) (ns : List Int), vs = [.ref a] ∧ SqL K H a (ns.map V.int) ∧ ns.length ≤ 63 ∧
  ∀ p c H', Same H H' → H p = none → (c = p ∨ H c = none) → Pool H' p c → Q (.ref p) H'
def spTake : Sp := fun vs H Q _ => ∃ (p c : Addr) (n : Int), vs = [.ref p, .int n] ∧ Pool H p c ∧ 0 < n ∧ n.natAbs < 2 ^ 200 ∧
  ∀ v H', 0 ≤ v → v < n → Gro p H H' → Pool H' p c → Q (.int v) H'
/-- the signs of a base -/
def Sgn (z : Str) : Prop := ∀ s ∈ z.cps.toList, s ∈ ("mnopqrstuvwxyz0123456789" : Str).cps.toList
def spBase (m : Nat) : Sp := fun vs H Q _ => ∃ (p c : Addr), vs = [.ref p] ∧ Pool H p c ∧
  ∀ z H', z.length < m → Sgn z → Gro p H H' → Pool H' p c → Q (.str z) H'
def kSigns : List Nat := ("afkdibglejch" : Str).cps.toList
/-- the name number k: its sign between two texts of the base's signs -/
def NameK (k : Nat) (z : Str) : Prop := z.length ≤ 12 ∧ ∃ (s : Nat) (a b : Str), kSigns[k]? = some s ∧ z = a ++ (⟨#[s]⟩ : Str) ++ b ∧ Sgn a ∧ Sgn b
def spName : Sp := fun vs H Q _ => ∃ (p c : Addr) (b : Str) (k : Nat), vs = [.ref p, .str b, .int k] ∧ Pool H p c ∧ b.length ≤ 11 ∧ Sgn b ∧ k < 12 ∧
  ∀ z H', NameK k z → Gro p H H' → Pool H' p c → Q (.str z) H'

/-- the built-ins that the drawing reads -/
structure Blt (mg : Str → Option Value) : Prop where
  len : mg "len" = none
  int : mg "int" = none
  range : mg "range" = none

section
variable {P : Program} {w : World} {K : PySem.W.Frag} {mg : Str → Option Value} {base : Heap}
theorem get_map {ns : List Int} {i : Nat} {x : V} (h : (ns.map V.int)[i]? = some x) : ∃ z, ns[i]? = some z ∧ x = .int z := by
  rw [List.getElem?_map] at h
  cases e : ns[i]? with
  | none => rw [e] at h; cases h
  | some z => rw [e] at h; exact ⟨z, rfl, (Option.some.inj h).symm⟩
def nPool : List Str := ["_law_script", "_law_cell"]
theorem scPool : FnScope nPool ["_law_script"] (defScope sPool) := ⟨rfl, rfl, rfl, by decide +kernel, rfl, by decide +kernel, by decide +kernel⟩
theorem ok_pool {f : Addr} {fd : FuncData} (F : Fun K "_law_pool" "_law_pool" sPool f fd) (B : Blt mg) : FnOk P w K mg base CX0 1 f fd ["_law_script"] (spPool K) := by
  refine F.ok scPool (fun vs H Q E h => ?_) (fun cdv A outer s H vs Q E hr h => ?_)
  · obtain ⟨a, ns, rfl, _⟩ := h
    rfl
  · obtain ⟨a, ns, rfl, hS, hlen, k⟩ := h
    refine ⟨_, pss_cons (ps_if (pt_cmpR op_eq (pe_callB call_len_seq (by rfl) B.len PySem.boot_len (pa_cons (pv 0) pa_nil)) pe_int (nomark _)) (pss_one (ps_ret (pe_lst (pa_cons pe_int pa_nil)))) pss_nil)
      (pss_cons (ps_if (pt_cmpR op_ge (pe_ix ix_list (pv 0) pe_int (fun _ _ => rfl)) (pe_op op_pow pe_int pe_int) (nomark _))
        (pss_one (ps_ret (pe_lst (pa_cons (pe_op op_sub (pe_ix ix_list (pv 0) pe_int (fun _ _ => rfl)) (pe_op op_pow pe_int pe_int)) pa_nil)))) pss_nil)
      (pss_one (ps_ret (pe_lst (pa_cons pe_int (pa_cons pe_int (pa_cons
        (pe_lc (own := [("_law_cell", 1)]) (g := gName 1) (tt := tYes) rfl scPool.nd (pi_list (pv 0)) (blkOk_by (N := nPool) (sc := defScope sPool) (by decide +kernel))
          (fun _ _ _ _ _ => pg_name (i := 1) scPool.nd rfl (Or.inl rfl)) (fun _ _ _ _ _ => pts_nil)
          (fun _ _ _ _ _ => pe_op op_mod (pe_callTy call_int1 (by rfl) B.int (by decide +kernel) (pa_cons (pv 1) pa_nil)) pe_int)) pa_nil))))))), ?_⟩
    refine ⟨_, rfl, a, _, rfl, .inl hS, rfl, _, rfl, ?_⟩
    rw [List.length_map]
    by_cases h0 : ns.length = 0
    · have e : decide (V.int (ns.length : Int) = V.int 0) = true := decide_eq_true (by rw [h0]; rfl)
      rw [e]
      refine iteT ⟨(by show 1 ≤ sizeLine; decide), fun p hp => ?_⟩
      exact k p p _ (fun b o q => by rw [upd_ne (ne_of_none q hp)]; exact q) hp (.inl rfl) ⟨_, upd_same, .inl ⟨rfl, 0, rfl⟩⟩
    · have e : decide (V.int (ns.length : Int) = V.int 0) = false := decide_eq_false (fun q => h0 (by injection q with q; omega))
      rw [e]
      refine iteF ?_
      obtain ⟨n0, hn0⟩ : ∃ n0, ns[0]? = some n0 := ⟨ns[0], List.getElem?_eq_getElem (by omega)⟩
      have at0 : atI (ns.map V.int) 0 = some (V.int n0) := atI_nat (j := 0) (by rw [List.getElem?_map, hn0]; rfl)
      refine ⟨_, rfl, a, _, 0, _, rfl, rfl, hS, at0, 10, 18, rfl, rfl, ⟨by decide, by decide, by decide⟩, _, _, rfl, rfl, _, rfl, ?_⟩
      refine ite2 (fun _ => ?_) (fun _ => ?_)
      · refine ⟨_, rfl, a, _, 0, _, rfl, rfl, hS, at0, 10, 18, rfl, rfl, ⟨by decide, by decide, by decide⟩, _, _, rfl, rfl, (by show 1 ≤ sizeLine; decide), fun p hp => ?_⟩
        exact k p p _ (fun b o q => by rw [upd_ne (ne_of_none q hp)]; exact q) hp (.inl rfl) ⟨_, upd_same, .inl ⟨rfl, _, rfl⟩⟩
      · refine ⟨_, rfl, a, rfl, ⟨_, hS⟩, fun D hD => ?_⟩
        refine lc_list (K := K) (a := a) (xs := ns.map V.int) (fun i H' => Same H H' ∧ ∃ cs : List Int, H' D = some (.lst (cs.map V.int)) ∧ cs.length = i ∧ ∀ z ∈ cs, 0 ≤ z ∧ z < 65537)
          ⟨fun b o q => by rw [upd_ne (ne_of_none q hD)]; exact q, [], upd_same, rfl, fun z hz => nomatch hz⟩ (fun i H' _ ⟨s5, _⟩ => s5.seq hS) ?_ ?_
        · rintro i x H' hi ⟨s5, cs, hcs, hcl, hb⟩
          obtain ⟨z, hz, rfl⟩ := get_map hi
          have hil : i < ns.length := (List.getElem?_eq_some_iff.mp hz).1
          refine ⟨rfl, _, rfl, .inl ⟨z, rfl, z, 65537, rfl, rfl, (by show (0 : Int) < 65537; decide), cs.map V.int, hcs, small1000 (by rw [List.length_map]; omega), ?_⟩⟩
          refine ⟨fun b o q => ?_, cs ++ [z % 65537], ?_, by rw [List.length_append, hcl]; rfl, fun y hy => ?_⟩
          · have nb : b ≠ D := ne_of_none q hD
            rw [upd_ne nb]
            exact s5 b o q
          · rw [upd_same, List.map_append]
            rfl
          · rcases List.mem_append.mp hy with hy | hy
            · exact hb y hy
            · rw [List.mem_singleton.mp hy]
              exact ⟨Int.emod_nonneg _ (by decide), Int.emod_lt_of_pos _ (by decide)⟩
        · rintro H' ⟨s5, cs, hcs, hcl, hb⟩
          rw [List.length_map] at hcl
          refine ⟨(by show 3 ≤ sizeLine; decide), fun p hp => ?_⟩
          have npD : D ≠ p := ne_of_none hcs hp
          refine k p D _ (fun b o q => ?_) (s5.free hp) (.inr hD) ⟨_, upd_same, .inr ⟨1, 0, cs, rfl, npD, by rw [upd_ne npD]; exact hcs, by omega, by omega, hb, by decide, by decide⟩⟩
          rw [upd_ne (ne_of_none (s5 b o q) hp)]
          exact s5 b o q
end
end Yd
namespace Yd
open PySem L2
section
variable {P : Program} {w : World} {K : PySem.W.Frag} {mg : Str → Option Value} {base : Heap}
theorem scTake : FnScope ["_law_pool_here", "_law_size", "_law_value", "_law_cells"] ["_law_pool_here", "_law_size"] (defScope sTake) := ⟨rfl, rfl, rfl, by decide +kernel, rfl, by decide +kernel, by decide +kernel⟩
theorem at_c {α : Type} {xs : List α} {j : Nat} {v : α} (h : xs[j]? = some v) {z : Int} (e : z = (j : Int)) : atI xs z = some v := by rw [e]; exact atI_nat h
theorem ixN_c {n j : Nat} (h : j < n) {z : Int} (e : z = (j : Int)) : ixN n z = some j := by
  subst e
  unfold ixN
  rw [if_pos (by omega), if_pos (by omega), Int.toNat_natCast]
theorem len_one {xs : List V} {n : Int} (h : xs = [.int n]) : xs.length = 1 := by rw [h]; rfl
/-- what is left of a draw -/
theorem drawn {n v : Int} (h : 0 < n) : 0 ≤ v % n ∧ v % n < n := ⟨Int.emod_nonneg _ (by omega), Int.emod_lt_of_pos _ h⟩
theorem pow7 {x : Int} (h0 : 0 ≤ x) (h1 : x < 65537) : CPow x 7 := by
  refine ⟨by decide, by decide, ?_⟩
  have e : (65537 : Nat) < 2 ^ 64 := by decide
  omega
theorem ok_take {f : Addr} {fd : FuncData} (F : Fun K "_law_take" "_law_take" sTake f fd) (B : Blt mg) : FnOk P w K mg base CX0 1 f fd ["_law_pool_here", "_law_size"] spTake := by
  refine F.ok scTake (fun vs H Q E h => ?_) (fun cdv A outer s H vs Q E hr h => ?_)
  · obtain ⟨p, c, n, rfl, _⟩ := h
    rfl
  · obtain ⟨p, c, n, rfl, ⟨xs, hp, hx⟩, hn, hb, k⟩ := h
    refine ⟨_, pss_cons (ps_if (pt_cmpR op_eq (pe_callB call_len_seq (by rfl) B.len PySem.boot_len (pa_cons (pv 0) pa_nil)) pe_int (nomark _))
        (pss_cons (ps_set (i := 2) scTake.nd rfl (Or.inl rfl) (pe_op op_mod (pe_callTy call_int1 (by rfl) B.int (by decide +kernel) (pa_cons (pe_ix ix_list (pv 0) pe_int (fun _ _ => rfl)) pa_nil)) (pv 1)))
        (pss_cons (ps_asg (pe_op op_fdivW (pe_ix ix_list (pv 0) pe_int (fun _ _ => rfl)) (pv 1)) (pg_sub (pv 0) pe_int set_list))
        (pss_one (ps_ret (pv 2))))) pss_nil)
      (pss_cons (ps_set (i := 3) scTake.nd rfl (Or.inl rfl) (pe_ix ix_list (pv 0) pe_int (fun _ _ => rfl)))
      (pss_cons (ps_asg (pe_op op_mod (pe_callTy call_int1 (by rfl) B.int (by decide +kernel) (pa_cons (pe_op op_add (pe_op op_add (pe_op op_mul (pe_ix ix_list (pv 0) pe_int (fun _ _ => rfl)) pe_int)
          (pe_ix ix_list (pv 3) (pe_op op_mod (pe_callTy call_int1 (by rfl) B.int (by decide +kernel) (pa_cons (pe_ix ix_list (pv 0) pe_int (fun _ _ => rfl)) pa_nil)) (pe_callB call_len_seq (by rfl) B.len PySem.boot_len (pa_cons (pv 3) pa_nil))) (fun _ _ => rfl))) pe_int) pa_nil)) pe_int)
          (pg_sub (pv 0) pe_int set_list))
      (pss_cons (ps_asg (pe_op op_add (pe_ix ix_list (pv 0) pe_int (fun _ _ => rfl)) pe_int) (pg_sub (pv 0) pe_int set_list))
      (pss_cons (ps_if (pt_cmpR op_gt (pv 1) pe_int (nomark _))
        (pss_one (ps_ret (pe_op op_mod (pe_callTy call_int1 (by rfl) B.int (by decide +kernel) (pa_cons (pe_op op_pow (pe_ix ix_list (pv 0) pe_int (fun _ _ => rfl)) pe_int) pa_nil)) (pv 1)))) pss_nil)
      (pss_one (ps_ret (pe_op op_mod (pe_callTy call_int1 (by rfl) B.int (by decide +kernel) (pa_cons (pe_ix ix_list (pv 0) pe_int (fun _ _ => rfl)) pa_nil)) (pv 1)))))))), ?_⟩
    rcases hx with ⟨hcc, m, rfl⟩ | ⟨x, i, cs, rfl, hcp, hc, hl0, hl1, hcs, hx0, hx1⟩
    · refine ⟨_, rfl, p, _, rfl, .inl (SqL.of hp), rfl, _, rfl, ?_⟩
      refine yes (by rfl) ?_
      have a0 : atI [V.int m] 0 = some (V.int m) := at_c (j := 0) rfl rfl
      refine ⟨_, rfl, p, _, 0, _, rfl, rfl, SqL.of hp, a0, .inl ⟨m, rfl, _, rfl, m, n, rfl, rfl, hn, ?_⟩⟩
      refine ⟨_, rfl, p, _, 0, _, rfl, rfl, SqL.of hp, a0, _, rfl, m, n, rfl, rfl, wide_div hn hb (by decide) (by decide), ?_⟩
      refine ⟨_, rfl, p, _, 0, 0, rfl, rfl, hp, ixN_c (by show 0 < 1; omega) rfl, ?_⟩
      refine ⟨_, rfl, ?_⟩
      exact k _ _ (drawn hn).1 (drawn hn).2 .own ⟨_, upd_same, .inl ⟨hcc, _, rfl⟩⟩
    · refine ⟨_, rfl, p, _, rfl, .inl (SqL.of hp), rfl, _, rfl, ?_⟩
      refine no (by rfl) ?_
      have hn0 : 0 < ((cs.map V.int).length : Int) := by rw [List.length_map]; omega
      obtain ⟨z, hz⟩ : ∃ z, atI (cs.map V.int) (i % ((cs.map V.int).length : Int)) = some (V.int z) := by
        have d := drawn (v := i) hn0
        obtain ⟨j, ej⟩ : ∃ j : Nat, i % ((cs.map V.int).length : Int) = (j : Int) := ⟨(i % ((cs.map V.int).length : Int)).toNat, by omega⟩
        have hj : j < cs.length := by rw [List.length_map] at d ej; omega
        exact ⟨cs[j], at_c (j := j) (by rw [List.getElem?_map, List.getElem?_eq_getElem hj]; rfl) ej⟩
      refine ⟨_, rfl, p, _, 2, _, rfl, rfl, SqL.of hp, at_c (j := 2) rfl rfl, ?_⟩
      refine ⟨_, rfl, p, _, 0, _, rfl, rfl, SqL.of hp, at_c (j := 0) rfl rfl, x, 75, rfl, rfl, .inl ⟨by omega, by omega⟩, ?_⟩
      refine ⟨_, rfl, _, rfl, p, _, 1, _, rfl, rfl, SqL.of hp, at_c (j := 1) rfl rfl, .inl ⟨i, rfl, ?_⟩⟩
      refine ⟨_, rfl, c, _, rfl, .inl (SqL.of hc), i, _, rfl, rfl, hn0, ?_⟩
      refine ⟨c, _, _, _, rfl, rfl, SqL.of hc, hz, _, _, rfl, rfl, _, 74, rfl, rfl, .inl ⟨_, rfl, _, 65537, rfl, rfl, (by show (0 : Int) < 65537; decide), ?_⟩⟩
      refine ⟨_, rfl, p, _, 0, 0, rfl, rfl, hp, ixN_c (by show 0 < 3; omega) rfl, ?_⟩
      have d2 := drawn (n := 65537) (v := x * 75 + z + 74) (by decide)
      refine ⟨_, rfl, p, _, 1, _, rfl, rfl, SqL.of upd_same, at_c (j := 1) rfl rfl, _, 1, rfl, rfl, ?_⟩
      refine ⟨_, rfl, p, _, 1, 1, rfl, rfl, upd_same, ixN_c (by show 1 < 3; omega) rfl, ?_⟩
      rw [upd_upd]
      have hP : Pool (upd H p (.lst [V.int ((x * 75 + z + 74) % 65537), V.int (i + 1), V.ref c])) p c :=
        ⟨_, upd_same, .inr ⟨_, _, cs, rfl, hcp, by rw [upd_ne hcp]; exact hc, hl0, hl1, hcs, d2.1, d2.2⟩⟩
      refine ⟨_, rfl, n, 60000, rfl, rfl, _, rfl, ?_⟩
      refine ite2 (fun _ => ?_) (fun _ => ?_)
      · refine ⟨_, rfl, p, _, 0, _, rfl, rfl, SqL.of upd_same, at_c (j := 0) rfl rfl, _, 7, rfl, rfl, pow7 d2.1 d2.2, .inl ⟨_, rfl, _, rfl, _, n, rfl, rfl, hn, ?_⟩⟩
        exact k _ _ (drawn hn).1 (drawn hn).2 .own hP
      · refine ⟨_, rfl, p, _, 0, _, rfl, rfl, SqL.of upd_same, at_c (j := 0) rfl rfl, .inl ⟨_, rfl, _, rfl, _, n, rfl, rfl, hn, ?_⟩⟩
        exact k _ _ (drawn hn).1 (drawn hn).2 .own hP
end
end Yd
namespace Yd
open PySem L2
/-! ### the base and the names -/
theorem Sgn.nil : Sgn "" := fun s h => by have e : ("" : Str).cps.toList = [] := by decide +kernel
                                          rw [e] at h; cases h
theorem Sgn.app {a b : Str} (x : Sgn a) (y : Sgn b) : Sgn (a ++ b) := fun s h => by
  have e : (a ++ b).cps.toList = a.cps.toList ++ b.cps.toList := by show (a.cps ++ b.cps).toList = _; rw [Array.toList_append]
  rw [e] at h
  exact (List.mem_append.mp h).elim (x s) (y s)
theorem Sgn.cut {z : Str} (x : Sgn z) (lo hi : Option Int) : Sgn (cutS z lo hi) := fun s h => by
  have h : s ∈ ((z.cps.toList.drop (HT.sIx z.length 0 lo)).take (HT.sIx z.length z.length hi - HT.sIx z.length 0 lo)) := by simpa [cutS] using h
  exact x s (List.mem_of_mem_drop (List.mem_of_mem_take h))
theorem Sgn.one {c : Nat} (h : c ∈ ("mnopqrstuvwxyz0123456789" : Str).cps.toList) : Sgn ⟨#[c]⟩ := fun s hs => by
  have e : s = c := by simpa using hs
  rw [e]; exact h
theorem len_app (a b : Str) : (a ++ b).length = a.length + b.length := by show (a.cps ++ b.cps).size = _; rw [Array.size_append]; rfl
theorem join_ok : ∀ ys : List Str, (∀ y ∈ ys, Sgn y ∧ y.length = 1) → Sgn (Txt.join "" ys) ∧ (Txt.join "" ys).length = ys.length
  | [], _ => ⟨Sgn.nil, by decide +kernel⟩
  | [y], h => h y (List.mem_singleton.mpr rfl)
  | y :: z :: r, h => by
    have ih := join_ok (z :: r) fun q hq => h q (List.mem_cons_of_mem _ hq)
    have h0 := h y (List.mem_cons_self ..)
    have e0 : ("" : Str).length = 0 := by decide +kernel
    have e : Txt.join "" (y :: z :: r) = y ++ "" ++ Txt.join "" (z :: r) := by
      show Builtin.Str.glued "" (y :: z :: r) = y ++ "" ++ Builtin.Str.glued "" (z :: r)
      rw [StrLaws.glued_eq_join, StrLaws.glued_eq_join]
      rfl
    rw [e]
    refine ⟨(h0.1.app Sgn.nil).app ih.1, ?_⟩
    rw [len_app, len_app, ih.2, h0.2, e0, List.length_cons (a := y)]
    omega
theorem sum_ones : ∀ {ys : List Str}, (∀ y ∈ ys, Sgn y ∧ y.length = 1) → (ys.map (·.length)).sum = ys.length
  | [], _ => rfl
  | y :: r, h => by
    have ih := sum_ones (ys := r) fun q hq => h q (List.mem_cons_of_mem _ hq)
    rw [List.map_cons, List.sum_cons, ih, (h y (List.mem_cons_self ..)).2, List.length_cons]
    omega
structure Fn (K : PySem.W.Frag) (mg : Str → Option Value) (x : Str) (st : Stmt) (ps : List Str) (f : Addr) (fd : FuncData) : Prop where
  F : Fun K x x st f fd
  g : mg x = some (.ref f)
  b : Binds K fd ps []
section
variable {P : Program} {w : World} {K : PySem.W.Frag} {mg : Str → Option Value} {base : Heap}
def nBase : List Str := ["_law_pool_here", "_law_signs", "_law_k"]
theorem scBase : FnScope nBase ["_law_pool_here"] (defScope sBase) := ⟨rfl, rfl, rfl, by decide +kernel, rfl, by decide +kernel, by decide +kernel⟩
theorem sgn_at {v : Int} (h0 : 0 ≤ v) (h1 : v < 24) : ∃ c, atI ("mnopqrstuvwxyz0123456789" : Str).cps.toList v = some c ∧ c ∈ ("mnopqrstuvwxyz0123456789" : Str).cps.toList := by
  have hl : ("mnopqrstuvwxyz0123456789" : Str).cps.toList.length = 24 := by decide +kernel
  have hj : v.toNat < ("mnopqrstuvwxyz0123456789" : Str).cps.toList.length := by omega
  exact ⟨_, at_c (j := v.toNat) (z := v) (List.getElem?_eq_getElem hj) (by omega), List.getElem_mem hj⟩
theorem ok_base {f fT : Addr} {fd fdT : FuncData} (F : Fun K "_law_base" "_law_base" sBase f fd) (B : Blt mg) (T : Fn K mg "_law_take" sTake ["_law_pool_here", "_law_size"] fT fdT) : FnOk P w K mg base CX0 2 f fd ["_law_pool_here"] (spBase 12) := by
  have GT : FnOk P w K mg base CX0 1 fT fdT ["_law_pool_here", "_law_size"] spTake := ok_take T.F B
  refine F.ok scBase (fun vs H Q E h => ?_) (fun cdv A outer s H vs Q E hr h => ?_)
  · obtain ⟨p, c, rfl, _⟩ := h
    rfl
  · obtain ⟨p, c, rfl, hP, k⟩ := h
    refine ⟨_, pss_cons (ps_set (i := 1) scBase.nd rfl (Or.inr rfl) pe_str)
      (pss_one (ps_ret (pe_join pe_str (pe_lc (own := [("_law_k", 2)]) (g := gName 2) (tt := tYes) rfl scBase.nd
        (pi_range1 rfl B.range (pa_cons (pe_call GT hr rfl T.g T.F.kp T.b .nil pass0 (pa_cons (pv 0) (pa_cons pe_int pa_nil))) pa_nil))
        (blkOk_by (N := nBase) (sc := defScope sBase) (by decide +kernel))
        (fun _ _ _ _ _ => pg_name (i := 2) scBase.nd rfl (Or.inl rfl)) (fun _ _ _ _ _ => pts_nil)
        (fun _ _ _ _ _ => pe_ix ix_str (pv 1) (pe_call GT hr rfl T.g T.F.kp T.b .nil pass0 (pa_cons (pv 0) (pa_cons pe_int pa_nil))) (fun _ _ => rfl)))))), ?_⟩
    refine ⟨⟨_, rfl⟩, _, rfl, p, c, 12, rfl, hP, by decide, by decide, fun n H1 n0 n1 g1 P1 => ⟨n, rfl, by omega, by omega, fun D hD => ?_⟩⟩
    obtain ⟨nDp, nDc⟩ := P1.ne hD
    refine lc_range (lo := 0) (n := n.toNat) (fun i H' => Gro p H H' ∧ Pool H' p c ∧ ∃ ys : List Str, H' D = some (.lst (ys.map V.str)) ∧ ys.length = i ∧ ∀ y ∈ ys, Sgn y ∧ y.length = 1)
      ⟨g1.trans (.new hD), P1.new hD, [], upd_same, rfl, fun y hy => nomatch hy⟩ ?_ ?_
    · rintro i H' hi ⟨g5, P5, ys, hys, hyl, hb⟩
      refine ⟨rfl, _, rfl, _, rfl, p, c, 24, rfl, P5, by decide, by decide, fun v H6 v0 v1 g6 P6 => ?_⟩
      obtain ⟨ch, hch, hm⟩ := sgn_at v0 v1
      have h6 : H6 D = some (.lst (ys.map V.str)) := g6 D _ hys nDp
      refine ⟨_, v, ch, rfl, rfl, (by decide +kernel), hch, ys.map V.str, h6, small1000 (by rw [List.length_map]; omega), ?_⟩
      refine ⟨fun b o q hb' => ?_, P6.off nDp nDc, ys ++ [⟨#[ch]⟩], ?_, by rw [List.length_append, hyl]; rfl, fun y hy => ?_⟩
      · rw [upd_ne (ne_of_none (g1 b o q hb') hD)]
        exact g6 b o (g5 b o q hb') hb'
      · rw [upd_same, List.map_append]
        rfl
      · rcases List.mem_append.mp hy with hy | hy
        · exact hb y hy
        · rw [List.mem_singleton.mp hy]
          exact ⟨Sgn.one hm, rfl⟩
    · rintro H' ⟨g5, P5, ys, hys, hyl, hb⟩
      have j := join_ok ys hb
      refine ⟨_, D, ys, rfl, rfl, .inl (SqL.of hys), ?_, ?_⟩
      · have e0 : ("" : Str).length = 0 := by decide +kernel
        rw [sum_ones hb, e0]
        omega
      · exact k _ _ (by rw [j.2]; omega) j.1 g5 P5
def nName : List Str := ["_law_pool_here", "_law_base_here", "_law_k", "_law_text", "_law_at"]
theorem scName : FnScope nName ["_law_pool_here", "_law_base_here", "_law_k"] (defScope sName) := ⟨rfl, rfl, rfl, by decide +kernel, rfl, by decide +kernel, by decide +kernel⟩
theorem small16 {n : Nat} (h : n ≤ 16) : n ≤ sizeLine := Nat.le_trans h (by decide)
theorem ok_name {f fT : Addr} {fd fdT : FuncData} (F : Fun K "_law_name" "_law_name" sName f fd) (B : Blt mg) (T : Fn K mg "_law_take" sTake ["_law_pool_here", "_law_size"] fT fdT) : FnOk P w K mg base CX0 2 f fd ["_law_pool_here", "_law_base_here", "_law_k"] spName := by
  have GT : FnOk P w K mg base CX0 1 fT fdT ["_law_pool_here", "_law_size"] spTake := ok_take T.F B
  refine F.ok scName (fun vs H Q E h => ?_) (fun cdv A outer s H vs Q E hr h => ?_)
  · obtain ⟨p, c, b, k, rfl, _⟩ := h
    rfl
  · obtain ⟨p, c, b, kk, rfl, hP, hb, hsb, hk, k⟩ := h
    refine ⟨_, pss_cons (ps_set (i := 3) scName.nd rfl (Or.inl rfl) (pe_slice sl_str (pv 1) po_none (po_some (pe_call GT hr rfl T.g T.F.kp T.b .nil pass0 (pa_cons (pv 0) (pa_cons (pe_op op_add (pe_callB call_len_str (by rfl) B.len PySem.boot_len (pa_cons (pv 1) pa_nil)) pe_int) pa_nil))))))
      (pss_cons (ps_set (i := 4) scName.nd rfl (Or.inl rfl) (pe_call GT hr rfl T.g T.F.kp T.b .nil pass0 (pa_cons (pv 0) (pa_cons (pe_op op_add (pe_callB call_len_str (by rfl) B.len PySem.boot_len (pa_cons (pv 3) pa_nil)) pe_int) pa_nil))))
      (pss_one (ps_ret (pe_op op_add_str (pe_op op_add_str (pe_slice sl_str (pv 3) po_none (po_some (pv 4))) (pe_ix ix_str pe_str (pv 2) (fun _ _ => rfl))) (pe_slice sl_str (pv 3) (po_some (pv 4)) po_none))))), ?_⟩
    have n20 : ∀ n : Nat, n ≤ 11 → ((n : Int) + 1).natAbs < 2 ^ 200 := fun n h => Nat.lt_of_le_of_lt (m := 12) (by omega) (by decide)
    refine ⟨_, rfl, _, rfl, _, rfl, b, rfl, small16 (by omega), _, 1, rfl, rfl, p, c, _, rfl, hP, by omega, n20 _ hb, fun v H1 v0 v1 g1 P1 => ⟨v, rfl, b, rfl, small16 (by omega), ?_⟩⟩
    generalize hz : cutS b none (some v) = z
    have hzl : z.length ≤ 11 := by rw [← hz]; exact Nat.le_trans (cutS_length _ _ _) hb
    have hzs : Sgn z := by rw [← hz]; exact hsb.cut _ _
    refine ⟨_, rfl, _, rfl, z, rfl, small16 (by omega), _, 1, rfl, rfl, p, c, _, rfl, P1, by omega, n20 _ hzl, fun u H2 u0 u1 g2 P2 => ?_⟩
    obtain ⟨sg, hsg⟩ : ∃ sg, ("afkdibglejch" : Str).cps.toList[kk]? = some sg := ⟨_, List.getElem?_eq_getElem (by have : ("afkdibglejch" : Str).cps.toList.length = 12 := by decide +kernel
                                                                                                                  omega)⟩
    have l1 := cutS_length z none (some u)
    have l2 := cutS_length z (some u) none
    have lt : (cutS z none (some u)).length + (cutS z (some u) none).length ≤ z.length := by
      obtain ⟨j, rfl⟩ : ∃ j : Nat, u = (j : Int) := ⟨u.toNat, by omega⟩
      have e1 : ∀ lo hi, (cutS z lo hi).length = min (HT.sIx z.length z.length hi - HT.sIx z.length 0 lo) (z.length - HT.sIx z.length 0 lo) := fun lo hi => by
        show (((z.cps.toList.drop (HT.sIx z.length 0 lo)).take (HT.sIx z.length z.length hi - HT.sIx z.length 0 lo)).toArray).size = _
        rw [List.size_toArray, List.length_take, List.length_drop, Array.length_toList]
        rfl
      simp only [e1, HT.sIx_none, HT.sIx_nat]
      omega
    have o1 : (⟨#[sg]⟩ : Str).length = 1 := rfl
    refine ⟨_, rfl, _, rfl, u, rfl, z, rfl, small16 (by omega), _, rfl, _, kk, sg, rfl, rfl, (by decide +kernel), at_c (j := kk) hsg rfl, _, _, rfl, rfl, small16 (by omega), ?_⟩
    refine ⟨_, rfl, _, rfl, u, rfl, z, rfl, small16 (by omega), _, _, rfl, rfl, small16 (by rw [len_app]; omega), ?_⟩
    exact k _ _ ⟨by rw [len_app, len_app]; omega, sg, _, _, hsg, rfl, hzs.cut _ _, hzs.cut _ _⟩ (g1.trans g2) P2
end
end Yd
namespace Yd
open PySem L2
/-! ### a def that begins with super().__init__(text): how the errors of the program are made -/
/-- such a def as it stands behind the top: D its class, cc the cell that holds D -/
structure SupFn (P : Program) (K : PySem.W.Frag) (mg : Str → Option Value) (x qual : Str) (st : Stmt) (f D cc : Addr) (fd : FuncData) : Prop where
  fn : ∃ (oc : Value) (od : Option Addr) (kV doc pm : Value) (an : Option Addr) (cda : Addr) (ct : Value) (osl : Array (Option Value)) (ccl : Value) (cdd : Option Addr) (vs : Array Value) (ccs : Array (Option Value)) (file : Str) (tf : Tok),
    fd = PySem.W.fnX x qual (defArgs st) (defBody st) (defScope st) [("__class__", cc)] .none kV doc pm an (.ref cda) ct ∧ K.lookup f = some ⟨oc, od, .func fd, osl⟩ ∧ PySem.W.codeIn K (.ref cda) qual = true ∧
    K.lookup cda = some ⟨ccl, cdd, .fields vs, ccs⟩ ∧ vs[2]? = some (.str file tf) ∧ ((P.main.file : Str) == file) = true
  cell : ∃ (cl : Value) (cld : Option Addr) (csl : Array (Option Value)), K.lookup cc = some ⟨cl, cld, .cell (some (.ref D)), csl⟩
  cd : ∃ cdD, PySem.W.clsIn K D = some cdD
  sup : mg "super" = none
  top : (P.main.scope.names.lookup ("super" : Str)).isSome = false
  any : PySem.W.nsIn K PySem.cStatics "thirdparty.any" = some none
/-- the class at C of the object, seen from a def of the class at D -/
structure SupC (K : PySem.W.Frag) (C D : Addr) : Prop where
  ox : OexC K C
  over : PySem.W.ks_superIn K C D "__init__" = some (some (.builtin "ValueError.__init__"))
  sub : PySem.W.subIn K (.ref C) (.type "ValueError") = some true
  mro : PySem.W.mroIn K C (.ref D) = some true
section
open PySem.W PySem.Calls
variable {X : Cx} {pins : List (Addr × Obj)} {σ : St} {H : Hp} {s : Shared} {a C D f cc cda : Addr} {E : Value → Shared → Prop}
theorem inst_exo {hh : Heap} {t1 : Addr} (h : hh.get? a = some (PySem.HandSPX.excO C t1)) : InstAt hh a (PySem.HandSPX.excO C t1) C none := ⟨h, rfl, rfl, trivial⟩
/-- super(), ahead of its attribute -/
theorem sup_base {qual : Str} {scope : Scope} {L : Addr} {fd : FuncData} {of oc : Obj} {ar : Arg} {vs : Array Value} {file : Str} {tf : Tok} {body : List Stmt} {p0 p1 : Pos} {attr : Str} {whole : Sem Value} {ox : Obj} {odx : Option Obj} {ocl : Obj}
    (I : Inv X pins σ H s) (hE : X.env = envX qual scope L f (.ref cda) [("__class__", cc)]) (hks : scope.names.lookup ("super" : Str) = some .globalImplicit) (hkc : scope.names.lookup ("__class__" : Str) = some .free)
    (hat : (attr == ("__class__" : Str)) = false) (hf : X.K.lookup f = some of) (hfd : of.data = .func fd) (hp : (fd.params.posonlyargs ++ fd.params.args).head? = some ar) (hself : X.N[0]? = some ar.arg) (hloc : scope.names.lookup ar.arg = some .local)
    (hv : σ[0]? = some (some (.ref a))) (hco : X.K.lookup cda = some oc) (hoc : oc.data = .fields vs) (hvs : vs[2]? = some (.str file tf)) (hfile : ((X.prog.main.file : Str) == file) = true)
    (htop : (X.prog.main.scope.names.lookup ("super" : Str)).isSome = false) (hmg : X.mg "super" = none) (hcell : X.K.lookup cc = some ocl) (hcd : ocl.data = .cell (some (.ref D))) (hD : ∃ cdD, clsIn X.K D = some cdD)
    (J : InstAt s.heap a ox C odx) (hm : mroIn X.K C (.ref D) = some true) :
    PySem.wpAt (model X.prog X.w) X.A (.func body X.env) (attributeBase (.Call (.Name "super" p0) [] [] p1) attr X.env whole)
      (fun v s' => ∃ so, v = .ref so ∧ s'.heap.get? so = some (ks_superObj D a C) ∧ (∀ b o, s.heap.get? b = some o → s'.heap.get? b = some o) ∧ Inv X pins σ H s') E s := by
  have KI := I.kIn
  have hkind : scope.kind = .function := by have z := I.ok.kind; rw [hE] at z; exact z
  have hglob : X.env.globals = mainGlobals := I.ok.glob
  obtain ⟨mb, hb1, hb2⟩ := I.mod.blt
  have hbl : s.heap.Ns builtinsNs mb := hb1.keeps I.bk
  have hgl : s.heap.Ns mainGlobals X.mg := I.mod.glob.keeps I.bk
  obtain ⟨m, hns, hlk⟩ := id I.loc
  have vis : Vis X.env.scope ar.arg := by rw [hE]; exact .inl hloc
  obtain ⟨u, hru, hlook⟩ := hlk 0 ar.arg (.ref a) hself hv vis
  have hu : u = Value.ref a := hru
  subst hu
  have hma : m ar.arg = some (.ref a) := by
    rcases hlook with ⟨_, z⟩ | ⟨k, _⟩
    · exact z
    · rw [hE] at k
      have k' : scope.names.lookup ar.arg = some .cell ∨ scope.names.lookup ar.arg = some .free := k
      rw [hloc] at k'
      rcases k' with k' | k' <;> cases k'
  obtain ⟨cdD, hcdD⟩ := hD
  obtain ⟨oD, hD1, hD2⟩ : ∃ oD, s.heap.get? D = some oD ∧ oD.data = .cls cdD := by
    unfold clsIn at hcdD
    split at hcdD
    · rename_i q1 q2 q3 q4 hq
      cases hcdD
      exact ⟨_, KI _ _ hq, rfl⟩
    · cases hcdD
  have hlocals : X.env.locals = L := by rw [hE]
  rw [hlocals] at hns
  have hK : ∀ {b o}, X.K.lookup b = some o → s.heap.get? b = some o := fun {b o} e => KI b o e
  have keep : ∀ h', (∀ b o, s.heap.get? b = some o → h'.get? b = some o) → Inv X pins σ H { s with heap := h' } := fun h' k => I.kept (t' := s.toks) k
  rw [hE]
  obtain ⟨hh, g, d, t, os⟩ := s
  refine ks_wpAt_super_base (env := envX qual scope L f (.ref cda) [("__class__", cc)]) hks hkc hat rfl (hK hf) hfd hp rfl (hK hco) hoc hvs hfile htop ?_
  refine ks_loadName_global hkind hks (loadGlobal_builtin (env := envX qual scope L f (.ref cda) [("__class__", cc)]) hgl hmg hbl ((hb2 _ (by decide +kernel)).trans (by decide +kernel)) ⟨rfl, ?_⟩)
  refine wpAny_loadName_free hkind hkc rfl ⟨_, hK hcell, hcd⟩ ?_
  refine wpAny_loadName_local hkind hloc hns hma ?_
  refine ks_wpAny_isType_cls hD1 hD2 ⟨rfl, ?_⟩
  refine ks_wpAny_call_super hD1 hD2 J.at_ J.cls (fun c e => ?_) (looks_mroIn KI hm) fun h' e k => ⟨_, rfl, e, k, keep h' k⟩
  have z := J.no
  unfold notCls at z
  rw [e] at z
  exact Bool.noConfusion z
end
end Yd
namespace Yd
open PySem L2
section
open PySem.W PySem.Calls
variable {X : Cx} {pins : List (Addr × Obj)} {σ : St} {H : Hp} {s : Shared} {a C D f cc cda u : Addr} {E : Value → Shared → Prop}
/-- a record of ours is pinned -/
theorem pin_new (I : Inv X pins σ H s) {o : Obj} (hu : s.heap.get? u = some o) (hn : H u = none) (hL : u ≠ X.env.locals) (hf : u ∉ X.fs) (hd : ∀ v, o.data ≠ .cell v) : Inv X ((u, o) :: pins) σ H s :=
  I.pins_of fun p hp => by
    rcases List.mem_cons.mp hp with rfl | hp
    · exact ⟨hu, hn, hL, hf, hd⟩
    · exact I.pin p (List.mem_append_right _ hp)
theorem pin_off {o : Obj} (I : Inv X ((u, o) :: pins) σ H s) : Inv X pins σ H s := I.pins_of fun p hp => I.pin p (List.mem_append_right _ (List.mem_cons_of_mem _ hp))
theorem mw_nocell {i : String} {x : Addr} : ∀ v, (kxs_mw i x).data ≠ .cell v := fun _ z => by cases z
/-- the bound ValueError.__init__ runs -/
theorem mw_run {us : List Value} {Q : Value → Shared → Prop} (T : OexC X.K C) (I : Inv X pins σ H s) (e : H a = some (exo a C none)) (hu : s.heap.get? u = some (kxs_mw "ValueError.__init__" a)) (hl : us.length ≤ sizeLine)
    (h : ∀ s', Inv X pins σ H s' → Q .none s') : wpAny (model X.prog X.w) X.A (call (.ref u) us) Q E s := by
  obtain ⟨nm, q, N, bs, bm, sn, sub, ab, col, dd, k0, k1, k2, k3, k5, hC, hbm⟩ := T.cls
  obtain ⟨t1, ho⟩ := exo_at I.hok e
  obtain ⟨hp, g, d, t, os⟩ := s
  have hTy : ∀ n : String, n = "method-wrapper" → (Value.type n == Value.type "method" || Value.type n == Value.type "builtin_function_or_method" || Value.type n == Value.type "method-wrapper") = true := fun n hn => by subst hn; decide
  refine wpAny_call (codeAny_of_tree (?_ : wpAny _ X.A.in1 (callAny (.ref u) ⟨us, []⟩) _ _ _))
  simp only [callAny]
  refine wpAny_bind (wpAny_load hu ?_)
  simp only [kxs_mw, hTy "method-wrapper" rfl, if_true]
  refine KFB.if_so (by decide) (wpAny_bind (check_bound_init F.excBase_ValueError.toExcCallFacts (I.kIn _ _ hC) ho rfl (wpAny_bind (wpAny_pure (wpAny_pure ?_)))))
  refine ⟨plainId_quiet F.excBase_ValueError.init.plain _, codeAny_builtin F.excBase_ValueError.initEntry ?_⟩
  refine exc_init_tree (cls := .ref C) (t0 := t1) (dv := none) (c2 := .none) (c3 := .none) (b4 := .bool false) ho hl fun h' k hx _ => ?_
  have same : upd H a (exo a C none) = H := funext fun b => by
    by_cases hb : b = a
    · rw [hb, upd_same, e]
    · exact upd_ne hb
  have J := I.write (t' := t) (x := a) (e := a) (o := exo a C none) (by rw [e]; exact True.intro) (.inl rfl) k ⟨_, hx⟩ (exo_ok hx)
  rw [same] at J
  exact h _ J
end
end Yd
namespace Yd
open PySem L2
section
open PySem.W PySem.Calls
variable {X : Cx} {pins : List (Addr × Obj)} {σ : St} {H : Hp} {s : Shared} {a C D f cc cda u : Addr} {E : Value → Shared → Prop}
/-- super().__init__(e), the whole statement, where the def's own code runs -/
theorem sup_stmt {qual : Str} {scope : Scope} {L : Addr} {fd : FuncData} {of oc : Obj} {ar : Arg} {vs : Array Value} {file : Str} {tf : Tok} {body : List Stmt} {p0 p1 p2 p3 p4 : Pos} {ocl : Obj} {e : Expr} {te : TE} {Q : Hp → Prop} {pl : Sem Bool}
    (I : Inv X pins σ H s) (hE : X.env = envX qual scope L f (.ref cda) [("__class__", cc)]) (hks : scope.names.lookup ("super" : Str) = some .globalImplicit) (hkc : scope.names.lookup ("__class__" : Str) = some .free)
    (hf : X.K.lookup f = some of) (hfd : of.data = .func fd) (hp : (fd.params.posonlyargs ++ fd.params.args).head? = some ar) (hself : X.N[0]? = some ar.arg) (hloc : scope.names.lookup ar.arg = some .local)
    (hv : σ[0]? = some (some (.ref a))) (hco : X.K.lookup cda = some oc) (hoc : oc.data = .fields vs) (hvs : vs[2]? = some (.str file tf)) (hfile : ((X.prog.main.file : Str) == file) = true)
    (htop : (X.prog.main.scope.names.lookup ("super" : Str)).isSome = false) (hmg : X.mg "super" = none) (hcell : X.K.lookup cc = some ocl) (hcd : ocl.data = .cell (some (.ref D))) (hD : ∃ cdD, clsIn X.K D = some cdD)
    (hany : nsIn X.K cStatics "thirdparty.any" = some none) (S : SupC X.K C D) (he : PE X e te) (ha : H a = some (exo a C none)) (hq : te σ H fun _ H1 => H1 a = some (exo a C none) ∧ Q H1)
    (hi : interactive X.env = false := by rfl) (hsw : swapsWith (.Call (.Attribute (.Call (.Name "super" p0) [] [] p1) "__init__" p2) [e] [] p3) none p4.line X.env = pure false := by rfl)
    (hst : starEach [e] X.env = (false, eval e X.env) :: starEach [] X.env := by rfl)
    (hc : eval (.Call (.Attribute (.Call (.Name "super" p0) [] [] p1) "__init__" p2) [e] [] p3) X.env = (do
      let ov ← attributeBase (.Call (.Name "super" p0) [] [] p1) "__init__" X.env (eval (.Call (.Name "super" p0) [] [] p1) X.env)
      standAt p2.atName
      let (f, first) ← holding [ov] (getMethod ov "__init__" pl)
      callWith p3 f first (backTo p3 (starEach [e] X.env)) []) := by rfl) :
    PySem.wpAt (model X.prog X.w) X.A (.func body X.env) (exec (.Expr (.Call (.Attribute (.Call (.Name "super" p0) [] [] p1) "__init__" p2) [e] [] p3) p4) X.env)
      (fun fl s' => fl = .next ∧ ∃ H', Inv X pins σ H' s' ∧ Q H') X.xe s := by
  obtain ⟨t1, ho⟩ := exo_at I.hok ha
  refine ks_wpAt_Expr_any ?_ hi hsw
  refine ks_wpAt_MethodCall ?_ hc
  · refine ks_wpAt_mono (sup_base I hE hks hkc (by decide) hf hfd hp hself hloc hv hco hoc hvs hfile htop hmg hcell hcd hD (inst_exo ho) S.mro) (fun v s1 hh => ?_) fun _ _ z => z
    obtain ⟨so, rfl, hso, k1, I1⟩ := hh
    obtain ⟨t2, ho1⟩ := exo_at I1.hok ha
    have KI := I1.kIn
    have hcls : ∃ cd, clsIn X.K C = some cd ∧ alongIn X.K "__init__" ((cd.mro.dropWhile (· != .ref D)).drop 1) = some (some (.builtin "ValueError.__init__")) := by
      have z := S.over
      unfold ks_superIn at z
      cases q : clsIn X.K C with
      | none => rw [q] at z; cases z
      | some cd => rw [q] at z; exact ⟨cd, rfl, z⟩
    obtain ⟨cd, hcdC, hal⟩ := hcls
    have hI : Looks (model X.prog X.w) s1.heap (isInstance (.ref a) (.type "ValueError")) true := (inst_exo ho1).type.andThen (looks_subIn KI S.sub)
    have hmro : Looks (model X.prog X.w) s1.heap (mroOf (.ref C)) cd.mro := fun A' Q' E' s' k q => wpAny_bind ((looks_clsIn KI hcdC) A' _ E' s' k (wpAny_pure q))
    have hne : a ≠ C := ks_ne KI (inst_exo ho1) hcdC
    obtain ⟨hp1, g, d, t, os⟩ := s1
    refine kxs_getMethod kxs_ValueError hso (looks_opaque KI hany) hmro rfl KI hal hI hne (by decide) ?_
    -- the bound method is a new record
    have hnew : H hp1.objs.size = none := I1.hok.fresh (Nat.le_refl _)
    have I2 : Inv X pins σ H ⟨hp1.push (kxs_mw "ValueError.__init__" a), g, d, t + 1, os⟩ := I1.kept (t' := t + 1) fun b o q => Heap.get?_push_of_some _ q
    have hL : hp1.objs.size ≠ X.env.locals := (Nat.ne_of_lt I1.lt).symm
    have I3 := pin_new (o := kxs_mw "ValueError.__init__" a) I2 (Heap.get?_push_at rfl rfl) hnew hL (I1.nofs (Nat.le_refl _)) mw_nocell
    have hplain : ((false, eval e X.env) :: backTo p3 (starEach [] X.env)).any (·.1) = false := by rfl
    rw [hst]
    refine kxs_callWith (i := "ValueError.__init__") (x := a) hplain (evalArgs_plain ?_)
    refine spliced_cons (thn (he.run _ _ σ H _ I3 hq) fun v s2 ⟨x, H2, I4, _, ha2, q2⟩ => ?_)
    refine spliced_nil ⟨(I4.pin _ (List.mem_append_right _ (List.mem_cons_self ..))).1, ?_⟩
    exact mw_run S.ox I4 ha2 (I4.pin _ (List.mem_append_right _ (List.mem_cons_self ..))).1 (by show 1 ≤ sizeLine; decide) fun s' J => ⟨rfl, H2, pin_off J, q2⟩
/-- the names of such a def: the parameters, then __class__ -/
structure SupScope (N ps : List Str) (sc : Scope) : Prop where
  ns : NdefX.NScope N ps ["__class__"] sc
  sup : sc.names.lookup ("super" : Str) = some .globalImplicit
/-- THE RULE for a def that begins so: its text, and what is behind it -/
theorem fn_sup {P : Program} {w : World} {K : Frag} {mg : Str → Option Value} {base : Heap} {CX : CXT} {x qual : Str} {st : Stmt} {fd : FuncData} {N ps : List Str} {k : Nat} {sp : Sp} {ar : Arg} {e : Expr} {rest : List Stmt} {p0 p1 p2 p3 p4 : Pos} {pl : Sem Bool}
    (F : SupFn P K mg x qual st f D cc fd) (S : SupScope N ps (defScope st)) (hp : ((defArgs st).posonlyargs ++ (defArgs st).args).head? = some ar) (hself : N[0]? = some ar.arg) (hloc : (defScope st).names.lookup ar.arg = some .local)
    (hb : defBody st = .Expr (.Call (.Attribute (.Call (.Name "super" p0) [] [] p1) "__init__" p2) [e] [] p3) p4 :: rest) (len : ∀ vs H Q E, sp vs H Q E → vs.length = ps.length)
    (hsw : ∀ env : Env, env.scope = defScope st → swapsWith (.Call (.Attribute (.Call (.Name "super" p0) [] [] p1) "__init__" p2) [e] [] p3) none p4.line env = pure false)
    (hst : ∀ env, starEach [e] env = (false, eval e env) :: starEach [] env)
    (hc : ∀ env, eval (.Call (.Attribute (.Call (.Name "super" p0) [] [] p1) "__init__" p2) [e] [] p3) env = (do
      let ov ← attributeBase (.Call (.Name "super" p0) [] [] p1) "__init__" env (eval (.Call (.Name "super" p0) [] [] p1) env)
      standAt p2.atName
      let (f, first) ← holding [ov] (getMethod ov "__init__" pl)
      callWith p3 f first (backTo p3 (starEach [e] env)) []))
    (hbody : ∀ (Fn : NdefX.NF) (A : Around) (outer : List Env) (s : Shared) (H : Hp) (vs : List V) (Q : VK) (E : XK), Fn.scope = defScope st → Fn.cl = [(("__class__" : Str), cc)] → Room k (A.deeper (NdefX.envF Fn f s.heap.objs.size)) → sp vs H Q E →
      ∃ te t a C, PE (NdefX.ncx CX P w K mg base N Fn f A outer s H E) e te ∧ PSs (NdefX.ncx CX P w K mg base N Fn f A outer s H E) rest t ∧ vs[0]? = some (.ref a) ∧ SupC K C D ∧ H a = some (exo a C none) ∧
        te (NdefX.startF N vs [some (.ref D)]) H fun _ H1 => H1 a = some (exo a C none) ∧ t { nx := fun _ H' => Q .non H', rt := Q } (NdefX.startF N vs [some (.ref D)]) H1) :
    FnOk P w K mg base CX (k + 1) f fd ps sp := by
  obtain ⟨oc, od, kV, doc, pm, an, cda, ct, osl, ccl, cdd, vsC, ccs, file, tf, rfl, lk, hcd, lkC, hvs, hfile⟩ := F.fn
  obtain ⟨cl, cld, csl, lkc⟩ := F.cell
  refine ⟨len, fun A outer s H args us vs Q E hr e0 hb' r hsp => ?_⟩
  have hl := len _ _ _ _ hsp
  have inK : ∀ {b o}, K.lookup b = some o → s.heap.get? b = some o ∧ H b = none := fun {b o} z => e0.bs b o (e0.mod.kin b o z)
  have KX : K.In s.heap := fun b o z => (inK z).1
  have lim : s.heap.NoLimit := e0.mod.nolimit.keeps fun b o z => (e0.bs b o z).1
  refine ks_codeAny_call_defAt (fd := fnX x qual (defArgs st) (defBody st) (defScope st) [("__class__", cc)] .none kV doc pm an (.ref cda) ct) (body := defBody st) (binds := ps.zip us) hr.depth (inK lk).1 rfl lim (codeRec_of KX hcd) rfl hb' S.ns.nocell
    (fun y hy => S.ns.par _ (List.of_mem_zip hy).1) (fun h₁ hns kp => ?_) S.ns.co S.ns.gen S.ns.kind
  let Fn : NdefX.NF := ⟨x, qual, defArgs st, defBody st, defScope st, [(("__class__" : Str), cc)], cda⟩
  have C1 : NdefX.CellsAt Fn.cl ["__class__"] [some (.ref D)] s.heap H := by
    have one : ∀ y c, List.lookup y [(("__class__" : Str), cc)] = some c → y = "__class__" ∧ c = cc := fun y c z => by
      by_cases hy : y = "__class__"
      · subst hy
        refine ⟨rfl, ?_⟩
        simp [List.lookup] at z
        exact z.symm
      · have q : (y == ("__class__" : Str)) = false := by simpa using hy
        simp [List.lookup, q] at z
    refine ⟨rfl, fun y c z => ?_, fun y z c h1 h2 => (one y c h1).1.trans (one z c h2).1.symm, fun i y hy => ?_⟩
    · obtain ⟨_, rfl⟩ := one y c z
      exact ⟨(inK lkc).2, _, _, (inK lkc).1, rfl⟩
    · match i, hy with
      | 0, hy =>
        have ey : ("__class__" : Str) = y := Option.some.inj hy
        subst ey
        refine ⟨cc, by show List.lookup _ [(("__class__" : Str), cc)] = _; simp [List.lookup], fun v hv => ?_⟩
        have ev : V.ref D = v := Option.some.inj (Option.some.inj hv)
        subst ev
        exact ⟨_, rfl, _, (inK lkc).1, rfl⟩
      | i + 1, hy => simp at hy
  have I : Inv (NdefX.ncx CX P w K mg base N Fn f A outer s H E) [] (NdefX.startF N vs [some (.ref D)]) H { s with heap := h₁, toks := s.toks + (ps.zip us).length } := NdefX.inv_startN S.ns hr.hd e0 hl r C1 hns kp
  obtain ⟨te, t, a, C, pe, pss, hv0, hS, ha, hq⟩ := hbody Fn A outer s H vs Q E rfl rfl (hr.deeper _) hsp
  have hσ : (NdefX.startF N vs [some (.ref D)])[0]? = some (some (.ref a)) := by
    unfold NdefX.startF
    have h0 : 0 < vs.length := (List.getElem?_eq_some_iff.mp hv0).1
    rw [List.getElem?_append_left (by rw [List.length_map]; exact h0), List.getElem?_map, hv0]
    rfl
  rw [hb]
  refine ks_wpAt_execs_cons (ks_wpAt_mono (sup_stmt (X := NdefX.ncx CX P w K mg base N Fn f A outer s H E) (qual := qual) (scope := defScope st) (L := s.heap.objs.size) I rfl S.sup (S.ns.frk _ (List.mem_singleton.mpr rfl)) lk rfl hp hself hloc hσ lkC rfl hvs hfile F.top F.sup lkc rfl F.cd F.any hS pe ha hq
    (by unfold interactive; rw [show (NdefX.ncx CX P w K mg base N Fn f A outer s H E).env.scope.kind = .function from S.ns.kind]; rfl) (hsw _ rfl) (hst _) (hc _)) (fun fl s' hh => ?_) fun _ _ z => z)
  obtain ⟨rfl, H1, I1, q1⟩ := hh
  refine wpAt_of_wpAny (wpAny_mono (pss.run [] s' _ H1 _ I1 q1) (fun fl s2 hs => ?_) fun _ _ z => z)
  have fin : ∀ {σ' : L2.St} {H' : Hp} {v : V} {u : Value}, Inv (NdefX.ncx CX P w K mg base N Fn f A outer s H E) [] σ' H' s2 → RelV v u → Q v H' → CE outer P w H s Q u s2 :=
    fun {σ' H' v u} J rv q => ⟨v, H', J.os, J.bare, J.base, J.hok, rv, q⟩
  cases fl with
  | ret u =>
    obtain ⟨v, σ', H', J, rv, q⟩ := hs
    exact fin J rv q
  | next =>
    obtain ⟨σ', H', J, q⟩ := hs
    exact fin (v := V.non) (u := Value.none) J rfl q
  | brk =>
    obtain ⟨_, _, _, q⟩ := hs
    exact q.elim
  | cont =>
    obtain ⟨_, _, _, q⟩ := hs
    exact q.elim
end
end Yd
namespace Yd
open PySem L2
/-! ### the errors: a text, then the fields -/
/-- a part of a text that is short -/
def Short (σ : St) (H : Hp) (t : TE) : Prop := ∃ y : Str, y.length ≤ 100 ∧ ∀ Q : VK, Q (.str y) H → t σ H Q
theorem short_c {σ : St} {H : Hp} {x : Str} (h : x.length ≤ 100 := by decide +kernel) : Short σ H (tC (.str x)) := ⟨x, h, fun _ q => q⟩
theorem short_v {σ : St} {H : Hp} {i : Nat} {x : Str} (e : σ[i]? = some (some (.str x))) (h : x.length ≤ 100) : Short σ H (tFmt (tVar i)) :=
  ⟨x, h, fun _ q => ⟨_, e, .inl ⟨x, rfl, Nat.le_trans h (by decide), q⟩⟩⟩
theorem js_short {σ : St} {H : Hp} {Q : Str → Hp → Prop} (hq : ∀ out, Q out H) : ∀ (ts : List TE) (acc : Str), (∀ t ∈ ts, Short σ H t) → acc.length + 100 * ts.length ≤ 10000 → tJs ts acc σ H Q
  | [], acc, _, _ => hq acc
  | t :: ts, acc, h, hl => by
    obtain ⟨y, hy, ht⟩ := h t (List.mem_cons_self ..)
    rw [List.length_cons] at hl
    have e : (acc ++ y).length = acc.length + y.length := len_app acc y
    refine ht _ ⟨y, rfl, ?_, js_short hq ts (acc ++ y) (fun u hu => h u (List.mem_cons_of_mem _ hu)) (by omega)⟩
    exact Nat.le_trans (show (acc ++ y).length ≤ 10000 by omega) (by decide)
/-- what an error's __init__ promises: fs, the fields, the last one stored first -/
def spErr (C : Addr) (n : Nat) (ok : List V → Prop) (fs : List V → List (Str × V)) : Sp := fun vs H Q _ => ∃ (a : Addr) (us : List V), vs = .ref a :: us ∧ us.length = n ∧ ok us ∧ H a = some (exo a C none) ∧
  ∀ d H', H d = none → d ≠ a → H' a = some (exo a C (some d)) → H' d = some (exd d (fs us)) → (∀ b, b ≠ a → b ≠ d → H' b = H b) → Q .non H'
def isTxt (v : V) : Prop := ∃ x : Str, v = .str x ∧ x.length ≤ 100
end Yd
namespace Yd
open PySem L2
section
variable {P : Program} {w : World} {K : PySem.W.Frag} {mg : Str → Option Value} {base : Heap} {CX : CXT}
theorem scRepeatedInit : SupScope ["self", "name", "__class__"] ["self", "name"] (defScope sRepeatedInit) := ⟨NdefX.nscope_by (by decide +kernel), rfl⟩
def fsRepeated : List V → List (Str × V)
  | [v0] => [("name", v0)]
  | _ => []
def okRepeated : List V → Prop
  | [v0] => isTxt v0
  | _ => False
theorem ok_RepeatedInit {f D cc : Addr} {fd : FuncData} (F : SupFn P K mg "__init__" "Repeated.__init__" sRepeatedInit f D cc fd) (S : SupC K D D) (n0 : PySem.W.findIn K (.ref D) "name" = some none) : FnOk P w K mg base CX 1 f fd ["self", "name"] (spErr D 1 okRepeated fsRepeated) := by
  refine fn_sup F scRepeatedInit rfl rfl rfl rfl (fun vs H Q E h => ?_) (fun _ _ => rfl) (fun _ => rfl) (fun _ => rfl) (fun Fn A outer s H vs Q E hsc hcl hr h => ?_)
  · obtain ⟨a, us, rfl, hl, _⟩ := h
    rw [List.length_cons, hl]
    rfl
  · obtain ⟨a, us, rfl, hl, ok, ha, k⟩ := h
    obtain ⟨nm, ql, pr, bd, scp, cl, cdx⟩ := Fn
    simp only at hsc hcl
    subst hsc hcl
    match us, hl, ok, k with
    | [v0], _, ⟨x0, e0, l0⟩, k =>
      subst e0
      refine ⟨_, _, a, D, pe_joined (PJ.cons pe_str (PJ.cons (pe_fmt (pv 1)) (PJ.cons pe_str PJ.nil))), (pss_one (ps_ost (pv 0) (pv 1))), rfl, S, ha, ?_⟩
      refine js_short (fun out => ?_) _ _ (fun t ht => ?_) (by decide)
      rotate_left
      · simp only [List.mem_cons, List.not_mem_nil, or_false] at ht
        rcases ht with rfl | rfl | rfl
        · exact short_c
        · exact short_v rfl l0
        · exact short_c
      refine ⟨ha, ?_⟩
      refine ⟨_, rfl, _, rfl, a, D, rfl, S.ox, n0, .inl ⟨ha, fun dx hd hda => ?_⟩⟩
      refine k dx _ hd hda upd_same (by rw [upd_ne hda]; exact upd_same) fun b hb1 hb2 => ?_
      rw [upd_ne hb1, upd_ne hb2]
theorem scUnknownInit : SupScope ["self", "name", "__class__"] ["self", "name"] (defScope sUnknownInit) := ⟨NdefX.nscope_by (by decide +kernel), rfl⟩
def fsUnknown : List V → List (Str × V)
  | [v0] => [("name", v0)]
  | _ => []
def okUnknown : List V → Prop
  | [v0] => isTxt v0
  | _ => False
theorem ok_UnknownInit {f D cc : Addr} {fd : FuncData} (F : SupFn P K mg "__init__" "Unknown.__init__" sUnknownInit f D cc fd) (S : SupC K D D) (n0 : PySem.W.findIn K (.ref D) "name" = some none) : FnOk P w K mg base CX 1 f fd ["self", "name"] (spErr D 1 okUnknown fsUnknown) := by
  refine fn_sup F scUnknownInit rfl rfl rfl rfl (fun vs H Q E h => ?_) (fun _ _ => rfl) (fun _ => rfl) (fun _ => rfl) (fun Fn A outer s H vs Q E hsc hcl hr h => ?_)
  · obtain ⟨a, us, rfl, hl, _⟩ := h
    rw [List.length_cons, hl]
    rfl
  · obtain ⟨a, us, rfl, hl, ok, ha, k⟩ := h
    obtain ⟨nm, ql, pr, bd, scp, cl, cdx⟩ := Fn
    simp only at hsc hcl
    subst hsc hcl
    match us, hl, ok, k with
    | [v0], _, ⟨x0, e0, l0⟩, k =>
      subst e0
      refine ⟨_, _, a, D, pe_joined (PJ.cons pe_str (PJ.cons (pe_fmt (pv 1)) (PJ.cons pe_str PJ.nil))), (pss_one (ps_ost (pv 0) (pv 1))), rfl, S, ha, ?_⟩
      refine js_short (fun out => ?_) _ _ (fun t ht => ?_) (by decide)
      rotate_left
      · simp only [List.mem_cons, List.not_mem_nil, or_false] at ht
        rcases ht with rfl | rfl | rfl
        · exact short_c
        · exact short_v rfl l0
        · exact short_c
      refine ⟨ha, ?_⟩
      refine ⟨_, rfl, _, rfl, a, D, rfl, S.ox, n0, .inl ⟨ha, fun dx hd hda => ?_⟩⟩
      refine k dx _ hd hda upd_same (by rw [upd_ne hda]; exact upd_same) fun b hb1 hb2 => ?_
      rw [upd_ne hb1, upd_ne hb2]
theorem scNoStepInit : SupScope ["self", "before", "after", "__class__"] ["self", "before", "after"] (defScope sNoStepInit) := ⟨NdefX.nscope_by (by decide +kernel), rfl⟩
def fsNoStep : List V → List (Str × V)
  | [v0, v1] => [("after", v1), ("before", v0)]
  | _ => []
def okNoStep : List V → Prop
  | [v0, v1] => isTxt v0 ∧ isTxt v1
  | _ => False
theorem ok_NoStepInit {f D cc : Addr} {fd : FuncData} (F : SupFn P K mg "__init__" "NoStep.__init__" sNoStepInit f D cc fd) (S : SupC K D D) (n0 : PySem.W.findIn K (.ref D) "before" = some none) (n1 : PySem.W.findIn K (.ref D) "after" = some none) : FnOk P w K mg base CX 1 f fd ["self", "before", "after"] (spErr D 2 okNoStep fsNoStep) := by
  refine fn_sup F scNoStepInit rfl rfl rfl rfl (fun vs H Q E h => ?_) (fun _ _ => rfl) (fun _ => rfl) (fun _ => rfl) (fun Fn A outer s H vs Q E hsc hcl hr h => ?_)
  · obtain ⟨a, us, rfl, hl, _⟩ := h
    rw [List.length_cons, hl]
    rfl
  · obtain ⟨a, us, rfl, hl, ok, ha, k⟩ := h
    obtain ⟨nm, ql, pr, bd, scp, cl, cdx⟩ := Fn
    simp only at hsc hcl
    subst hsc hcl
    match us, hl, ok, k with
    | [v0, v1], _, ⟨⟨x0, e0, l0⟩, ⟨x1, e1, l1⟩⟩, k =>
      subst e0
      subst e1
      refine ⟨_, _, a, D, pe_joined (PJ.cons pe_str (PJ.cons (pe_fmt (pv 1)) (PJ.cons pe_str (PJ.cons (pe_fmt (pv 2)) PJ.nil)))), (pss_cons (ps_ost (pv 0) (pv 1)) (pss_one (ps_ost (pv 0) (pv 2)))), rfl, S, ha, ?_⟩
      refine js_short (fun out => ?_) _ _ (fun t ht => ?_) (by decide)
      rotate_left
      · simp only [List.mem_cons, List.not_mem_nil, or_false] at ht
        rcases ht with rfl | rfl | rfl | rfl
        · exact short_c
        · exact short_v rfl l0
        · exact short_c
        · exact short_v rfl l1
      refine ⟨ha, ?_⟩
      refine ⟨_, rfl, _, rfl, a, D, rfl, S.ox, n0, .inl ⟨ha, fun dx hd hda => ?_⟩⟩
      refine ⟨_, rfl, _, rfl, a, D, rfl, S.ox, n1, .inr ⟨dx, [("before", .str x0)], ?_, ?_, (by show 1 ≤ 900; decide), ?_⟩⟩
      · exact upd_same
      · rw [upd_ne hda]; exact upd_same
      refine k dx _ hd hda (by simp only [upd_ne (Ne.symm hda), upd_same]) upd_same fun b hb1 hb2 => ?_
      simp only [upd_ne hb1, upd_ne hb2]
theorem scBadCountInit : SupScope ["self", "count", "__class__"] ["self", "count"] (defScope sBadCountInit) := ⟨NdefX.nscope_by (by decide +kernel), rfl⟩
def fsBadCount : List V → List (Str × V)
  | [v0] => [("count", v0)]
  | _ => []
def okBadCount : List V → Prop
  | [v0] => True
  | _ => False
theorem ok_BadCountInit {f D cc : Addr} {fd : FuncData} (F : SupFn P K mg "__init__" "BadCount.__init__" sBadCountInit f D cc fd) (S : SupC K D D) (n0 : PySem.W.findIn K (.ref D) "count" = some none) : FnOk P w K mg base CX 1 f fd ["self", "count"] (spErr D 1 okBadCount fsBadCount) := by
  refine fn_sup F scBadCountInit rfl rfl rfl rfl (fun vs H Q E h => ?_) (fun _ _ => rfl) (fun _ => rfl) (fun _ => rfl) (fun Fn A outer s H vs Q E hsc hcl hr h => ?_)
  · obtain ⟨a, us, rfl, hl, _⟩ := h
    rw [List.length_cons, hl]
    rfl
  · obtain ⟨a, us, rfl, hl, ok, ha, k⟩ := h
    obtain ⟨nm, ql, pr, bd, scp, cl, cdx⟩ := Fn
    simp only at hsc hcl
    subst hsc hcl
    match us, hl, ok, k with
    | [v0], _, _, k =>
      refine ⟨_, _, a, D, pe_str, (pss_one (ps_ost (pv 0) (pv 1))), rfl, S, ha, ?_⟩
      refine ⟨ha, ?_⟩
      refine ⟨_, rfl, _, rfl, a, D, rfl, S.ox, n0, .inl ⟨ha, fun dx hd hda => ?_⟩⟩
      refine k dx _ hd hda upd_same (by rw [upd_ne hda]; exact upd_same) fun b hb1 hb2 => ?_
      rw [upd_ne hb1, upd_ne hb2]
theorem scLackingInit : SupScope ["self", "kind", "standing", "__class__"] ["self", "kind", "standing"] (defScope sLackingInit) := ⟨NdefX.nscope_by (by decide +kernel), rfl⟩
def fsLacking : List V → List (Str × V)
  | [v0, v1] => [("standing", v1), ("kind", v0)]
  | _ => []
def okLacking : List V → Prop
  | [v0, v1] => isTxt v0 ∧ isTxt v1
  | _ => False
theorem ok_LackingInit {f D cc : Addr} {fd : FuncData} (F : SupFn P K mg "__init__" "Lacking.__init__" sLackingInit f D cc fd) (S : SupC K D D) (n0 : PySem.W.findIn K (.ref D) "kind" = some none) (n1 : PySem.W.findIn K (.ref D) "standing" = some none) : FnOk P w K mg base CX 1 f fd ["self", "kind", "standing"] (spErr D 2 okLacking fsLacking) := by
  refine fn_sup F scLackingInit rfl rfl rfl rfl (fun vs H Q E h => ?_) (fun _ _ => rfl) (fun _ => rfl) (fun _ => rfl) (fun Fn A outer s H vs Q E hsc hcl hr h => ?_)
  · obtain ⟨a, us, rfl, hl, _⟩ := h
    rw [List.length_cons, hl]
    rfl
  · obtain ⟨a, us, rfl, hl, ok, ha, k⟩ := h
    obtain ⟨nm, ql, pr, bd, scp, cl, cdx⟩ := Fn
    simp only at hsc hcl
    subst hsc hcl
    match us, hl, ok, k with
    | [v0, v1], _, ⟨⟨x0, e0, l0⟩, ⟨x1, e1, l1⟩⟩, k =>
      subst e0
      subst e1
      refine ⟨_, _, a, D, pe_joined (PJ.cons pe_str (PJ.cons (pe_fmt (pv 1)) (PJ.cons pe_str (PJ.cons (pe_fmt (pv 2)) PJ.nil)))), (pss_cons (ps_ost (pv 0) (pv 1)) (pss_one (ps_ost (pv 0) (pv 2)))), rfl, S, ha, ?_⟩
      refine js_short (fun out => ?_) _ _ (fun t ht => ?_) (by decide)
      rotate_left
      · simp only [List.mem_cons, List.not_mem_nil, or_false] at ht
        rcases ht with rfl | rfl | rfl | rfl
        · exact short_c
        · exact short_v rfl l0
        · exact short_c
        · exact short_v rfl l1
      refine ⟨ha, ?_⟩
      refine ⟨_, rfl, _, rfl, a, D, rfl, S.ox, n0, .inl ⟨ha, fun dx hd hda => ?_⟩⟩
      refine ⟨_, rfl, _, rfl, a, D, rfl, S.ox, n1, .inr ⟨dx, [("kind", .str x0)], ?_, ?_, (by show 1 ≤ 900; decide), ?_⟩⟩
      · exact upd_same
      · rw [upd_ne hda]; exact upd_same
      refine k dx _ hd hda (by simp only [upd_ne (Ne.symm hda), upd_same]) upd_same fun b hb1 hb2 => ?_
      simp only [upd_ne hb1, upd_ne hb2]
theorem scShutInit : SupScope ["self", "door", "__class__"] ["self", "door"] (defScope sShutInit) := ⟨NdefX.nscope_by (by decide +kernel), rfl⟩
def fsShut : List V → List (Str × V)
  | [v0] => [("door", v0)]
  | _ => []
def okShut : List V → Prop
  | [v0] => isTxt v0
  | _ => False
theorem ok_ShutInit {f D cc : Addr} {fd : FuncData} (F : SupFn P K mg "__init__" "Shut.__init__" sShutInit f D cc fd) (S : SupC K D D) (n0 : PySem.W.findIn K (.ref D) "door" = some none) : FnOk P w K mg base CX 1 f fd ["self", "door"] (spErr D 1 okShut fsShut) := by
  refine fn_sup F scShutInit rfl rfl rfl rfl (fun vs H Q E h => ?_) (fun _ _ => rfl) (fun _ => rfl) (fun _ => rfl) (fun Fn A outer s H vs Q E hsc hcl hr h => ?_)
  · obtain ⟨a, us, rfl, hl, _⟩ := h
    rw [List.length_cons, hl]
    rfl
  · obtain ⟨a, us, rfl, hl, ok, ha, k⟩ := h
    obtain ⟨nm, ql, pr, bd, scp, cl, cdx⟩ := Fn
    simp only at hsc hcl
    subst hsc hcl
    match us, hl, ok, k with
    | [v0], _, ⟨x0, e0, l0⟩, k =>
      subst e0
      refine ⟨_, _, a, D, pe_joined (PJ.cons pe_str (PJ.cons (pe_fmt (pv 1)) PJ.nil)), (pss_one (ps_ost (pv 0) (pv 1))), rfl, S, ha, ?_⟩
      refine js_short (fun out => ?_) _ _ (fun t ht => ?_) (by decide)
      rotate_left
      · simp only [List.mem_cons, List.not_mem_nil, or_false] at ht
        rcases ht with rfl | rfl
        · exact short_c
        · exact short_v rfl l0
      refine ⟨ha, ?_⟩
      refine ⟨_, rfl, _, rfl, a, D, rfl, S.ox, n0, .inl ⟨ha, fun dx hd hda => ?_⟩⟩
      refine k dx _ hd hda upd_same (by rw [upd_ne hda]; exact upd_same) fun b hb1 hb2 => ?_
      rw [upd_ne hb1, upd_ne hb2]
theorem scUnmetInit : SupScope ["self", "kind", "standing", "door", "__class__"] ["self", "kind", "standing", "door"] (defScope sUnmetInit) := ⟨NdefX.nscope_by (by decide +kernel), rfl⟩
def fsUnmet : List V → List (Str × V)
  | [v0, v1, v2] => [("door", v2), ("standing", v1), ("kind", v0)]
  | _ => []
def okUnmet : List V → Prop
  | [v0, v1, v2] => isTxt v0 ∧ isTxt v1 ∧ isTxt v2
  | _ => False
theorem ok_UnmetInit {f D cc : Addr} {fd : FuncData} (F : SupFn P K mg "__init__" "Unmet.__init__" sUnmetInit f D cc fd) (S : SupC K D D) (n0 : PySem.W.findIn K (.ref D) "kind" = some none) (n1 : PySem.W.findIn K (.ref D) "standing" = some none) (n2 : PySem.W.findIn K (.ref D) "door" = some none) : FnOk P w K mg base CX 1 f fd ["self", "kind", "standing", "door"] (spErr D 3 okUnmet fsUnmet) := by
  refine fn_sup F scUnmetInit rfl rfl rfl rfl (fun vs H Q E h => ?_) (fun _ _ => rfl) (fun _ => rfl) (fun _ => rfl) (fun Fn A outer s H vs Q E hsc hcl hr h => ?_)
  · obtain ⟨a, us, rfl, hl, _⟩ := h
    rw [List.length_cons, hl]
    rfl
  · obtain ⟨a, us, rfl, hl, ok, ha, k⟩ := h
    obtain ⟨nm, ql, pr, bd, scp, cl, cdx⟩ := Fn
    simp only at hsc hcl
    subst hsc hcl
    match us, hl, ok, k with
    | [v0, v1, v2], _, ⟨⟨x0, e0, l0⟩, ⟨x1, e1, l1⟩, ⟨x2, e2, l2⟩⟩, k =>
      subst e0
      subst e1
      subst e2
      refine ⟨_, _, a, D, pe_joined (PJ.cons (pe_fmt (pv 1)) (PJ.cons pe_str (PJ.cons (pe_fmt (pv 2)) (PJ.cons pe_str (PJ.cons (pe_fmt (pv 3)) (PJ.cons pe_str PJ.nil)))))), (pss_cons (ps_ost (pv 0) (pv 1)) (pss_cons (ps_ost (pv 0) (pv 2)) (pss_one (ps_ost (pv 0) (pv 3))))), rfl, S, ha, ?_⟩
      refine js_short (fun out => ?_) _ _ (fun t ht => ?_) (by decide)
      rotate_left
      · simp only [List.mem_cons, List.not_mem_nil, or_false] at ht
        rcases ht with rfl | rfl | rfl | rfl | rfl | rfl
        · exact short_v rfl l0
        · exact short_c
        · exact short_v rfl l1
        · exact short_c
        · exact short_v rfl l2
        · exact short_c
      refine ⟨ha, ?_⟩
      refine ⟨_, rfl, _, rfl, a, D, rfl, S.ox, n0, .inl ⟨ha, fun dx hd hda => ?_⟩⟩
      refine ⟨_, rfl, _, rfl, a, D, rfl, S.ox, n1, .inr ⟨dx, [("kind", .str x0)], ?_, ?_, (by show 1 ≤ 900; decide), ?_⟩⟩
      · exact upd_same
      · rw [upd_ne hda]; exact upd_same
      refine ⟨_, rfl, _, rfl, a, D, rfl, S.ox, n2, .inr ⟨dx, [("standing", .str x1), ("kind", .str x0)], ?_, ?_, (by show 2 ≤ 900; decide), ?_⟩⟩
      · rw [upd_ne (Ne.symm hda)]; exact upd_same
      · exact upd_same
      refine k dx _ hd hda (by simp only [upd_ne (Ne.symm hda), upd_same]) upd_same fun b hb1 hb2 => ?_
      simp only [upd_ne hb1, upd_ne hb2]
end
end Yd
namespace Yd
open PySem L2
/-! ### == and in of data -/
section
variable {X : Cx}
/-- both read as the same data -/
def rEqS (K : PySem.W.Frag) : R2 := fun x y H Q => ∃ d, Dp K H x d ∧ Dp K H y d ∧ d.plain = true ∧ d.depth ≤ 60 ∧ Q (.bl true) H
def rNeS (K : PySem.W.Frag) : R2 := fun x y H Q => ∃ d, Dp K H x d ∧ Dp K H y d ∧ d.plain = true ∧ d.depth ≤ 60 ∧ Q (.bl false) H
theorem op_eqS (hu : X.A.units + 64 < cLine) : OpR X (compareOp .Eq) (rEqS X.K) := by
  intro pins s σ H x y v u Q I rx ry h
  obtain ⟨d, hd, he, pd, dd, q⟩ := h
  obtain ⟨as, r1⟩ := Dp.reads I d x v hd rx
  obtain ⟨bs, r2⟩ := Dp.reads I d y u he ry
  refine SeqAt.eq_plain r1 r2 pd pd (by omega) ⟨.bl _, H, I, rfl, ?_⟩
  rw [SeqAt.eqv_refl_plain d pd]
  exact q
theorem op_neS (hu : X.A.units + 64 < cLine) : OpR X (compareOp .NotEq) (rNeS X.K) := by
  intro pins s σ H x y v u Q I rx ry h
  obtain ⟨d, hd, he, pd, dd, q⟩ := h
  obtain ⟨as, r1⟩ := Dp.reads I d x v hd rx
  obtain ⟨bs, r2⟩ := Dp.reads I d y u he ry
  refine SeqAt.ne_plain r1 r2 pd pd (by omega) ⟨.bl _, H, I, rfl, ?_⟩
  rw [SeqAt.eqv_refl_plain d pd]
  exact q
/-- an item in a list, both with a Lean type -/
def rInY (K : PySem.W.Frag) (α : Type) [DecidableEq α] [PySem.W.Datum α] : R2 := fun x y H Q => ∃ (a : α) (as : List α), Dp K H x (PySem.W.Datum.toD a) ∧ Dp K H y (.list (as.map PySem.W.Datum.toD)) ∧ Q (.bl (decide (a ∈ as))) H
theorem any_toD {α : Type} [DecidableEq α] [PySem.W.Datum α] (a : α) : ∀ as : List α, ((as.map PySem.W.Datum.toD).any fun z => PyData.eqv z (PySem.W.Datum.toD a)) = decide (a ∈ as)
  | [] => by simp
  | b :: bs => by
    rw [List.map_cons, List.any_cons, any_toD a bs, PySem.W.Datum.eqv, ← Bool.decide_or]
    refine decide_eq_decide.mpr ?_
    rw [List.mem_cons]
    exact ⟨fun h => h.imp Eq.symm id, fun h => h.imp Eq.symm id⟩
theorem op_inY {α : Type} [DecidableEq α] [PySem.W.Datum α] (hd : PySem.W.Datum.depth α ≤ 60) (hu : X.A.units + 65 < cLine) : OpR X (compareOp .In) (rInY X.K α) := by
  intro pins s σ H x y v u Q I rx ry h
  obtain ⟨a, as, h1, h2, q⟩ := h
  obtain ⟨_, r1⟩ := Dp.reads I _ x v h1 rx
  obtain ⟨_, r2⟩ := Dp.reads I _ y u h2 ry
  have d1 := PySem.W.Datum.depth_le (α := α) a
  refine SeqAt.in_list_data r2 r1 (PySem.W.plainAll_map as) (PySem.W.Datum.plain a) (by omega) ⟨.bl _, H, I, rfl, ?_⟩
  rw [any_toD]
  exact q
end
theorem dp_strs {K : PySem.W.Frag} {H : Hp} : ∀ ss : List Str, DpAll K H (ss.map V.str) (ss.map PyData.str)
  | [] => .nil
  | s :: ss => .cons (.str s) (dp_strs ss)
theorem plain_strs (ss : List Str) : PyData.plainAll (ss.map PyData.str) = true := PySem.W.plainAll_map (α := Str) ss
theorem depth_strs (ss : List Str) : PyData.depthAll (ss.map PyData.str) ≤ 0 := PySem.W.depthAll_map (α := Str) ss
theorem plain_tup (ss : List Str) : (PyData.tuple (ss.map PyData.str)).plain = true := by simp only [PyData.plain]; exact plain_strs ss
theorem depth_tup (ss : List Str) : (PyData.tuple (ss.map PyData.str)).depth ≤ 60 := by
  have h := depth_strs ss
  simp only [PyData.depth]
  omega
theorem plain_lst (ss : List Str) : (PyData.list (ss.map PyData.str)).plain = true := by simp only [PyData.plain]; exact plain_strs ss
theorem depth_lst (ss : List Str) : (PyData.list (ss.map PyData.str)).depth ≤ 60 := by
  have h := depth_strs ss
  simp only [PyData.depth]
  omega
/-- a tuple of texts -/
theorem dp_tup {K : PySem.W.Frag} {H : Hp} {a : Addr} {ss : List Str} (h : SqT K H a (ss.map V.str)) : Dp K H (.ref a) (.tuple (ss.map PyData.str)) := .tup h (dp_strs ss)
theorem dp_lst {K : PySem.W.Frag} {H : Hp} {a : Addr} {ss : List Str} (h : SqL K H a (ss.map V.str)) : Dp K H (.ref a) (.list (ss.map PyData.str)) := .lst h (dp_strs ss)
/-- a list of pairs of texts -/
def PairsAt (H : Hp) : List V → List (Str × Str) → Prop
  | [], [] => True
  | v :: xs, p :: ps => (∃ t, v = .ref t ∧ H t = some (.tup [.str p.1, .str p.2])) ∧ PairsAt H xs ps
  | _, _ => False
theorem PairsAt.keep {H H' : Hp} (k : ∀ t xs, H t = some (.tup xs) → H' t = some (.tup xs)) : ∀ {xs : List V} {ps : List (Str × Str)}, PairsAt H xs ps → PairsAt H' xs ps
  | [], [], _ => True.intro
  | v :: xs, p :: ps, ⟨⟨t, e, h⟩, r⟩ => ⟨⟨t, e, k _ _ h⟩, PairsAt.keep k r⟩
  | [], _ :: _, h => h.elim
  | _ :: _, [], h => h.elim
theorem PairsAt.snoc {H : Hp} {t : Addr} {p : Str × Str} (e : H t = some (.tup [.str p.1, .str p.2])) : ∀ {xs : List V} {ps : List (Str × Str)}, PairsAt H xs ps → PairsAt H (xs ++ [.ref t]) (ps ++ [p])
  | [], [], _ => ⟨⟨t, rfl, e⟩, True.intro⟩
  | v :: xs, q :: ps, ⟨h, r⟩ => ⟨h, PairsAt.snoc e r⟩
  | [], _ :: _, h => h.elim
  | _ :: _, [], h => h.elim
theorem PairsAt.len {H : Hp} : ∀ {xs : List V} {ps : List (Str × Str)}, PairsAt H xs ps → xs.length = ps.length
  | [], [], _ => rfl
  | v :: xs, q :: ps, ⟨_, r⟩ => by rw [List.length_cons, List.length_cons, PairsAt.len r]
  | [], _ :: _, h => h.elim
  | _ :: _, [], h => h.elim
theorem dp_pair {K : PySem.W.Frag} {H : Hp} {t : Addr} {p : Str × Str} (h : H t = some (.tup [.str p.1, .str p.2])) : Dp K H (.ref t) (PySem.W.Datum.toD p) := .tup (SqT.of h) (.cons (.str _) (.cons (.str _) .nil))
theorem PairsAt.dp {K : PySem.W.Frag} {H : Hp} : ∀ {xs : List V} {ps : List (Str × Str)}, PairsAt H xs ps → DpAll K H xs (ps.map PySem.W.Datum.toD)
  | [], [], _ => .nil
  | v :: xs, q :: ps, ⟨⟨t, e, h⟩, r⟩ => by subst e; exact .cons (dp_pair h) (PairsAt.dp r)
  | [], _ :: _, h => h.elim
  | _ :: _, [], h => h.elim
end Yd
namespace Yd
open PySem L2
/-! ### own __getitem__ and __setitem__ -/
section
open PySem.W
theorem deeper1 {P : Program} {w : World} {K : Frag} {mg : Str → Option Value} {base : Heap} {A : Around} {out : List Env} {s : Shared} {H : Hp} (e : Env0 P w K mg base A out s H) : Env0 P w K mg base A.in1 out s H :=
  ⟨by exact e.frames, e.mod, e.bs, e.bsz, e.funs, e.frf, e.hok, e.bare⟩
theorem at_all {CX : CXT} {X : Cx} {E : XK} (h : Passes CX X E) : ∀ σ : St, PassesAt CX X σ E := fun σ pins H s e s' I c => h pins σ H s e s' I c
variable {X : Cx} {CX : CXT} {k : Nat} {f C : Addr} {fd : FuncData} {ps : List Str} {sp : Sp} {E : St → XK} {pos : Pos} {o i : Expr} {to ti : TE}
/-- a call of a def one level down -/
theorem run_in1 {pins : List (Addr × Obj)} {σ : St} {H : Hp} {s : Shared} {Q : VK} {us : List Value} {vs : List V} (F : FnOk X.prog X.w X.K X.mg X.base CX k f fd ps sp) (hr : Room (k + 1) X.A) (hb : Binds X.K fd ps []) (hx : PassesAt CX X σ (E σ))
    (I : Inv X pins σ H s) (r : Vals vs us) (h : sp vs H Q (E σ)) : wpAny (model X.prog X.w) X.A.in1 (call (.ref f) us) (EP X pins σ Q) X.xe s := by
  have hl : (us ++ []).length = ps.length := by rw [List.append_nil, ← r.length]; exact F.len _ _ _ _ h
  have b := hb s us I.kIn hl
  rw [List.append_nil] at b
  refine wpAny_call (codeAny_mono (F.run X.A.in1 X.stack s H ⟨us, []⟩ us vs Q (E σ) hr.in1 (deeper1 I.env0) b r h) fun r s' hq => ?_)
  match r, hq with
  | .error e, hq => exact hx pins H s e s' I hq
  | .ok (.ret u), hq => exact I.after hq
/-- an own class whose items are read by a def of its own -/
structure ItemC (K : Frag) (C : Addr) (m : Str) (f : Addr) : Prop where
  at_ : findIn K (.ref C) m = some (some (.ref f))
  fn : isFn K (.ref f) = true
  fi : fnIn K f = true
  noq : noSeq K C = true
def tSubO (C : Addr) (sp : Sp) (E : St → XK) (to ti : TE) : TE := fun σ H Q => to σ H fun x H1 => ti σ H1 fun y H2 => ∃ a dx fs, x = .ref a ∧ H2 a = some (.ins C dx fs) ∧ sp [x, y] H2 Q (E σ)
theorem pe_subO (ho : PE X o to) (hi : PE X i ti) (c : ItemC X.K C "__getitem__" f) (F : FnOk X.prog X.w X.K X.mg X.base CX k f fd ps sp) (hr : Room (k + 1) X.A) (hb : Binds X.K fd ps []) (hx : ∀ σ, PassesAt CX X σ (E σ))
    (hsl : ∀ x i', subscripted i true (.ref x) i' = runValue (.builtin "lifetime.subscript" ⟨[.ref x, i'], []⟩) := by intro _ _; with_unfolding_all rfl) : PE X (.Subscript o i pos) (tSubO C sp E to ti) := by
  refine ⟨fun pins s σ H Q I h => PyProof.Rows.Subscript_ (binT (R := fun x y H2 => ∃ a dx fs, x = V.ref a ∧ H2 a = some (.ins C dx fs) ∧ sp [x, y] H2 Q (E σ)) ho hi I h fun v u s2 x y H2 I2 rx ry hq => ?_)⟩
  obtain ⟨a, dx, fs, rfl, ha, q⟩ := hq
  obtain rfl : v = Value.ref a := rx
  obtain ⟨m, hF⟩ := I2.fr
  obtain ⟨mA, O, _⟩ := ins_get I2.hok ha
  obtain ⟨oa, J, _⟩ := O.look
  exact sub_K hF I2.ok.mod.kin J c.at_ c.fi c.fn (run_in1 F hr hb (hx σ) I2 (Paired.cons (a := V.ref a) rfl (.cons ry .nil)) q) (hsl a u)
def gSubO (C : Addr) (sp : Sp) (E : St → XK) (to ti : TE) : TG := fun v σ H Q => to σ H fun x H1 => ti σ H1 fun y H2 => ∃ a dx fs, x = .ref a ∧ H2 a = some (.ins C dx fs) ∧ sp [x, y, v] H2 (fun _ H3 => Q σ H3) (E σ)
theorem pg_subO (ho : PE X o to) (hi : PE X i ti) (c : ItemC X.K C "__setitem__" f) (F : FnOk X.prog X.w X.K X.mg X.base CX k f fd ps sp) (hr : Room k X.A) (hb : Binds X.K fd ps []) (hx : ∀ σ, PassesAt CX X σ (E σ))
    (ha : ∀ v, assign (.Subscript o i pos) X.env v = (do
      let ov ← holding [v] (eval o X.env)
      let iv ← holding [v, ov] (eval i X.env)
      standAt pos
      holding [v, ov, iv] (setItem ov iv v)
      release [v, ov, iv] []) := by intro _; rfl) : PG X (.Subscript o i pos) (gSubO C sp E to ti) := by
  refine ⟨fun pins s σ H v u Q I r h => ?_⟩
  rw [ha]
  refine wpAny_bind (wpAny_holding (thn (ho.run pins s σ H _ I h) fun ov s1 ⟨x, H1, I1, r1, q1⟩ => wpAny_bind (wpAny_holding (thn (hi.run pins s1 σ H1 _ I1 q1) fun iv s2 ⟨y, H2, I2, r2, a, dx, fs, ex, e2, q2⟩ => ?_))))
  subst ex
  obtain rfl : ov = Value.ref a := r1
  obtain ⟨m, hF⟩ := I2.fr
  obtain ⟨mA, O, _⟩ := ins_get I2.hok e2
  obtain ⟨oa, J, _⟩ := O.look
  refine wpAny_bind (wpAny_standAt (wpAny_bind (wpAny_holding (ksp_setItem hF I2.ok.mod.kin J c.noq c.at_ c.fn (thn (run_fnS F hr hb (hx σ) I2 (Paired.cons (a := V.ref a) rfl (.cons r2 (.cons r .nil))) q2) fun _ s3 ⟨_, H3, I3, _, q3⟩ => wpAny_release ⟨σ, H3, I3, q3⟩)))))
end
end Yd
namespace Yd
open PySem L2
/-! ### own __contains__, __len__, operators and comparisons -/
section
open PySem.W
variable {X : Cx} {CX : CXT} {k : Nat} {f C : Addr} {fd : FuncData} {ps : List Str} {sp : Sp} {E : XK}
/-- the def m of the class at C -/
structure OpC (K : Frag) (C : Addr) (m : Str) (f : Addr) : Prop where
  at_ : findIn K (.ref C) m = some (some (.ref f))
  fn : isFn K (.ref f) = true
/-- x in o -/
def rOwnIn (C : Addr) (sp : Sp) (E : XK) (yes : Bool) : R2 := fun x y H Q => ∃ a dx fs, y = .ref a ∧ H a = some (.ins C dx fs) ∧ sp [y, x] H (fun v H' => ∃ b, v = .bl b ∧ Q (.bl (b == yes)) H') E
theorem op_inO (c : OpC X.K C "__contains__" f) (F : FnOk X.prog X.w X.K X.mg X.base CX k f fd ps sp) (hr : Room k X.A) (hb : Binds X.K fd ps []) (hx : Passes CX X E) : OpR X (compareOp .In) (rOwnIn C sp E true) := by
  intro pins s σ H x y v u Q I rx ry h
  obtain ⟨a, dx, fs, rfl, ha, q⟩ := h
  obtain rfl : u = Value.ref a := ry
  obtain ⟨m, hF⟩ := I.fr
  obtain ⟨mA, O, _⟩ := ins_get I.hok ha
  obtain ⟨oa, J, _⟩ := O.look
  refine in_K hF I.ok.mod.kin J c.at_ c.fn (thn (run_fn (us := [.ref a, v]) (vs := [.ref a, x]) F hr hb .nil hx I (.cons rfl (.cons rx .nil)) q) fun r s1 ⟨z, H1, I1, rz, b, ez, q1⟩ => ?_)
  subst ez
  obtain rfl : r = Value.bool b := rz
  refine wpAny_truthy_bool ⟨.bl b, H1, I1, rfl, ?_⟩
  rw [show (b == true) = b by cases b <;> rfl] at q1
  exact q1
theorem op_notInO (c : OpC X.K C "__contains__" f) (F : FnOk X.prog X.w X.K X.mg X.base CX k f fd ps sp) (hr : Room k X.A) (hb : Binds X.K fd ps []) (hx : Passes CX X E) : OpR X (compareOp .NotIn) (rOwnIn C sp E false) := by
  intro pins s σ H x y v u Q I rx ry h
  obtain ⟨a, dx, fs, rfl, ha, q⟩ := h
  obtain rfl : u = Value.ref a := ry
  obtain ⟨m, hF⟩ := I.fr
  obtain ⟨mA, O, _⟩ := ins_get I.hok ha
  obtain ⟨oa, J, _⟩ := O.look
  refine notIn_K hF I.ok.mod.kin J c.at_ c.fn (thn (run_fn (us := [.ref a, v]) (vs := [.ref a, x]) F hr hb .nil hx I (.cons rfl (.cons rx .nil)) q) fun r s1 ⟨z, H1, I1, rz, b, ez, q1⟩ => ?_)
  subst ez
  obtain rfl : r = Value.bool b := rz
  refine wpAny_truthy_bool ⟨.bl (!b), H1, I1, rfl, ?_⟩
  rw [show (b == false) = !b by cases b <;> rfl] at q1
  exact q1
/-- len(o) -/
def rOwnLen (C : Addr) (sp : Sp) (E : XK) : List V → Hp → VK → Prop := fun xs H Q => ∃ a dx fs, xs = [.ref a] ∧ H a = some (.ins C dx fs) ∧ sp [.ref a] H (fun v H' => ∃ n : Nat, v = .int n ∧ n ≤ sizeLine ∧ Q (.int n) H') E
theorem call_lenO (c : OpC X.K C "__len__" f) (F : FnOk X.prog X.w X.K X.mg X.base CX k f fd ps sp) (hr : Room (k + 1) X.A) (hb : Binds X.K fd ps []) (hx : Passes CX X E) : CallR X (.builtin "len") (rOwnLen C sp E) := by
  intro pins s σ H xs us Q I r h
  obtain ⟨a, dx, fs, rfl, ha, q⟩ := h
  obtain ⟨u, rfl, ru⟩ := vals1 r
  obtain rfl : u = Value.ref a := ru
  obtain ⟨m, hF⟩ := I.fr
  obtain ⟨mA, O, _⟩ := ins_get I.hok ha
  obtain ⟨oa, J, _⟩ := O.look
  refine len_K hF I.ok.mod.kin J c.at_ c.fn (thn (run_in1 (E := fun _ => E) (us := [.ref a]) (vs := [.ref a]) (σ := σ) F hr hb (at_all hx σ) I (.cons rfl .nil) q) fun r s1 ⟨z, H1, I1, rz, n, ez, hn, q1⟩ => ?_)
  subst ez
  obtain ⟨t, rfl⟩ := (show ∃ t, r = Value.int (n : Int) t from rz)
  have h63 : (n : Int) < 2 ^ 63 := by
    have : sizeLine < 2 ^ 63 := by decide
    omega
  exact ⟨⟨Int.natCast_nonneg n, h63⟩, .int n, H1, I1.tok _, ⟨_, rfl⟩, q1⟩
/-- o op p, both of the class at C -/
def rOwnOp (C : Addr) (sp : Sp) (E : XK) : R2 := fun x y H Q => ∃ a b dx dy fs gs, x = .ref a ∧ y = .ref b ∧ H a = some (.ins C dx fs) ∧ H b = some (.ins C dy gs) ∧ sp [x, y] H (fun v H' => ∃ q, v = .ref q ∧ Q (.ref q) H') E
theorem op_ownO {op : Operator} (hc : selfFirst X.K C = true) (c : OpC X.K C (PySem.dunder op.info.2) f) (F : FnOk X.prog X.w X.K X.mg X.base CX k f fd ps sp) (hr : Room k X.A) (hb : Binds X.K fd ps []) (hx : Passes CX X E) : OpR X (binaryOp op) (rOwnOp C sp E) := by
  intro pins s σ H x y v u Q I rx ry h
  obtain ⟨a, b, dx, dy, fs, gs, rfl, rfl, ha, hb', q⟩ := h
  obtain rfl : v = Value.ref a := rx
  obtain rfl : u = Value.ref b := ry
  obtain ⟨m, hF⟩ := I.fr
  obtain ⟨mA, O, _⟩ := ins_get I.hok ha
  obtain ⟨mB, O', _⟩ := ins_get I.hok hb'
  obtain ⟨oa, J, _⟩ := O.look
  obtain ⟨ob, J', _⟩ := O'.look
  refine binop_K hF I.ok.mod.kin J J'.type hc c.at_ c.fn (thn (run_fn (us := [.ref a, .ref b]) (vs := [.ref a, .ref b]) F hr hb .nil hx I (.cons rfl (.cons rfl .nil)) q) fun r s1 ⟨z, H1, I1, rz, d, ez, q1⟩ => ?_)
  subst ez
  obtain rfl : r = Value.ref d := rz
  exact ⟨.ref d, H1, I1, rfl, q1⟩
/-- o <= p, o == p, both of the class at C -/
def rOwnCmp (C : Addr) (sp : Sp) (E : XK) : R2 := fun x y H Q => ∃ a dx fs, x = .ref a ∧ H a = some (.ins C dx fs) ∧ ((∃ b dy gs, y = .ref b ∧ H b = some (.ins C dy gs)) ∨ ∃ b ys, y = .ref b ∧ H b = some (.lst ys)) ∧ sp [x, y] H (fun v H' => ∃ q, v = .bl q ∧ Q (.bl q) H') E
theorem cmp_ownO {op : CmpOp} (hl : notFirst X.K C (.type "list") = true) (c : OpC X.K C (cmpInfo op).2.1 f) (F : FnOk X.prog X.w X.K X.mg X.base CX k f fd ps sp) (hr : Room k X.A) (hb : Binds X.K fd ps []) (hx : Passes CX X E) : OpR X (richCompare op) (rOwnCmp C sp E) := by
  intro pins s σ H x y v u Q I rx ry h
  obtain ⟨a, dx, fs, rfl, ha, hy, q⟩ := h
  obtain rfl : v = Value.ref a := rx
  obtain ⟨m, hF⟩ := I.fr
  obtain ⟨mA, O, _⟩ := ins_get I.hok ha
  obtain ⟨oa, J, _⟩ := O.look
  obtain ⟨tb, ht, hn⟩ : ∃ tb, Looks (model X.prog X.w) s.heap (typeOf u) tb ∧ notFirst X.K C tb = true := by
    rcases hy with ⟨b, dy, gs, rfl, hb'⟩ | ⟨b, ys, rfl, hb'⟩
    · obtain rfl : u = Value.ref b := ry
      obtain ⟨mB, O', _⟩ := ins_get I.hok hb'
      obtain ⟨ob, J', _⟩ := O'.look
      exact ⟨_, J'.type, by simp [notFirst]⟩
    · obtain rfl : u = Value.ref b := ry
      obtain ⟨_, _, n, _, h1⟩ := (show ObjOk X.prog X.w H s.heap b (.lst ys) from I.hok b _ hb')
      exact ⟨.type "list", (Looks.ld h1).andThen .now, hl⟩
  refine cmp_K hr.units0 hF I.ok.mod.kin J ht hn c.at_ c.fn (thn (run_fn (us := [.ref a, u]) (vs := [.ref a, y]) F hr hb .nil hx I (.cons rfl (.cons ry .nil)) q) fun r s1 ⟨z, H1, I1, rz, d, ez, q1⟩ => ?_)
  subst ez
  obtain rfl : r = Value.bool d := rz
  exact ⟨.bl d, H1, I1, rfl, q1⟩
theorem op_eqO (hl : notFirst X.K C (.type "list") = true) (c : OpC X.K C "__eq__" f) (F : FnOk X.prog X.w X.K X.mg X.base CX k f fd ps sp) (hr : Room k X.A) (hb : Binds X.K fd ps []) (hx : Passes CX X E) : OpR X (compareOp .Eq) (rOwnCmp C sp E) := cmp_ownO (op := .Eq) hl c F hr hb hx
theorem op_leO (hl : notFirst X.K C (.type "list") = true) (c : OpC X.K C "__le__" f) (F : FnOk X.prog X.w X.K X.mg X.base CX k f fd ps sp) (hr : Room k X.A) (hb : Binds X.K fd ps []) (hx : Passes CX X E) : OpR X (compareOp .LtE) (rOwnCmp C sp E) := cmp_ownO (op := .LtE) hl c F hr hb hx
end
end Yd
namespace Yd
open PySem L2
/-! ### an own __iter__ that gives a dict's iterator -/
/-- an iterator over the keys of the locked dict at d, at its start -/
def KIo (d it : Addr) (od : Obj) (n : Nat) : HO := .ext fun h => ∃ es ep, od.data = .dict es ep ∧ h.IsKeyIter it d 0 n ep
/-- the locked dict at d has n keys -/
def Keyed (H : Hp) (d : Addr) (od : Obj) (n : Nat) : Prop := (∃ kvs, H d = some (.frz od (.dK kvs)) ∧ n = kvs.length) ∨ ∃ kvs, H d = some (.frz od (.dT kvs)) ∧ n = kvs.length
/-- a def whose promise may speak of the size of the heap at its entry -/
structure FnN (P : Program) (w : World) (K : PySem.W.Frag) (mg : Str → Option Value) (base : Heap) (k : Nat) (f : Addr) (fd : FuncData) (ps : List Str) (sp : Nat → Sp) : Prop where
  len : ∀ n vs H Q E, sp n vs H Q E → vs.length = ps.length
  run : ∀ (A : Around) (out : List Env) (s : Shared) (H : Hp) (args : Args) (us : List Value) (vs : List V) (Q : VK) (E : XK), Room k A → Env0 P w K mg base A out s H → BindsTo s fd args (ps.zip us) → Vals vs us → sp s.heap.objs.size vs H Q E →
    codeAny (model P w) A (.call (.ref f) args) (CR CX0 out P w H s Q E) s
section
variable {P : Program} {w : World} {K : PySem.W.Frag} {mg : Str → Option Value} {base : Heap}
theorem fun_N {x qual : Str} {st : Stmt} {f : Addr} {fd : FuncData} {N ps : List Str} {k : Nat} {sp : Nat → Sp} (F : Fun K x qual st f fd) (S : FnScope N ps (defScope st)) (len : ∀ n vs H Q E, sp n vs H Q E → vs.length = ps.length)
    (body : ∀ (cdv : Value) (A : Around) (out : List Env) (s : Shared) (H : Hp) (vs : List V) (Q : VK) (E : XK), Room k (A.deeper (PyProof.Rows.envOfC qual (defScope st) s.heap.objs.size f cdv)) → sp s.heap.objs.size vs H Q E →
      ∃ t, PSs (cxOf CX0 P w K mg base N qual (defScope st) f cdv A out s H E) (defBody st) t ∧ t { nx := fun _ H' => Q .non H', rt := Q } (start N vs) H) : FnN P w K mg base (k + 1) f fd ps sp := by
  obtain ⟨oc, od, kV, doc, pm, an, cdv, ct, osl, rfl, lk, hcd⟩ := F.ex
  refine ⟨len, fun A out s H args us vs Q E hr e0 hb r hsp => ?_⟩
  have KX : K.In s.heap := e0.mod.kin.keeps fun b o e => (e0.bs b o e).1
  refine codeAny_call_function hr.depth (KX _ _ lk) rfl S.co S.gen rfl (PySem.W.codeRec_of KX hcd) (hb _ _ _ _ (wpAny_newFunctionEnv_cells S.kind (fun ⟨y, v⟩ hy => ?_) fun env he s1 x => ?_))
  · rcases S.par y (List.of_mem_zip hy).1 with q | q
    · exact Or.inl q
    · exact Or.inr ⟨q, PySem.W.cellsFrom_some _ _ _ (Or.inl q)⟩
  subst he
  obtain ⟨t, ht, hq⟩ := body cdv A out s H vs Q E (hr.deeper _) hsp
  refine ⟨(e0.mod.nolimit.keeps fun b o e => (e0.bs b o e).1).keeps x.toInCall.keep, codeAny_func (wpAny_mono (ht.run [] s1 (start N vs) H _ (inv_start S hr.hd e0 (len _ _ _ _ _ hsp) r x) hq) (fun fl s' hs => ?_) fun _ _ z => z)⟩
  match fl, hs with
  | .ret u, ⟨v, σ', H', J, rv, q⟩ => exact ⟨v, H', J.os, J.bare, J.base, J.hok, rv, q⟩
  | .next, ⟨σ', H', J, q⟩ => exact ⟨V.non, H', J.os, J.bare, J.base, J.hok, rfl, q⟩
  | .brk, ⟨_, _, _, q⟩ => exact q.elim
  | .cont, ⟨_, _, _, q⟩ => exact q.elim
end
section
open PySem.W
variable {X : Cx}
theorem kio_ok {P : Program} {w : World} {H : Hp} {h : Heap} {d it n ep : Nat} {od : Obj} {es : Array DictEntry} (hd : od.data = .dict es ep) (st : h.IsKeyIter it d 0 n ep) : ObjOk P w H h it (KIo d it od n) :=
  ⟨⟨es, ep, hd, st⟩, (let ⟨o, ho, _⟩ := st; ⟨o, ho⟩), fun _ _ ⟨e1, p1, a1, a2⟩ k => ⟨e1, p1, a1, a2.at k⟩⟩
/-- iter(d), d locked: a young iterator -/
theorem call_iterK : CallR X (.builtin "iter") (fun xs H Q => ∃ d od n, xs = [.ref d] ∧ Keyed H d od n ∧ ∀ it, H it = none → X.s_0.heap.objs.size ≤ it → Q (.ref it) (upd H it (KIo d it od n))) := by
  intro pins s σ H xs us Q I r h
  obtain ⟨d, od, n, rfl, hk, q⟩ := h
  obtain ⟨u, rfl, ru⟩ := vals1 r
  cases ru
  obtain ⟨hs, hgd, hx, es, ep, hdt, hsz⟩ : (d == sysModules) = false ∧ s.heap.get? d = some od ∧ od.ExactDict ∧ ∃ es ep, od.data = .dict es ep ∧ es.size = n := by
    rcases hk with ⟨kvs, hd, rfl⟩ | ⟨kvs, hd, rfl⟩
    · obtain ⟨hs, hgd, hx, es, ep, vs, hdt, hsz, kv, hm⟩ := I.frzK hd
      exact ⟨hs, hgd, hx, es, ep, hdt, by rw [hsz, Paired.length kv]⟩
    · obtain ⟨hs, hgd, hx, es, ep, hdt, hsz, _⟩ := I.frzT hd
      exact ⟨hs, hgd, hx, es, ep, hdt, hsz⟩
  refine Calls.call_function_entry (by decide +kernel) (by decide +kernel) kdk_entry_iter (kdk_args_iter _) ?_
  unfold Builtin.«iter»
  refine wpAny_bind (m := someArgs "iter" 1 2 _) (wpAny_of_eq (a := [.ref d]) (by first | rfl | kernel_rfl!) (wpAny_bind (m := pyIter (.ref d)) (iter_keys hs hgd hx hdt ?_)))
  refine wpAny_pure ⟨_, rfl, ?_⟩
  have st : (s.heap.push { cls := .type "dict_keyiterator", data := .fields #[.ref d, .int 0 0, .int es.size 0, .int ep 0] }).IsKeyIter s.heap.objs.size d 0 n ep := ⟨_, Heap.get?_push_size _ rfl, rfl, by rw [hsz]; rfl⟩
  exact ⟨.ref s.heap.objs.size, _, I.laid (t' := s.toks) (fun b ob e => Heap.get?_push_of_some _ e) (Nat.le_refl _) (kio_ok hdt st), rfl, q _ (I.hok.fresh (Nat.le_refl _)) I.sz⟩
/-- for x in o, o an instance whose class has such an __iter__ -/
def iOwn (sp : Nat → Sp) (C : Addr) (te : TE) : TI := fun σ H R => te σ H fun x H1 => ∃ a dx fs, x = .ref a ∧ H1 a = some (.ins C dx fs) ∧ ∀ n, sp n [.ref a] H1 (fun v H2 => ∃ it d od m, v = .ref it ∧ n ≤ it ∧ H2 it = some (KIo d it od m) ∧
  ((∃ kvs, H2 d = some (.frz od (.dK kvs)) ∧ m = kvs.length ∧ R (Itk d od kvs) (ItX.dropH H2 it)) ∨ ∃ kvs, H2 d = some (.frz od (.dT kvs)) ∧ m = kvs.length ∧ R (Itkt d od kvs) (ItX.dropH H2 it))) (fun _ _ _ => False)
theorem pi_own {C f : Addr} {fd : FuncData} {k : Nat} {sp : Nat → Sp} {tg e : Expr} {te : TE} (he : PE X e te) (hi : findIn X.K (.ref C) "__iter__" = some (some (.ref f))) (hf : isFn X.K (.ref f) = true) (F : FnN X.prog X.w X.K X.mg X.base k f fd ["self"] sp) (hr : Room k X.A)
    (hb : Binds X.K fd ["self"] []) : PI X tg e (iOwn sp C te) := by
  refine ⟨fun pins s σ H R I h => thn (he.run pins s σ H _ I h) fun u s1 ⟨x, H1, I1, rx, a, dx, fs, ex, ha, q⟩ => ?_⟩
  subst ex
  obtain rfl : u = Value.ref a := rx
  obtain ⟨m, hF⟩ := I1.fr
  obtain ⟨mA, O, _⟩ := ins_get I1.hok ha
  obtain ⟨oa, J, _⟩ := O.look
  have b1 := hb s1 [.ref a] I1.kIn rfl
  refine owit_iter hF I1.ok.mod.kin J hi hf (wpAny_call (codeAny_mono (F.run X.A X.stack s1 H1 ⟨[.ref a], []⟩ [.ref a] [.ref a] _ (fun _ _ _ => False) hr I1.env0 b1 (.cons rfl .nil) (q s1.heap.objs.size)) fun r s' hq => ?_))
  match r, hq with
  | .ok (.ret u), hq =>
    obtain ⟨v, H2, I2, rv, it, d, od, n, rfl, hn, e2, hR⟩ := I1.after hq
    obtain rfl : u = Value.ref it := rv
    have young : X.s_0.heap.objs.size ≤ it := Nat.le_trans I1.sz hn
    obtain ⟨⟨es, ep, hd, st⟩, _⟩ := (show ObjOk X.prog X.w H2 s'.heap it (KIo d it od n) from I2.hok it _ e2)
    have hT : s'.TypeIs (.ref it) "dict_keyiterator" := let ⟨o, ho, hc, _⟩ := st; ⟨o, ho, hc⟩
    have e2' := e2
    unfold KIo at e2'
    refine wpAny_specialOf hT PySem.F.slot_dict_keyiterator_next.lookup ?_
    rcases hR with ⟨kvs, ed, rfl, hR⟩ | ⟨kvs, ed, rfl, hR⟩
    · exact ⟨it, [it], _, _, _, rfl, ItX.inv_drop I2 e2', turn_keys it hd, st, fun b hb => by rw [List.mem_singleton.mp hb]; exact ItX.inv_fp I2 e2 young, hR⟩
    · exact ⟨it, [it], _, _, _, rfl, ItX.inv_drop I2 e2', turn_keysT it hd, st, fun b hb => by rw [List.mem_singleton.mp hb]; exact ItX.inv_fp I2 e2 young, hR⟩
end
end Yd
namespace Yd
open PySem L2
/-! ### a dict comprehension whose keys are pairs (tuples of texts and ints) -/
section
variable {X : Cx}
/-- the new dict at D gets one more pair -/
theorem d_setPair {pins : List (Addr × Obj)} {σ : St} {H : Hp} {s : Shared} {E : Value → Shared → Prop} {D b : Addr} {kvs : List (List Key × V)} {k : List Key} {v : V} {r : Value} {Q : Unit → Shared → Prop} (hu : X.A.units < cLine) (I : Inv X pins σ H s) (hD : H D = some (.dT kvs)) (hb : H b = some (.tup (k.map kV))) (hz : kvs.length < sizeLine)
    (rv : RelV v r) (h : ∀ s', Inv X pins σ (upd H D (.dT (putK kvs k v))) s' → Q () s') : wpAny (model X.prog X.w) X.A (dictSet D (.ref b) r) Q E s := by
  obtain ⟨z, hd, xs, rel, dd⟩ := dt_of I.hok hD
  have l1 : xs.length ≤ sizeLine := Nat.le_trans (Nat.le_of_eq (Paired.length rel).symm) z
  have l2 : (putK kvs k v).length ≤ sizeLine := Nat.le_trans (length_putK kvs k v) hz
  refine wpAny_dictSet_heap (knd := tupleKind (mixKind X.prog X.w)) (hsz := l1) hu (key_of I.hok hb) dd fun h' dd' hs => h _ ?_
  obtain ⟨q, es, ep, hq, c1, c2, c3, _, c5⟩ := dd'
  refine d_write I (by rw [hD]; exact True.intro) hs ⟨q, hq⟩ ⟨l2, hd, _, (rel.put k hb rv).keeps fun c ys ec => ?_, q, es, ep, hq, c1, c2, c3, c5⟩
  rw [upd_ne (ne_of ec hD (fun z => nomatch z))]
  exact ec
/-- what each turn does: the key's tuple, the worth, the dict with the pair -/
def pairTurn (D : Addr) (tk tv : TE) (σ : St) (H : Hp) (R : Hp → Prop) : Prop :=
  tk σ H fun y H1 => tv σ H1 fun z H2 => ∃ kvs k b, y = .ref b ∧ H2 b = some (.tup (List.map kV k)) ∧ H2 D = some (.dT kvs) ∧ kvs.length < sizeLine ∧ R (upd H2 D (.dT (putK kvs k z)))
/-- {k: v for target in iter if ..}, the keys tuples -/
def tDp (wi : TI) (g : TG) (tt : TT) (tk tv : TE) (vs : List Nat) : TE := fun σ H Q => wi σ H fun J H1 => ∀ D, H1 D = none → ∃ W : Nat → Nat → Hp → Prop, (∃ m, W 0 m (upd H1 D (.dT []))) ∧ ∀ i m H, W i m H →
  (J.stop i H ∧ Q (.ref D) H) ∨ (J.go i H ∧ ∃ Nx : Hp → Prop, (∀ H', Nx H' → ∃ m', m' < m ∧ W (i + 1) m' H') ∧ ∀ x H', J.yld i H x H' → g x (wipe σ vs) H' fun σ2 H2 => wipe σ2 vs = wipe σ vs ∧ tt σ2 H2 fun b H3 => if b = true then pairTurn D tk tv σ2 H3 Nx else Nx H3)
theorem pe_dp {kx vx tg iter : Expr} {ifs : List Expr} {scope : Scope} {own : List (Str × Nat)} {pos : Pos} {wi : TI} {g : TG} {tt : TT} {tk tv : TE} (hu : X.A.units < cLine) (hc : X.calm = true) (hN : X.N.Nodup) (hi : PI X tg iter wi) (ok : BlkOk X.N X.env.scope scope own)
    (hg : ∀ (s : Shared) (H : Hp) (C : Addr) (cl : List (Str × Addr)) (fp : List Addr), PG (X.blk s H scope (compEnvC scope cl C X.env) fp) tg g) (ht : ∀ (s : Shared) (H : Hp) (C : Addr) (cl : List (Str × Addr)) (fp : List Addr), PTs (X.blk s H scope (compEnvC scope cl C X.env) fp) ifs tt)
    (hk : ∀ (s : Shared) (H : Hp) (C : Addr) (cl : List (Str × Addr)) (fp : List Addr), PE (X.blk s H scope (compEnvC scope cl C X.env) fp) kx tk)
    (he : ∀ (s : Shared) (H : Hp) (C : Addr) (cl : List (Str × Addr)) (fp : List Addr), PE (X.blk s H scope (compEnvC scope cl C X.env) fp) vx tv) (hs : ∀ x, foldedSetIterable iter X.env x = pure x := by intro _; rfl) :
    PE X (.DictComp kx vx [⟨tg, iter, ifs, 0⟩] scope pos) (tDp wi g tt tk tv (own.map (·.2))) := by
  refine ⟨fun pins s σ H Q I h => ?_⟩
  rw [arm_eval_DictComp]
  have free : ∀ y ∈ scope.names, y.2 = .free → ∃ c, X.env.cells.lookup y.1 = some c := fun y hy e => (ok.free y hy e).elim (fun k => I.ok.has _ (.inl k)) fun k => I.ok.has _ (.inr k)
  refine wpAny_comprehension_free rfl hs (closure_ok free) ok.kind (fun y hy e => (ok.uniq y hy).trans (congrArg some e)) (thn (hi.run pins s σ H _ I h) fun _ s1 hx => thn hx fun _ s2 ⟨it, fp, tn, J, H2, e, I2, T, t2, own2, q⟩ => ?_)
  subst e
  refine wpAny_newObj_type (newEnv_comp ?_)
  -- the dict
  have fresh : H2 s2.heap.objs.size = none := I2.hok.fresh (Nat.le_refl _)
  obtain ⟨W, ⟨m0, w0⟩, turn⟩ := q _ fresh
  have ID : Inv X pins σ (upd H2 s2.heap.objs.size (.dT [])) { s2 with heap := s2.heap.push { cls := .type "dict", data := .dict #[] } } := I2.laid (t' := s2.toks) (fun _ _ e => Heap.get?_push_of_some _ e) (Nat.le_refl _) (dt_empty s2.heap I2.big)
  have fpD : ∀ b ∈ fp, FpOk X pins (upd H2 s2.heap.objs.size (.dT [])) b ∧ b < (s2.heap.push { cls := .type "dict", data := .dict #[] }).objs.size := fun b hb => by
    obtain ⟨o, e, _⟩ := T.obj _ _ t2 b hb
    have lt := Heap.lt_size e
    exact ⟨⟨by rw [upd_ne (Nat.ne_of_lt lt)]; exact (own2 b hb).1, (own2 b hb).2⟩, by rw [Heap.size_push]; exact Nat.lt_succ_of_lt lt⟩
  have tD : tn 0 (s2.heap.push { cls := .type "dict", data := .dict #[] }) := T.keep _ _ _ t2 fun b _ o e => Heap.get?_push_of_some _ e
  generalize hs3 : ({ s2 with heap := s2.heap.push { cls := .type "dict", data := .dict #[] } } : Shared) = s3 at ID
  have h3 : s2.heap.push { cls := .type "dict", data := .dict #[] } = s3.heap := by rw [← hs3]
  rw [h3] at fpD tD
  generalize s2.heap.objs.size = D at fresh w0 turn ID fpD ⊢
  generalize upd H2 D (.dT []) = H3 at w0 ID fpD
  -- the block
  have IB := block_start ID ok hN fpD
  have pg := hg s3 H3 s3.heap.objs.size (cellsFrom (s3.heap.objs.size + 1) scope.names (cloFrom X.env.cells scope.names [])) fp
  have pt := ht s3 H3 s3.heap.objs.size (cellsFrom (s3.heap.objs.size + 1) scope.names (cloFrom X.env.cells scope.names [])) fp
  have pk := hk s3 H3 s3.heap.objs.size (cellsFrom (s3.heap.objs.size + 1) scope.names (cloFrom X.env.cells scope.names [])) fp
  have pv := he s3 H3 s3.heap.objs.size (cellsFrom (s3.heap.objs.size + 1) scope.names (cloFrom X.env.cells scope.names [])) fp
  have away : ∀ b ∈ fp, H3 b = none := fun b hb => (fpD b hb).1.1
  change codeAny _ _ (.compStart (.DictComp kx vx [⟨tg, iter, ifs, 0⟩] scope pos) 0 (.ref it) (.ref D) (compEnvC scope (cellsFrom (s3.heap.objs.size + 1) scope.names (cloFrom X.env.cells scope.names [])) s3.heap.objs.size X.env)) (compPost (model X.prog X.w) X.A X.xe none (EP X pins σ Q) (.ref D) s3.heap.objs.size) { s3 with heap := pushCells (s3.heap.push { cls := .type "dict", data := .dict #[] }) scope.names }
  generalize hce : compEnvC scope (cellsFrom (s3.heap.objs.size + 1) scope.names (cloFrom X.env.cells scope.names [])) s3.heap.objs.size X.env = ce at IB pg pt pk pv ⊢
  have cl : ce.locals = s3.heap.objs.size := by rw [← hce]; rfl
  generalize hs4 : ({ s3 with heap := pushCells (s3.heap.push { cls := .type "dict", data := .dict #[] }) scope.names } : Shared) = s4 at IB ⊢
  have t4 : tn 0 s4.heap := T.keep _ _ _ tD fun b _ o e => by rw [← hs4]; exact pushCells_keeps _ _ _ _ (Heap.get?_push_of_some _ e)
  -- what holds between two turns
  let B : Cx := X.blk s3 H3 scope ce fp
  have inB : ∀ {σ' : St} {H' : Hp} {s' : Shared}, Inv B [] σ' H' s' → (∀ b ∈ fp, H' b = none) → ∀ b ∈ fp, FpOk B [] H' b := fun J n b hb =>
    ⟨n b hb, (J.ok.exf b hb).1, J.ok.exfs b hb, .inl hb, fun x c e => (J.ok.exf b hb).2 x c e, fun _ hp => nomatch (show _ ∈ ([] : List (Addr × Obj)) from hp)⟩
  have loop : codeAny (model X.prog X.w) X.A (.compLoop (.DictComp kx vx [⟨tg, iter, ifs, 0⟩] scope pos) 0 (.ref it) (.ref D) ce) (compPost (model X.prog X.w) X.A X.xe none (EP X pins σ Q) (.ref D) s3.heap.objs.size) s4 := by
    refine compLoop_anyD (fun n s' => ∃ i H', Inv B [] (wipe σ (own.map (·.2))) H' s' ∧ tn i s'.heap ∧ (∀ b ∈ fp, H' b = none) ∧ W i n H') ?_ m0 ⟨0, H3, IB, t4, away, w0⟩
    rintro n s5 ⟨i, H5, I5, t5, n5, w5⟩
    rcases turn i n H5 w5 with ⟨stop, fin⟩ | ⟨go, Nx, next, step⟩
    · -- the iterator is at its end: back in the def
      refine thnF (T.done B rfl rfl rfl hc i [] s5 _ H5 (fun _ _ => False) I5 (inB I5 n5) t5 stop) fun r s6 ⟨hr, I6⟩ => ?_
      subst hr
      have back : Inv X pins σ H5 s6 := ID.call' (ch := fp) I6.os I6.base I6.hok I6.bare fun b hb => ⟨(fpD b hb).1.2.2.2.1, (fpD b hb).1.2.1, (fpD b hb).1.2.2.2.2.1, (fpD b hb).1.2.2.2.2.2⟩
      have gone : H5 s3.heap.objs.size = none := cl ▸ (show H5 ce.locals = none from I6.free)
      obtain ⟨m, ns, _⟩ := I6.loc
      have ns : s6.heap.Ns s3.heap.objs.size m := cl ▸ (show s6.heap.Ns ce.locals m from ns)
      obtain ⟨f0, f1, _, f3, f4, f5⟩ := ID.fpOk (Nat.le_refl _) gone
      exact ⟨m, ns, fun h'' sb => ⟨.ref D, H5, back.turned (t' := s6.toks) (fun b o hb e => (sb.2 b hb).trans e) f0 f1 f3 f4 f5, rfl, fin⟩⟩
    · -- a turn
      refine thnF (T.item B rfl rfl rfl hc i [] s5 _ H5 (fun _ _ => False) I5 (inB I5 n5) t5 go) fun r s6 ⟨u, hr, h6⟩ => ?_
      subst hr
      refine thnF h6 fun _ s7 ⟨x, H7, I7, r7, y7, t7, n7⟩ => ?_
      refine thnF (pg.run _ s7 _ H7 x u _ (I7.pinned (inB I7 n7) (T.obj _ _ t7)) r7 (step x H7 y7)) fun _ s8 ⟨σ8, H8, I8, hw, q8⟩ => ?_
      refine thnF (pt.run _ s8 σ8 H8 _ I8 q8) fun b s9 ⟨H9, I9, q9⟩ => ?_
      -- its end
      have done : ∀ {s' : Shared} {H' : Hp}, Inv B ([] ++ pinsAt fp s7.heap) σ8 H' s' → Nx H' → ∃ m, m < n ∧ ∃ i H', Inv B [] (wipe σ (own.map (·.2))) H' s' ∧ tn i s'.heap ∧ (∀ b ∈ fp, H' b = none) ∧ W i m H' := fun {s' H'} J nx => by
        obtain ⟨m', lt, w'⟩ := next H' nx
        have still : ∀ b ∈ fp, ∀ o, s7.heap.get? b = some o → s'.heap.get? b = some o ∧ H' b = none := fun b hb o e => by
          have z := J.pin (b, o) (List.mem_append_right _ (List.mem_append_right _ (mem_pinsAt hb e)))
          exact ⟨z.1, z.2.1⟩
        refine ⟨m', lt, i + 1, H', (J.unpinned (pins := [])).weak (by rw [← hw, wipe_length]) (fun j v e => ?_), T.keep _ _ _ t7 fun b hb o e => (still b hb o e).1, fun b hb => ?_, w'⟩
        · rw [← hw] at e
          exact (wipe_some e).1
        · obtain ⟨o, e, _⟩ := T.obj _ _ t7 b hb
          exact (still b hb o e).2
      cases b with
      | false => exact done I9 (by simpa using q9)
      | true =>
        have q9 : pairTurn D tk tv σ8 H9 Nx := by simpa using q9
        refine thnF (pk.run _ s9 σ8 H9 _ I9 q9) fun u10 s10 ⟨y10, H10, I10, r10, q10⟩ => ?_
        refine thnF (pv.run _ s10 σ8 H10 _ I10 q10) fun _ s11 ⟨_, H11, I11, r11, kvs, k, c, ek, hc11, hD11, hz, nx⟩ => ?_
        subst ek
        cases r10
        exact d_setPair (X := B) hu I11 hD11 hc11 hz r11 fun _ I12 => done I12 nx
  exact codeAny_compStart_dict loop (T.self X.A 0 _ _ _ t4 loop)
end
end Yd
namespace Yd
open PySem L2
/-! ### comprehensions, run over what an iterator yields -/
theorem dp_run {J : It} {n : Nat} {D : Addr} {g : TG} {tt : TT} {tk tv : TE} {vs : List Nat} {σ : St} {H1 : Hp} {Qd : Hp → Prop} (Pv : Nat → Hp → Prop) (h0 : Pv 0 (upd H1 D (.dT []))) (hgo : ∀ i H, i < n → Pv i H → J.go i H) (hst : ∀ H, Pv n H → J.stop n H)
    (hs : ∀ i x H H', i < n → Pv i H → J.yld i H x H' → g x (wipe σ vs) H' fun σ2 H2 => wipe σ2 vs = wipe σ vs ∧ tt σ2 H2 fun b H3 => if b = true then pairTurn D tk tv σ2 H3 (Pv (i + 1)) else Pv (i + 1) H3) (hd : ∀ H, Pv n H → Qd H) :
    ∃ W : Nat → Nat → Hp → Prop, (∃ m, W 0 m (upd H1 D (.dT []))) ∧ ∀ i m H, W i m H →
      (J.stop i H ∧ Qd H) ∨ (J.go i H ∧ ∃ Nx : Hp → Prop, (∀ H', Nx H' → ∃ m', m' < m ∧ W (i + 1) m' H') ∧ ∀ x H', J.yld i H x H' → g x (wipe σ vs) H' fun σ2 H2 => wipe σ2 vs = wipe σ vs ∧ tt σ2 H2 fun b H3 => if b = true then pairTurn D tk tv σ2 H3 Nx else Nx H3) := by
  refine ⟨fun i m H => m = n - i ∧ i ≤ n ∧ Pv i H, ⟨_, rfl, Nat.zero_le _, h0⟩, fun i m H ⟨em, hi, p⟩ => ?_⟩
  subst em
  by_cases lt : i < n
  · exact .inr ⟨hgo i H lt p, Pv (i + 1), fun H' p' => ⟨n - (i + 1), by omega, rfl, lt, p'⟩, fun x H' y => hs i x H H' lt p y⟩
  · have e : i = n := by omega
    subst e
    exact .inl ⟨hst H p, hd H p⟩
theorem lc_run {J : It} {n : Nat} {D : Addr} {g : TG} {tt : TT} {te : TE} {vs : List Nat} {σ : St} {H1 : Hp} {Qd : Hp → Prop} (Pv : Nat → Hp → Prop) (h0 : Pv 0 (upd H1 D (.lst []))) (hgo : ∀ i H, i < n → Pv i H → J.go i H) (hst : ∀ H, Pv n H → J.stop n H)
    (hs : ∀ i x H H', i < n → Pv i H → J.yld i H x H' → g x (wipe σ vs) H' fun σ2 H2 => wipe σ2 vs = wipe σ vs ∧ tt σ2 H2 fun b H3 => if b = true then te σ2 H3 fun y H4 => ∃ acc, H4 D = some (.lst acc) ∧ acc.length < sizeLine ∧ Pv (i + 1) (upd H4 D (.lst (acc ++ [y]))) else Pv (i + 1) H3) (hd : ∀ H, Pv n H → Qd H) :
    ∃ W : Nat → Nat → Hp → Prop, (∃ m, W 0 m (upd H1 D (.lst []))) ∧ ∀ i m H, W i m H →
      (J.stop i H ∧ Qd H) ∨ (J.go i H ∧ ∃ Nx : Hp → Prop, (∀ H', Nx H' → ∃ m', m' < m ∧ W (i + 1) m' H') ∧ ∀ x H', J.yld i H x H' → g x (wipe σ vs) H' fun σ2 H2 => wipe σ2 vs = wipe σ vs ∧ tt σ2 H2 fun b H3 =>
        if b = true then te σ2 H3 fun y H4 => ∃ acc, H4 D = some (.lst acc) ∧ acc.length < sizeLine ∧ Nx (upd H4 D (.lst (acc ++ [y]))) else Nx H3) := by
  refine ⟨fun i m H => m = n - i ∧ i ≤ n ∧ Pv i H, ⟨_, rfl, Nat.zero_le _, h0⟩, fun i m H ⟨em, hi, p⟩ => ?_⟩
  subst em
  by_cases lt : i < n
  · exact .inr ⟨hgo i H lt p, Pv (i + 1), fun H' p' => ⟨n - (i + 1), by omega, rfl, lt, p'⟩, fun x H' y => hs i x H H' lt p y⟩
  · have e : i = n := by omega
    subst e
    exact .inl ⟨hst H p, hd H p⟩
/-! ### each pair once; a dict of pairs -/
abbrev Pr := Str × Str
def addP (acc : List Pr) (p : Pr) : List Pr := if p ∈ acc then acc else acc ++ [p]
def onceP (ps : List Pr) : List Pr := ps.foldl addP []
theorem takeP {ps : List Pr} {i : Nat} {p : Pr} (h : ps[i]? = some p) : ps.take (i + 1) = ps.take i ++ [p] := by
  rw [List.take_add_one, h]
  rfl
theorem onceP_more {ps : List Pr} {i : Nat} {p : Pr} (h : ps[i]? = some p) : onceP (ps.take (i + 1)) = addP (onceP (ps.take i)) p := by
  unfold onceP
  rw [takeP h, List.foldl_append]
  rfl
theorem addP_nd {acc : List Pr} {p : Pr} (h : acc.Nodup) : (addP acc p).Nodup := by
  unfold addP
  by_cases m : p ∈ acc
  · rw [if_pos m]; exact h
  · rw [if_neg m, List.nodup_append]
    exact ⟨h, List.nodup_cons.mpr ⟨List.not_mem_nil, List.nodup_nil⟩, fun a ha b hb e => m (by rw [List.mem_singleton.mp hb] at e; rw [← e]; exact ha)⟩
theorem onceP_nd (ps : List Pr) : (onceP ps).Nodup := by
  unfold onceP
  suffices q : ∀ (l acc : List Pr), acc.Nodup → (l.foldl addP acc).Nodup from q ps [] List.nodup_nil
  intro l
  induction l with
  | nil => intro acc h; exact h
  | cons s l ih => intro acc h; exact ih _ (addP_nd h)
theorem onceP_len (ps : List Pr) : (onceP ps).length ≤ ps.length := by
  unfold onceP
  suffices q : ∀ (l acc : List Pr), (l.foldl addP acc).length ≤ acc.length + l.length by
    have := q ps []
    rw [List.length_nil, Nat.zero_add] at this
    exact this
  intro l
  induction l with
  | nil => intro acc; exact Nat.le_refl _
  | cons s l ih =>
    intro acc
    have h1 := ih (addP acc s)
    have h2 : (addP acc s).length ≤ acc.length + 1 := by
      unfold addP
      split
      · omega
      · rw [List.length_append]; exact Nat.le_refl _
    rw [List.foldl_cons, List.length_cons]
    omega
theorem onceP_mem {p : Pr} (ps : List Pr) : p ∈ onceP ps ↔ p ∈ ps := by
  unfold onceP
  suffices q : ∀ (l acc : List Pr), p ∈ l.foldl addP acc ↔ p ∈ acc ∨ p ∈ l by
    have := q ps []
    simpa using this
  intro l
  induction l with
  | nil => intro acc; simp
  | cons s l ih =>
    intro acc
    rw [List.foldl_cons, ih]
    unfold addP
    by_cases m : s ∈ acc
    · rw [if_pos m, List.mem_cons]
      exact ⟨fun h => h.elim .inl fun h => .inr (.inr h), fun h => h.elim .inl fun h => h.elim (fun e => .inl (by rw [e]; exact m)) .inr⟩
    · rw [if_neg m, List.mem_append, List.mem_singleton, List.mem_cons, or_assoc]
def kP (p : Pr) : List Key := [Sum.inr p.1, Sum.inr p.2]
theorem kP_inj {p q : Pr} (h : kP p = kP q) : p = q := by
  unfold kP at h
  injection h with h1 h2
  injection h2 with h2 _
  injection h1 with h1
  injection h2 with h2
  exact Prod.ext h1 h2
theorem kP_map (p : Pr) : (kP p).map kV = [.str p.1, .str p.2] := rfl
def pD (ps : List Pr) : List (List Key × V) := ps.map fun p => (kP p, V.bl true)
theorem pD_val (p : Pr) : ∀ ps : List Pr, valV (pD ps) (kP p) = if p ∈ ps then some (.bl true) else none
  | [] => by simp [pD, valV_nil]
  | t :: ps => by
    have e : pD (t :: ps) = (kP t, V.bl true) :: pD ps := rfl
    rw [e]
    by_cases h : t = p
    · subst h
      rw [valV_pos rfl, if_pos (List.mem_cons_self ..)]
    · rw [valV_neg (fun z => h (kP_inj z)), pD_val p ps]
      by_cases m : p ∈ ps
      · rw [if_pos m, if_pos (List.mem_cons_of_mem _ m)]
      · rw [if_neg m, if_neg fun q => (List.mem_cons.mp q).elim (fun z => h z.symm) m]
theorem pD_put (acc : List Pr) (p : Pr) : putK (pD acc) (kP p) (.bl true) = pD (addP acc p) := by
  unfold addP
  by_cases m : p ∈ acc
  · rw [if_pos m]
    unfold putK
    have a : ((pD acc).any fun kv => decide (kv.1 = kP p)) = true := by
      rw [valV_any, pD_val, if_pos m]
      rfl
    rw [if_pos a]
    have e : ∀ kv ∈ pD acc, (if kv.1 = kP p then (kv.1, V.bl true) else kv) = kv := fun kv hk => by
      obtain ⟨t, _, rfl⟩ := List.mem_map.mp hk
      split <;> rfl
    rw [List.map_congr_left e, List.map_id']
  · rw [if_neg m, putK_new _ (by rw [pD_val, if_neg m])]
    unfold pD
    rw [List.map_append]
    rfl
theorem pD_len (ps : List Pr) : (pD ps).length = ps.length := List.length_map _
theorem PairsAt.get {H : Hp} : ∀ {xs : List V} {ps : List Pr} {i : Nat} {x : V}, PairsAt H xs ps → xs[i]? = some x → ∃ t p, x = .ref t ∧ ps[i]? = some p ∧ H t = some (.tup [.str p.1, .str p.2])
  | v :: xs, p :: ps, 0, x, ⟨⟨t, e, h⟩, _⟩, hx => ⟨t, p, by rw [← Option.some.inj hx]; exact e, rfl, h⟩
  | v :: xs, p :: ps, i + 1, x, ⟨_, r⟩, hx => PairsAt.get (i := i) r (by simpa using hx)
  | [], _, _, _, _, hx => by simp at hx
  | _ :: _, [], _, _, h, _ => h.elim
end Yd
namespace Yd
open PySem L2
/-! ### == of two dicts whose keys are tuples -/
section
open PySem.W PySem.Calls
variable {prog : Program} {w : World} {K : Type} [DecidableEq K] {knd : HeapKind prog w K} {A : Around} {E : Value → Shared → Prop} {s : Shared}
inductive HitsH {K : Type} [DecidableEq K] (A : Around) (s : Shared) (ys : List (K × Addr × Value)) : List (K × Addr × Value) → Bool → Prop
  | nil : HitsH A s ys [] true
  | miss {k : K} {p : Addr × Value} {r : List (K × Addr × Value)} : atKey ys k = none → HitsH A s ys ((k, p) :: r) false
  | hit {k : K} {p y : Addr × Value} {r : List (K × Addr × Value)} {e b : Bool} : atKey ys k = some y → SeqAt.EqAt A s p.2 y.2 e → HitsH A s ys r b → HitsH A s ys ((k, p) :: r) (e && b)
theorem HitsH.inv {ys : List (K × Addr × Value)} {k : K} {p : Addr × Value} {r : List (K × Addr × Value)} {b : Bool} (h : HitsH A s ys ((k, p) :: r) b) :
    (atKey ys k = none ∧ b = false) ∨ ∃ y e b', atKey ys k = some y ∧ SeqAt.EqAt A s p.2 y.2 e ∧ HitsH A s ys r b' ∧ b = (e && b') := by
  cases h with
  | miss hn => exact .inl ⟨hn, rfl⟩
  | hit hy he hr => exact .inr ⟨_, _, _, hy, he, hr, rfl⟩
theorem heq_samePairs {nm : String} {a b : Addr} {xs ys : List (K × Addr × Value)} {r : Bool} {Q : Bool → Shared → Prop} (hu : knd.room A) (ha : (a == sysModules) = false) (hb : (b == sysModules) = false)
    (da : s.heap.DictOfH knd a xs) (db : s.heap.DictOfH knd b ys) (hits : xs.length = ys.length → HitsH A s ys xs r) (h : Q (xs.length == ys.length && r) s) :
    wpAny (model prog w) A (Builtin.Dict.samePairs nm a b) Q E s := by
  obtain ⟨oa, es, ep, hoa, _, hda, hea, hka, hna⟩ := da
  obtain ⟨ob, es', ep', hob, _, hdb, heb, hkb, hnb⟩ := db
  have hla : xs.length = es.size := (size_of_entries hea).symm
  have hlb : ys.length = es'.size := (size_of_entries heb).symm
  rw [hla, hlb] at h
  unfold Builtin.Dict.samePairs Builtin.Dict.showsAll
  rw [if_neg (show ¬ (a == sysModules) = true by rw [ha]; exact Bool.false_ne_true), if_neg (show ¬ (b == sysModules) = true by rw [hb]; exact Bool.false_ne_true)]
  refine wpAny_bind (wpAny_pure (wpAny_bind (wpAny_pure ?_)))
  refine wpAny_bind (wpAny_dictEntries hoa hda ?_)
  dsimp only
  refine wpAny_bind (wpAny_dictEntries hob hdb ?_)
  by_cases hsz : es.size = es'.size
  case neg =>
    rw [if_pos (by simpa using hsz)]
    have hbf : (es.size == es'.size) = false := by simpa using hsz
    rw [hbf, Bool.false_and] at h
    exact wpAny_bind (wpAny_rule (wpAny_pure h))
  case pos =>
    have h' : Q r s := by simpa [hsz] using h
    have hits' := hits (by rw [hla, hlb]; exact hsz)
    rw [if_neg (by rw [hsz]; simp)]
    refine wpAny_bind (wpAny_dictEpoch hoa hda ?_)
    refine wpAny_bind ?_
    rw [Std.Legacy.Range.forIn_eq_forIn_range']
    simp only [Std.Legacy.Range.size, Nat.sub_zero, Nat.add_sub_cancel, Nat.div_one]
    refine wpAny_forIn_list _
      (fun rest q s' => s' = s ∧ q = (none, ()) ∧ ∃ i, rest = List.range' i (es.size - i) ∧ i ≤ es.size ∧ HitsH A s ys (xs.drop i) r)
      _ ?_ ?_ _ _ ⟨rfl, rfl, 0, by simp, Nat.zero_le _, hits'⟩
    · rintro x rest q s' ⟨rfl, rfl, i, hr, hi, hpre⟩
      have hlt : i < es.size := by
        rcases Nat.lt_or_ge i es.size with h | h
        · exact h
        · rw [Nat.sub_eq_zero_of_le h] at hr; simp at hr
      obtain ⟨rfl, hrest⟩ : x = i ∧ rest = List.range' (i + 1) (es.size - (i + 1)) := by
        have e : es.size - i = (es.size - (i + 1)) + 1 := by omega
        rw [e, List.range'_succ] at hr
        injection hr with h1 h2
        exact ⟨h1, h2⟩
      refine wpAny_bind (wpAny_dictEntries hoa hda ?_)
      rw [Array.getElem?_eq_getElem hlt]
      have hlt' : x < xs.length := by rw [hla]; exact hlt
      obtain ⟨k, p, hkv⟩ : ∃ k p, xs[x] = (k, p) := ⟨_, _, rfl⟩
      have hdrop : xs.drop x = (k, p) :: xs.drop (x + 1) := by rw [← hkv]; exact List.drop_eq_getElem_cons hlt'
      have hent : es[x] = entryOfKey knd (k, p) := by
        have q := entry_at hea x
        rw [Array.getElem?_eq_getElem hlt, List.getElem?_eq_getElem hlt', hkv] at q
        exact Option.some.inj q
      have hkey : knd.is s'.heap k p.1 := hka (k, p) (by rw [← hkv]; exact List.getElem_mem hlt')
      rw [hdrop] at hpre
      rw [hent]
      refine wpAny_bind (wpAny_holding (wpAny_bind (wpAny_dictFind_heap (k := k) (a := p.1) hu hkey hob hdb heb hkb hnb (fun hnone => ?_) fun j y hj => ?_)))
      · have hn : atKey ys k = none := atKey_none_of_get hnone
        rcases hpre.inv with ⟨_, er⟩ | ⟨y, _, _, hy, _⟩
        · rw [er] at h'
          refine wpAny_pure ?_
          show wpAny _ _ (if (!false) = true then _ else _) _ _ _
          rw [if_pos (by decide)]
          exact wpAny_pure (wpAny_pure h')
        · rw [hn] at hy; exact nomatch hy
      · have hv' : atKey ys k = some y := atKey_of_get hnb hj
        refine wpAny_bind (wpAny_dictEntries hob hdb ?_)
        have hej : es'[j]? = some (entryOfKey knd (k, y)) := by rw [entry_at heb j, hj]; rfl
        rw [hej]
        rcases hpre.inv with ⟨hn, _⟩ | ⟨y', e, b', hy, he, hrr, er⟩
        · rw [hv'] at hn; exact nomatch hn
        · have ey : y = y' := Option.some.inj (hv'.symm.trans hy)
          rw [← ey] at he
          refine wpAny_holding (he prog w _ _ ?_)
          cases e with
          | false =>
            rw [er, Bool.false_and] at h'
            show wpAny _ _ (if (!false) = true then _ else _) _ _ _
            rw [if_pos (by decide)]
            exact wpAny_pure (wpAny_pure h')
          | true =>
            rw [Bool.true_and] at er
            rw [← er] at hrr
            show wpAny _ _ (if (!true) = true then _ else _) _ _ _
            rw [if_neg (by decide)]
            refine wpAny_bind (wpAny_dictEpoch hoa hda ?_)
            rw [if_neg (by simp)]
            exact wpAny_pure ⟨rfl, rfl, x + 1, hrest, hlt, hrr⟩
    · rintro q s' ⟨rfl, rfl, i, hr, hi, hpre⟩
      have hin : i = es.size := by
        rcases Nat.lt_or_ge i es.size with h | h
        · have e : es.size - i = (es.size - (i + 1)) + 1 := by omega
          rw [e, List.range'_succ] at hr; exact nomatch hr
        · exact Nat.le_antisymm hi h
      refine wpAny_pure ?_
      rw [hin, ← hla, List.drop_length] at hpre
      cases hpre
      exact h'
theorem heq_eq {a b : Addr} {xs ys : List (K × Addr × Value)} {r : Bool} {Q : Value → Shared → Prop} (hk : knd.room A.in1) (ha : (a == sysModules) = false) (hb : (b == sysModules) = false)
    (da : s.heap.DictOfH knd a xs) (db : s.heap.DictOfH knd b ys) (hu : A.units < cLine) (hits : xs.length = ys.length → HitsH A.in1 s ys xs r) (h : Q (.bool (xs.length == ys.length && r)) s) :
    wpAny (model prog w) A (compareOp .Eq (.ref a) (.ref b)) Q E s := by
  refine wpAny_richCompare_same_room (op := .Eq) da.typeIs db.typeIs PySem.F.slot_dict_eq (wpAny_call_entry PySem.F.slot_dict_eq da.typeIs PySem.F.entry_dict_eq ?_ (PySem.F.args_dict_eq_2 _ _)) hu
  show wpAny _ _ (Builtin.Dict.dictSlotArgs "__eq__" ⟨[.ref a, .ref b], []⟩ >>= _) _ _ s
  refine wpAny_bind ?_
  unfold Builtin.Dict.dictSlotArgs
  refine wpAny_bind (wpAny_notOrdered_dict da.typeIs ?_)
  show wpAny _ _ (pure (Value.ref a, Value.ref b)) _ _ s
  refine wpAny_pure ?_
  refine wpAny_bind (wpAny_isInstance (T := "dict") db.typeIs PySem.F.sub_dict_dict ?_)
  simp only [Bool.not_true, Bool.false_eq_true, if_false]
  refine wpAny_bind (wpAny_pure (wpAny_bind (wpAny_pure ?_)))
  refine wpAny_bind (heq_samePairs hk ha hb da db hits ?_)
  refine wpAny_pure ⟨_, rfl, ?_, ?_⟩
  · exact fun x => nomatch x
  · simpa using h
/-- what the values of the one say of those of the other -/
inductive HitsT (K : PySem.W.Frag) (H : Hp) (ls : List (List Key × V)) : List (List Key × V) → Bool → Prop
  | nil : HitsT K H ls [] true
  | miss {k : List Key} {v : V} {r : List (List Key × V)} : valV ls k = none → HitsT K H ls ((k, v) :: r) false
  | hit {k : List Key} {v v' : V} {d d' : PyData} {r : List (List Key × V)} {b : Bool} : valV ls k = some v' → Dp K H v d → Dp K H v' d' → d.plain = true → d'.plain = true → d.depth ≤ 60 → HitsT K H ls r b → HitsT K H ls ((k, v) :: r) (PyData.eqv d d' && b)
variable {X : Cx}
def rEqT (K : PySem.W.Frag) : R2 := fun x y H Q => ∃ a b ks ls r, x = .ref a ∧ y = .ref b ∧ Rd H a (.dT ks) ∧ Rd H b (.dT ls) ∧ (ks.length = ls.length → HitsT K H ls ks r) ∧ Q (.bl (ks.length == ls.length && r)) H
theorem op_eqT (hu : X.A.units + 70 < cLine) : OpR X (compareOp .Eq) (rEqT X.K) := by
  intro pins s σ H x y v u Q I rx ry h
  obtain ⟨a, b, ks, ls, r, rfl, rfl, ea, eb, hits, q⟩ := h
  obtain rfl : v = Value.ref a := rx
  obtain rfl : u = Value.ref b := ry
  obtain ⟨_, ya, xs, ra, da⟩ := dt_rd I.hok ea
  obtain ⟨_, yb, ys, rb, db⟩ := dt_rd I.hok eb
  have la : ks.length = xs.length := Paired.length ra
  have lb : ls.length = ys.length := Paired.length rb
  have conv : ∀ (ks : List (List Key × V)) (xs : List (List Key × Addr × Value)) (r : Bool), KT H ks xs → HitsT X.K H ls ks r → HitsH X.A.in1 s ys xs r := by
    intro ks xs r hk hh
    induction hh generalizing xs with
    | nil => cases hk; exact .nil
    | @miss k v rest hn =>
      cases hk with
      | @cons _ q _ qs h t =>
        obtain ⟨k', p⟩ := q
        obtain ⟨h1, _, _⟩ := h
        have h1 : k = k' := h1
        subst h1
        refine .miss ?_
        have z := rb.val k
        rw [hn] at z
        cases e : atKey ys k with
        | none => rfl
        | some y => rw [e] at z; exact z.elim
    | @hit k v v' d d' rest b hv hd hd' pd pd' dd hr ih =>
      cases hk with
      | @cons _ q _ qs h t =>
        obtain ⟨k', p⟩ := q
        obtain ⟨h1, _, h3⟩ := h
        have h1 : k = k' := h1
        subst h1
        have z := rb.val k
        rw [hv] at z
        cases e : atKey ys k with
        | none => rw [e] at z; exact z.elim
        | some y =>
          rw [e] at z
          obtain ⟨as, r1⟩ := Dp.reads I d v p.2 hd h3
          obtain ⟨bs, r2⟩ := Dp.reads I d' v' y.2 hd' z
          exact .hit e (SeqAt.eqAt_plain d d' X.A.in1 s p.2 y.2 as bs r1 r2 pd pd' (by show X.A.units + 1 + _ < cLine; omega)) (ih _ t)
  refine heq_eq (knd := tupleKind (mixKind X.prog X.w)) (r := r) (by show X.A.units + 1 < cLine; omega) ya yb da db (by omega) (fun e => conv ks xs r ra (hits (by omega))) ⟨.bl _, H, I, rfl, ?_⟩
  rw [← la, ← lb]
  exact q
end
end Yd
namespace Yd
open PySem L2
/-! ### o as *o: an instance whose __iter__ gives the iterator of a dict with tuple keys, with a __len__ of its own -/
section
open PySem.W PySem.Calls
variable {X : Cx} {pins : List (Addr × Obj)} {σ : St} {H : Hp} {s : Shared} {A : Around}
theorem env0_sub {n : Nat} (sb : Sub X n A) (I : Inv X pins σ H s) : Env0 X.prog X.w X.K X.mg X.base A X.stack s H := by
  have e := I.env0
  exact ⟨by rw [sb.fr]; exact e.frames, e.mod, e.bs, e.bsz, e.funs, e.frf, e.hok, e.bare⟩
variable {k : Nat} {f C : Addr} {fd : FuncData} {ps : List Str} {us : List Value} {vs : List V} {Q : VK} {E : Value → Shared → Prop} {E0 : XK}
/-- a call, somewhere below the running body, of a def that lets nothing out -/
theorem run_sub {sp : Sp} (sb : Sub X k A) (F : FnOk X.prog X.w X.K X.mg X.base CX0 k f fd ps sp) (hb : Binds X.K fd ps []) (I : Inv X pins σ H s) (r : Vals vs us) (h : sp vs H Q E0) :
    wpAny (model X.prog X.w) A (call (.ref f) us) (EP X pins σ Q) E s := by
  have hl : (us ++ []).length = ps.length := by rw [List.append_nil, ← r.length]; exact F.len _ _ _ _ h
  have b := hb s us I.kIn hl
  rw [List.append_nil] at b
  refine wpAny_call (codeAny_mono (F.run A X.stack s H ⟨us, []⟩ us vs Q E0 sb.room (env0_sub sb I) b r h) fun r s' hq => ?_)
  match r, hq with
  | .ok (.ret u), hq => exact I.after hq
theorem run_subN {sp : Nat → Sp} (sb : Sub X k A) (F : FnN X.prog X.w X.K X.mg X.base k f fd ps sp) (hb : Binds X.K fd ps []) (I : Inv X pins σ H s) (r : Vals vs us) (h : sp s.heap.objs.size vs H Q E0) :
    wpAny (model X.prog X.w) A (call (.ref f) us) (EP X pins σ Q) E s := by
  have hl : (us ++ []).length = ps.length := by rw [List.append_nil, ← r.length]; exact F.len _ _ _ _ _ h
  have b := hb s us I.kIn hl
  rw [List.append_nil] at b
  refine wpAny_call (codeAny_mono (F.run A X.stack s H ⟨us, []⟩ us vs Q E0 sb.room (env0_sub sb I) b r h) fun r s' hq => ?_)
  match r, hq with
  | .ok (.ret u), hq => exact I.after hq
/-- a record of ours is pinned -/
theorem pinN {u : Addr} {o : Obj} (I : Inv X pins σ H s) (hu : s.heap.get? u = some o) (hn : H u = none) (hL : u ≠ X.env.locals) (hf : u ∉ X.fs) (hd : ∀ v, o.data ≠ .cell v) : Inv X ((u, o) :: pins) σ H s :=
  I.pins_of fun p hp => by
    rcases List.mem_cons.mp hp with rfl | hp
    · exact ⟨hu, hn, hL, hf, hd⟩
    · exact I.pin p (List.mem_append_right _ hp)
theorem pinO {u : Addr} {o : Obj} (I : Inv X ((u, o) :: pins) σ H s) : Inv X pins σ H s := I.pins_of fun p hp => I.pin p (List.mem_append_right _ (List.mem_cons_of_mem _ hp))
/-- how long o says that it is -/
theorem hint_own {spl : Sp} {dx : Addr} {fs : List (Str × V)} {a : Addr} {Q : Bool → Shared → Prop} (sb : Sub X (k + 1) A) (c : OpC X.K C "__len__" f) (F : FnOk X.prog X.w X.K X.mg X.base CX0 k f fd ps spl) (hb : Binds X.K fd ps []) (I : Inv X pins σ H s)
    (ha : H a = some (.ins C dx fs)) (h : spl [.ref a] H (fun v H' => H' = H ∧ ∃ n : Nat, v = .int n ∧ n ≤ sizeLine) E0) (hQ : ∀ b s', Inv X pins σ H s' → Q b s') :
    wpAny (model X.prog X.w) A (Builtin.List.listLengthHint (.ref a)) Q E s := by
  obtain ⟨m, hF⟩ := I.fr
  obtain ⟨mA, O, _⟩ := ins_get I.hok ha
  obtain ⟨oa, J, _⟩ := O.look
  unfold Builtin.List.listLengthHint
  refine wpAny_bind (wpAny_bind (J.type.here ((looks_findIn I.kIn c.at_).here ?_)))
  refine KFB.if_not rfl ?_
  refine KFB.if_so rfl ?_
  refine wpAny_bind (wpAny_rule ?_)
  refine wpAny_bind (wpAny_attempt (len_K hF I.ok.mod.kin J c.at_ c.fn (wpAny_mono (run_sub sb.in1 F hb I (us := [.ref a]) (vs := [.ref a]) (.cons rfl .nil) h) (fun r s1 ⟨z, H1, I1, rz, eH, n, ez, hn⟩ => ?_) fun _ _ z => z)))
  subst ez
  subst eH
  obtain ⟨t, rfl⟩ := (show ∃ t, r = Value.int (n : Int) t from rz)
  have h63 : (n : Int) < 2 ^ 63 := by
    have : sizeLine < 2 ^ 63 := by decide
    omega
  refine ⟨⟨Int.natCast_nonneg n, h63⟩, ?_⟩
  refine wpAny_bind (wpAny_pure ?_)
  refine wpAny_ite_split (fun z => ?_) (fun _ => wpAny_pure (hQ _ _ (I1.tok _)))
  exfalso
  have : ¬ (n > sizeLine) := by omega
  simp [Builtin.List.listTooLong] at z
  omega
theorem kt_up {H H2 : Hp} {kvs : List (List Key × V)} {ks : List (List Key × Addr × Value)} (up : ∀ b xs, H2 b = some (.tup xs) → H b = some (.tup xs)) (pr : KT H2 kvs ks) : KT H kvs ks := by
  induction pr with
  | nil => exact .nil
  | cons h t ih => exact .cons ⟨h.1, up _ _ h.2.1, h.2.2⟩ ih
/-- the class: its __iter__ and its __len__ -/
structure StarC (K : Frag) (C fi fl : Addr) : Prop where
  it : OpC K C "__iter__" fi
  ln : OpC K C "__len__" fl
section
variable {fi fl a d : Addr} {fdi fdl : FuncData} {psi psl : List Str} {sp : Nat → Sp} {spl : Sp} {dx : Addr} {fs : List (Str × V)} {od : Obj} {kvs : List (List Key × V)}
/-- where the list S takes in what o's iterator gives -/
theorem own_ext {S : Addr} {R : Result → Shared → Prop} (c : StarC X.K C fi fl) (FI : FnN X.prog X.w X.K X.mg X.base k fi fdi psi sp) (bI : Binds X.K fdi psi []) (FL : FnOk X.prog X.w X.K X.mg X.base CX0 k fl fdl psl spl) (bL : Binds X.K fdl psl [])
    (hr : Room (k + 2) X.A) (hh : X.A.handled = none) (fpS : FpOk X pins H S) (I2 : Inv X ((S, ({ cls := .type "list", data := .seq #[] 0 } : Obj)) :: pins) σ H s) (ha : H a = some (.ins C dx fs)) (hd : H d = some (.frz od (.dT kvs)))
    (hi : ∀ n, sp n [.ref a] H (fun v H2 => ∃ it, v = .ref it ∧ n ≤ it ∧ H it = none ∧ H2 = upd H it (KIo d it od kvs.length)) (fun _ _ _ => False))
    (hl : ∀ H2, H2 a = some (.ins C dx fs) → H2 d = some (.frz od (.dT kvs)) → spl [.ref a] H2 (fun v H' => H' = H2 ∧ ∃ n : Nat, v = .int n ∧ n ≤ sizeLine) (fun _ _ _ => False))
    (hR : ∀ (bs : List Addr) s' c', Inv X pins σ H s' → IsKeys H kvs bs → s'.heap.get? S = some { cls := .type "list", dict := none, data := .seq (bs.map Value.ref).toArray c', slots := #[] } → R (.ok (.ret (.ref S))) s') :
    wpAny (model X.prog X.w) X.A.in1 (Builtin.List.listExtendWith (.ref S) (.ref a) (.ref S))
      (fun fin s' => match fin with | .done f => R (.ok f) s' | .again c' => c'.quiet = true ∧ codeAny (model X.prog X.w) X.A c' R s') (fun e s' => R (.error e) s') s := by
  have sb1 : Sub X (k + 1) X.A.in1 := Sub.in1 (⟨hr, rfl⟩ : Sub X (k + 2) X.A)
  obtain ⟨m1, hF1⟩ := I2.fr
  obtain ⟨mA1, O1, _⟩ := ins_get I2.hok ha
  obtain ⟨oa1, J1, _⟩ := O1.look
  have hne : S ≠ a := fun z => by rw [← z, fpS.1] at ha; cases ha
  unfold Builtin.List.listExtendWith
  refine wpAny_bind (J1.type.here ?_)
  have h1 : Builtin.List.listSameRef (.ref S) (.ref a) = false := by simp [Builtin.List.listSameRef, hne]
  have h2 : (Value.ref C == Value.type "list") = false := rfl
  have h3 : (Value.ref C == Value.type "tuple") = false := rfl
  simp only [h1, h2, h3, Bool.or_false, Bool.false_eq_true, if_false]
  refine wpAny_bind (owit_iter hF1 I2.ok.mod.kin J1 c.it.at_ c.it.fn (wpAny_mono (run_subN (sb1.mono (Nat.le_succ k)) FI bI I2 (us := [.ref a]) (vs := [.ref a]) (.cons rfl .nil) (hi _)) (fun v s2 hv => ?_) fun _ _ z => z))
  obtain ⟨v', H2, I3, rv, it, ev, hn, hit, eH⟩ := hv
  subst ev
  obtain rfl : v = Value.ref it := rv
  have e2 : H2 it = some (KIo d it od kvs.length) := by rw [eH, upd_same]
  have young : X.s_0.heap.objs.size ≤ it := Nat.le_trans I2.sz hn
  have hd2 : H2 d = some (.frz od (.dT kvs)) := by rw [eH, upd_ne (ne_of_none hd hit)]; exact hd
  have ha2 : H2 a = some (.ins C dx fs) := by rw [eH, upd_ne (ne_of_none ha hit)]; exact ha
  have hT : s2.TypeIs (.ref it) "dict_keyiterator" := by
    obtain ⟨⟨es, ep, hdd, st⟩, _⟩ := (show ObjOk X.prog X.w H2 s2.heap it (KIo d it od kvs.length) from I3.hok it _ e2)
    exact let ⟨o, ho, hc, _⟩ := st; ⟨o, ho, hc⟩
  unfold OwitIt
  refine wpAny_specialOf hT PySem.F.slot_dict_keyiterator_next.lookup ?_
  refine wpAny_bind (wpAny_holding (hint_own sb1 c.ln FL bL I3 ha2 (hl H2 ha2 hd2) fun b s3 I4 => ?_))
  obtain ⟨⟨es, ep, hdd, st⟩, _⟩ := (show ObjOk X.prog X.w H2 s3.heap it (KIo d it od kvs.length) from I4.hok it _ e2)
  obtain ⟨hod, z, hsy, ks, pr, o', es', ep', ho, hx, hdt, he, hnd⟩ := I4.hok d _ hd2
  rw [hod] at ho
  cases ho
  rw [hdd] at hdt
  cases hdt
  have hS3 : s3.heap.get? S = some { cls := .type "list", data := .seq #[] 0 } := (I4.pin _ (List.mem_append_right _ (List.mem_cons_self ..))).1
  have l1 : es.size = ks.length := size_of_entries he
  have l2 : kvs.length = ks.length := Paired.length pr
  have hSit : S ≠ it := fun q => by
    have w := (I4.pin _ (List.mem_append_right _ (List.mem_cons_self ..))).2.1
    rw [q, e2] at w
    cases w
  have hSd : S ≠ d := fun q => by
    have w := (I4.pin _ (List.mem_append_right _ (List.mem_cons_self ..))).2.1
    rw [q, hd2] at w
    cases w
  have hdit : d ≠ it := ne_of hd2 e2 (fun z => nomatch z)
  have W := walks_raw (prog := X.prog) (w := X.w) (A := X.A.in1) (o := od) (es := es) (ep := ep) hh it d hdit hdd
  rw [l2, ← l1] at st
  have hSf : S ∉ [it, d] := by simp only [List.mem_cons, List.not_mem_nil, or_false, not_or]; exact ⟨hSit, hSd⟩
  have I5 : Inv X pins σ (ItX.dropH H2 it) s3 := by
    have w := e2
    unfold KIo at w
    exact ItX.inv_drop (pinO I4) w
  have fpI : FpOk X pins (ItX.dropH H2 it) it := ItX.inv_fp (pinO I4) e2 young
  have hdrop : ItX.dropH H2 it = H := by rw [eH]; exact ItX.dropH_upd hit
  rw [hdrop] at I5 fpI
  have pr' : KT H kvs ks := by
    have up : ∀ b xs, H2 b = some (.tup xs) → H b = some (.tup xs) := fun b xs e => by
      have hb : b ≠ it := fun q => by rw [q, e2] at e; cases e
      rw [eH, upd_ne hb] at e
      exact e
    exact kt_up up pr
  -- the loop
  have key : ∀ (h : Heap) (c₁ tk : Nat), h.IsKeyIter it d 0 es.size ep ∧ h.get? d = some od → (∀ b o, b ≠ S → s3.heap.get? b = some o → h.get? b = some o) → h.get? S = some { cls := .type "list", data := .seq #[] c₁ } →
      codeAny (model X.prog X.w) X.A (.builtin "list.extend.loop" ⟨[.ref S, .ref it, .ref S], []⟩) R { s3 with heap := h, toks := tk } := by
    intro h c₁ tk hst hk hS₁
    refine codeAny_extend_loopS W.toS (by omega) S hSf (.ref S) es.size 0 _ #[] c₁ rfl (Nat.zero_le _) hst hS₁ (ItemsOf.nil _) fun s' acc' c' hm hS' hacc => ?_
    have ke : ∀ b o, b ∉ [S, it] → s3.heap.get? b = some o → s'.heap.get? b = some o := fun b o hb e => by
      simp only [List.mem_cons, List.not_mem_nil, or_false, not_or] at hb
      exact hm.heap b o (by simp only [List.mem_cons, List.not_mem_nil, or_false, not_or]; exact hb) (hk b o hb.1 e)
    have ea : acc'.toList = ks.map fun x => Value.ref x.2.1 := by
      have hll : acc'.toList.length = ks.length := by rw [Array.length_toList, hacc.1]; exact l1
      apply List.ext_getElem?
      intro j
      rw [List.getElem?_map]
      cases hj : acc'.toList[j]? with
      | none =>
        have h1 := List.getElem?_eq_none_iff.mp hj
        rw [List.getElem?_eq_none (by omega)]
        all_goals rfl
      | some v =>
        obtain ⟨en, hen, hv⟩ := hacc.2 j v (by rw [← Array.getElem?_toList]; exact hj)
        have qe := entry_at he j
        rw [hen] at qe
        cases hb : ks[j]? with
        | none =>
          rw [hb] at qe
          exact nomatch (show some en = none from qe)
        | some b =>
          rw [hb] at qe
          have e2 : en = entryOfKey (tupleKind (mixKind X.prog X.w)) b := Option.some.inj qe
          rw [hv, e2]
          all_goals rfl
    have eb : acc'.toList = (ks.map fun x => x.2.1).map Value.ref := by rw [ea, List.map_map]; all_goals rfl
    have ec : acc' = ((ks.map fun x => x.2.1).map Value.ref).toArray := by rw [← eb]
    rw [ec] at hS'
    have es' := Moved.eq_with hm
    have J6 : Inv X pins σ H { s3 with heap := s'.heap, toks := s'.toks } := Inv.turnedL (ch := [S, it]) (t' := s'.toks) I5 ke fun b hb => by
      rcases List.mem_cons.mp hb with q | q
      · rw [q]; exact fpS
      · rw [List.mem_singleton.mp q]; exact fpI
    exact hR _ s' c' (by rw [es']; exact J6) (isKeys_of pr') hS'
  refine wpAny_ite_split (fun _ => ?_) (fun _ => wpAny_pure ⟨plainId_quiet PySem.F.plain_extend_loop _, key s3.heap 0 s3.toks ⟨st, hod⟩ (fun b o _ e => e) hS3⟩)
  refine wpAny_bind (wpAny_rule ?_)
  refine wpAny_bind ?_
  show wpAny _ _ (updateSeq S (·.push .none) >>= fun _ => updateSeq S (·.pop)) _ _ _
  refine wpAny_bind (wpAny_updateSeq hS3 rfl ?_)
  have hS₂ := Heap.get?_update_self (Obj.mapSeq (·.push Value.none)) hS3 rfl
  refine wpAny_updateSeq (hz := by seq_fits) hS₂ rfl ?_
  have hS₃ := Heap.get?_update_self (Obj.mapSeq (·.pop)) hS₂ rfl
  refine wpAny_pure ⟨plainId_quiet PySem.F.plain_extend_loop _, key _ _ _ ?_ (fun b o hb e => ?_) hS₃⟩
  · refine W.frame 0 _ _ ⟨st, hod⟩ fun b hb o e => ?_
    have hbS : b ≠ S := fun h => hSf (h ▸ hb)
    exact (Heap.get?_update_other _ _ (Ne.symm hbS)).trans ((Heap.get?_update_other _ _ (Ne.symm hbS)).trans e)
  · exact (Heap.get?_update_other _ _ (Ne.symm hb)).trans ((Heap.get?_update_other _ _ (Ne.symm hb)).trans e)
theorem star_own {Q : List Value → Shared → Prop} (c : StarC X.K C fi fl) (FI : FnN X.prog X.w X.K X.mg X.base k fi fdi psi sp) (bI : Binds X.K fdi psi []) (FL : FnOk X.prog X.w X.K X.mg X.base CX0 k fl fdl psl spl) (bL : Binds X.K fdl psl [])
    (hr : Room (k + 2) X.A) (hc : X.calm = true) (I : Inv X pins σ H s) (ha : H a = some (.ins C dx fs)) (hd : H d = some (.frz od (.dT kvs)))
    (hi : ∀ n, sp n [.ref a] H (fun v H2 => ∃ it, v = .ref it ∧ n ≤ it ∧ H it = none ∧ H2 = upd H it (KIo d it od kvs.length)) (fun _ _ _ => False))
    (hl : ∀ H2, H2 a = some (.ins C dx fs) → H2 d = some (.frz od (.dT kvs)) → spl [.ref a] H2 (fun v H' => H' = H2 ∧ ∃ n : Nat, v = .int n ∧ n ≤ sizeLine) (fun _ _ _ => False))
    (hQ : ∀ bs s', Inv X pins σ H s' → IsKeys H kvs bs → Q (bs.map Value.ref) s') : StarOf (model X.prog X.w) X.A E (.ref a) Q s := by
  obtain ⟨mA, O, _⟩ := ins_get I.hok ha
  obtain ⟨oa, J, _⟩ := O.look
  unfold StarOf notIterableAtAll
  refine wpAny_bind (wpAny_bind (J.type.here ((looks_findIn I.kIn c.it.at_).here ?_)))
  refine wpAny_pure ⟨rfl, ?_⟩
  have fpS : FpOk X pins H s.heap.objs.size := I.fpOk (Nat.le_refl _) (I.hok.fresh (Nat.le_refl _))
  have new : (s.heap.push { cls := .type "list", data := .seq ([] : List Value).toArray }).get? s.heap.objs.size = some { cls := .type "list", data := .seq #[] 0 } := Heap.get?_push_size _ rfl
  unfold collect
  refine wpAny_bind (wpAny_runValue (codeAny_builtin F.entry_proto_collect ?_))
  rw [Around.under_plainId F.plain_proto_collect _]
  refine wpAny_bind (m := newList []) (wpAny_newObj_type (wpAny_pure ⟨plainId_quiet F.plain_list_iadd _, codeAny_builtin F.entry_list_iadd ?_⟩))
  rw [Around.under_plainId F.plain_list_iadd _]
  have I1 : Inv X pins σ H { s with heap := s.heap.push { cls := .type "list", data := .seq ([] : List Value).toArray } } := I.kept (t' := s.toks) fun b o q => Heap.get?_push_of_some _ q
  have I2 := pinN (o := { cls := .type "list", data := .seq #[] 0 }) I1 new fpS.1 fpS.2.1 fpS.2.2.1 (fun v z => by cases z)
  refine wpAny_mono (own_ext (S := s.heap.objs.size) (R := fun rr s' => rr = .ok (.ret (.ref s.heap.objs.size)) ∧ ∃ (bs : List Addr) (c' : Nat), s'.heap.get? s.heap.objs.size = some { cls := .type "list", dict := none, data := .seq (bs.map Value.ref).toArray c', slots := #[] } ∧ Q (bs.map Value.ref) s')
    c FI bI FL bL hr (I.ok.hd hc) fpS I2 ha hd hi hl (fun bs s' c' I' ik e => ⟨rfl, bs, c', e, hQ bs s' I' ik⟩)) (fun fin s' z => ?_) fun e s' z => absurd z.1 (by simp)
  cases fin with
  | done f =>
    obtain ⟨e, bs, c', hS, q⟩ := z
    cases e
    exact wpAny_bind (m := load s.heap.objs.size) (wpAny_load hS (wpAny_pure (by simpa using q)))
  | again c2 =>
    refine ⟨z.1, codeAny_mono z.2 fun rr s'' y => ?_⟩
    obtain ⟨e, bs, c', hS, q⟩ := y
    cases e
    exact wpAny_bind (m := load s.heap.objs.size) (wpAny_load hS (wpAny_pure (by simpa using q)))
/-- [.., *o, ..] -/
def tStarO (C : Addr) (sp : Nat → Sp) (spl : Sp) (te : TE) (t : TA) : TA := fun σ H Q => te σ H fun x H1 => ∃ a dx fs d od kvs, x = V.ref a ∧ H1 a = some (.ins C dx fs) ∧ H1 d = some (.frz od (.dT kvs)) ∧
  (∀ n, sp n [.ref a] H1 (fun v H2 => ∃ it, v = .ref it ∧ n ≤ it ∧ H1 it = none ∧ H2 = upd H1 it (KIo d it od kvs.length)) (fun _ _ _ => False)) ∧
  (∀ H2, H2 a = some (.ins C dx fs) → H2 d = some (.frz od (.dT kvs)) → spl [.ref a] H2 (fun v H' => H' = H2 ∧ ∃ n : Nat, v = .int n ∧ n ≤ sizeLine) (fun _ _ _ => False)) ∧
  ∀ bs, IsKeys H1 kvs bs → t σ H1 fun ys H2 => Q (bs.map V.ref ++ ys) H2
theorem pa_starO {e : Expr} {es : List Expr} {te : TE} {t : TA} {p : Pos} (c : StarC X.K C fi fl) (FI : FnN X.prog X.w X.K X.mg X.base k fi fdi psi sp) (bI : Binds X.K fdi psi []) (FL : FnOk X.prog X.w X.K X.mg X.base CX0 k fl fdl psl spl) (bL : Binds X.K fdl psl [])
    (hr : Room (k + 2) X.A) (hc : X.calm = true) (he : PE X e te) (hrest : PA X es t) (hs : starEach (.Starred e p :: es) X.env = (true, eval e X.env) :: starEach es X.env := by rfl) : PA X (.Starred e p :: es) (tStarO C sp spl te t) := by
  refine ⟨fun pos pins s σ H Q I h => ?_⟩
  refine items_star (thn (he.run pins s σ H _ I h) fun v s1 ⟨y, H1, I1, ry, a, dx, fs, d, od, kvs, ey, ha, hd, hi, hl, q⟩ => ?_) hs
  subst ey
  obtain rfl : v = Value.ref a := ry
  refine star_own c FI bI FL bL hr hc I1 ha hd hi hl fun bs s2 I2 ik => ?_
  exact thn (hrest.run pos pins s2 σ H1 _ I2 (q bs ik)) fun ws s3 ⟨vs, H3, I3, r3, q3⟩ => ⟨bs.map V.ref ++ vs, H3, I3, (vals_refs bs).append r3, q3⟩
end
end
end Yd
namespace Yd
open PySem L2
/-! ### the class Hold -/
section
variable {K : PySem.W.Frag} {a : Addr} {xs : List V} {g : TG} {tt : TT} {tk tv te : TE} {vs : List Nat} {σ : St} {H1 : Hp} {D : Addr} {Qd : Hp → Prop}
theorem dp_list (Pv : Nat → Hp → Prop) (h0 : Pv 0 (upd H1 D (.dT []))) (hl : ∀ i H, i ≤ xs.length → Pv i H → SqL K H a xs)
    (hs : ∀ i x H, xs[i]? = some x → Pv i H → g x (wipe σ vs) H fun σ2 H2 => wipe σ2 vs = wipe σ vs ∧ tt σ2 H2 fun b H3 => if b = true then pairTurn D tk tv σ2 H3 (Pv (i + 1)) else Pv (i + 1) H3) (hd : ∀ H, Pv xs.length H → Qd H) :
    ∃ W : Nat → Nat → Hp → Prop, (∃ m, W 0 m (upd H1 D (.dT []))) ∧ ∀ i m H, W i m H →
      ((Itl K a).stop i H ∧ Qd H) ∨ ((Itl K a).go i H ∧ ∃ Nx : Hp → Prop, (∀ H', Nx H' → ∃ m', m' < m ∧ W (i + 1) m' H') ∧ ∀ x H', (Itl K a).yld i H x H' → g x (wipe σ vs) H' fun σ2 H2 => wipe σ2 vs = wipe σ vs ∧ tt σ2 H2 fun b H3 => if b = true then pairTurn D tk tv σ2 H3 Nx else Nx H3) :=
  dp_run (n := xs.length) Pv h0 (fun i H hi p => ⟨xs, xs[i], hl i H (by omega) p, List.getElem?_eq_getElem hi⟩) (fun H p => ⟨xs, hl _ H (Nat.le_refl _) p, Nat.le_refl _⟩) (fun i x H H' hi p y => by obtain ⟨e, y⟩ := y; subst e; exact hs i x _ (y xs (hl i _ (by omega) p)) p) hd
theorem dp_tupl (Pv : Nat → Hp → Prop) (h0 : Pv 0 (upd H1 D (.dT []))) (hl : ∀ i H, i ≤ xs.length → Pv i H → SqT K H a xs)
    (hs : ∀ i x H, xs[i]? = some x → Pv i H → g x (wipe σ vs) H fun σ2 H2 => wipe σ2 vs = wipe σ vs ∧ tt σ2 H2 fun b H3 => if b = true then pairTurn D tk tv σ2 H3 (Pv (i + 1)) else Pv (i + 1) H3) (hd : ∀ H, Pv xs.length H → Qd H) :
    ∃ W : Nat → Nat → Hp → Prop, (∃ m, W 0 m (upd H1 D (.dT []))) ∧ ∀ i m H, W i m H →
      ((Itt K a).stop i H ∧ Qd H) ∨ ((Itt K a).go i H ∧ ∃ Nx : Hp → Prop, (∀ H', Nx H' → ∃ m', m' < m ∧ W (i + 1) m' H') ∧ ∀ x H', (Itt K a).yld i H x H' → g x (wipe σ vs) H' fun σ2 H2 => wipe σ2 vs = wipe σ vs ∧ tt σ2 H2 fun b H3 => if b = true then pairTurn D tk tv σ2 H3 Nx else Nx H3) :=
  dp_run (n := xs.length) Pv h0 (fun i H hi p => ⟨xs, xs[i], hl i H (by omega) p, List.getElem?_eq_getElem hi⟩) (fun H p => ⟨xs, hl _ H (Nat.le_refl _) p, Nat.le_refl _⟩) (fun i x H H' hi p y => by obtain ⟨e, y⟩ := y; subst e; exact hs i x _ (y xs (hl i _ (by omega) p)) p) hd
/-- a list comprehension over the spots of a locked dict -/
theorem lc_spots {d : Addr} {od : Obj} {ps : List Pr} (Pv : Nat → Hp → Prop) (h0 : Pv 0 (upd H1 D (.lst []))) (hl : ∀ i H, i ≤ ps.length → Pv i H → H d = some (.frz od (.dT (pD ps))))
    (hs : ∀ i p q H, ps[i]? = some p → H q = some (.tup [.str p.1, .str p.2]) → Pv i H → g (.ref q) (wipe σ vs) H fun σ2 H2 => wipe σ2 vs = wipe σ vs ∧ tt σ2 H2 fun b H3 =>
      if b = true then te σ2 H3 fun y H4 => ∃ acc, H4 D = some (.lst acc) ∧ acc.length < sizeLine ∧ Pv (i + 1) (upd H4 D (.lst (acc ++ [y]))) else Pv (i + 1) H3) (hd : ∀ H, Pv ps.length H → Qd H) :
    ∃ W : Nat → Nat → Hp → Prop, (∃ m, W 0 m (upd H1 D (.lst []))) ∧ ∀ i m H, W i m H →
      ((Itkt d od (pD ps)).stop i H ∧ Qd H) ∨ ((Itkt d od (pD ps)).go i H ∧ ∃ Nx : Hp → Prop, (∀ H', Nx H' → ∃ m', m' < m ∧ W (i + 1) m' H') ∧ ∀ x H', (Itkt d od (pD ps)).yld i H x H' → g x (wipe σ vs) H' fun σ2 H2 => wipe σ2 vs = wipe σ vs ∧ tt σ2 H2 fun b H3 =>
        if b = true then te σ2 H3 fun y H4 => ∃ acc, H4 D = some (.lst acc) ∧ acc.length < sizeLine ∧ Nx (upd H4 D (.lst (acc ++ [y]))) else Nx H3) :=
  lc_run (n := ps.length) Pv h0 (fun i H hi p => ⟨hl i H (by omega) p, by rw [pD_len]; exact hi⟩) (fun H p => ⟨hl _ H (Nat.le_refl _) p, by rw [pD_len]; exact Nat.le_refl _⟩) (fun i x H H' hi p y => by
    obtain ⟨e, k, v, q, hk, ex, hq⟩ := y
    subst e ex
    unfold pD at hk
    rw [List.getElem?_map] at hk
    cases hp : ps[i]? with
    | none => rw [hp] at hk; cases hk
    | some pr =>
      rw [hp] at hk
      obtain ⟨rfl, _⟩ := Prod.mk.inj (Option.some.inj hk)
      exact hs i pr q _ hp hq p) hd
end
theorem same_seqT {K : PySem.W.Frag} {H H' : Hp} {a : Addr} {xs : List V} (s : Same H H') (h : SqT K H a xs) : SqT K H' a xs := by
  rcases h with (h | ⟨o, h⟩) | h
  · exact .inl (.inl (s _ _ h))
  · exact .inl (.inr ⟨o, s _ _ h⟩)
  · exact .inr h
structure HCls (K : PySem.W.Frag) (C : Addr) : Prop where
  cls : Cls K C
  nS : NoAttr K C "_spots"
/-- a hold of these spots, its dict at d -/
structure HoldAt (H : Hp) (C a d : Addr) (ps : List Pr) : Prop where
  ins : ∃ dx, H a = some (.ins C dx [("_spots", .ref d)])
  dict : H d = some (.dT (pD ps))
  nd : ps.Nodup
theorem HoldAt.keep {H H' : Hp} {C a d : Addr} {ps : List Pr} (h : HoldAt H C a d ps) (s : Same H H') : HoldAt H' C a d ps := ⟨let ⟨dx, e⟩ := h.ins; ⟨dx, s _ _ e⟩, s _ _ h.dict, h.nd⟩
theorem PairsAt.same {H H' : Hp} {xs : List V} {ps : List Pr} (h : PairsAt H xs ps) (s : Same H H') : PairsAt H' xs ps := h.keep fun t ys e => s t _ e
/-- a list or a tuple of pairs -/
def RowsP (K : PySem.W.Frag) (H : Hp) (l : Addr) (ps : List Pr) : Prop := ∃ xs, PairsAt H xs ps ∧ (SqL K H l xs ∨ SqT K H l xs)
def spHInit (K : PySem.W.Frag) : Sp := fun vs H Q _ => ∃ (a C dx l : Addr) (ps : List Pr), vs = [.ref a, .ref l] ∧ H a = some (.ins C dx []) ∧ HCls K C ∧ RowsP K H l ps ∧ ps.length ≤ 1000 ∧
  ∀ d H', H d = none → Gro a H H' → H' a = some (.ins C dx [("_spots", .ref d)]) → H' d = some (.dT (pD (onceP ps))) → Q .non H'
def spHIter (K : PySem.W.Frag) : Nat → Sp := fun n vs H Q _ => ∃ (a C dx d : Addr) (od : Obj) (ps : List Pr), vs = [.ref a] ∧ H a = some (.ins C dx [("_spots", .ref d)]) ∧ HCls K C ∧ H d = some (.frz od (.dT (pD ps))) ∧
  ∀ it, H it = none → n ≤ it → Q (.ref it) (upd H it (KIo d it od (pD ps).length))
def spHLen (K : PySem.W.Frag) : Sp := fun vs H Q _ => ∃ (a C dx d : Addr) (ps : List Pr), vs = [.ref a] ∧ H a = some (.ins C dx [("_spots", .ref d)]) ∧ HCls K C ∧ Rd H d (.dT (pD ps)) ∧ Q (.int (ps.length : Nat)) H
def spHIn (K : PySem.W.Frag) : Sp := fun vs H Q _ => ∃ (a C dx d t : Addr) (ps : List Pr) (p : Pr), vs = [.ref a, .ref t] ∧ H a = some (.ins C dx [("_spots", .ref d)]) ∧ HCls K C ∧ Rd H d (.dT (pD ps)) ∧ H t = some (.tup [.str p.1, .str p.2]) ∧ Q (.bl (decide (p ∈ ps))) H
/-- len of a dict with tuple keys, locked or not -/
theorem call_lenT {X : Cx} : CallR X (.builtin "len") (fun xs H Q => ∃ (p : Addr) (kvs : List (List Key × V)), xs = [.ref p] ∧ Rd H p (.dT kvs) ∧ Q (.int ((kvs.length : Nat) : Int)) H) := by
  intro pins s σ H xs us Q I r h
  obtain ⟨p, kvs, rfl, hp, q⟩ := h
  obtain ⟨u, rfl, rx⟩ := vals1 r
  obtain rfl : u = .ref p := rx
  obtain ⟨z, hd, ys, rel, dd⟩ := dt_rd I.hok hp
  have hl : kvs.length = ys.length := Paired.length rel
  refine call_len_dictH hd dd (by rw [← hl]; rw [sizeLine_eq] at z; omega) ?_
  rw [← hl]
  exact ⟨.int ((kvs.length : Nat) : Int), H, I.tok _, ⟨_, rfl⟩, q⟩
section
variable {P : Program} {w : World} {K : PySem.W.Frag} {mg : Str → Option Value} {base : Heap}
theorem scHIter : FnScope ["self"] ["self"] (defScope sHoldIter) := ⟨rfl, rfl, rfl, by decide +kernel, rfl, by decide +kernel, by decide +kernel⟩
theorem ok_hIter {f : Addr} {fd : FuncData} (F : Fun K "__iter__" "Hold.__iter__" sHoldIter f fd) (hI : mg "iter" = none) : FnN P w K mg base 1 f fd ["self"] (spHIter K) := by
  refine fun_N F scHIter (fun n vs H Q E h => ?_) (fun cdv A outer s H vs Q E hr h => ?_)
  · obtain ⟨a, C, dx, d, od, ps, rfl, _⟩ := h
    rfl
  · obtain ⟨a, C, dx, d, od, ps, rfl, ha, hc, hd, k⟩ := h
    refine ⟨_, pss_one (ps_ret (pe_callB call_iterK (by rfl) hI (by decide +kernel) (pa_cons (pe_fld (pv 0) rfl) pa_nil))), ?_⟩
    exact ⟨_, rfl, a, C, dx, _, _, rfl, ha, hc.cls, hc.nS, rfl, d, od, _, rfl, .inr ⟨_, hd, rfl⟩, fun it h1 h2 => k it h1 h2⟩
theorem scHLen : FnScope ["self"] ["self"] (defScope sHoldLen) := ⟨rfl, rfl, rfl, by decide +kernel, rfl, by decide +kernel, by decide +kernel⟩
theorem ok_hLen {f : Addr} {fd : FuncData} (F : Fun K "__len__" "Hold.__len__" sHoldLen f fd) (hL : mg "len" = none) : FnOk P w K mg base CX0 1 f fd ["self"] (spHLen K) := by
  refine F.ok scHLen (fun vs H Q E h => ?_) (fun cdv A outer s H vs Q E hr h => ?_)
  · obtain ⟨a, C, dx, d, ps, rfl, _⟩ := h
    rfl
  · obtain ⟨a, C, dx, d, ps, rfl, ha, hc, hd, k⟩ := h
    refine ⟨_, pss_one (ps_ret (pe_callB call_lenT (by rfl) hL PySem.boot_len (pa_cons (pe_fld (pv 0) rfl) pa_nil))), ?_⟩
    refine ⟨_, rfl, a, C, dx, _, _, rfl, ha, hc.cls, hc.nS, rfl, d, _, rfl, hd, ?_⟩
    rw [pD_len]
    exact k
theorem scHIn : FnScope ["self", "x"] ["self", "x"] (defScope sHoldIn) := ⟨rfl, rfl, rfl, by decide +kernel, rfl, by decide +kernel, by decide +kernel⟩
theorem ok_hIn {f : Addr} {fd : FuncData} (F : Fun K "__contains__" "Hold.__contains__" sHoldIn f fd) : FnOk P w K mg base CX0 1 f fd ["self", "x"] (spHIn K) := by
  refine F.ok scHIn (fun vs H Q E h => ?_) (fun cdv A outer s H vs Q E hr h => ?_)
  · obtain ⟨a, C, dx, d, t, ps, p, rfl, _⟩ := h
    rfl
  · obtain ⟨a, C, dx, d, t, ps, p, rfl, ha, hc, hd, ht, k⟩ := h
    refine ⟨_, pss_one (ps_ret (pe_cmp (pc_din (hu_of hr) (pv 1) (pe_fld (pv 0) rfl)))), ?_⟩
    refine ⟨_, rfl, _, rfl, a, C, dx, _, _, rfl, ha, hc.cls, hc.nS, rfl, d, _, rfl, .inr ⟨_, kP p, t, hd, rfl, ht, rfl⟩, ?_⟩
    rw [pD_val]
    by_cases m : p ∈ ps
    · rw [if_pos m, decide_eq_true m] at *
      exact k
    · rw [if_neg m, decide_eq_false m] at *
      exact k
def nHInit : List Str := ["self", "rows", "kind", "standing"]
theorem scHInit : FnScope nHInit ["self", "rows"] (defScope sHoldInit) := ⟨rfl, rfl, rfl, by decide +kernel, rfl, by decide +kernel, by decide +kernel⟩
theorem ok_hInit {f : Addr} {fd : FuncData} {dvs : List V} (F : FunD K "__init__" "Hold.__init__" (defArgs sHoldInit) (defBody sHoldInit) (defScope sHoldInit) dvs [] f fd) : FnOk P w K mg base CX0 1 f fd ["self", "rows"] (spHInit K) := by
  refine F.ok scHInit (fun vs H Q E h => ?_) (fun cdv A outer s H vs Q E hr h => ?_)
  · obtain ⟨a, C, dx, l, ps, rfl, _⟩ := h
    rfl
  · obtain ⟨a, C, dx, l, ps, rfl, ha, hc, ⟨xs, hxs, hl⟩, hlen, k⟩ := h
    have hu := hu_of hr
    have turn : ∀ (D : Addr) (i : Nat) (x : V) (H' : Hp), H D = none → xs[i]? = some x → Same H H' → H' D = some (.dT (pD (onceP (ps.take i)))) → ∃ t p, x = .ref t ∧ ps[i]? = some p ∧ H' t = some (.tup [.str p.1, .str p.2]) ∧
        ∀ b, H' b = none → ∃ kvs k c, V.ref b = .ref c ∧ upd H' b (.tup [.str p.1, .str p.2]) c = some (.tup (List.map kV k)) ∧ upd H' b (.tup [.str p.1, .str p.2]) D = some (.dT kvs) ∧ kvs.length < sizeLine ∧
          (Same H (upd (upd H' b (.tup [.str p.1, .str p.2])) D (.dT (putK kvs k (.bl true)))) ∧ upd (upd H' b (.tup [.str p.1, .str p.2])) D (.dT (putK kvs k (.bl true))) D = some (.dT (pD (onceP (ps.take (i + 1)))))) := fun D i x H' hD hi s e => by
      obtain ⟨t, p, ex, hp, ht⟩ := PairsAt.get (hxs.same s) hi
      refine ⟨t, p, ex, hp, ht, fun b hb => ?_⟩
      have nDb : D ≠ b := ne_of_none e hb
      refine ⟨_, kP p, b, rfl, upd_same, by rw [upd_ne nDb]; exact e, ?_, fun c o q => ?_, ?_⟩
      · have q := onceP_len (ps.take i)
        rw [List.length_take] at q
        refine small1000 ?_
        rw [pD_len]
        omega
      · rw [upd_ne (ne_of_none q hD), upd_ne (ne_of_none (s c o q) hb)]
        exact s c o q
      · rw [upd_same, pD_put, onceP_more hp]
    have start : ∀ D, H D = none → Same H (upd H D (.dT [])) ∧ upd H D (.dT []) D = some (.dT (pD (onceP (ps.take 0)))) := fun D hD => ⟨fun b o e => by rw [upd_ne (ne_of_none e hD)]; exact e, upd_same⟩
    have lx : xs.length = ps.length := hxs.len
    have fin : ∀ (D : Addr) (H' : Hp), H D = none → Same H H' → H' D = some (.dT (pD (onceP (ps.take xs.length)))) → Q .non (upd H' a (.ins C dx [("_spots", .ref D)])) := fun D H' hD s e => by
      rw [lx, List.take_length] at e
      have naD : D ≠ a := (ne_of_none ha hD).symm
      exact k D _ hD (fun b o q n => by rw [upd_ne n]; exact s b o q) upd_same (by rw [upd_ne naD]; exact e)
    rcases hl with hl | hl
    · refine ⟨_, pss_one (ps_fld (pv 0) (pe_dp (own := [("kind", 2), ("standing", 3)]) (g := gTup K 2 (gCons (gName 2) (gCons (gName 3) gNil))) (tt := tYes) (Nat.lt_trans (Nat.lt_succ_self _) hu) rfl scHInit.nd (pi_list (pv 1)) (blkOk_by (N := nHInit) (sc := defScope sHoldInit) (by decide +kernel))
        (fun _ _ _ _ _ => pg_tup (by rfl) (pgs_cons (pg_name (i := 2) scHInit.nd rfl (Or.inl rfl)) (pgs_cons (pg_name (i := 3) scHInit.nd rfl (Or.inl rfl)) pgs_nil))) (fun _ _ _ _ _ => pts_nil)
        (fun _ _ _ _ _ => pe_tup (pa_cons (pv 2) (pa_cons (pv 3) pa_nil))) (fun _ _ _ _ _ => pe_bl)) rfl), ?_⟩
      refine ⟨_, rfl, l, rfl, ⟨_, hl⟩, fun D hD => ?_⟩
      refine dp_list (K := K) (a := l) (xs := xs) (fun i H' => Same H H' ∧ H' D = some (.dT (pD (onceP (ps.take i))))) (start D hD) (fun i H' _ h => h.1.seq hl) (fun i x H' hi h => ?_) fun H' h => ?_
      · obtain ⟨t, p, rfl, hp, ht, go⟩ := turn D i x H' hD hi h.1 h.2
        refine ⟨t, _, rfl, SqT.of ht, rfl, _, _, rfl, _, _, rfl, rfl, rfl, ?_⟩
        exact ⟨_, rfl, _, rfl, (by show 2 ≤ sizeLine; decide), fun b hb => go b hb⟩
      · exact ⟨_, rfl, a, C, dx, _, rfl, h.1 _ _ ha, hc.cls, hc.nS, (by show 0 < 1000; decide), fin D H' hD h.1 h.2⟩
    · refine ⟨_, pss_one (ps_fld (pv 0) (pe_dp (own := [("kind", 2), ("standing", 3)]) (g := gTup K 2 (gCons (gName 2) (gCons (gName 3) gNil))) (tt := tYes) (Nat.lt_trans (Nat.lt_succ_self _) hu) rfl scHInit.nd (pi_tup (pv 1)) (blkOk_by (N := nHInit) (sc := defScope sHoldInit) (by decide +kernel))
        (fun _ _ _ _ _ => pg_tup (by rfl) (pgs_cons (pg_name (i := 2) scHInit.nd rfl (Or.inl rfl)) (pgs_cons (pg_name (i := 3) scHInit.nd rfl (Or.inl rfl)) pgs_nil))) (fun _ _ _ _ _ => pts_nil)
        (fun _ _ _ _ _ => pe_tup (pa_cons (pv 2) (pa_cons (pv 3) pa_nil))) (fun _ _ _ _ _ => pe_bl)) rfl), ?_⟩
      refine ⟨_, rfl, l, rfl, ⟨_, hl⟩, fun D hD => ?_⟩
      refine dp_tupl (K := K) (a := l) (xs := xs) (fun i H' => Same H H' ∧ H' D = some (.dT (pD (onceP (ps.take i))))) (start D hD) (fun i H' _ h => same_seqT h.1 hl) (fun i x H' hi h => ?_) fun H' h => ?_
      · obtain ⟨t, p, rfl, hp, ht, go⟩ := turn D i x H' hD hi h.1 h.2
        refine ⟨t, _, rfl, SqT.of ht, rfl, _, _, rfl, _, _, rfl, rfl, rfl, ?_⟩
        exact ⟨_, rfl, _, rfl, (by show 2 ≤ sizeLine; decide), fun b hb => go b hb⟩
      · exact ⟨_, rfl, a, C, dx, _, rfl, h.1 _ _ ha, hc.cls, hc.nS, (by show 0 < 1000; decide), fin D H' hD h.1 h.2⟩
end
end Yd
namespace Yd
open PySem L2
/-! ### an exception of an own class, held as a value -/
/-- C(e, ..), C's own __init__ keeping sp -/
def tMkV (C : Addr) (sp : Sp) (ta : TA) : TE := fun σ H Q => ta σ H fun vs H1 => vs.length ≤ 1000 ∧ ∀ a, H1 a = none → sp (.ref a :: vs) (upd H1 a (exo a C none)) (fun v H2 => v = .non ∧ Q (.ref a) H2) (fun _ _ _ => False)
section
variable {X : Cx} {o e : Expr} {es : List Expr} {to te : TE} {ta : TA} {f : Str} {p p' p1 p2 pos : Pos}
theorem pe_mkV {CX : CXT} {x : Str} {C fI : Addr} {k : Nat} {fd : FuncData} {ps : List Str} {sp : Sp} (T : OexC X.K C) (iC : PySem.W.findIn X.K (.ref C) "__init__" = some (some (.ref fI))) (tI : PySem.W.typeIn X.K (.ref fI) = some (.type "function"))
    (F1 : FnOk X.prog X.w X.K X.mg X.base CX k fI fd ps sp) (hr : Room (k + 1) X.A) (hb : Binds X.K fd ps []) (hx : Passes CX X (fun _ _ _ => False)) (hg : Gl X x) (hm : X.mg x = some (.ref C)) (ha : PA X (e :: es) ta)
    (hdb : (x == ("__debug__" : Str)) = false := by decide) (he : starEach (e :: es) X.env = (false, eval e X.env) :: starEach es X.env := by rfl) (hpl : (backTo pos (starEach es X.env)).any (·.1) = false := by rfl) :
    PE X (.Call (.Name x p) (e :: es) [] pos) (tMkV C sp ta) := by
  refine ⟨fun pins s σ H Q I h => ?_⟩
  obtain ⟨nm, q, N, bs, bm, sn, sub, ab, col, dd, k0, k1, k2, k3, k5, hC, hbm⟩ := T.cls
  refine wpAny_Call_Name_kw (ld_glob I hg hm ?_ hdb)
  refine PySem.W.callWith_K (h₀ := X.base) I.ok.mod.kin T.kC (thn (ha.run pos pins s σ H _ I h) fun us s1 ⟨vs, H1, I1, r1, hz, q1⟩ => ⟨I1.kIn, ?_⟩) he hpl
  show wpAny _ _ (call (.ref C) us) _ _ _
  obtain ⟨hp, g, dr, tk, os⟩ := s1
  have hsz : hp.objs.size ≤ hp.objs.size + 1 := Nat.le_succ _
  have hn : H1 (hp.objs.size + 1) = none := I1.hok.fresh hsz
  have hq := q1 (hp.objs.size + 1) hn
  have kk : ∀ b o, hp.get? b = some o → ((hp.push (PySem.W.kdv_tup us)).push (PySem.HandSPX.excO C hp.objs.size)).get? b = some o := fun b o e => Heap.get?_push_of_some _ (Heap.get?_push_of_some _ e)
  have hget : ((hp.push (PySem.W.kdv_tup us)).push (PySem.HandSPX.excO C hp.objs.size)).get? (hp.objs.size + 1) = some (PySem.HandSPX.excO C hp.objs.size) := by heap_get
  have I2 : Inv X pins σ (upd H1 (hp.objs.size + 1) (exo (hp.objs.size + 1) C none)) ⟨(hp.push (PySem.W.kdv_tup us)).push (PySem.HandSPX.excO C hp.objs.size), g, dr, tk, os⟩ :=
    I1.laid (t' := tk) (a := hp.objs.size + 1) (o := exo (hp.objs.size + 1) C none) (h' := (hp.push (PySem.W.kdv_tup us)).push (PySem.HandSPX.excO C hp.objs.size)) kk hsz (exo_ok hget)
  have r2 : Vals (V.ref (hp.objs.size + 1) :: vs) (Value.ref (hp.objs.size + 1) :: us) := .cons rfl r1
  have hl : ((Value.ref (hp.objs.size + 1) :: us) ++ []).length = ps.length := by
    have e := r2.length
    rw [F1.len _ _ _ _ hq] at e
    rw [List.append_nil]
    exact e.symm
  have hus : us.length ≤ sizeLine := by
    rw [← Paired.length r1, sizeLine_eq]
    omega
  have bb := hb _ (Value.ref (hp.objs.size + 1) :: us) I2.kIn hl
  rw [List.append_nil] at bb
  refine wpAny_call (PySem.HandSPX.call_own F.excBase_ValueError (fun Y => PySem.HandSPX.refsVE_contains Y bm hbm) (I1.kIn _ _ hC) (PySem.W.looks_findIn I1.kIn iC) (fun self => PySem.W.bind_fn I1.kIn self tI) hus
    (codeAny_mono (F1.run _ X.stack _ _ ⟨Value.ref (hp.objs.size + 1) :: us, []⟩ (Value.ref (hp.objs.size + 1) :: us) _ _ (fun _ _ _ => False) (hr.make C us []) (I2.env0.make C us []) bb r2 hq) fun r s' hq' => ?_))
  cases r with
  | error er => exact hx pins σ _ _ er s' I2 hq'
  | ok fl =>
    cases fl with
    | ret u =>
      obtain ⟨v, H2, I3, rv, ev, q2⟩ := I2.after hq'
      subst ev
      exact ⟨rv, .ref (hp.objs.size + 1), H2, I3, rfl, q2⟩
    | next => exact False.elim hq'
    | brk => exact False.elim hq'
    | cont => exact False.elim hq'
/-- o.f, o such a value -/
def tXv (C : Addr) (f : Str) (te : TE) : TE := fun σ H Q => te σ H fun x H1 => ∃ (a d : Addr) (fs : List (Str × V)) (v : V), x = .ref a ∧ H1 a = some (exo a C (some d)) ∧ H1 d = some (exd d fs) ∧ fs.lookup f = some v ∧ Q v H1
theorem pe_xv {C : Addr} {pos : Pos} {n : Str} (T : XfC X.K C) (hno : PySem.W.findIn X.K (.ref C) n = some none) (he : PE X e te) (hb : attributeBase e n X.env (eval e X.env) = eval e X.env := by rfl) : PE X (.Attribute e n pos) (tXv C n te) := by
  refine ⟨fun pins s σ H Q I h => ?_⟩
  refine attr_of hb (thn (he.run pins s σ H _ I h) fun u s1 hh => ?_)
  obtain ⟨x, H1, I1, rx, a, d, fs, v, ex, ea, ed, l, q⟩ := hh
  subst ex
  obtain rfl : u = Value.ref a := rx
  obtain ⟨t1, ho1⟩ := exo_at I1.hok ea
  obtain ⟨mA, hns, hr⟩ := exd_at I1.hok ed
  obtain ⟨od, ho, hl⟩ := lookIn_ns hns
  obtain ⟨u, hu, ru⟩ := RelO.some_of (v := v) (o := mA n) (by rw [← l]; exact hr n)
  have J : PySem.W.InstAt s1.heap a _ C (some od) := ⟨ho1, rfl, rfl, ho⟩
  exact HandSPX.exc_get I1.kIn J T.ga T.gg T.exC (PySem.W.findObj_own T.hdC hno rfl (by rw [hl, hu])) (handed_of ru) ⟨v, H1, I1.tok _, ru, q⟩
end
section
open PySem.W PySem.Calls
variable {prog : Program} {w : World} {A : Around} {E : Value → Shared → Prop} {s : Shared} {K : Frag} {x D : Addr} {ox : Obj} {od : Option Obj}
theorem findObj_dataO {C : Addr} {name : Str} {a g : Value} (hc : (clsIn K C).isSome = true) (ha : findIn K (.ref C) name = some (some a)) (hg : specialIn K a "__get__" = some (some g)) (ht : takesIn K a = some true) : findObj K C od name = some (.bind g a) := by
  obtain ⟨cd, hc⟩ := Option.isSome_iff_exists.mp hc
  unfold findObj
  rw [hc, Option.bind_some, ha, Option.bind_some]
  simp [hg, ht]
theorem kin_classO {Q : Option Value → Shared → Prop} (hga : findIn K (.ref D) "__getattribute__" = some (some (.builtin "BaseException.__getattribute__"))) (hgt : findIn K (.ref D) "__getattr__" = some none) (hsub : subIn K (.ref D) (.type "BaseException") = some true)
    (hdct : hasDictIn K D = true) (ha : findIn K (.ref D) "__class__" = some (some (.builtin "object.__class__")))
    (hn : specialIn K (.builtin "object.__class__") "__get__" = some (some (.builtin "getset_descriptor.__get__"))) (htk : takesIn K (.builtin "object.__class__") = some true) (hm : mroIn K D (.type "object") = some true)
    (X : K.In s.heap) (I : InstAt s.heap x ox D od) (h : Q (some (.ref D)) { s with toks := s.toks + 1 }) : wpAny (model prog w) A (getAttr? (.ref x) "__class__") Q E s := by
  have hf : findObj K D od "__class__" = some (.bind (.builtin "getset_descriptor.__get__") (.builtin "object.__class__")) := findObj_dataO (by obtain ⟨cd, hc, _⟩ := any_some hdct; rw [hc]; rfl) ha hn htk
  obtain ⟨hp, g, d, t, os⟩ := s
  have L0 := I.type (M := model prog w)
  have L1 := looks_findIn (M := model prog w) X hga
  have L2 := looks_findIn (M := model prog w) X hgt
  have L3 := looks_find (M := model prog w) X I hf
  have sub : Looks (model prog w) hp (isInstance (.ref x) (.type "BaseException")) true := L0.andThen (looks_subIn X hsub)
  have hx0 : (false && onTheHeap (Value.builtin "BaseException.__getattribute__")) = false := rfl
  have hx2 : (Value.builtin "BaseException.__getattribute__" == Value.builtin "object.__getattribute__") = false := by decide +kernel
  have hx1 : (onTheHeap (Value.ref D) && Value.builtin "BaseException.__getattribute__" == Value.builtin "object.__getattribute__") = false := by rw [hx2]; rfl
  unfold getAttr? getAttrBy? getAttrBy
  refine wpAny_bind (wpAny_mkText (wpAny_bind (wpAny_attempt (wpAny_holding (wpAny_bind (L0.at (wpAny_bind (L1.at ?_))))))))
  show wpAny _ _ (if (onTheHeap (Value.ref D) && Value.builtin "BaseException.__getattribute__" == Value.builtin "object.__getattribute__") = true then _ else _) _ _ _
  rw [hx1, if_neg Bool.false_ne_true]
  unfold getAttrByItsOwn hookBefore
  refine wpAny_bind ?_
  rw [if_pos (show onTheHeap (Value.ref D) = true from rfl)]
  refine L2.at ?_
  refine wpAny_bind (wpAny_attempt (wpAny_holding ?_))
  unfold callGetattribute
  rw [hx0, if_neg Bool.false_ne_true]
  unfold boundAndCalled
  rw [PySem.F.excAttr_ValueError.ga.bind (.ref x)]
  refine wpAny_bind (wpAny_pure ?_)
  show wpAny _ _ (call (.builtin "BaseException.__getattribute__") [.ref x, .str "__class__" t]) _ _ _
  refine wpAny_call (codeAny_call_builtin PySem.F.excAttr_ValueError.ga.plain PySem.F.entry_bexc_ga ?_)
  refine @check_slot (model prog w) _ _ ⟨hp, g, d, t + 1, os⟩ "BaseException.__getattribute__" "BaseException" "__getattribute__" (.ref x) [.str "__class__" t] [] _ (by decide +kernel) (by decide +kernel) sub (PySem.F.args_bexc_ga (.ref x) (.str "__class__" t)) ?_
  unfold Builtin.«object.__getattribute__»
  refine wpAny_bind (wpAny_of_eq (a := ((Value.ref x : Value), [Value.str "__class__" t])) (by first | rfl | (simp only [slotArgs]; rfl)) ?_)
  refine wpAny_bind (wpAny_pure (wpAny_bind (L0.at (wpAny_bind (L3.at ?_)))))
  show wpAny _ _ (holding [Value.builtin "object.__class__"] (call (.builtin "getset_descriptor.__get__") [.builtin "object.__class__", .ref x, .ref D]) >>= ret) _ _ _
  refine wpAny_bind (wpAny_holding (wpAny_call (class_get (s := ⟨hp, g, d, t + 1, os⟩) (ox := ox) (od := od) X I hm ?_)))
  refine wpAny_pure ?_
  show wpAny _ _ (handedOut (.ref D)) _ _ _
  rw [handedOut_of (v := .ref D) rfl]
  first
    | exact wpAny_pure (wpAny_pure h)
    | exact wpAny_pure h
    | exact wpAny_pure (wpAny_bind (wpAny_pure (wpAny_pure h)))
theorem kitx_excO (C : ExcC K D) : KitX K (.ref x) (.ref D) (fun h => InstAt h x ox D od) where
  ty := fun _ _ _ I => I.type
  it := fun _ _ X _ => by
    obtain ⟨cdD, hcD, _⟩ := any_some C.hd
    unfold clsIn at hcD
    split at hcD
    · rename_i c' d' cd' sl' ho
      intro A' Q' E' s' k q
      unfold isType loadHead
      exact wpAny_bind (wpAny_loadPart (k _ _ (X _ _ ho)) (wpAny_pure q))
    · cases hcD
  ne := fun h tp dd its n sl X htp => by
    obtain ⟨cdD, hcD, _⟩ := any_some C.hd
    refine Bool.eq_false_iff.mpr fun q => ?_
    have e : D = tp := Value.ref.inj (beq_iff_eq.mp q)
    subst e
    unfold clsIn at hcD
    split at hcD
    · rename_i c' d' cd' sl' ho
      have z := (X _ _ ho).symm.trans htp
      cases z
    · cases hcD
  ca := fun X I k => kin_classO C.hg C.hk C.hs C.hd C.ha C.hn C.ht C.hm X I k
/-- isinstance(o, c), o such a value -/
def rIsV (K : PySem.W.Frag) : List V → Hp → VK → Prop := fun xs H Q => ∃ (a C d : Addr) (fs : List (Str × V)) (c : V) (cv : Value) (b : Bool), xs = [.ref a, c] ∧ ClsV c cv ∧ H a = some (exo a C (some d)) ∧ H d = some (exd d fs) ∧ ExcC K C ∧ kitOne K (.ref C) cv = some b ∧ Q (.bl b) H
theorem call_isV {X : Cx} : CallR X (.builtin "isinstance") (rIsV X.K) := by
  intro pins s σ H xs us Q I r h
  obtain ⟨a, C, d, fs, c, cv, b, rfl, hcv, ea, ed, EC, e, q⟩ := h
  cases r with
  | cons rx rr =>
    cases rr with
    | cons rt rr =>
      cases rr
      cases rx
      have ec := hcv.eq rt
      subst ec
      obtain ⟨t1, ho1⟩ := exo_at I.hok ea
      obtain ⟨mA, hns, hr⟩ := exd_at I.hok ed
      obtain ⟨od, ho, hl⟩ := lookIn_ns hns
      have J : PySem.W.InstAt s.heap a _ C (some od) := ⟨ho1, rfl, rfl, ho⟩
      exact PySem.W.kia_one (kitx_excO EC) I.kIn J e (fun z => nomatch z) fun tk => ⟨.bl b, H, I.kept (t' := tk) fun _ _ z => z, rfl, q⟩
end
/-! ### == and != of lists -/
section
variable {X : Cx}
/-- the very same things are in both -/
def rEqL (K : PySem.W.Frag) : R2 := fun x y H Q => ∃ (a b : Addr) (rs : List Addr), x = .ref a ∧ y = .ref b ∧ SqL K H a (rs.map V.ref) ∧ SqL K H b (rs.map V.ref) ∧ Q (.bl true) H
theorem vals_refs' : ∀ {rs : List Addr} {us : List Value}, Vals (rs.map V.ref) us → us = rs.map Value.ref
  | [], _, .nil => rfl
  | r :: rs, u :: us, .cons h t => by
    have h : u = Value.ref r := h
    rw [h, vals_refs' t]
    rfl
theorem op_eqL (hu : X.A.units < cLine) : OpR X (compareOp .Eq) (rEqL X.K) := by
  intro pins s σ H x y v u Q I rx ry h
  obtain ⟨a, b, rs, rfl, rfl, ha, hb, q⟩ := h
  obtain rfl : v = Value.ref a := rx
  obtain rfl : u = Value.ref b := ry
  obtain ⟨us, r1, l1, _⟩ := I.list ha
  obtain ⟨ws, r2, l2, _⟩ := I.list hb
  have e1 := vals_refs' r1
  have e2 := vals_refs' r2
  subst e1 e2
  refine SeqAt.RcAt.lists (e := fun _ => true) l1.isList l2.isList rfl hu (fun j _ _ => SeqAt.EqAt.same _) X.prog X.w _ _ ?_
  have z : ((List.range (rs.map Value.ref).toArray.size).all fun _ => true) = true := by simp
  rw [z]
  exact ⟨.bl true, H, I, rfl, q⟩
def rNeLen (K : PySem.W.Frag) : R2 := fun x y H Q => ∃ (a b : Addr) (xs ys : List V), x = .ref a ∧ y = .ref b ∧ SqL K H a xs ∧ SqL K H b ys ∧ xs.length ≠ ys.length ∧ Q (.bl true) H
theorem op_neLen (hu : X.A.units < cLine) : OpR X (compareOp .NotEq) (rNeLen X.K) := by
  intro pins s σ H x y v u Q I rx ry h
  obtain ⟨a, b, xs, ys, rfl, rfl, ha, hb, hne, q⟩ := h
  obtain rfl : v = Value.ref a := rx
  obtain rfl : u = Value.ref b := ry
  obtain ⟨us, r1, l1, _⟩ := I.list ha
  obtain ⟨ws, r2, l2, _⟩ := I.list hb
  have e1 := r1.length
  have e2 := r2.length
  refine SeqAt.RcNeAt.lists_lengths l1.isList l2.isList ?_ hu X.prog X.w _ _ ⟨.bl true, H, I, rfl, q⟩
  simp
  omega
end
end Yd
namespace Yd
open PySem L2
/-! ### Never: its list is copied -/
def spNever (K : PySem.W.Frag) (D : Addr) : Sp := fun vs H Q _ => ∃ (a l : Addr) (xs : List V), vs = [.ref a, .ref l] ∧ SqL K H l xs ∧ H a = some (exo a D none) ∧
  ∀ d g H', H d = none → d ≠ a → H g = none → g ≠ a → g ≠ d → H' a = some (exo a D (some d)) → H' d = some (exd d [("closed", .ref g)]) → H' g = some (.lst xs) → (∀ b, b ≠ a → b ≠ d → b ≠ g → H' b = H b) → Q .non H'
section
variable {P : Program} {w : World} {K : PySem.W.Frag} {mg : Str → Option Value} {base : Heap} {CX : CXT}
theorem scNeverInit : SupScope ["self", "closed", "__class__"] ["self", "closed"] (defScope sNeverInit) := ⟨NdefX.nscope_by (by decide +kernel), rfl⟩
theorem ok_NeverInit {f D cc : Addr} {fd : FuncData} (F : SupFn P K mg "__init__" "Never.__init__" sNeverInit f D cc fd) (S : SupC K D D) (n0 : PySem.W.findIn K (.ref D) "closed" = some none) (hL : mg "list" = none) : FnOk P w K mg base CX 1 f fd ["self", "closed"] (spNever K D) := by
  refine fn_sup F scNeverInit rfl rfl rfl rfl (fun vs H Q E h => ?_) (fun _ _ => rfl) (fun _ => rfl) (fun _ => rfl) (fun Fn A outer s H vs Q E hsc hcl hr h => ?_)
  · obtain ⟨a, l, xs, rfl, _⟩ := h
    rfl
  · obtain ⟨a, l, xs, rfl, hl, ha, k⟩ := h
    obtain ⟨nm, ql, pr, bd, scp, cl, cdx⟩ := Fn
    simp only at hsc hcl
    subst hsc hcl
    refine ⟨_, _, a, D, pe_str, (pss_one (ps_ost (pv 0) (pe_callTy call_list_of (by rfl) hL (by decide +kernel) (pa_cons (pv 1) pa_nil)))), rfl, S, ha, ?_⟩
    refine ⟨ha, ?_⟩
    refine ⟨_, rfl, l, xs, rfl, .inl hl, fun g hg => ?_⟩
    have hga : g ≠ a := (ne_of_none ha hg).symm
    refine ⟨_, rfl, a, D, rfl, S.ox, n0, .inl ⟨by rw [upd_ne hga.symm]; exact ha, fun dx hd hda => ?_⟩⟩
    have hdg : dx ≠ g := fun z => by rw [z, upd_same] at hd; cases hd
    have hd0 : H dx = none := by rw [upd_ne hdg] at hd; exact hd
    refine k dx g _ hd0 hda hg hga hdg.symm upd_same (by rw [upd_ne hda, upd_same]) (by rw [upd_ne hga, upd_ne hdg.symm, upd_same]) fun b hb1 hb2 hb3 => ?_
    rw [upd_ne hb1, upd_ne hb2, upd_ne hb3]
end
end Yd
namespace Yd
open PySem L2
/-! ### of one class alone -/
theorem same_new {H : Hp} {q : Addr} {o : HO} (n : H q = none) : Same H (upd H q o) := fun b u e => by rw [upd_ne (ne_of_none e n)]; exact e
theorem small500 {n : Nat} (h : n ≤ 1000) : n < sizeLine := by rw [sizeLine_eq]; omega
/-- the class C is the one number i of the eight -/
structure OnlyC (K : PySem.W.Frag) (E0 E1 E2 E3 E4 E5 E6 E7 EY C : Addr) (i : Nat) : Prop where
  ec : ExcC K C
  k0 : PySem.W.kitOne K (.ref C) (.ref E0) = some (decide (0 = i))
  k1 : PySem.W.kitOne K (.ref C) (.ref E1) = some (decide (1 = i))
  k2 : PySem.W.kitOne K (.ref C) (.ref E2) = some (decide (2 = i))
  k3 : PySem.W.kitOne K (.ref C) (.ref E3) = some (decide (3 = i))
  k4 : PySem.W.kitOne K (.ref C) (.ref E4) = some (decide (4 = i))
  k5 : PySem.W.kitOne K (.ref C) (.ref E5) = some (decide (5 = i))
  k6 : PySem.W.kitOne K (.ref C) (.ref E6) = some (decide (6 = i))
  k7 : PySem.W.kitOne K (.ref C) (.ref E7) = some (decide (7 = i))
  ky : PySem.W.kitOne K (.ref C) (.ref EY) = some true
  kv : PySem.W.kitOne K (.ref C) (.type "ValueError") = some true
/-- such an error -/
def ErrV (H : Hp) (a C d : Addr) (fs : List (Str × V)) : Prop := H a = some (exo a C (some d)) ∧ H d = some (exd d fs)
theorem ErrV.keep {H H' : Hp} {a C d : Addr} {fs : List (Str × V)} (h : ErrV H a C d fs) (s : Same H H') : ErrV H' a C d fs := ⟨s _ _ h.1, s _ _ h.2⟩
def spOnly (K : PySem.W.Frag) (E0 E1 E2 E3 E4 E5 E6 E7 EY : Addr) : Sp := fun vs H Q _ => ∃ (a C d : Addr) (fs : List (Str × V)) (i : Nat), vs = [.ref a, .int i] ∧ i < 8 ∧ OnlyC K E0 E1 E2 E3 E4 E5 E6 E7 EY C i ∧ ErrV H a C d fs ∧ ∀ H', Same H H' → Q (.bl true) H'
section
variable {P : Program} {w : World} {K : PySem.W.Frag} {mg : Str → Option Value} {base : Heap}
def nOnly : List Str := ["_law_error", "_law_k", "_law_flags", "_law_j"]
theorem scOnly : FnScope nOnly ["_law_error", "_law_k"] (defScope sIsOnly) := ⟨rfl, rfl, rfl, by decide +kernel, rfl, by decide +kernel, by decide +kernel⟩
theorem flag_at {i j : Nat} (hj : j < 8) : atI (([V.bl (decide (0 = i)), V.bl (decide (1 = i)), V.bl (decide (2 = i))] ++ [V.bl (decide (3 = i)), V.bl (decide (4 = i)), V.bl (decide (5 = i))]) ++ [V.bl (decide (6 = i)), V.bl (decide (7 = i))]) (0 + (j : Int)) = some (V.bl (decide (j = i))) := by
  refine at_c (j := j) ?_ (by omega)
  rcases (show j = 0 ∨ j = 1 ∨ j = 2 ∨ j = 3 ∨ j = 4 ∨ j = 5 ∨ j = 6 ∨ j = 7 by omega) with rfl | rfl | rfl | rfl | rfl | rfl | rfl | rfl <;> rfl
theorem flag_ne (i j : Nat) : (!decide (V.bl (decide (j = i)) = V.bl (decide (V.int (0 + (j : Int)) = V.int (i : Int))))) = false := by
  have e : decide (V.int (0 + (j : Int)) = V.int (i : Int)) = decide (j = i) := decide_eq_decide.mpr ⟨fun h => by injection h with h; omega, fun h => by rw [h]; congr 1; omega⟩
  rw [e, decide_eq_true rfl]
  rfl
theorem ok_only {f E0 E1 E2 E3 E4 E5 E6 E7 EY : Addr} {fd : FuncData} (F : Fun K "_law_is_only" "_law_is_only" sIsOnly f fd) (B : Blt mg) (hI : mg "isinstance" = none) (hV : mg "ValueError" = none)
    (g0 : mg "Repeated" = some (.ref E0)) (g1 : mg "Unknown" = some (.ref E1)) (g2 : mg "NoStep" = some (.ref E2)) (g3 : mg "BadCount" = some (.ref E3)) (g4 : mg "Lacking" = some (.ref E4)) (g5 : mg "Shut" = some (.ref E5)) (g6 : mg "Unmet" = some (.ref E6)) (g7 : mg "Never" = some (.ref E7)) (gY : mg "YardError" = some (.ref EY)) :
    FnOk P w K mg base CX0 1 f fd ["_law_error", "_law_k"] (spOnly K E0 E1 E2 E3 E4 E5 E6 E7 EY) := by
  refine F.ok scOnly (fun vs H Q E h => ?_) (fun cdv A outer s H vs Q E hr h => ?_)
  · obtain ⟨a, C, d, fs, i, rfl, _⟩ := h
    rfl
  · obtain ⟨a, C, d, fs, i, rfl, hi, oc, ev, k⟩ := h
    refine ⟨_, pss_cons (ps_set (i := 2) scOnly.nd rfl (Or.inl rfl) (pe_lst (pa_cons (pe_callB call_isV (by rfl) hI (by decide +kernel) (pa_cons (pv 0) (pa_cons (pe_glob (v := .ref E0) (by rfl) g0 rfl) pa_nil)))
        (pa_cons (pe_callB call_isV (by rfl) hI (by decide +kernel) (pa_cons (pv 0) (pa_cons (pe_glob (v := .ref E1) (by rfl) g1 rfl) pa_nil))) (pa_cons (pe_callB call_isV (by rfl) hI (by decide +kernel) (pa_cons (pv 0) (pa_cons (pe_glob (v := .ref E2) (by rfl) g2 rfl) pa_nil))) pa_nil)))))
      (pss_cons (ps_set (i := 2) scOnly.nd rfl (Or.inl rfl) (pe_op op_cat (pv 2) (pe_lst (pa_cons (pe_callB call_isV (by rfl) hI (by decide +kernel) (pa_cons (pv 0) (pa_cons (pe_glob (v := .ref E3) (by rfl) g3 rfl) pa_nil)))
        (pa_cons (pe_callB call_isV (by rfl) hI (by decide +kernel) (pa_cons (pv 0) (pa_cons (pe_glob (v := .ref E4) (by rfl) g4 rfl) pa_nil))) (pa_cons (pe_callB call_isV (by rfl) hI (by decide +kernel) (pa_cons (pv 0) (pa_cons (pe_glob (v := .ref E5) (by rfl) g5 rfl) pa_nil))) pa_nil))))))
      (pss_cons (ps_set (i := 2) scOnly.nd rfl (Or.inl rfl) (pe_op op_cat (pv 2) (pe_lst (pa_cons (pe_callB call_isV (by rfl) hI (by decide +kernel) (pa_cons (pv 0) (pa_cons (pe_glob (v := .ref E6) (by rfl) g6 rfl) pa_nil)))
        (pa_cons (pe_callB call_isV (by rfl) hI (by decide +kernel) (pa_cons (pv 0) (pa_cons (pe_glob (v := .ref E7) (by rfl) g7 rfl) pa_nil))) pa_nil)))))
      (pss_cons (ps_for PassesOwn.never rfl (pi_range1 rfl B.range (pa_cons pe_int pa_nil)) (pg_name (i := 3) scOnly.nd rfl (Or.inl rfl))
        (pss_one (ps_if (pt_cmpR op_ne (pe_ix ix_list (pv 2) (pv 3) (fun _ _ => rfl)) (pe_cmpR op_eq (pv 3) (pv 1) (nomark _)) (nomark _)) (pss_one (ps_ret pe_bl)) pss_nil)))
      (pss_one (ps_ret (pe_and (pe_callB call_isV (by rfl) hI (by decide +kernel) (pa_cons (pv 0) (pa_cons (pe_glob (v := .ref EY) (by rfl) gY rfl) pa_nil)))
        (pe_one (pe_callB call_isV (by rfl) hI (by decide +kernel) (pa_cons (pv 0) (pa_cons (pe_bltn (v := .ty "ValueError") (by rfl) hV (by decide +kernel) rfl) pa_nil)))))))))), ?_⟩
    refine ⟨_, rfl, a, C, d, fs, _, _, _, rfl, .own E0, ev.1, ev.2, oc.ec, oc.k0, _, rfl, a, C, d, fs, _, _, _, rfl, .own E1, ev.1, ev.2, oc.ec, oc.k1, _, rfl, a, C, d, fs, _, _, _, rfl, .own E2, ev.1, ev.2, oc.ec, oc.k2, (by show 3 ≤ sizeLine; decide), fun D1 hD1 => ?_⟩
    have v1 := ev.keep (same_new (o := .lst [.bl (decide (0 = i)), .bl (decide (1 = i)), .bl (decide (2 = i))]) hD1)
    have s1 := same_new (o := .lst [.bl (decide (0 = i)), .bl (decide (1 = i)), .bl (decide (2 = i))]) hD1
    have e1 : upd H D1 (.lst [.bl (decide (0 = i)), .bl (decide (1 = i)), .bl (decide (2 = i))]) D1 = some (.lst [.bl (decide (0 = i)), .bl (decide (1 = i)), .bl (decide (2 = i))]) := upd_same
    generalize upd H D1 (.lst [.bl (decide (0 = i)), .bl (decide (1 = i)), .bl (decide (2 = i))]) = H1 at *
    refine ⟨_, rfl, _, rfl, a, C, d, fs, _, _, _, rfl, .own E3, v1.1, v1.2, oc.ec, oc.k3, _, rfl, a, C, d, fs, _, _, _, rfl, .own E4, v1.1, v1.2, oc.ec, oc.k4, _, rfl, a, C, d, fs, _, _, _, rfl, .own E5, v1.1, v1.2, oc.ec, oc.k5, (by show 3 ≤ sizeLine; decide), fun D2 hD2 => ?_⟩
    refine ⟨D1, D2, _, _, rfl, rfl, same_new hD2 _ _ e1, upd_same, (by show 3 + 3 ≤ sizeLine; decide), fun D3 hD3 => ?_⟩
    have s3 := s1.trans ((same_new (o := .lst [.bl (decide (3 = i)), .bl (decide (4 = i)), .bl (decide (5 = i))]) hD2).trans (same_new (o := .lst ([.bl (decide (0 = i)), .bl (decide (1 = i)), .bl (decide (2 = i))] ++ [.bl (decide (3 = i)), .bl (decide (4 = i)), .bl (decide (5 = i))])) hD3))
    have e3 : upd (upd H1 D2 (.lst [.bl (decide (3 = i)), .bl (decide (4 = i)), .bl (decide (5 = i))])) D3 (.lst ([.bl (decide (0 = i)), .bl (decide (1 = i)), .bl (decide (2 = i))] ++ [.bl (decide (3 = i)), .bl (decide (4 = i)), .bl (decide (5 = i))])) D3 = some (.lst ([.bl (decide (0 = i)), .bl (decide (1 = i)), .bl (decide (2 = i))] ++ [.bl (decide (3 = i)), .bl (decide (4 = i)), .bl (decide (5 = i))])) := upd_same
    have v3 := ev.keep s3
    generalize upd (upd H1 D2 (.lst [.bl (decide (3 = i)), .bl (decide (4 = i)), .bl (decide (5 = i))])) D3 (.lst ([.bl (decide (0 = i)), .bl (decide (1 = i)), .bl (decide (2 = i))] ++ [.bl (decide (3 = i)), .bl (decide (4 = i)), .bl (decide (5 = i))])) = H3 at *
    refine ⟨_, rfl, _, rfl, a, C, d, fs, _, _, _, rfl, .own E6, v3.1, v3.2, oc.ec, oc.k6, _, rfl, a, C, d, fs, _, _, _, rfl, .own E7, v3.1, v3.2, oc.ec, oc.k7, (by show 2 ≤ sizeLine; decide), fun D4 hD4 => ?_⟩
    refine ⟨D3, D4, _, _, rfl, rfl, same_new hD4 _ _ e3, upd_same, (by show 6 + 2 ≤ sizeLine; decide), fun D5 hD5 => ?_⟩
    have s5 := s3.trans ((same_new (o := .lst [.bl (decide (6 = i)), .bl (decide (7 = i))]) hD4).trans (same_new (o := .lst (([.bl (decide (0 = i)), .bl (decide (1 = i)), .bl (decide (2 = i))] ++ [.bl (decide (3 = i)), .bl (decide (4 = i)), .bl (decide (5 = i))]) ++ [.bl (decide (6 = i)), .bl (decide (7 = i))])) hD5))
    have e5 : upd (upd H3 D4 (.lst [.bl (decide (6 = i)), .bl (decide (7 = i))])) D5 (.lst (([.bl (decide (0 = i)), .bl (decide (1 = i)), .bl (decide (2 = i))] ++ [.bl (decide (3 = i)), .bl (decide (4 = i)), .bl (decide (5 = i))]) ++ [.bl (decide (6 = i)), .bl (decide (7 = i))])) D5 = some (.lst (([.bl (decide (0 = i)), .bl (decide (1 = i)), .bl (decide (2 = i))] ++ [.bl (decide (3 = i)), .bl (decide (4 = i)), .bl (decide (5 = i))]) ++ [.bl (decide (6 = i)), .bl (decide (7 = i))])) := upd_same
    have v5 := ev.keep s5
    generalize upd (upd H3 D4 (.lst [.bl (decide (6 = i)), .bl (decide (7 = i))])) D5 (.lst (([.bl (decide (0 = i)), .bl (decide (1 = i)), .bl (decide (2 = i))] ++ [.bl (decide (3 = i)), .bl (decide (4 = i)), .bl (decide (5 = i))]) ++ [.bl (decide (6 = i)), .bl (decide (7 = i))])) = H5 at *
    refine ⟨8, rfl, by decide, by decide, for_range (n := 8) (fun j σ H' => H' = H5 ∧ ∃ v : Option V, σ = [some (.ref a), some (.int i), some (.ref D5), v]) ⟨rfl, _, rfl⟩ ?_ ?_⟩
    · rintro j σ H' hj ⟨rfl, v, rfl⟩
      exact ⟨_, rfl, _, rfl, D5, _, _, _, rfl, rfl, SqL.of e5, flag_at (by omega), _, rfl, _, rfl, rfl, rfl, _, rfl, no (flag_ne i j) ⟨rfl, _, rfl⟩⟩
    · rintro σ H' ⟨rfl, v, rfl⟩
      exact ⟨_, rfl, a, C, d, fs, _, _, _, rfl, .own EY, v5.1, v5.2, oc.ec, oc.ky, _, rfl, yes rfl ⟨_, rfl, a, C, d, fs, _, _, _, rfl, .ty _, v5.1, v5.2, oc.ec, oc.kv, k _ s5⟩⟩
end
end Yd
namespace Yd
open PySem L2
/-! ### the law of the errors -/
theorem hold_new {K : PySem.W.Frag} {C : Addr} (c : HCls K C) {H : Hp} {l x dx : Addr} {vs : List V} {rows : List Pr} {Q : Hp → Prop} {E : XK} (hv : vs = [.ref x, .ref l]) (hl : RowsP K H l rows) (hz : rows.length ≤ 1000) (nx : H x = none) (ndx : H dx = none) (nex : dx ≠ x)
    (k : ∀ d' H', Same H H' → H d' = none → HoldAt H' C x d' (onceP rows) → Q H') :
    spHInit K vs (upd (upd H dx (.own x)) x (.ins C dx [])) (fun v H2 => v = .non ∧ Q H2) E := by
  have s0 : Same H (upd (upd H dx (.own x)) x (.ins C dx [])) := fun b o e => by rw [upd_ne (ne_of_none e nx), upd_ne (ne_of_none e ndx)]; exact e
  obtain ⟨xs, hp, hl⟩ := hl
  refine ⟨x, C, dx, l, rows, hv, upd_same, c, ⟨xs, hp.same s0, hl.imp (fun h => s0.seq h) fun h => same_seqT s0 h⟩, hz, fun d H' hd g e1 e2 => ⟨rfl, k d H' (fun b o e => ?_) (s0.free hd) ⟨⟨dx, e1⟩, e2, onceP_nd _⟩⟩⟩
  exact g b o (s0 b o e) (ne_of_none e nx)
/-- an error class as it stands -/
structure ErrX (P : Program) (w : World) (K : PySem.W.Frag) (mg : Str → Option Value) (base : Heap) (x : Str) (C : Addr) (sp : Sp) : Prop where
  g : mg x = some (.ref C)
  ox : OexC K C
  ini : ∃ f fd ps, PySem.W.findIn K (.ref C) "__init__" = some (some (.ref f)) ∧ PySem.W.typeIn K (.ref f) = some (.type "function") ∧ FnOk P w K mg base CX0 1 f fd ps sp ∧ Binds K fd ps []
  xf : XfC K C
theorem made_same {H H' : Hp} {a d C : Addr} (ha : H a = none) (hd : upd H a (exo a C none) d = none) (h : ∀ b, b ≠ a → b ≠ d → H' b = upd H a (exo a C none) b) : Same H H' := fun b o e => by
  have na := ne_of_none e ha
  have e2 : upd H a (exo a C none) b = some o := by rw [upd_ne na]; exact e
  rw [h b na (ne_of_none e2 hd)]
  exact e2
def spLaw (K : PySem.W.Frag) : Sp := fun vs H Q _ => ∃ (a : Addr) (ns : List Int), vs = [.ref a] ∧ SqL K H a (ns.map V.int) ∧ ns.length ≤ 63 ∧ ∀ H', Q (.bl true) H'
def nLaw : List Str := ["_law_script", "_law_pool_here", "_law_base_here", "_law_names", "_law_count", "_law_error", "_law_closed", "_law_k"]
theorem scLaw : FnScope nLaw ["_law_script"] (defScope sLaw) := ⟨rfl, rfl, rfl, by decide +kernel, rfl, by decide +kernel, by decide +kernel⟩
section
variable {P : Program} {w : World} {K : PySem.W.Frag} {mg : Str → Option Value} {base : Heap}
theorem not_same (v : V) : (!decide (v = v)) = false := by rw [decide_eq_true rfl]; rfl
theorem ok_law {f fPo fTa fB fNa fO E0 E1 E2 E3 E4 E5 E6 E7 EY CH fn e0 : Addr} {fd dP dT dB dN dO fdn : FuncData} {ee : Value} (F : Fun K "law" "law" sLaw f fd) (B : Blt mg) (hL : mg "list" = none) (hI : mg "isinstance" = none) (hB : mg "bool" = none)
    (TP : Fn K mg "_law_pool" sPool ["_law_script"] fPo dP) (TT : Fn K mg "_law_take" sTake ["_law_pool_here", "_law_size"] fTa dT) (TB : Fn K mg "_law_base" sBase ["_law_pool_here"] fB dB)
    (TN : Fn K mg "_law_name" sName ["_law_pool_here", "_law_base_here", "_law_k"] fNa dN) (TO : Fn K mg "_law_is_only" sIsOnly ["_law_error", "_law_k"] fO dO)
    (GO : FnOk P w K mg base CX0 1 fO dO ["_law_error", "_law_k"] (spOnly K E0 E1 E2 E3 E4 E5 E6 E7 EY))
    (x0 : ErrX P w K mg base "Repeated" E0 (spErr E0 1 okRepeated fsRepeated)) (x1 : ErrX P w K mg base "Unknown" E1 (spErr E1 1 okUnknown fsUnknown)) (x2 : ErrX P w K mg base "NoStep" E2 (spErr E2 2 okNoStep fsNoStep)) (x3 : ErrX P w K mg base "BadCount" E3 (spErr E3 1 okBadCount fsBadCount)) (x4 : ErrX P w K mg base "Lacking" E4 (spErr E4 2 okLacking fsLacking)) (x5 : ErrX P w K mg base "Shut" E5 (spErr E5 1 okShut fsShut)) (x6 : ErrX P w K mg base "Unmet" E6 (spErr E6 3 okUnmet fsUnmet)) (x7 : ErrX P w K mg base "Never" E7 (spNever K E7))
    (n0_name : PySem.W.findIn K (.ref E0) "name" = some none) (n1_name : PySem.W.findIn K (.ref E1) "name" = some none) (n2_before : PySem.W.findIn K (.ref E2) "before" = some none) (n2_after : PySem.W.findIn K (.ref E2) "after" = some none) (n3_count : PySem.W.findIn K (.ref E3) "count" = some none) (n4_kind : PySem.W.findIn K (.ref E4) "kind" = some none) (n4_standing : PySem.W.findIn K (.ref E4) "standing" = some none) (n5_door : PySem.W.findIn K (.ref E5) "door" = some none) (n6_kind : PySem.W.findIn K (.ref E6) "kind" = some none) (n6_standing : PySem.W.findIn K (.ref E6) "standing" = some none) (n6_door : PySem.W.findIn K (.ref E6) "door" = some none) (n7_closed : PySem.W.findIn K (.ref E7) "closed" = some none)
    (c0 : OnlyC K E0 E1 E2 E3 E4 E5 E6 E7 EY E0 0) (c1 : OnlyC K E0 E1 E2 E3 E4 E5 E6 E7 EY E1 1) (c2 : OnlyC K E0 E1 E2 E3 E4 E5 E6 E7 EY E2 2) (c3 : OnlyC K E0 E1 E2 E3 E4 E5 E6 E7 EY E3 3) (c4 : OnlyC K E0 E1 E2 E3 E4 E5 E6 E7 EY E4 4) (c5 : OnlyC K E0 E1 E2 E3 E4 E5 E6 E7 EY E5 5) (c6 : OnlyC K E0 E1 E2 E3 E4 E5 E6 E7 EY E6 6) (c7 : OnlyC K E0 E1 E2 E3 E4 E5 E6 E7 EY E7 7)
    (cH : HCls K CH) (gH : mg "Hold" = some (.ref CH)) (M : Mk K CH fn) (GI : FnOk P w K mg base CX0 1 fn fdn ["self", "rows"] (spHInit K)) (bI : Binds K fdn ["self", "rows"] []) (bI1 : Binds K fdn ["self", "rows"] [ee]) (re0 : RelV (.ref e0) ee) (hE0 : ∀ H, SqT K H e0 []) :
    FnOk P w K mg base CX0 3 f fd ["_law_script"] (spLaw K) := by
  have GP : FnOk P w K mg base CX0 1 fPo dP ["_law_script"] (spPool K) := ok_pool TP.F B
  have GT : FnOk P w K mg base CX0 1 fTa dT ["_law_pool_here", "_law_size"] spTake := ok_take TT.F B
  have GB : FnOk P w K mg base CX0 2 fB dB ["_law_pool_here"] (spBase 12) := ok_base TB.F B TT
  have GN : FnOk P w K mg base CX0 2 fNa dN ["_law_pool_here", "_law_base_here", "_law_k"] spName := ok_name TN.F B TT
  obtain ⟨f0, fd0, ps0, i0, t0, G0, b0⟩ := x0.ini
  obtain ⟨f1, fd1, ps1, i1, t1, G1, b1⟩ := x1.ini
  obtain ⟨f2, fd2, ps2, i2, t2, G2, b2⟩ := x2.ini
  obtain ⟨f3, fd3, ps3, i3, t3, G3, b3⟩ := x3.ini
  obtain ⟨f4, fd4, ps4, i4, t4, G4, b4⟩ := x4.ini
  obtain ⟨f5, fd5, ps5, i5, t5, G5, b5⟩ := x5.ini
  obtain ⟨f6, fd6, ps6, i6, t6, G6, b6⟩ := x6.ini
  obtain ⟨f7, fd7, ps7, i7, t7, G7, b7⟩ := x7.ini
  refine F.ok scLaw (fun vs H Q E h => ?_) (fun cdv A outer s H vs Q E hr h => ?_)
  · obtain ⟨a, ns, rfl, _⟩ := h
    rfl
  · obtain ⟨scr, script, rfl, hS, hlen, k⟩ := h
    have r1 : Room 1 _ := hr.mono (by decide)
    have r2 : Room 2 _ := hr.mono (by decide)
    have hu : _ < cLine := Nat.lt_trans (Nat.lt_succ_self _) (hu_of hr)
    refine ⟨_, pss_cons (ps_set (i := 1) scLaw.nd rfl (Or.inr rfl) (pe_call GP r1 rfl TP.g TP.F.kp TP.b .nil pass0 (pa_cons (pv 0) pa_nil)))
      (pss_cons (ps_set (i := 2) scLaw.nd rfl (Or.inr rfl) (pe_call GB r2 rfl TB.g TB.F.kp TB.b .nil pass0 (pa_cons (pv 1) pa_nil)))
      (pss_cons (ps_setLc (i := 3) (own := [("_law_k", 7)]) (g := gName 7) (tt := tYes) rfl scLaw.nd rfl rfl (sw_true rfl rfl rfl (by decide +kernel)) (pi_range1 rfl B.range (pa_cons pe_int pa_nil))
          (blkOk_by (N := nLaw) (sc := defScope sLaw) (by decide +kernel)) (fun _ _ _ _ _ => pg_name (i := 7) scLaw.nd rfl (Or.inl rfl)) (fun _ _ _ _ _ => pts_nil)
          (fun _ _ _ _ _ => pe_call GN r2 rfl TN.g TN.F.kp TN.b .nil pass0 (pa_cons (pv 1) (pa_cons (pv 2) (pa_cons (pv 7) pa_nil)))))
      (pss_cons (ps_set (i := 4) scLaw.nd rfl (Or.inl rfl) (pe_op op_sub (pe_call GT r1 rfl TT.g TT.F.kp TT.b .nil pass0 (pa_cons (pv 1) (pa_cons (pe_op op_add (pe_op op_mul pe_int (pe_op op_pow pe_int pe_int)) pe_int) pa_nil))) (pe_op op_pow pe_int pe_int)))
      (pss_cons (ps_set (i := 5) scLaw.nd rfl (Or.inl rfl) (pe_mkV x0.ox i0 t0 G0 r2 b0 pass0 (by rfl) x0.g (pa_cons (pe_ix ix_list (pv 3) pe_int (fun _ _ => rfl)) pa_nil)))
      (pss_cons (ps_if (PW.pt (pw_or (pt_not (pt_val (pe_call GO r1 rfl TO.g TO.F.kp TO.b .nil pass0 (pa_cons (pv 5) (pa_cons pe_int pa_nil))))) (pw_or1 (pt_cmpR op_ne (pe_xv x0.xf n0_name (pv 5)) (pe_ix ix_list (pv 3) pe_int (fun _ _ => rfl)) (nomark _))))) (pss_one (ps_ret pe_bl)) pss_nil)
      (pss_cons (ps_set (i := 5) scLaw.nd rfl (Or.inl rfl) (pe_mkV x1.ox i1 t1 G1 r2 b1 pass0 (by rfl) x1.g (pa_cons (pe_ix ix_list (pv 3) pe_int (fun _ _ => rfl)) pa_nil)))
      (pss_cons (ps_if (PW.pt (pw_or (pt_not (pt_val (pe_call GO r1 rfl TO.g TO.F.kp TO.b .nil pass0 (pa_cons (pv 5) (pa_cons pe_int pa_nil))))) (pw_or1 (pt_cmpR op_ne (pe_xv x1.xf n1_name (pv 5)) (pe_ix ix_list (pv 3) pe_int (fun _ _ => rfl)) (nomark _))))) (pss_one (ps_ret pe_bl)) pss_nil)
      (pss_cons (ps_set (i := 5) scLaw.nd rfl (Or.inl rfl) (pe_mkV x2.ox i2 t2 G2 r2 b2 pass0 (by rfl) x2.g (pa_cons (pe_ix ix_list (pv 3) pe_int (fun _ _ => rfl)) (pa_cons (pe_ix ix_list (pv 3) pe_int (fun _ _ => rfl)) pa_nil))))
      (pss_cons (ps_if (PW.pt (pw_or (pt_not (pt_val (pe_call GO r1 rfl TO.g TO.F.kp TO.b .nil pass0 (pa_cons (pv 5) (pa_cons pe_int pa_nil))))) (pw_or (pt_cmpR op_ne (pe_xv x2.xf n2_before (pv 5)) (pe_ix ix_list (pv 3) pe_int (fun _ _ => rfl)) (nomark _)) (pw_or1 (pt_cmpR op_ne (pe_xv x2.xf n2_after (pv 5)) (pe_ix ix_list (pv 3) pe_int (fun _ _ => rfl)) (nomark _)))))) (pss_one (ps_ret pe_bl)) pss_nil)
      (pss_cons (ps_set (i := 5) scLaw.nd rfl (Or.inl rfl) (pe_mkV x3.ox i3 t3 G3 r2 b3 pass0 (by rfl) x3.g (pa_cons (pv 4) pa_nil)))
      (pss_cons (ps_if (PW.pt (pw_or (pt_not (pt_val (pe_call GO r1 rfl TO.g TO.F.kp TO.b .nil pass0 (pa_cons (pv 5) (pa_cons pe_int pa_nil))))) (pw_or (pt_val (pe_callB call_isi (by rfl) hI (by decide +kernel) (pa_cons (pe_xv x3.xf n3_count (pv 5)) (pa_cons (pe_bltn (v := .ty "bool") (by rfl) hB (by decide +kernel) rfl) pa_nil)))) (pw_or1 (pt_cmpR op_ne (pe_xv x3.xf n3_count (pv 5)) (pv 4) (nomark _)))))) (pss_one (ps_ret pe_bl)) pss_nil)
      (pss_cons (ps_set (i := 5) scLaw.nd rfl (Or.inl rfl) (pe_mkV x4.ox i4 t4 G4 r2 b4 pass0 (by rfl) x4.g (pa_cons (pe_ix ix_list (pv 3) pe_int (fun _ _ => rfl)) (pa_cons (pe_ix ix_list (pv 3) pe_int (fun _ _ => rfl)) pa_nil))))
      (pss_cons (ps_if (PW.pt (pw_or (pt_not (pt_val (pe_call GO r1 rfl TO.g TO.F.kp TO.b .nil pass0 (pa_cons (pv 5) (pa_cons pe_int pa_nil))))) (pw_or (pt_cmpR op_ne (pe_xv x4.xf n4_kind (pv 5)) (pe_ix ix_list (pv 3) pe_int (fun _ _ => rfl)) (nomark _)) (pw_or1 (pt_cmpR op_ne (pe_xv x4.xf n4_standing (pv 5)) (pe_ix ix_list (pv 3) pe_int (fun _ _ => rfl)) (nomark _)))))) (pss_one (ps_ret pe_bl)) pss_nil)
      (pss_cons (ps_set (i := 5) scLaw.nd rfl (Or.inl rfl) (pe_mkV x5.ox i5 t5 G5 r2 b5 pass0 (by rfl) x5.g (pa_cons (pe_ix ix_list (pv 3) pe_int (fun _ _ => rfl)) pa_nil)))
      (pss_cons (ps_if (PW.pt (pw_or (pt_not (pt_val (pe_call GO r1 rfl TO.g TO.F.kp TO.b .nil pass0 (pa_cons (pv 5) (pa_cons pe_int pa_nil))))) (pw_or1 (pt_cmpR op_ne (pe_xv x5.xf n5_door (pv 5)) (pe_ix ix_list (pv 3) pe_int (fun _ _ => rfl)) (nomark _))))) (pss_one (ps_ret pe_bl)) pss_nil)
      (pss_cons (ps_set (i := 5) scLaw.nd rfl (Or.inl rfl) (pe_mkV x6.ox i6 t6 G6 r2 b6 pass0 (by rfl) x6.g (pa_cons (pe_ix ix_list (pv 3) pe_int (fun _ _ => rfl)) (pa_cons (pe_ix ix_list (pv 3) pe_int (fun _ _ => rfl)) (pa_cons (pe_ix ix_list (pv 3) pe_int (fun _ _ => rfl)) pa_nil)))))
      (pss_cons (ps_if (PW.pt (pw_or (pt_not (pt_val (pe_call GO r1 rfl TO.g TO.F.kp TO.b .nil pass0 (pa_cons (pv 5) (pa_cons pe_int pa_nil))))) (pw_or (pt_cmpR op_ne (pe_xv x6.xf n6_kind (pv 5)) (pe_ix ix_list (pv 3) pe_int (fun _ _ => rfl)) (nomark _)) (pw_or1 (pt_cmpR op_ne (pe_xv x6.xf n6_standing (pv 5)) (pe_ix ix_list (pv 3) pe_int (fun _ _ => rfl)) (nomark _)))))) (pss_one (ps_ret pe_bl)) pss_nil)
      (pss_cons (ps_if (pt_cmpR op_ne (pe_xv x6.xf n6_door (pv 5)) (pe_ix ix_list (pv 3) pe_int (fun _ _ => rfl)) (nomark _)) (pss_one (ps_ret pe_bl)) pss_nil)
      (pss_cons (ps_set (i := 6) scLaw.nd rfl (Or.inl rfl) (pe_lst (pa_cons (pe_tup (pa_cons (pe_tup (pa_cons (pe_ix ix_list (pv 3) pe_int (fun _ _ => rfl)) pa_nil)) (pa_cons (pe_make (E := fun _ _ _ => False) M GI r2 (by rfl) gH bI .nil pass0 (pa_cons (pe_lst (pa_cons (pe_tup (pa_cons (pe_ix ix_list (pv 3) pe_int (fun _ _ => rfl)) (pa_cons (pe_ix ix_list (pv 3) pe_int (fun _ _ => rfl)) pa_nil))) pa_nil)) pa_nil)) pa_nil))) (pa_cons (pe_tup (pa_cons (pe_tup (pa_cons (pe_ix ix_list (pv 3) pe_int (fun _ _ => rfl)) pa_nil)) (pa_cons (pe_make0 (E := fun _ _ _ => False) M GI r2 (by rfl) gH bI1 (.cons re0 .nil) pass0) pa_nil))) pa_nil))))
      (pss_cons (ps_set (i := 5) scLaw.nd rfl (Or.inl rfl) (pe_mkV x7.ox i7 t7 G7 r2 b7 pass0 (by rfl) x7.g (pa_cons (pv 6) pa_nil)))
      (pss_cons (ps_if (PW.pt (pw_or (pt_not (pt_val (pe_call GO r1 rfl TO.g TO.F.kp TO.b .nil pass0 (pa_cons (pv 5) (pa_cons pe_int pa_nil))))) (pw_or1 (pt_not (pt_val (pe_callB call_isi (by rfl) hI (by decide +kernel) (pa_cons (pe_xv x7.xf n7_closed (pv 5)) (pa_cons (pe_bltn (v := .ty "list") (by rfl) hL (by decide +kernel) rfl) pa_nil)))))))) (pss_one (ps_ret pe_bl)) pss_nil)
      (pss_cons (ps_expr (pe_bm PySem.F.plainAttrs_list PySem.F.slot_list_append PySem.F.type_list_append mt_append (pv 6) (pa_cons (pe_tup (pa_cons (pe_tup (pa_cons (pe_ix ix_list (pv 3) pe_int (fun _ _ => rfl)) pa_nil)) (pa_cons (pe_make0 (E := fun _ _ _ => False) M GI r2 (by rfl) gH bI1 (.cons re0 .nil) pass0) pa_nil))) pa_nil)))
      (pss_one (ps_ret (pe_and (pe_cmpR (op_eqL hu) (pe_xv x7.xf n7_closed (pv 5)) (pe_slice sl_list (pv 6) po_none (po_some pe_int)) (nomark _)) (pe_one (pe_cmpR (op_neLen hu) (pe_xv x7.xf n7_closed (pv 5)) (pv 6) (nomark _)))))))))))))))))))))))))))), ?_⟩
    refine ⟨_, rfl, scr, script, rfl, hS, hlen, fun p cc H1 _ _ _ P1 => ?_⟩
    refine ⟨_, rfl, p, cc, rfl, P1, fun b H2 hb hsb _ P2 => ?_⟩
    clear P1
    refine ⟨3, rfl, by decide, by decide, fun D hD => ?_⟩
    obtain ⟨nDp, nDc⟩ := P2.ne hD
    refine lc_range (lo := 0) (n := (3 : Int).toNat) (fun i H' => Gro p H2 H' ∧ Pool H' p cc ∧ ∃ ys : List Str, H' D = some (.lst (ys.map V.str)) ∧ ys.length = i ∧ ∀ y ∈ ys, y.length ≤ 12)
      ⟨.new hD, P2.new hD, [], upd_same, rfl, fun y hy => nomatch hy⟩ ?_ ?_
    · rintro i H' hi ⟨g6, P6, ys, hys, hyl, hyb⟩
      have hi3 : i < 3 := hi
      refine ⟨rfl, _, rfl, _, rfl, _, rfl, p, cc, b, i, by rw [show (0 : Int) + (i : Int) = (i : Int) by omega]; rfl, P6, by omega, hsb, by omega, fun z H7 hz g7 P7 => ?_⟩
      refine ⟨ys.map V.str, g7 D _ hys nDp, small500 (by rw [List.length_map]; omega), fun bb o e ne => ?_, P7.off nDp nDc, ys ++ [z], by rw [upd_same, List.map_append]; rfl, by rw [List.length_append, hyl]; rfl, fun y hy => ?_⟩
      · rw [upd_ne (ne_of_none e hD)]
        exact g7 _ _ (g6 _ _ e ne) ne
      · rcases List.mem_append.mp hy with q | q
        · exact hyb y q
        · rw [List.mem_singleton.mp q]; exact hz.1
    rintro H4 ⟨_, P4, ns, hns, hnl, hnb⟩
    obtain ⟨z0, z1, z2, rfl⟩ : ∃ z0 z1 z2, ns = [z0, z1, z2] := by
      match ns, hnl with
      | [z0, z1, z2], _ => exact ⟨z0, z1, z2, rfl⟩
    have l0 : isTxt (.str z0) := ⟨z0, rfl, Nat.le_trans (hnb z0 (by simp)) (by decide)⟩
    have l1 : isTxt (.str z1) := ⟨z1, rfl, Nat.le_trans (hnb z1 (by simp)) (by decide)⟩
    have l2 : isTxt (.str z2) := ⟨z2, rfl, Nat.le_trans (hnb z2 (by simp)) (by decide)⟩
    have a0 : atI [V.str z0, V.str z1, V.str z2] 0 = some (V.str z0) := at_c (j := 0) rfl rfl
    have a1 : atI [V.str z0, V.str z1, V.str z2] 1 = some (V.str z1) := at_c (j := 1) rfl rfl
    have a2 : atI [V.str z0, V.str z1, V.str z2] 2 = some (V.str z2) := at_c (j := 2) rfl rfl
    have hns : H4 D = some (.lst [.str z0, .str z1, .str z2]) := hns
    clear P2 hD hnl hnb
    have big : ((2 : Int) * 10 ^ 30 + 1).natAbs < 2 ^ 200 := by decide +kernel
    refine ⟨_, rfl, 10, 30, rfl, rfl, ⟨by decide, by decide, by decide⟩, 2, _, rfl, rfl, .inl ⟨by decide, by decide⟩, _, 1, rfl, rfl, p, cc, _, rfl, P4, by decide +kernel, big, fun v H5 _ _ g5 _ => ⟨10, 30, rfl, rfl, ⟨by decide, by decide, by decide⟩, _, _, rfl, rfl, ?_⟩⟩
    have hn0 := g5 _ _ hns nDp
    clear hns P4 g5 big
    -- Repeated
    refine ⟨_, rfl, D, _, 0, _, rfl, rfl, SqL.of hn0, a0, (by show 1 ≤ 1000; decide), fun aRepeated haRepeated => ⟨aRepeated, [.str z0], rfl, rfl, l0, upd_same, fun dRepeated KRepeated hdRepeated hdaRepeated eaRepeated edRepeated smRepeated => ⟨rfl, ?_⟩⟩⟩
    have hmRepeated := made_same haRepeated hdRepeated smRepeated _ _ hn0
    have evRepeated : ErrV KRepeated aRepeated E0 dRepeated (fsRepeated [.str z0]) := ⟨eaRepeated, edRepeated⟩
    clear haRepeated hdRepeated hdaRepeated eaRepeated edRepeated smRepeated
    refine ⟨_, rfl, aRepeated, E0, dRepeated, _, 0, rfl, by decide, c0, evRepeated, fun LRepeated sRepeated => ⟨true, rfl, no rfl ?_⟩⟩
    have ewRepeated := evRepeated.keep sRepeated
    have hkRepeated := sRepeated _ _ hmRepeated
    clear evRepeated
    refine ⟨_, rfl, aRepeated, dRepeated, _, _, rfl, ewRepeated.1, ewRepeated.2, rfl, _, rfl, D, _, 0, _, rfl, rfl, SqL.of hkRepeated, a0, rfl, _, rfl, no (not_same _) ?_⟩
    clear ewRepeated sRepeated
    -- Unknown
    refine ⟨_, rfl, D, _, 1, _, rfl, rfl, SqL.of hkRepeated, a1, (by show 1 ≤ 1000; decide), fun aUnknown haUnknown => ⟨aUnknown, [.str z1], rfl, rfl, l1, upd_same, fun dUnknown KUnknown hdUnknown hdaUnknown eaUnknown edUnknown smUnknown => ⟨rfl, ?_⟩⟩⟩
    have hmUnknown := made_same haUnknown hdUnknown smUnknown _ _ hkRepeated
    have evUnknown : ErrV KUnknown aUnknown E1 dUnknown (fsUnknown [.str z1]) := ⟨eaUnknown, edUnknown⟩
    clear haUnknown hdUnknown hdaUnknown eaUnknown edUnknown smUnknown
    refine ⟨_, rfl, aUnknown, E1, dUnknown, _, 1, rfl, by decide, c1, evUnknown, fun LUnknown sUnknown => ⟨true, rfl, no rfl ?_⟩⟩
    have ewUnknown := evUnknown.keep sUnknown
    have hkUnknown := sUnknown _ _ hmUnknown
    clear evUnknown
    refine ⟨_, rfl, aUnknown, dUnknown, _, _, rfl, ewUnknown.1, ewUnknown.2, rfl, _, rfl, D, _, 1, _, rfl, rfl, SqL.of hkUnknown, a1, rfl, _, rfl, no (not_same _) ?_⟩
    clear ewUnknown sUnknown
    -- NoStep
    refine ⟨_, rfl, D, _, 0, _, rfl, rfl, SqL.of hkUnknown, a0, _, rfl, D, _, 1, _, rfl, rfl, SqL.of hkUnknown, a1, (by show 2 ≤ 1000; decide), fun aNoStep haNoStep => ⟨aNoStep, [.str z0, .str z1], rfl, rfl, ⟨l0, l1⟩, upd_same, fun dNoStep KNoStep hdNoStep hdaNoStep eaNoStep edNoStep smNoStep => ⟨rfl, ?_⟩⟩⟩
    have hmNoStep := made_same haNoStep hdNoStep smNoStep _ _ hkUnknown
    have evNoStep : ErrV KNoStep aNoStep E2 dNoStep (fsNoStep [.str z0, .str z1]) := ⟨eaNoStep, edNoStep⟩
    clear haNoStep hdNoStep hdaNoStep eaNoStep edNoStep smNoStep
    refine ⟨_, rfl, aNoStep, E2, dNoStep, _, 2, rfl, by decide, c2, evNoStep, fun LNoStep sNoStep => ⟨true, rfl, no rfl ?_⟩⟩
    have ewNoStep := evNoStep.keep sNoStep
    have hkNoStep := sNoStep _ _ hmNoStep
    clear evNoStep
    refine ⟨_, rfl, aNoStep, dNoStep, _, _, rfl, ewNoStep.1, ewNoStep.2, rfl, _, rfl, D, _, 0, _, rfl, rfl, SqL.of hkNoStep, a0, rfl, _, rfl, no (not_same _) ?_⟩
    refine ⟨_, rfl, aNoStep, dNoStep, _, _, rfl, ewNoStep.1, ewNoStep.2, rfl, _, rfl, D, _, 1, _, rfl, rfl, SqL.of hkNoStep, a1, rfl, _, rfl, no (not_same _) ?_⟩
    clear ewNoStep sNoStep
    -- BadCount
    refine ⟨_, rfl, (by show 1 ≤ 1000; decide), fun aBadCount haBadCount => ⟨aBadCount, [.int (v - 10 ^ Int.toNat 30)], rfl, rfl, True.intro, upd_same, fun dBadCount KBadCount hdBadCount hdaBadCount eaBadCount edBadCount smBadCount => ⟨rfl, ?_⟩⟩⟩
    have hmBadCount := made_same haBadCount hdBadCount smBadCount _ _ hkNoStep
    have evBadCount : ErrV KBadCount aBadCount E3 dBadCount (fsBadCount [.int (v - 10 ^ Int.toNat 30)]) := ⟨eaBadCount, edBadCount⟩
    clear haBadCount hdBadCount hdaBadCount eaBadCount edBadCount smBadCount
    refine ⟨_, rfl, aBadCount, E3, dBadCount, _, 3, rfl, by decide, c3, evBadCount, fun LBadCount sBadCount => ⟨true, rfl, no rfl ?_⟩⟩
    have ewBadCount := evBadCount.keep sBadCount
    have hkBadCount := sBadCount _ _ hmBadCount
    clear evBadCount
    refine ⟨_, rfl, aBadCount, dBadCount, _, _, rfl, ewBadCount.1, ewBadCount.2, rfl, _, _, _, _, false, rfl, .ty _, .base (.int _), kit_ty (by decide +kernel), _, rfl, no rfl ?_⟩
    refine ⟨_, rfl, aBadCount, dBadCount, _, _, rfl, ewBadCount.1, ewBadCount.2, rfl, _, rfl, rfl, _, rfl, no (not_same _) ?_⟩
    clear ewBadCount sBadCount
    -- Lacking
    refine ⟨_, rfl, D, _, 1, _, rfl, rfl, SqL.of hkBadCount, a1, _, rfl, D, _, 2, _, rfl, rfl, SqL.of hkBadCount, a2, (by show 2 ≤ 1000; decide), fun aLacking haLacking => ⟨aLacking, [.str z1, .str z2], rfl, rfl, ⟨l1, l2⟩, upd_same, fun dLacking KLacking hdLacking hdaLacking eaLacking edLacking smLacking => ⟨rfl, ?_⟩⟩⟩
    have hmLacking := made_same haLacking hdLacking smLacking _ _ hkBadCount
    have evLacking : ErrV KLacking aLacking E4 dLacking (fsLacking [.str z1, .str z2]) := ⟨eaLacking, edLacking⟩
    clear haLacking hdLacking hdaLacking eaLacking edLacking smLacking
    refine ⟨_, rfl, aLacking, E4, dLacking, _, 4, rfl, by decide, c4, evLacking, fun LLacking sLacking => ⟨true, rfl, no rfl ?_⟩⟩
    have ewLacking := evLacking.keep sLacking
    have hkLacking := sLacking _ _ hmLacking
    clear evLacking
    refine ⟨_, rfl, aLacking, dLacking, _, _, rfl, ewLacking.1, ewLacking.2, rfl, _, rfl, D, _, 1, _, rfl, rfl, SqL.of hkLacking, a1, rfl, _, rfl, no (not_same _) ?_⟩
    refine ⟨_, rfl, aLacking, dLacking, _, _, rfl, ewLacking.1, ewLacking.2, rfl, _, rfl, D, _, 2, _, rfl, rfl, SqL.of hkLacking, a2, rfl, _, rfl, no (not_same _) ?_⟩
    clear ewLacking sLacking
    -- Shut
    refine ⟨_, rfl, D, _, 2, _, rfl, rfl, SqL.of hkLacking, a2, (by show 1 ≤ 1000; decide), fun aShut haShut => ⟨aShut, [.str z2], rfl, rfl, l2, upd_same, fun dShut KShut hdShut hdaShut eaShut edShut smShut => ⟨rfl, ?_⟩⟩⟩
    have hmShut := made_same haShut hdShut smShut _ _ hkLacking
    have evShut : ErrV KShut aShut E5 dShut (fsShut [.str z2]) := ⟨eaShut, edShut⟩
    clear haShut hdShut hdaShut eaShut edShut smShut
    refine ⟨_, rfl, aShut, E5, dShut, _, 5, rfl, by decide, c5, evShut, fun LShut sShut => ⟨true, rfl, no rfl ?_⟩⟩
    have ewShut := evShut.keep sShut
    have hkShut := sShut _ _ hmShut
    clear evShut
    refine ⟨_, rfl, aShut, dShut, _, _, rfl, ewShut.1, ewShut.2, rfl, _, rfl, D, _, 2, _, rfl, rfl, SqL.of hkShut, a2, rfl, _, rfl, no (not_same _) ?_⟩
    clear ewShut sShut
    -- Unmet
    refine ⟨_, rfl, D, _, 2, _, rfl, rfl, SqL.of hkShut, a2, _, rfl, D, _, 0, _, rfl, rfl, SqL.of hkShut, a0, _, rfl, D, _, 1, _, rfl, rfl, SqL.of hkShut, a1, (by show 3 ≤ 1000; decide), fun aUnmet haUnmet => ⟨aUnmet, [.str z2, .str z0, .str z1], rfl, rfl, ⟨l2, l0, l1⟩, upd_same, fun dUnmet KUnmet hdUnmet hdaUnmet eaUnmet edUnmet smUnmet => ⟨rfl, ?_⟩⟩⟩
    have hmUnmet := made_same haUnmet hdUnmet smUnmet _ _ hkShut
    have evUnmet : ErrV KUnmet aUnmet E6 dUnmet (fsUnmet [.str z2, .str z0, .str z1]) := ⟨eaUnmet, edUnmet⟩
    clear haUnmet hdUnmet hdaUnmet eaUnmet edUnmet smUnmet
    refine ⟨_, rfl, aUnmet, E6, dUnmet, _, 6, rfl, by decide, c6, evUnmet, fun LUnmet sUnmet => ⟨true, rfl, no rfl ?_⟩⟩
    have ewUnmet := evUnmet.keep sUnmet
    have hkUnmet := sUnmet _ _ hmUnmet
    clear evUnmet
    refine ⟨_, rfl, aUnmet, dUnmet, _, _, rfl, ewUnmet.1, ewUnmet.2, rfl, _, rfl, D, _, 2, _, rfl, rfl, SqL.of hkUnmet, a2, rfl, _, rfl, no (not_same _) ?_⟩
    refine ⟨_, rfl, aUnmet, dUnmet, _, _, rfl, ewUnmet.1, ewUnmet.2, rfl, _, rfl, D, _, 0, _, rfl, rfl, SqL.of hkUnmet, a0, rfl, _, rfl, no (not_same _) ?_⟩
    refine ⟨_, rfl, aUnmet, dUnmet, _, _, rfl, ewUnmet.1, ewUnmet.2, rfl, _, rfl, D, _, 1, _, rfl, rfl, SqL.of hkUnmet, a1, rfl, _, rfl, no (not_same _) ?_⟩
    clear ewUnmet sUnmet
    -- the closed list
    have tok : ∀ {H : Hp} {q : Addr} {o : HO}, H q = none → Same H (upd H q o) := fun h => same_new h
    refine ⟨_, rfl, D, _, 0, _, rfl, rfl, SqL.of hkUnmet, a0, (by show 1 ≤ sizeLine; decide), fun u1 hu1 => ?_⟩
    have q1 := tok (o := .tup [.str z0]) hu1 _ _ hkUnmet
    refine ⟨_, rfl, D, _, 1, _, rfl, rfl, SqL.of q1, a1, _, rfl, D, _, 2, _, rfl, rfl, SqL.of q1, a2, (by show 2 ≤ sizeLine; decide), fun u2 hu2 => ⟨(by show 1 ≤ sizeLine; decide), fun u3 hu3 => ?_⟩⟩
    have q3 := tok (o := .lst [.ref u2]) hu3 _ _ (tok (o := .tup [.str z1, .str z2]) hu2 _ _ q1)
    refine fun x1 dx1 nx1 ndx1 nex1 => hold_new cH (rows := [(z1, z2)]) rfl ⟨[.ref u2], ⟨⟨u2, rfl, tok hu3 _ _ upd_same⟩, True.intro⟩, .inl (SqL.of upd_same)⟩ (by show 1 ≤ 1000; decide) nx1 ndx1 nex1 fun d1 Ha sa _ _ => ⟨(by show 2 ≤ sizeLine; decide), fun u4 hu4 => ?_⟩
    have q4 := tok (o := .tup [.ref u1, .ref x1]) hu4 _ _ (sa _ _ q3)
    clear q1 q3 sa hu1 hu2 hu3 nx1 ndx1 nex1
    generalize upd Ha u4 (.tup [.ref u1, .ref x1]) = Hb at q4
    refine ⟨_, rfl, D, _, 2, _, rfl, rfl, SqL.of q4, a2, (by show 1 ≤ sizeLine; decide), fun u5 hu5 => ?_⟩
    have q5 := tok (o := .tup [.str z2]) hu5 _ _ q4
    refine fun x2 dx2 nx2 ndx2 nex2 => hold_new cH (rows := []) rfl ⟨[], True.intro, .inr (hE0 _)⟩ (Nat.zero_le _) nx2 ndx2 nex2 fun d2 Hc sc _ _ => ⟨(by show 2 ≤ sizeLine; decide), fun u6 hu6 => ⟨(by show 2 ≤ sizeLine; decide), fun LC hLC => ?_⟩⟩
    have q6 := tok (o := .lst [.ref u4, .ref u6]) hLC _ _ (tok (o := .tup [.ref u5, .ref x2]) hu6 _ _ (sc _ _ q5))
    have eL : upd (upd Hc u6 (.tup [.ref u5, .ref x2])) LC (.lst [.ref u4, .ref u6]) LC = some (.lst [.ref u4, .ref u6]) := upd_same
    clear q4 q5 sc hu4 hu5 hu6 hLC nx2 ndx2 nex2
    generalize upd (upd Hc u6 (.tup [.ref u5, .ref x2])) LC (.lst [.ref u4, .ref u6]) = Hd at q6 eL
    -- Never
    refine ⟨_, rfl, (by show 1 ≤ 1000; decide), fun aN haN => ⟨aN, LC, [.ref u4, .ref u6], rfl, SqL.of (by rw [upd_ne (ne_of_none eL haN)]; exact eL), upd_same, fun dN gN KN hdN hdaN hgN hgaN hgdN eaN edN egN smN => ⟨rfl, ?_⟩⟩⟩
    have sN : Same Hd KN := fun b o e => by
      have na := ne_of_none e haN
      have e2 : upd Hd aN (exo aN E7 none) b = some o := by rw [upd_ne na]; exact e
      rw [smN b na (ne_of_none e2 hdN) (ne_of_none e2 hgN)]
      exact e2
    have n1 : aN ≠ LC := fun z => by rw [← z, haN] at eL; cases eL
    have e2L : upd Hd aN (exo aN E7 none) LC = some (.lst [.ref u4, .ref u6]) := by rw [upd_ne n1.symm]; exact eL
    have n2 : dN ≠ LC := fun z => by rw [← z, hdN] at e2L; cases e2L
    have n3 : gN ≠ LC := fun z => by rw [← z, hgN] at e2L; cases e2L
    have evN : ErrV KN aN E7 dN [("closed", .ref gN)] := ⟨eaN, edN⟩
    have eL := sN _ _ eL
    have q7 := sN _ _ q6
    clear haN hdN hdaN hgN hgaN hgdN eaN edN smN sN q6 e2L
    refine ⟨_, rfl, aN, E7, dN, _, 7, rfl, by decide, c7, evN, fun LN sL => ⟨true, rfl, no rfl ?_⟩⟩
    have ewN := evN.keep sL
    have q8 := sL _ _ q7
    have eL := sL _ _ eL
    have egN := sL _ _ egN
    clear evN sL q7
    refine ⟨_, rfl, aN, dN, _, _, rfl, ewN.1, ewN.2, rfl, _, _, _, _, true, rfl, .ty _, .base (.lst egN), kit_ty (by decide +kernel), true, rfl, no rfl ?_⟩
    -- a further pair in the list that was passed
    refine ⟨_, rfl, .inl ⟨rfl, _, SqL.of eL⟩, _, rfl, D, _, 1, _, rfl, rfl, SqL.of q8, a1, (by show 1 ≤ sizeLine; decide), fun u7 hu7 => ?_⟩
    refine fun x3 dx3 nx3 ndx3 nex3 => hold_new cH (rows := []) rfl ⟨[], True.intro, .inr (hE0 _)⟩ (Nat.zero_le _) nx3 ndx3 nex3 fun d3 He se _ _ => ⟨(by show 2 ≤ sizeLine; decide), fun u8 hu8 => ?_⟩
    have s9 := ((tok (o := .tup [.str z1]) hu7).trans se).trans (tok (o := .tup [.ref u7, .ref x3]) hu8)
    have ew := ewN.keep s9
    have eL := s9 _ _ eL
    have eg := s9 _ _ egN
    clear s9 se hu7 hu8 nx3 ndx3 nex3 ewN egN q8
    generalize upd He u8 (.tup [.ref u7, .ref x3]) = Hf at ew eL eg
    refine ⟨LC, _, _, rfl, rfl, eL, small500 (by show 2 ≤ 1000; decide), ?_⟩
    have f1 : upd Hf LC (.lst ([.ref u4, .ref u6] ++ [.ref u8])) aN = some (exo aN E7 (some dN)) := by rw [upd_ne n1]; exact ew.1
    have f2 : upd Hf LC (.lst ([.ref u4, .ref u6] ++ [.ref u8])) dN = some (exd dN [("closed", .ref gN)]) := by rw [upd_ne n2]; exact ew.2
    have f3 : upd Hf LC (.lst ([.ref u4, .ref u6] ++ [.ref u8])) gN = some (.lst [.ref u4, .ref u6]) := by rw [upd_ne n3]; exact eg
    have f4 : upd Hf LC (.lst ([.ref u4, .ref u6] ++ [.ref u8])) LC = some (.lst ([.ref u4, .ref u6] ++ [.ref u8])) := upd_same
    generalize upd Hf LC (.lst ([.ref u4, .ref u6] ++ [.ref u8])) = Hg at f1 f2 f3 f4
    refine ⟨_, rfl, aN, dN, _, _, rfl, f1, f2, rfl, _, rfl, 2, rfl, LC, _, rfl, SqL.of f4, fun u9 hu9 => ?_⟩
    have s9 := tok (o := .lst (cutV ([.ref u4, .ref u6] ++ [.ref u8]) none (some 2))) hu9
    refine ⟨gN, u9, [u4, u6], rfl, rfl, SqL.of (s9 _ _ f3), SqL.of upd_same, _, rfl, yes rfl ?_⟩
    exact ⟨_, rfl, aN, dN, _, _, rfl, s9 _ _ f1, s9 _ _ f2, rfl, _, rfl, gN, LC, _, _, rfl, rfl, SqL.of (s9 _ _ f3), SqL.of (s9 _ _ f4), (by show 2 ≠ 3; decide), k _⟩
end
end Yd
namespace Yd
open PySem L2
/-! ### isinstance, of an own class -/
theorem kit_is {K : PySem.W.Frag} {C D : Addr} {b : Bool} (h1 : PySem.W.isClsIn K D = true) (h2 : PySem.W.typeIn K (.ref D) = some (.type "type")) (h3 : PySem.W.subIn K (.ref C) (.ref D) = some b) (h4 : C = D → b = true) : PySem.W.kitOne K (.ref C) (.ref D) = some b := by
  have h5 : (PySem.W.clsIn K D).isSome = true := h1
  have a2 : ((PySem.W.clsIn K D).isSome && PySem.W.typeIn K (.ref D) == some (.type "type")) = true := by rw [h5, h2]; rfl
  unfold PySem.W.kitOne
  split
  · rename_i q
    have q' : C = D := by
      first
        | exact Value.ref.inj (eq_of_beq q)
        | simpa using q
    rw [h4 q']
  · exact (if_pos a2).trans h3
end Yd
namespace Yd
open PySem L2
/-! ### isinstance of a built-in error class -/
theorem kit_tyV {K : PySem.W.Frag} {C : Addr} {T : String} {b : Bool} (h : PySem.W.kitCls K (.ref C) (.type T) = some b) : PySem.W.kitOne K (.ref C) (.type T) = some b := by
  unfold PySem.W.kitOne
  rw [if_neg (by simp)]
  exact h
end Yd
namespace Yd
open PySem L2
/-! ### what the top has written -/
theorem all_mk {P : Program} {w : World} {K : PySem.W.Frag} {h : Heap} {mg : Str → Option Value} {fa : Addr} (X : K.In h) (G : h.Ns mainGlobals mg) (hfa : mg "law" = some (.ref fa))
    {ER fR ccR cdaR : Addr} {nmR qR : Str} {NR : Addr} {bsR bmR : List Value} {snR : List Str} {subR : List Value} {abR : Bool} {colR : Option Bool} {ddR : Option Addr} {m0R m1R m2R m3R m5R : Option Value} {odR anR : Option Addr} {slR : Array (Option Value)} {ocR kVR dcR pmR ctR : Value} {cclR : Value} {cddR : Option Addr} {vsR : Array Value} {ccsR : Array (Option Value)} {fileR : Str} {tfR : Nat} {clR : Value} {cldR : Option Addr} {cslR : Array (Option Value)} {cdDR : ClassData} {EU fU ccU cdaU : Addr} {nmU qU : Str} {NU : Addr} {bsU bmU : List Value} {snU : List Str} {subU : List Value} {abU : Bool} {colU : Option Bool} {ddU : Option Addr} {m0U m1U m2U m3U m5U : Option Value} {odU anU : Option Addr} {slU : Array (Option Value)} {ocU kVU dcU pmU ctU : Value} {cclU : Value} {cddU : Option Addr} {vsU : Array Value} {ccsU : Array (Option Value)} {fileU : Str} {tfU : Nat} {clU : Value} {cldU : Option Addr} {cslU : Array (Option Value)} {cdDU : ClassData} {EN fN ccN cdaN : Addr} {nmN qN : Str} {NN : Addr} {bsN bmN : List Value} {snN : List Str} {subN : List Value} {abN : Bool} {colN : Option Bool} {ddN : Option Addr} {m0N m1N m2N m3N m5N : Option Value} {odN anN : Option Addr} {slN : Array (Option Value)} {ocN kVN dcN pmN ctN : Value} {cclN : Value} {cddN : Option Addr} {vsN : Array Value} {ccsN : Array (Option Value)} {fileN : Str} {tfN : Nat} {clN : Value} {cldN : Option Addr} {cslN : Array (Option Value)} {cdDN : ClassData} {EC fC ccC cdaC : Addr} {nmC qC : Str} {NC : Addr} {bsC bmC : List Value} {snC : List Str} {subC : List Value} {abC : Bool} {colC : Option Bool} {ddC : Option Addr} {m0C m1C m2C m3C m5C : Option Value} {odC anC : Option Addr} {slC : Array (Option Value)} {ocC kVC dcC pmC ctC : Value} {cclC : Value} {cddC : Option Addr} {vsC : Array Value} {ccsC : Array (Option Value)} {fileC : Str} {tfC : Nat} {clC : Value} {cldC : Option Addr} {cslC : Array (Option Value)} {cdDC : ClassData} {EL fL ccL cdaL : Addr} {nmL qL : Str} {NL : Addr} {bsL bmL : List Value} {snL : List Str} {subL : List Value} {abL : Bool} {colL : Option Bool} {ddL : Option Addr} {m0L m1L m2L m3L m5L : Option Value} {odL anL : Option Addr} {slL : Array (Option Value)} {ocL kVL dcL pmL ctL : Value} {cclL : Value} {cddL : Option Addr} {vsL : Array Value} {ccsL : Array (Option Value)} {fileL : Str} {tfL : Nat} {clL : Value} {cldL : Option Addr} {cslL : Array (Option Value)} {cdDL : ClassData} {ES fS ccS cdaS : Addr} {nmS qS : Str} {NS : Addr} {bsS bmS : List Value} {snS : List Str} {subS : List Value} {abS : Bool} {colS : Option Bool} {ddS : Option Addr} {m0S m1S m2S m3S m5S : Option Value} {odS anS : Option Addr} {slS : Array (Option Value)} {ocS kVS dcS pmS ctS : Value} {cclS : Value} {cddS : Option Addr} {vsS : Array Value} {ccsS : Array (Option Value)} {fileS : Str} {tfS : Nat} {clS : Value} {cldS : Option Addr} {cslS : Array (Option Value)} {cdDS : ClassData} {EM fM ccM cdaM : Addr} {nmM qM : Str} {NM : Addr} {bsM bmM : List Value} {snM : List Str} {subM : List Value} {abM : Bool} {colM : Option Bool} {ddM : Option Addr} {m0M m1M m2M m3M m5M : Option Value} {odM anM : Option Addr} {slM : Array (Option Value)} {ocM kVM dcM pmM ctM : Value} {cclM : Value} {cddM : Option Addr} {vsM : Array Value} {ccsM : Array (Option Value)} {fileM : Str} {tfM : Nat} {clM : Value} {cldM : Option Addr} {cslM : Array (Option Value)} {cdDM : ClassData} {EV fV ccV cdaV : Addr} {nmV qV : Str} {NV : Addr} {bsV bmV : List Value} {snV : List Str} {subV : List Value} {abV : Bool} {colV : Option Bool} {ddV : Option Addr} {m0V m1V m2V m3V m5V : Option Value} {odV anV : Option Addr} {slV : Array (Option Value)} {ocV kVV dcV pmV ctV : Value} {cclV : Value} {cddV : Option Addr} {vsV : Array Value} {ccsV : Array (Option Value)} {fileV : Str} {tfV : Nat} {clV : Value} {cldV : Option Addr} {cslV : Array (Option Value)} {cdDV : ClassData} {EY : Addr} {CH : Addr} {fHI TDHI edHI : Addr} {odHI anHI : Option Addr} {slHI : Array (Option Value)} {ocHI kVHI dcHI pmHI cdHI ctHI : Value} {oTHI oEHI : Obj} {nTHI nEHI : Nat} {fpool : Addr} {odpool anpool : Option Addr} {slpool : Array (Option Value)} {ocpool kVpool dcpool pmpool cdpool ctpool : Value} {ftake : Addr} {odtake antake : Option Addr} {sltake : Array (Option Value)} {octake kVtake dctake pmtake cdtake cttake : Value} {fbase : Addr} {odbase anbase : Option Addr} {slbase : Array (Option Value)} {ocbase kVbase dcbase pmbase cdbase ctbase : Value} {fname : Addr} {odname anname : Option Addr} {slname : Array (Option Value)} {ocname kVname dcname pmname cdname ctname : Value} {fonly : Addr} {odonly anonly : Option Addr} {slonly : Array (Option Value)} {oconly kVonly dconly pmonly cdonly ctonly : Value} {flaw : Addr} {odlaw anlaw : Option Addr} {sllaw : Array (Option Value)} {oclaw kVlaw dclaw pmlaw cdlaw ctlaw : Value}
    (z0 : PySem.W.nsIn K mainGlobals "len" = some none)
    (z1 : PySem.W.nsIn K mainGlobals "int" = some none)
    (z2 : PySem.W.nsIn K mainGlobals "range" = some none)
    (z3 : PySem.W.nsIn K mainGlobals "list" = some none)
    (z4 : PySem.W.nsIn K mainGlobals "isinstance" = some none)
    (z5 : PySem.W.nsIn K mainGlobals "bool" = some none)
    (z6 : PySem.W.nsIn K mainGlobals "ValueError" = some none)
    (aR : PySem.W.nsIn K mainGlobals "Repeated" = some (some (.ref ER)))
    (xR : K.lookup ER = some (excClassObj nmR qR ER NR bsR bmR true snR subR abR colR ddR m0R m1R m2R m3R m5R "ValueError.__new__"))
    (rvR : HandSPX.refsVE bmR = true)
    (saR : PySem.W.findIn K (.ref ER) "__setattr__" = some (some (.builtin "object.__setattr__")))
    (gaR : PySem.W.findIn K (.ref ER) "__getattribute__" = some (some (.builtin "BaseException.__getattribute__")))
    (ggR : PySem.W.findIn K (.ref ER) "__getattr__" = some none)
    (n0R : PySem.W.findIn K (.ref ER) "name" = some none)
    (eR : PySem.W.subIn K (.ref ER) (.type "BaseException") = some true)
    (tR : PySem.W.typeIn K (.ref ER) = some (.type "type"))
    (kCR : PySem.W.keepIn K (.ref ER) = true)
    (hCR : PySem.W.hasDictIn K ER = true)
    (iCR : PySem.W.isClsIn K ER = true)
    (sCR : PySem.W.subIn K (.ref ER) (.ref ER) = some true)
    (aiR : PySem.W.findIn K (.ref ER) "__init__" = some (some (.ref fR)))
    (tiR : PySem.W.typeIn K (.ref fR) = some (.type "function"))
    (lR : K.lookup fR = some ⟨ocR, odR, .func (PySem.W.fnX "__init__" "Repeated.__init__" (defArgs sRepeatedInit) (defBody sRepeatedInit) (defScope sRepeatedInit) [("__class__", ccR)] .none kVR dcR pmR anR (.ref cdaR) ctR), slR⟩)
    (cR : PySem.W.codeIn K (.ref cdaR) "Repeated.__init__" = true)
    (lcR : K.lookup cdaR = some ⟨cclR, cddR, .fields vsR, ccsR⟩)
    (hvR : vsR[2]? = some (.str fileR tfR))
    (hfR : (P.main.file == fileR) = true)
    (ceR : K.lookup ccR = some ⟨clR, cldR, .cell (some (.ref ER)), cslR⟩)
    (cdR : PySem.W.clsIn K ER = some cdDR)
    (ovR : PySem.W.ks_superIn K ER ER "__init__" = some (some (.builtin "ValueError.__init__")))
    (svR : PySem.W.subIn K (.ref ER) (.type "ValueError") = some true)
    (mrR : PySem.W.mroIn K ER (.ref ER) = some true)
    (z7 : PySem.W.nsIn K mainGlobals "super" = some none)
    (top : (P.main.scope.names.lookup ("super" : Str)).isSome = false)
    (any : PySem.W.nsIn K cStatics "thirdparty.any" = some none)
    (aU : PySem.W.nsIn K mainGlobals "Unknown" = some (some (.ref EU)))
    (xU : K.lookup EU = some (excClassObj nmU qU EU NU bsU bmU true snU subU abU colU ddU m0U m1U m2U m3U m5U "ValueError.__new__"))
    (rvU : HandSPX.refsVE bmU = true)
    (saU : PySem.W.findIn K (.ref EU) "__setattr__" = some (some (.builtin "object.__setattr__")))
    (gaU : PySem.W.findIn K (.ref EU) "__getattribute__" = some (some (.builtin "BaseException.__getattribute__")))
    (ggU : PySem.W.findIn K (.ref EU) "__getattr__" = some none)
    (n0U : PySem.W.findIn K (.ref EU) "name" = some none)
    (eU : PySem.W.subIn K (.ref EU) (.type "BaseException") = some true)
    (tU : PySem.W.typeIn K (.ref EU) = some (.type "type"))
    (kCU : PySem.W.keepIn K (.ref EU) = true)
    (hCU : PySem.W.hasDictIn K EU = true)
    (iCU : PySem.W.isClsIn K EU = true)
    (sCU : PySem.W.subIn K (.ref EU) (.ref EU) = some true)
    (aiU : PySem.W.findIn K (.ref EU) "__init__" = some (some (.ref fU)))
    (tiU : PySem.W.typeIn K (.ref fU) = some (.type "function"))
    (lU : K.lookup fU = some ⟨ocU, odU, .func (PySem.W.fnX "__init__" "Unknown.__init__" (defArgs sUnknownInit) (defBody sUnknownInit) (defScope sUnknownInit) [("__class__", ccU)] .none kVU dcU pmU anU (.ref cdaU) ctU), slU⟩)
    (cU : PySem.W.codeIn K (.ref cdaU) "Unknown.__init__" = true)
    (lcU : K.lookup cdaU = some ⟨cclU, cddU, .fields vsU, ccsU⟩)
    (hvU : vsU[2]? = some (.str fileU tfU))
    (hfU : (P.main.file == fileU) = true)
    (ceU : K.lookup ccU = some ⟨clU, cldU, .cell (some (.ref EU)), cslU⟩)
    (cdU : PySem.W.clsIn K EU = some cdDU)
    (ovU : PySem.W.ks_superIn K EU EU "__init__" = some (some (.builtin "ValueError.__init__")))
    (svU : PySem.W.subIn K (.ref EU) (.type "ValueError") = some true)
    (mrU : PySem.W.mroIn K EU (.ref EU) = some true)
    (aN : PySem.W.nsIn K mainGlobals "NoStep" = some (some (.ref EN)))
    (xN : K.lookup EN = some (excClassObj nmN qN EN NN bsN bmN true snN subN abN colN ddN m0N m1N m2N m3N m5N "ValueError.__new__"))
    (rvN : HandSPX.refsVE bmN = true)
    (saN : PySem.W.findIn K (.ref EN) "__setattr__" = some (some (.builtin "object.__setattr__")))
    (gaN : PySem.W.findIn K (.ref EN) "__getattribute__" = some (some (.builtin "BaseException.__getattribute__")))
    (ggN : PySem.W.findIn K (.ref EN) "__getattr__" = some none)
    (n0N : PySem.W.findIn K (.ref EN) "before" = some none)
    (n1N : PySem.W.findIn K (.ref EN) "after" = some none)
    (eN : PySem.W.subIn K (.ref EN) (.type "BaseException") = some true)
    (tN : PySem.W.typeIn K (.ref EN) = some (.type "type"))
    (kCN : PySem.W.keepIn K (.ref EN) = true)
    (hCN : PySem.W.hasDictIn K EN = true)
    (iCN : PySem.W.isClsIn K EN = true)
    (sCN : PySem.W.subIn K (.ref EN) (.ref EN) = some true)
    (aiN : PySem.W.findIn K (.ref EN) "__init__" = some (some (.ref fN)))
    (tiN : PySem.W.typeIn K (.ref fN) = some (.type "function"))
    (lN : K.lookup fN = some ⟨ocN, odN, .func (PySem.W.fnX "__init__" "NoStep.__init__" (defArgs sNoStepInit) (defBody sNoStepInit) (defScope sNoStepInit) [("__class__", ccN)] .none kVN dcN pmN anN (.ref cdaN) ctN), slN⟩)
    (cN : PySem.W.codeIn K (.ref cdaN) "NoStep.__init__" = true)
    (lcN : K.lookup cdaN = some ⟨cclN, cddN, .fields vsN, ccsN⟩)
    (hvN : vsN[2]? = some (.str fileN tfN))
    (hfN : (P.main.file == fileN) = true)
    (ceN : K.lookup ccN = some ⟨clN, cldN, .cell (some (.ref EN)), cslN⟩)
    (cdN : PySem.W.clsIn K EN = some cdDN)
    (ovN : PySem.W.ks_superIn K EN EN "__init__" = some (some (.builtin "ValueError.__init__")))
    (svN : PySem.W.subIn K (.ref EN) (.type "ValueError") = some true)
    (mrN : PySem.W.mroIn K EN (.ref EN) = some true)
    (aC : PySem.W.nsIn K mainGlobals "BadCount" = some (some (.ref EC)))
    (xC : K.lookup EC = some (excClassObj nmC qC EC NC bsC bmC true snC subC abC colC ddC m0C m1C m2C m3C m5C "ValueError.__new__"))
    (rvC : HandSPX.refsVE bmC = true)
    (saC : PySem.W.findIn K (.ref EC) "__setattr__" = some (some (.builtin "object.__setattr__")))
    (gaC : PySem.W.findIn K (.ref EC) "__getattribute__" = some (some (.builtin "BaseException.__getattribute__")))
    (ggC : PySem.W.findIn K (.ref EC) "__getattr__" = some none)
    (n0C : PySem.W.findIn K (.ref EC) "count" = some none)
    (eC : PySem.W.subIn K (.ref EC) (.type "BaseException") = some true)
    (tC : PySem.W.typeIn K (.ref EC) = some (.type "type"))
    (kCC : PySem.W.keepIn K (.ref EC) = true)
    (hCC : PySem.W.hasDictIn K EC = true)
    (iCC : PySem.W.isClsIn K EC = true)
    (sCC : PySem.W.subIn K (.ref EC) (.ref EC) = some true)
    (aiC : PySem.W.findIn K (.ref EC) "__init__" = some (some (.ref fC)))
    (tiC : PySem.W.typeIn K (.ref fC) = some (.type "function"))
    (lC : K.lookup fC = some ⟨ocC, odC, .func (PySem.W.fnX "__init__" "BadCount.__init__" (defArgs sBadCountInit) (defBody sBadCountInit) (defScope sBadCountInit) [("__class__", ccC)] .none kVC dcC pmC anC (.ref cdaC) ctC), slC⟩)
    (cC : PySem.W.codeIn K (.ref cdaC) "BadCount.__init__" = true)
    (lcC : K.lookup cdaC = some ⟨cclC, cddC, .fields vsC, ccsC⟩)
    (hvC : vsC[2]? = some (.str fileC tfC))
    (hfC : (P.main.file == fileC) = true)
    (ceC : K.lookup ccC = some ⟨clC, cldC, .cell (some (.ref EC)), cslC⟩)
    (cdC : PySem.W.clsIn K EC = some cdDC)
    (ovC : PySem.W.ks_superIn K EC EC "__init__" = some (some (.builtin "ValueError.__init__")))
    (svC : PySem.W.subIn K (.ref EC) (.type "ValueError") = some true)
    (mrC : PySem.W.mroIn K EC (.ref EC) = some true)
    (aL : PySem.W.nsIn K mainGlobals "Lacking" = some (some (.ref EL)))
    (xL : K.lookup EL = some (excClassObj nmL qL EL NL bsL bmL true snL subL abL colL ddL m0L m1L m2L m3L m5L "ValueError.__new__"))
    (rvL : HandSPX.refsVE bmL = true)
    (saL : PySem.W.findIn K (.ref EL) "__setattr__" = some (some (.builtin "object.__setattr__")))
    (gaL : PySem.W.findIn K (.ref EL) "__getattribute__" = some (some (.builtin "BaseException.__getattribute__")))
    (ggL : PySem.W.findIn K (.ref EL) "__getattr__" = some none)
    (n0L : PySem.W.findIn K (.ref EL) "kind" = some none)
    (n1L : PySem.W.findIn K (.ref EL) "standing" = some none)
    (eL : PySem.W.subIn K (.ref EL) (.type "BaseException") = some true)
    (tL : PySem.W.typeIn K (.ref EL) = some (.type "type"))
    (kCL : PySem.W.keepIn K (.ref EL) = true)
    (hCL : PySem.W.hasDictIn K EL = true)
    (iCL : PySem.W.isClsIn K EL = true)
    (sCL : PySem.W.subIn K (.ref EL) (.ref EL) = some true)
    (aiL : PySem.W.findIn K (.ref EL) "__init__" = some (some (.ref fL)))
    (tiL : PySem.W.typeIn K (.ref fL) = some (.type "function"))
    (lL : K.lookup fL = some ⟨ocL, odL, .func (PySem.W.fnX "__init__" "Lacking.__init__" (defArgs sLackingInit) (defBody sLackingInit) (defScope sLackingInit) [("__class__", ccL)] .none kVL dcL pmL anL (.ref cdaL) ctL), slL⟩)
    (cL : PySem.W.codeIn K (.ref cdaL) "Lacking.__init__" = true)
    (lcL : K.lookup cdaL = some ⟨cclL, cddL, .fields vsL, ccsL⟩)
    (hvL : vsL[2]? = some (.str fileL tfL))
    (hfL : (P.main.file == fileL) = true)
    (ceL : K.lookup ccL = some ⟨clL, cldL, .cell (some (.ref EL)), cslL⟩)
    (cdL : PySem.W.clsIn K EL = some cdDL)
    (ovL : PySem.W.ks_superIn K EL EL "__init__" = some (some (.builtin "ValueError.__init__")))
    (svL : PySem.W.subIn K (.ref EL) (.type "ValueError") = some true)
    (mrL : PySem.W.mroIn K EL (.ref EL) = some true)
    (aS : PySem.W.nsIn K mainGlobals "Shut" = some (some (.ref ES)))
    (xS : K.lookup ES = some (excClassObj nmS qS ES NS bsS bmS true snS subS abS colS ddS m0S m1S m2S m3S m5S "ValueError.__new__"))
    (rvS : HandSPX.refsVE bmS = true)
    (saS : PySem.W.findIn K (.ref ES) "__setattr__" = some (some (.builtin "object.__setattr__")))
    (gaS : PySem.W.findIn K (.ref ES) "__getattribute__" = some (some (.builtin "BaseException.__getattribute__")))
    (ggS : PySem.W.findIn K (.ref ES) "__getattr__" = some none)
    (n0S : PySem.W.findIn K (.ref ES) "door" = some none)
    (eS : PySem.W.subIn K (.ref ES) (.type "BaseException") = some true)
    (tS : PySem.W.typeIn K (.ref ES) = some (.type "type"))
    (kCS : PySem.W.keepIn K (.ref ES) = true)
    (hCS : PySem.W.hasDictIn K ES = true)
    (iCS : PySem.W.isClsIn K ES = true)
    (sCS : PySem.W.subIn K (.ref ES) (.ref ES) = some true)
    (aiS : PySem.W.findIn K (.ref ES) "__init__" = some (some (.ref fS)))
    (tiS : PySem.W.typeIn K (.ref fS) = some (.type "function"))
    (lS : K.lookup fS = some ⟨ocS, odS, .func (PySem.W.fnX "__init__" "Shut.__init__" (defArgs sShutInit) (defBody sShutInit) (defScope sShutInit) [("__class__", ccS)] .none kVS dcS pmS anS (.ref cdaS) ctS), slS⟩)
    (cS : PySem.W.codeIn K (.ref cdaS) "Shut.__init__" = true)
    (lcS : K.lookup cdaS = some ⟨cclS, cddS, .fields vsS, ccsS⟩)
    (hvS : vsS[2]? = some (.str fileS tfS))
    (hfS : (P.main.file == fileS) = true)
    (ceS : K.lookup ccS = some ⟨clS, cldS, .cell (some (.ref ES)), cslS⟩)
    (cdS : PySem.W.clsIn K ES = some cdDS)
    (ovS : PySem.W.ks_superIn K ES ES "__init__" = some (some (.builtin "ValueError.__init__")))
    (svS : PySem.W.subIn K (.ref ES) (.type "ValueError") = some true)
    (mrS : PySem.W.mroIn K ES (.ref ES) = some true)
    (aM : PySem.W.nsIn K mainGlobals "Unmet" = some (some (.ref EM)))
    (xM : K.lookup EM = some (excClassObj nmM qM EM NM bsM bmM true snM subM abM colM ddM m0M m1M m2M m3M m5M "ValueError.__new__"))
    (rvM : HandSPX.refsVE bmM = true)
    (saM : PySem.W.findIn K (.ref EM) "__setattr__" = some (some (.builtin "object.__setattr__")))
    (gaM : PySem.W.findIn K (.ref EM) "__getattribute__" = some (some (.builtin "BaseException.__getattribute__")))
    (ggM : PySem.W.findIn K (.ref EM) "__getattr__" = some none)
    (n0M : PySem.W.findIn K (.ref EM) "kind" = some none)
    (n1M : PySem.W.findIn K (.ref EM) "standing" = some none)
    (n2M : PySem.W.findIn K (.ref EM) "door" = some none)
    (eM : PySem.W.subIn K (.ref EM) (.type "BaseException") = some true)
    (tM : PySem.W.typeIn K (.ref EM) = some (.type "type"))
    (kCM : PySem.W.keepIn K (.ref EM) = true)
    (hCM : PySem.W.hasDictIn K EM = true)
    (iCM : PySem.W.isClsIn K EM = true)
    (sCM : PySem.W.subIn K (.ref EM) (.ref EM) = some true)
    (aiM : PySem.W.findIn K (.ref EM) "__init__" = some (some (.ref fM)))
    (tiM : PySem.W.typeIn K (.ref fM) = some (.type "function"))
    (lM : K.lookup fM = some ⟨ocM, odM, .func (PySem.W.fnX "__init__" "Unmet.__init__" (defArgs sUnmetInit) (defBody sUnmetInit) (defScope sUnmetInit) [("__class__", ccM)] .none kVM dcM pmM anM (.ref cdaM) ctM), slM⟩)
    (cM : PySem.W.codeIn K (.ref cdaM) "Unmet.__init__" = true)
    (lcM : K.lookup cdaM = some ⟨cclM, cddM, .fields vsM, ccsM⟩)
    (hvM : vsM[2]? = some (.str fileM tfM))
    (hfM : (P.main.file == fileM) = true)
    (ceM : K.lookup ccM = some ⟨clM, cldM, .cell (some (.ref EM)), cslM⟩)
    (cdM : PySem.W.clsIn K EM = some cdDM)
    (ovM : PySem.W.ks_superIn K EM EM "__init__" = some (some (.builtin "ValueError.__init__")))
    (svM : PySem.W.subIn K (.ref EM) (.type "ValueError") = some true)
    (mrM : PySem.W.mroIn K EM (.ref EM) = some true)
    (aV : PySem.W.nsIn K mainGlobals "Never" = some (some (.ref EV)))
    (xV : K.lookup EV = some (excClassObj nmV qV EV NV bsV bmV true snV subV abV colV ddV m0V m1V m2V m3V m5V "ValueError.__new__"))
    (rvV : HandSPX.refsVE bmV = true)
    (saV : PySem.W.findIn K (.ref EV) "__setattr__" = some (some (.builtin "object.__setattr__")))
    (gaV : PySem.W.findIn K (.ref EV) "__getattribute__" = some (some (.builtin "BaseException.__getattribute__")))
    (ggV : PySem.W.findIn K (.ref EV) "__getattr__" = some none)
    (n0V : PySem.W.findIn K (.ref EV) "closed" = some none)
    (eV : PySem.W.subIn K (.ref EV) (.type "BaseException") = some true)
    (tV : PySem.W.typeIn K (.ref EV) = some (.type "type"))
    (kCV : PySem.W.keepIn K (.ref EV) = true)
    (hCV : PySem.W.hasDictIn K EV = true)
    (iCV : PySem.W.isClsIn K EV = true)
    (sCV : PySem.W.subIn K (.ref EV) (.ref EV) = some true)
    (aiV : PySem.W.findIn K (.ref EV) "__init__" = some (some (.ref fV)))
    (tiV : PySem.W.typeIn K (.ref fV) = some (.type "function"))
    (lV : K.lookup fV = some ⟨ocV, odV, .func (PySem.W.fnX "__init__" "Never.__init__" (defArgs sNeverInit) (defBody sNeverInit) (defScope sNeverInit) [("__class__", ccV)] .none kVV dcV pmV anV (.ref cdaV) ctV), slV⟩)
    (cV : PySem.W.codeIn K (.ref cdaV) "Never.__init__" = true)
    (lcV : K.lookup cdaV = some ⟨cclV, cddV, .fields vsV, ccsV⟩)
    (hvV : vsV[2]? = some (.str fileV tfV))
    (hfV : (P.main.file == fileV) = true)
    (ceV : K.lookup ccV = some ⟨clV, cldV, .cell (some (.ref EV)), cslV⟩)
    (cdV : PySem.W.clsIn K EV = some cdDV)
    (ovV : PySem.W.ks_superIn K EV EV "__init__" = some (some (.builtin "ValueError.__init__")))
    (svV : PySem.W.subIn K (.ref EV) (.type "ValueError") = some true)
    (mrV : PySem.W.mroIn K EV (.ref EV) = some true)
    (aEY : PySem.W.nsIn K mainGlobals "YardError" = some (some (.ref EY)))
    (icEY : PySem.W.isClsIn K EY = true)
    (tyEY : PySem.W.typeIn K (.ref EY) = some (.type "type"))
    (cn : PySem.W.specialIn K (.builtin "object.__class__") "__get__" = some (some (.builtin "getset_descriptor.__get__")))
    (ct : PySem.W.takesIn K (.builtin "object.__class__") = some true)
    (caR : PySem.W.findIn K (.ref ER) "__class__" = some (some (.builtin "object.__class__")))
    (cmR : PySem.W.mroIn K ER (.type "object") = some true)
    (uRU : PySem.W.subIn K (.ref ER) (.ref EU) = some false)
    (uRN : PySem.W.subIn K (.ref ER) (.ref EN) = some false)
    (uRC : PySem.W.subIn K (.ref ER) (.ref EC) = some false)
    (uRL : PySem.W.subIn K (.ref ER) (.ref EL) = some false)
    (uRS : PySem.W.subIn K (.ref ER) (.ref ES) = some false)
    (uRM : PySem.W.subIn K (.ref ER) (.ref EM) = some false)
    (uRV : PySem.W.subIn K (.ref ER) (.ref EV) = some false)
    (uRY : PySem.W.subIn K (.ref ER) (.ref EY) = some true)
    (kvR : PySem.W.kitCls K (.ref ER) (.type "ValueError") = some true)
    (caU : PySem.W.findIn K (.ref EU) "__class__" = some (some (.builtin "object.__class__")))
    (cmU : PySem.W.mroIn K EU (.type "object") = some true)
    (uUR : PySem.W.subIn K (.ref EU) (.ref ER) = some false)
    (uUN : PySem.W.subIn K (.ref EU) (.ref EN) = some false)
    (uUC : PySem.W.subIn K (.ref EU) (.ref EC) = some false)
    (uUL : PySem.W.subIn K (.ref EU) (.ref EL) = some false)
    (uUS : PySem.W.subIn K (.ref EU) (.ref ES) = some false)
    (uUM : PySem.W.subIn K (.ref EU) (.ref EM) = some false)
    (uUV : PySem.W.subIn K (.ref EU) (.ref EV) = some false)
    (uUY : PySem.W.subIn K (.ref EU) (.ref EY) = some true)
    (kvU : PySem.W.kitCls K (.ref EU) (.type "ValueError") = some true)
    (caN : PySem.W.findIn K (.ref EN) "__class__" = some (some (.builtin "object.__class__")))
    (cmN : PySem.W.mroIn K EN (.type "object") = some true)
    (uNR : PySem.W.subIn K (.ref EN) (.ref ER) = some false)
    (uNU : PySem.W.subIn K (.ref EN) (.ref EU) = some false)
    (uNC : PySem.W.subIn K (.ref EN) (.ref EC) = some false)
    (uNL : PySem.W.subIn K (.ref EN) (.ref EL) = some false)
    (uNS : PySem.W.subIn K (.ref EN) (.ref ES) = some false)
    (uNM : PySem.W.subIn K (.ref EN) (.ref EM) = some false)
    (uNV : PySem.W.subIn K (.ref EN) (.ref EV) = some false)
    (uNY : PySem.W.subIn K (.ref EN) (.ref EY) = some true)
    (kvN : PySem.W.kitCls K (.ref EN) (.type "ValueError") = some true)
    (caC : PySem.W.findIn K (.ref EC) "__class__" = some (some (.builtin "object.__class__")))
    (cmC : PySem.W.mroIn K EC (.type "object") = some true)
    (uCR : PySem.W.subIn K (.ref EC) (.ref ER) = some false)
    (uCU : PySem.W.subIn K (.ref EC) (.ref EU) = some false)
    (uCN : PySem.W.subIn K (.ref EC) (.ref EN) = some false)
    (uCL : PySem.W.subIn K (.ref EC) (.ref EL) = some false)
    (uCS : PySem.W.subIn K (.ref EC) (.ref ES) = some false)
    (uCM : PySem.W.subIn K (.ref EC) (.ref EM) = some false)
    (uCV : PySem.W.subIn K (.ref EC) (.ref EV) = some false)
    (uCY : PySem.W.subIn K (.ref EC) (.ref EY) = some true)
    (kvC : PySem.W.kitCls K (.ref EC) (.type "ValueError") = some true)
    (caL : PySem.W.findIn K (.ref EL) "__class__" = some (some (.builtin "object.__class__")))
    (cmL : PySem.W.mroIn K EL (.type "object") = some true)
    (uLR : PySem.W.subIn K (.ref EL) (.ref ER) = some false)
    (uLU : PySem.W.subIn K (.ref EL) (.ref EU) = some false)
    (uLN : PySem.W.subIn K (.ref EL) (.ref EN) = some false)
    (uLC : PySem.W.subIn K (.ref EL) (.ref EC) = some false)
    (uLS : PySem.W.subIn K (.ref EL) (.ref ES) = some false)
    (uLM : PySem.W.subIn K (.ref EL) (.ref EM) = some false)
    (uLV : PySem.W.subIn K (.ref EL) (.ref EV) = some false)
    (uLY : PySem.W.subIn K (.ref EL) (.ref EY) = some true)
    (kvL : PySem.W.kitCls K (.ref EL) (.type "ValueError") = some true)
    (caS : PySem.W.findIn K (.ref ES) "__class__" = some (some (.builtin "object.__class__")))
    (cmS : PySem.W.mroIn K ES (.type "object") = some true)
    (uSR : PySem.W.subIn K (.ref ES) (.ref ER) = some false)
    (uSU : PySem.W.subIn K (.ref ES) (.ref EU) = some false)
    (uSN : PySem.W.subIn K (.ref ES) (.ref EN) = some false)
    (uSC : PySem.W.subIn K (.ref ES) (.ref EC) = some false)
    (uSL : PySem.W.subIn K (.ref ES) (.ref EL) = some false)
    (uSM : PySem.W.subIn K (.ref ES) (.ref EM) = some false)
    (uSV : PySem.W.subIn K (.ref ES) (.ref EV) = some false)
    (uSY : PySem.W.subIn K (.ref ES) (.ref EY) = some true)
    (kvS : PySem.W.kitCls K (.ref ES) (.type "ValueError") = some true)
    (caM : PySem.W.findIn K (.ref EM) "__class__" = some (some (.builtin "object.__class__")))
    (cmM : PySem.W.mroIn K EM (.type "object") = some true)
    (uMR : PySem.W.subIn K (.ref EM) (.ref ER) = some false)
    (uMU : PySem.W.subIn K (.ref EM) (.ref EU) = some false)
    (uMN : PySem.W.subIn K (.ref EM) (.ref EN) = some false)
    (uMC : PySem.W.subIn K (.ref EM) (.ref EC) = some false)
    (uML : PySem.W.subIn K (.ref EM) (.ref EL) = some false)
    (uMS : PySem.W.subIn K (.ref EM) (.ref ES) = some false)
    (uMV : PySem.W.subIn K (.ref EM) (.ref EV) = some false)
    (uMY : PySem.W.subIn K (.ref EM) (.ref EY) = some true)
    (kvM : PySem.W.kitCls K (.ref EM) (.type "ValueError") = some true)
    (caV : PySem.W.findIn K (.ref EV) "__class__" = some (some (.builtin "object.__class__")))
    (cmV : PySem.W.mroIn K EV (.type "object") = some true)
    (uVR : PySem.W.subIn K (.ref EV) (.ref ER) = some false)
    (uVU : PySem.W.subIn K (.ref EV) (.ref EU) = some false)
    (uVN : PySem.W.subIn K (.ref EV) (.ref EN) = some false)
    (uVC : PySem.W.subIn K (.ref EV) (.ref EC) = some false)
    (uVL : PySem.W.subIn K (.ref EV) (.ref EL) = some false)
    (uVS : PySem.W.subIn K (.ref EV) (.ref ES) = some false)
    (uVM : PySem.W.subIn K (.ref EV) (.ref EM) = some false)
    (uVY : PySem.W.subIn K (.ref EV) (.ref EY) = some true)
    (kvV : PySem.W.kitCls K (.ref EV) (.type "ValueError") = some true)
    (aCH : PySem.W.nsIn K mainGlobals "Hold" = some (some (.ref CH)))
    (pgCH : PySem.W.plainGet K CH Str.empty = true)
    (hdCH : PySem.W.hasDictIn K CH = true)
    (poCH : PySem.W.plainOver K CH = true)
    (saCH : PySem.W.findIn K (.ref CH) "__setattr__" = some (some (.builtin "object.__setattr__")))
    (mkCH : PySem.W.makesIn K CH = true)
    (kcCH : PySem.W.keepIn K (.ref CH) = true)
    (lHI : K.lookup fHI = some ⟨ocHI, odHI, .func (PySem.W.fnOf "__init__" "Hold.__init__" (defArgs sHoldInit) (defBody sHoldInit) (defScope sHoldInit) (.ref TDHI) kVHI dcHI pmHI anHI cdHI ctHI), slHI⟩)
    (cHI : PySem.W.codeIn K cdHI "Hold.__init__" = true)
    (kHI : PySem.W.keepIn K (.ref fHI) = true)
    (iHI : PySem.W.isFn K (.ref fHI) = true)
    (lTHI : K.lookup TDHI = some oTHI)
    (dTHI : oTHI.data = .seq [Value.ref edHI].toArray nTHI)
    (lEHI : K.lookup edHI = some oEHI)
    (cEHI : oEHI.cls = .type "tuple")
    (dEHI : oEHI.data = .seq #[] nEHI)
    (nSp : PySem.W.findIn K (.ref CH) "_spots" = some none)
    (inCH : PySem.W.findIn K (.ref CH) "__init__" = some (some (.ref fHI)))
    (lpool : K.lookup fpool = some ⟨ocpool, odpool, .func (PySem.W.fnOf "_law_pool" "_law_pool" (defArgs sPool) (defBody sPool) (defScope sPool) .none kVpool dcpool pmpool anpool cdpool ctpool), slpool⟩)
    (cpool : PySem.W.codeIn K cdpool "_law_pool" = true)
    (kpool : PySem.W.keepIn K (.ref fpool) = true)
    (apool : PySem.W.nsIn K mainGlobals "_law_pool" = some (some (.ref fpool)))
    (ltake : K.lookup ftake = some ⟨octake, odtake, .func (PySem.W.fnOf "_law_take" "_law_take" (defArgs sTake) (defBody sTake) (defScope sTake) .none kVtake dctake pmtake antake cdtake cttake), sltake⟩)
    (ctake : PySem.W.codeIn K cdtake "_law_take" = true)
    (ktake : PySem.W.keepIn K (.ref ftake) = true)
    (atake : PySem.W.nsIn K mainGlobals "_law_take" = some (some (.ref ftake)))
    (lbase : K.lookup fbase = some ⟨ocbase, odbase, .func (PySem.W.fnOf "_law_base" "_law_base" (defArgs sBase) (defBody sBase) (defScope sBase) .none kVbase dcbase pmbase anbase cdbase ctbase), slbase⟩)
    (cbase : PySem.W.codeIn K cdbase "_law_base" = true)
    (kbase : PySem.W.keepIn K (.ref fbase) = true)
    (abase : PySem.W.nsIn K mainGlobals "_law_base" = some (some (.ref fbase)))
    (lname : K.lookup fname = some ⟨ocname, odname, .func (PySem.W.fnOf "_law_name" "_law_name" (defArgs sName) (defBody sName) (defScope sName) .none kVname dcname pmname anname cdname ctname), slname⟩)
    (cname : PySem.W.codeIn K cdname "_law_name" = true)
    (kname : PySem.W.keepIn K (.ref fname) = true)
    (aname : PySem.W.nsIn K mainGlobals "_law_name" = some (some (.ref fname)))
    (lonly : K.lookup fonly = some ⟨oconly, odonly, .func (PySem.W.fnOf "_law_is_only" "_law_is_only" (defArgs sIsOnly) (defBody sIsOnly) (defScope sIsOnly) .none kVonly dconly pmonly anonly cdonly ctonly), slonly⟩)
    (conly : PySem.W.codeIn K cdonly "_law_is_only" = true)
    (konly : PySem.W.keepIn K (.ref fonly) = true)
    (aonly : PySem.W.nsIn K mainGlobals "_law_is_only" = some (some (.ref fonly)))
    (llaw : K.lookup flaw = some ⟨oclaw, odlaw, .func (PySem.W.fnOf "law" "law" (defArgs sLaw) (defBody sLaw) (defScope sLaw) .none kVlaw dclaw pmlaw anlaw cdlaw ctlaw), sllaw⟩)
    (claw : PySem.W.codeIn K cdlaw "law" = true)
    (klaw : PySem.W.keepIn K (.ref flaw) = true)
    (alaw : PySem.W.nsIn K mainGlobals "law" = some (some (.ref flaw))) :
    ∃ fd : FuncData, (∀ (s : Shared) (v : Value), BindsTo s fd ⟨[v], []⟩ [("_law_script", v)]) ∧ ∀ base : Heap, K.In base → base.Ns mainGlobals mg → FnOk P w K mg base CX0 3 fa fd ["_law_script"] (spLaw K) := by
  have e := hfa.symm.trans (PySem.W.mg_of X G alaw)
  cases e
  have oR : OexC K ER := ⟨⟨_, _, _, _, _, _, _, _, _, _, _, _, _, _, _, xR, rvR⟩, saR, eR, tR, kCR⟩
  have FR : SupFn P K mg "__init__" "Repeated.__init__" sRepeatedInit fR ER ccR _ := ⟨⟨_, _, _, _, _, _, _, _, _, _, _, _, _, _, _, rfl, lR, cR, lcR, hvR, hfR⟩, ⟨_, _, _, ceR⟩, ⟨_, cdR⟩, (PySem.W.mg_none_of X G z7), top, any⟩
  have sR : SupC K ER ER := ⟨oR, ovR, svR, mrR⟩
  have bR : ∀ K : PySem.W.Frag, Binds K (PySem.W.fnX "__init__" "Repeated.__init__" (defArgs sRepeatedInit) (defBody sRepeatedInit) (defScope sRepeatedInit) [("__class__", ccR)] .none kVR dcR pmR anR (.ref cdaR) ctR) ["self", "name"] [] := fun _ s us _ hl => match us, hl with | [_, _], _ => .of_eq rfl
  have XR : ∀ base : Heap, ErrX P w K mg base "Repeated" ER (spErr ER 1 okRepeated fsRepeated) := fun base => ⟨(PySem.W.mg_of X G aR), oR, ⟨_, _, _, aiR, tiR, ok_RepeatedInit FR sR n0R, bR K⟩, ⟨gaR, ggR, eR, hCR⟩⟩
  have oU : OexC K EU := ⟨⟨_, _, _, _, _, _, _, _, _, _, _, _, _, _, _, xU, rvU⟩, saU, eU, tU, kCU⟩
  have FU : SupFn P K mg "__init__" "Unknown.__init__" sUnknownInit fU EU ccU _ := ⟨⟨_, _, _, _, _, _, _, _, _, _, _, _, _, _, _, rfl, lU, cU, lcU, hvU, hfU⟩, ⟨_, _, _, ceU⟩, ⟨_, cdU⟩, (PySem.W.mg_none_of X G z7), top, any⟩
  have sU : SupC K EU EU := ⟨oU, ovU, svU, mrU⟩
  have bU : ∀ K : PySem.W.Frag, Binds K (PySem.W.fnX "__init__" "Unknown.__init__" (defArgs sUnknownInit) (defBody sUnknownInit) (defScope sUnknownInit) [("__class__", ccU)] .none kVU dcU pmU anU (.ref cdaU) ctU) ["self", "name"] [] := fun _ s us _ hl => match us, hl with | [_, _], _ => .of_eq rfl
  have XU : ∀ base : Heap, ErrX P w K mg base "Unknown" EU (spErr EU 1 okUnknown fsUnknown) := fun base => ⟨(PySem.W.mg_of X G aU), oU, ⟨_, _, _, aiU, tiU, ok_UnknownInit FU sU n0U, bU K⟩, ⟨gaU, ggU, eU, hCU⟩⟩
  have oN : OexC K EN := ⟨⟨_, _, _, _, _, _, _, _, _, _, _, _, _, _, _, xN, rvN⟩, saN, eN, tN, kCN⟩
  have FN : SupFn P K mg "__init__" "NoStep.__init__" sNoStepInit fN EN ccN _ := ⟨⟨_, _, _, _, _, _, _, _, _, _, _, _, _, _, _, rfl, lN, cN, lcN, hvN, hfN⟩, ⟨_, _, _, ceN⟩, ⟨_, cdN⟩, (PySem.W.mg_none_of X G z7), top, any⟩
  have sN : SupC K EN EN := ⟨oN, ovN, svN, mrN⟩
  have bN : ∀ K : PySem.W.Frag, Binds K (PySem.W.fnX "__init__" "NoStep.__init__" (defArgs sNoStepInit) (defBody sNoStepInit) (defScope sNoStepInit) [("__class__", ccN)] .none kVN dcN pmN anN (.ref cdaN) ctN) ["self", "before", "after"] [] := fun _ s us _ hl => match us, hl with | [_, _, _], _ => .of_eq rfl
  have XN : ∀ base : Heap, ErrX P w K mg base "NoStep" EN (spErr EN 2 okNoStep fsNoStep) := fun base => ⟨(PySem.W.mg_of X G aN), oN, ⟨_, _, _, aiN, tiN, ok_NoStepInit FN sN n0N n1N, bN K⟩, ⟨gaN, ggN, eN, hCN⟩⟩
  have oC : OexC K EC := ⟨⟨_, _, _, _, _, _, _, _, _, _, _, _, _, _, _, xC, rvC⟩, saC, eC, tC, kCC⟩
  have FC : SupFn P K mg "__init__" "BadCount.__init__" sBadCountInit fC EC ccC _ := ⟨⟨_, _, _, _, _, _, _, _, _, _, _, _, _, _, _, rfl, lC, cC, lcC, hvC, hfC⟩, ⟨_, _, _, ceC⟩, ⟨_, cdC⟩, (PySem.W.mg_none_of X G z7), top, any⟩
  have sC : SupC K EC EC := ⟨oC, ovC, svC, mrC⟩
  have bC : ∀ K : PySem.W.Frag, Binds K (PySem.W.fnX "__init__" "BadCount.__init__" (defArgs sBadCountInit) (defBody sBadCountInit) (defScope sBadCountInit) [("__class__", ccC)] .none kVC dcC pmC anC (.ref cdaC) ctC) ["self", "count"] [] := fun _ s us _ hl => match us, hl with | [_, _], _ => .of_eq rfl
  have XC : ∀ base : Heap, ErrX P w K mg base "BadCount" EC (spErr EC 1 okBadCount fsBadCount) := fun base => ⟨(PySem.W.mg_of X G aC), oC, ⟨_, _, _, aiC, tiC, ok_BadCountInit FC sC n0C, bC K⟩, ⟨gaC, ggC, eC, hCC⟩⟩
  have oL : OexC K EL := ⟨⟨_, _, _, _, _, _, _, _, _, _, _, _, _, _, _, xL, rvL⟩, saL, eL, tL, kCL⟩
  have FL : SupFn P K mg "__init__" "Lacking.__init__" sLackingInit fL EL ccL _ := ⟨⟨_, _, _, _, _, _, _, _, _, _, _, _, _, _, _, rfl, lL, cL, lcL, hvL, hfL⟩, ⟨_, _, _, ceL⟩, ⟨_, cdL⟩, (PySem.W.mg_none_of X G z7), top, any⟩
  have sL : SupC K EL EL := ⟨oL, ovL, svL, mrL⟩
  have bL : ∀ K : PySem.W.Frag, Binds K (PySem.W.fnX "__init__" "Lacking.__init__" (defArgs sLackingInit) (defBody sLackingInit) (defScope sLackingInit) [("__class__", ccL)] .none kVL dcL pmL anL (.ref cdaL) ctL) ["self", "kind", "standing"] [] := fun _ s us _ hl => match us, hl with | [_, _, _], _ => .of_eq rfl
  have XL : ∀ base : Heap, ErrX P w K mg base "Lacking" EL (spErr EL 2 okLacking fsLacking) := fun base => ⟨(PySem.W.mg_of X G aL), oL, ⟨_, _, _, aiL, tiL, ok_LackingInit FL sL n0L n1L, bL K⟩, ⟨gaL, ggL, eL, hCL⟩⟩
  have oS : OexC K ES := ⟨⟨_, _, _, _, _, _, _, _, _, _, _, _, _, _, _, xS, rvS⟩, saS, eS, tS, kCS⟩
  have FS : SupFn P K mg "__init__" "Shut.__init__" sShutInit fS ES ccS _ := ⟨⟨_, _, _, _, _, _, _, _, _, _, _, _, _, _, _, rfl, lS, cS, lcS, hvS, hfS⟩, ⟨_, _, _, ceS⟩, ⟨_, cdS⟩, (PySem.W.mg_none_of X G z7), top, any⟩
  have sS : SupC K ES ES := ⟨oS, ovS, svS, mrS⟩
  have bS : ∀ K : PySem.W.Frag, Binds K (PySem.W.fnX "__init__" "Shut.__init__" (defArgs sShutInit) (defBody sShutInit) (defScope sShutInit) [("__class__", ccS)] .none kVS dcS pmS anS (.ref cdaS) ctS) ["self", "door"] [] := fun _ s us _ hl => match us, hl with | [_, _], _ => .of_eq rfl
  have XS : ∀ base : Heap, ErrX P w K mg base "Shut" ES (spErr ES 1 okShut fsShut) := fun base => ⟨(PySem.W.mg_of X G aS), oS, ⟨_, _, _, aiS, tiS, ok_ShutInit FS sS n0S, bS K⟩, ⟨gaS, ggS, eS, hCS⟩⟩
  have oM : OexC K EM := ⟨⟨_, _, _, _, _, _, _, _, _, _, _, _, _, _, _, xM, rvM⟩, saM, eM, tM, kCM⟩
  have FM : SupFn P K mg "__init__" "Unmet.__init__" sUnmetInit fM EM ccM _ := ⟨⟨_, _, _, _, _, _, _, _, _, _, _, _, _, _, _, rfl, lM, cM, lcM, hvM, hfM⟩, ⟨_, _, _, ceM⟩, ⟨_, cdM⟩, (PySem.W.mg_none_of X G z7), top, any⟩
  have sM : SupC K EM EM := ⟨oM, ovM, svM, mrM⟩
  have bM : ∀ K : PySem.W.Frag, Binds K (PySem.W.fnX "__init__" "Unmet.__init__" (defArgs sUnmetInit) (defBody sUnmetInit) (defScope sUnmetInit) [("__class__", ccM)] .none kVM dcM pmM anM (.ref cdaM) ctM) ["self", "kind", "standing", "door"] [] := fun _ s us _ hl => match us, hl with | [_, _, _, _], _ => .of_eq rfl
  have XM : ∀ base : Heap, ErrX P w K mg base "Unmet" EM (spErr EM 3 okUnmet fsUnmet) := fun base => ⟨(PySem.W.mg_of X G aM), oM, ⟨_, _, _, aiM, tiM, ok_UnmetInit FM sM n0M n1M n2M, bM K⟩, ⟨gaM, ggM, eM, hCM⟩⟩
  have oV : OexC K EV := ⟨⟨_, _, _, _, _, _, _, _, _, _, _, _, _, _, _, xV, rvV⟩, saV, eV, tV, kCV⟩
  have FV : SupFn P K mg "__init__" "Never.__init__" sNeverInit fV EV ccV _ := ⟨⟨_, _, _, _, _, _, _, _, _, _, _, _, _, _, _, rfl, lV, cV, lcV, hvV, hfV⟩, ⟨_, _, _, ceV⟩, ⟨_, cdV⟩, (PySem.W.mg_none_of X G z7), top, any⟩
  have sV : SupC K EV EV := ⟨oV, ovV, svV, mrV⟩
  have bV : ∀ K : PySem.W.Frag, Binds K (PySem.W.fnX "__init__" "Never.__init__" (defArgs sNeverInit) (defBody sNeverInit) (defScope sNeverInit) [("__class__", ccV)] .none kVV dcV pmV anV (.ref cdaV) ctV) ["self", "closed"] [] := fun _ s us _ hl => match us, hl with | [_, _], _ => .of_eq rfl
  have XV : ∀ base : Heap, ErrX P w K mg base "Never" EV (spNever K EV) := fun base => ⟨(PySem.W.mg_of X G aV), oV, ⟨_, _, _, aiV, tiV, ok_NeverInit FV sV n0V (PySem.W.mg_none_of X G z3), bV K⟩, ⟨gaV, ggV, eV, hCV⟩⟩
  have cR : OnlyC K ER EU EN EC EL ES EM EV EY ER 0 := ⟨⟨gaR, ggR, eR, hCR, caR, cn, ct, cmR⟩, kit_is iCR tR sCR (fun _ => rfl), kit_is iCU tU uRU (fun z => by have y := uRU; rw [← z] at y; exact Option.some.inj (y.symm.trans sCR)), kit_is iCN tN uRN (fun z => by have y := uRN; rw [← z] at y; exact Option.some.inj (y.symm.trans sCR)), kit_is iCC tC uRC (fun z => by have y := uRC; rw [← z] at y; exact Option.some.inj (y.symm.trans sCR)), kit_is iCL tL uRL (fun z => by have y := uRL; rw [← z] at y; exact Option.some.inj (y.symm.trans sCR)), kit_is iCS tS uRS (fun z => by have y := uRS; rw [← z] at y; exact Option.some.inj (y.symm.trans sCR)), kit_is iCM tM uRM (fun z => by have y := uRM; rw [← z] at y; exact Option.some.inj (y.symm.trans sCR)), kit_is iCV tV uRV (fun z => by have y := uRV; rw [← z] at y; exact Option.some.inj (y.symm.trans sCR)), kit_is icEY tyEY uRY (fun _ => rfl), kit_tyV kvR⟩
  have cU : OnlyC K ER EU EN EC EL ES EM EV EY EU 1 := ⟨⟨gaU, ggU, eU, hCU, caU, cn, ct, cmU⟩, kit_is iCR tR uUR (fun z => by have y := uUR; rw [← z] at y; exact Option.some.inj (y.symm.trans sCU)), kit_is iCU tU sCU (fun _ => rfl), kit_is iCN tN uUN (fun z => by have y := uUN; rw [← z] at y; exact Option.some.inj (y.symm.trans sCU)), kit_is iCC tC uUC (fun z => by have y := uUC; rw [← z] at y; exact Option.some.inj (y.symm.trans sCU)), kit_is iCL tL uUL (fun z => by have y := uUL; rw [← z] at y; exact Option.some.inj (y.symm.trans sCU)), kit_is iCS tS uUS (fun z => by have y := uUS; rw [← z] at y; exact Option.some.inj (y.symm.trans sCU)), kit_is iCM tM uUM (fun z => by have y := uUM; rw [← z] at y; exact Option.some.inj (y.symm.trans sCU)), kit_is iCV tV uUV (fun z => by have y := uUV; rw [← z] at y; exact Option.some.inj (y.symm.trans sCU)), kit_is icEY tyEY uUY (fun _ => rfl), kit_tyV kvU⟩
  have cN : OnlyC K ER EU EN EC EL ES EM EV EY EN 2 := ⟨⟨gaN, ggN, eN, hCN, caN, cn, ct, cmN⟩, kit_is iCR tR uNR (fun z => by have y := uNR; rw [← z] at y; exact Option.some.inj (y.symm.trans sCN)), kit_is iCU tU uNU (fun z => by have y := uNU; rw [← z] at y; exact Option.some.inj (y.symm.trans sCN)), kit_is iCN tN sCN (fun _ => rfl), kit_is iCC tC uNC (fun z => by have y := uNC; rw [← z] at y; exact Option.some.inj (y.symm.trans sCN)), kit_is iCL tL uNL (fun z => by have y := uNL; rw [← z] at y; exact Option.some.inj (y.symm.trans sCN)), kit_is iCS tS uNS (fun z => by have y := uNS; rw [← z] at y; exact Option.some.inj (y.symm.trans sCN)), kit_is iCM tM uNM (fun z => by have y := uNM; rw [← z] at y; exact Option.some.inj (y.symm.trans sCN)), kit_is iCV tV uNV (fun z => by have y := uNV; rw [← z] at y; exact Option.some.inj (y.symm.trans sCN)), kit_is icEY tyEY uNY (fun _ => rfl), kit_tyV kvN⟩
  have cC : OnlyC K ER EU EN EC EL ES EM EV EY EC 3 := ⟨⟨gaC, ggC, eC, hCC, caC, cn, ct, cmC⟩, kit_is iCR tR uCR (fun z => by have y := uCR; rw [← z] at y; exact Option.some.inj (y.symm.trans sCC)), kit_is iCU tU uCU (fun z => by have y := uCU; rw [← z] at y; exact Option.some.inj (y.symm.trans sCC)), kit_is iCN tN uCN (fun z => by have y := uCN; rw [← z] at y; exact Option.some.inj (y.symm.trans sCC)), kit_is iCC tC sCC (fun _ => rfl), kit_is iCL tL uCL (fun z => by have y := uCL; rw [← z] at y; exact Option.some.inj (y.symm.trans sCC)), kit_is iCS tS uCS (fun z => by have y := uCS; rw [← z] at y; exact Option.some.inj (y.symm.trans sCC)), kit_is iCM tM uCM (fun z => by have y := uCM; rw [← z] at y; exact Option.some.inj (y.symm.trans sCC)), kit_is iCV tV uCV (fun z => by have y := uCV; rw [← z] at y; exact Option.some.inj (y.symm.trans sCC)), kit_is icEY tyEY uCY (fun _ => rfl), kit_tyV kvC⟩
  have cL : OnlyC K ER EU EN EC EL ES EM EV EY EL 4 := ⟨⟨gaL, ggL, eL, hCL, caL, cn, ct, cmL⟩, kit_is iCR tR uLR (fun z => by have y := uLR; rw [← z] at y; exact Option.some.inj (y.symm.trans sCL)), kit_is iCU tU uLU (fun z => by have y := uLU; rw [← z] at y; exact Option.some.inj (y.symm.trans sCL)), kit_is iCN tN uLN (fun z => by have y := uLN; rw [← z] at y; exact Option.some.inj (y.symm.trans sCL)), kit_is iCC tC uLC (fun z => by have y := uLC; rw [← z] at y; exact Option.some.inj (y.symm.trans sCL)), kit_is iCL tL sCL (fun _ => rfl), kit_is iCS tS uLS (fun z => by have y := uLS; rw [← z] at y; exact Option.some.inj (y.symm.trans sCL)), kit_is iCM tM uLM (fun z => by have y := uLM; rw [← z] at y; exact Option.some.inj (y.symm.trans sCL)), kit_is iCV tV uLV (fun z => by have y := uLV; rw [← z] at y; exact Option.some.inj (y.symm.trans sCL)), kit_is icEY tyEY uLY (fun _ => rfl), kit_tyV kvL⟩
  have cS : OnlyC K ER EU EN EC EL ES EM EV EY ES 5 := ⟨⟨gaS, ggS, eS, hCS, caS, cn, ct, cmS⟩, kit_is iCR tR uSR (fun z => by have y := uSR; rw [← z] at y; exact Option.some.inj (y.symm.trans sCS)), kit_is iCU tU uSU (fun z => by have y := uSU; rw [← z] at y; exact Option.some.inj (y.symm.trans sCS)), kit_is iCN tN uSN (fun z => by have y := uSN; rw [← z] at y; exact Option.some.inj (y.symm.trans sCS)), kit_is iCC tC uSC (fun z => by have y := uSC; rw [← z] at y; exact Option.some.inj (y.symm.trans sCS)), kit_is iCL tL uSL (fun z => by have y := uSL; rw [← z] at y; exact Option.some.inj (y.symm.trans sCS)), kit_is iCS tS sCS (fun _ => rfl), kit_is iCM tM uSM (fun z => by have y := uSM; rw [← z] at y; exact Option.some.inj (y.symm.trans sCS)), kit_is iCV tV uSV (fun z => by have y := uSV; rw [← z] at y; exact Option.some.inj (y.symm.trans sCS)), kit_is icEY tyEY uSY (fun _ => rfl), kit_tyV kvS⟩
  have cM : OnlyC K ER EU EN EC EL ES EM EV EY EM 6 := ⟨⟨gaM, ggM, eM, hCM, caM, cn, ct, cmM⟩, kit_is iCR tR uMR (fun z => by have y := uMR; rw [← z] at y; exact Option.some.inj (y.symm.trans sCM)), kit_is iCU tU uMU (fun z => by have y := uMU; rw [← z] at y; exact Option.some.inj (y.symm.trans sCM)), kit_is iCN tN uMN (fun z => by have y := uMN; rw [← z] at y; exact Option.some.inj (y.symm.trans sCM)), kit_is iCC tC uMC (fun z => by have y := uMC; rw [← z] at y; exact Option.some.inj (y.symm.trans sCM)), kit_is iCL tL uML (fun z => by have y := uML; rw [← z] at y; exact Option.some.inj (y.symm.trans sCM)), kit_is iCS tS uMS (fun z => by have y := uMS; rw [← z] at y; exact Option.some.inj (y.symm.trans sCM)), kit_is iCM tM sCM (fun _ => rfl), kit_is iCV tV uMV (fun z => by have y := uMV; rw [← z] at y; exact Option.some.inj (y.symm.trans sCM)), kit_is icEY tyEY uMY (fun _ => rfl), kit_tyV kvM⟩
  have cV : OnlyC K ER EU EN EC EL ES EM EV EY EV 7 := ⟨⟨gaV, ggV, eV, hCV, caV, cn, ct, cmV⟩, kit_is iCR tR uVR (fun z => by have y := uVR; rw [← z] at y; exact Option.some.inj (y.symm.trans sCV)), kit_is iCU tU uVU (fun z => by have y := uVU; rw [← z] at y; exact Option.some.inj (y.symm.trans sCV)), kit_is iCN tN uVN (fun z => by have y := uVN; rw [← z] at y; exact Option.some.inj (y.symm.trans sCV)), kit_is iCC tC uVC (fun z => by have y := uVC; rw [← z] at y; exact Option.some.inj (y.symm.trans sCV)), kit_is iCL tL uVL (fun z => by have y := uVL; rw [← z] at y; exact Option.some.inj (y.symm.trans sCV)), kit_is iCS tS uVS (fun z => by have y := uVS; rw [← z] at y; exact Option.some.inj (y.symm.trans sCV)), kit_is iCM tM uVM (fun z => by have y := uVM; rw [← z] at y; exact Option.some.inj (y.symm.trans sCV)), kit_is iCV tV sCV (fun _ => rfl), kit_is icEY tyEY uVY (fun _ => rfl), kit_tyV kvV⟩
  have clCH : Cls K CH := ⟨pgCH, hdCH, poCH, saCH⟩
  have gCH : mg "Hold" = some (.ref CH) := (PySem.W.mg_of X G aCH)
  have FHI : FunD K "__init__" "Hold.__init__" (defArgs sHoldInit) (defBody sHoldInit) (defScope sHoldInit) [V.ref edHI] [] fHI _ := ⟨⟨_, _, _, _, _, _, _, _, _, _, rfl, lHI, cHI, .inr ⟨List.cons_ne_nil _ _, _, _, _, _, rfl, lTHI, dTHI, .cons rfl .nil⟩, .inl rfl⟩, kHI⟩
  obtain ⟨dsHI, vsHI, bHI⟩ := FHI.binds1 (ps := ["self", "rows"]) 2 1 (List.cons_ne_nil _ _) rfl (fun _ _ _ _ _ _ _ us its h1 h2 => match us, its, h1, h2 with | [_, _], [_], _, _ => ⟨_, rfl, rfl⟩)
  cases vsHI
  obtain ⟨esHI, wsHI, qHI⟩ := FHI.binds1 (ps := ["self", "rows"]) 1 0 (List.cons_ne_nil _ _) rfl (fun _ _ _ _ _ _ _ us its h1 h2 => match us, its, h1, h2 with | [_], [_], _, _ => ⟨_, rfl, rfl⟩)
  obtain ⟨eeHI, rfl, reHI⟩ := vals1 wsHI
  have hEHI : ∀ H, SqT K H edHI [] := fun H => .inr ⟨_, #[], _, lEHI, cEHI, dEHI, Nat.zero_le _, .nil⟩
  have mmCH : Mk K CH fHI := ⟨mkCH, inCH, iHI, kcCH⟩
  have Fpool := fun_mk (st := sPool) lpool cpool kpool
  have bpool := Fpool.binds (ps := ["_law_script"]) fun _ _ _ _ _ _ us hl => match us, hl with | [_], _ => rfl
  have Qpool : Fn K mg "_law_pool" sPool ["_law_script"] fpool _ := ⟨Fpool, (PySem.W.mg_of X G apool), bpool⟩
  have Ftake := fun_mk (st := sTake) ltake ctake ktake
  have btake := Ftake.binds (ps := ["_law_pool_here", "_law_size"]) fun _ _ _ _ _ _ us hl => match us, hl with | [_, _], _ => rfl
  have Qtake : Fn K mg "_law_take" sTake ["_law_pool_here", "_law_size"] ftake _ := ⟨Ftake, (PySem.W.mg_of X G atake), btake⟩
  have Fbase := fun_mk (st := sBase) lbase cbase kbase
  have bbase := Fbase.binds (ps := ["_law_pool_here"]) fun _ _ _ _ _ _ us hl => match us, hl with | [_], _ => rfl
  have Qbase : Fn K mg "_law_base" sBase ["_law_pool_here"] fbase _ := ⟨Fbase, (PySem.W.mg_of X G abase), bbase⟩
  have Fname := fun_mk (st := sName) lname cname kname
  have bname := Fname.binds (ps := ["_law_pool_here", "_law_base_here", "_law_k"]) fun _ _ _ _ _ _ us hl => match us, hl with | [_, _, _], _ => rfl
  have Qname : Fn K mg "_law_name" sName ["_law_pool_here", "_law_base_here", "_law_k"] fname _ := ⟨Fname, (PySem.W.mg_of X G aname), bname⟩
  have Fonly := fun_mk (st := sIsOnly) lonly conly konly
  have bonly := Fonly.binds (ps := ["_law_error", "_law_k"]) fun _ _ _ _ _ _ us hl => match us, hl with | [_, _], _ => rfl
  have Qonly : Fn K mg "_law_is_only" sIsOnly ["_law_error", "_law_k"] fonly _ := ⟨Fonly, (PySem.W.mg_of X G aonly), bonly⟩
  have Flaw := fun_mk (st := sLaw) llaw claw klaw
  have blaw := Flaw.binds (ps := ["_law_script"]) fun _ _ _ _ _ _ us hl => match us, hl with | [_], _ => rfl
  exact ⟨PySem.W.fnOf "law" "law" (defArgs sLaw) (defBody sLaw) (defScope sLaw) .none kVlaw dclaw pmlaw anlaw cdlaw ctlaw, fun s v => .of_eq rfl, fun base _ _ => by
    have GO := ok_only (P := P) (w := w) (base := base) Fonly ⟨(PySem.W.mg_none_of X G z0), (PySem.W.mg_none_of X G z1), (PySem.W.mg_none_of X G z2)⟩ (PySem.W.mg_none_of X G z4) (PySem.W.mg_none_of X G z6) (PySem.W.mg_of X G aR) (PySem.W.mg_of X G aU) (PySem.W.mg_of X G aN) (PySem.W.mg_of X G aC) (PySem.W.mg_of X G aL) (PySem.W.mg_of X G aS) (PySem.W.mg_of X G aM) (PySem.W.mg_of X G aV) (PySem.W.mg_of X G aEY)
    exact ok_law Flaw ⟨(PySem.W.mg_none_of X G z0), (PySem.W.mg_none_of X G z1), (PySem.W.mg_none_of X G z2)⟩ (PySem.W.mg_none_of X G z3) (PySem.W.mg_none_of X G z4) (PySem.W.mg_none_of X G z5) Qpool Qtake Qbase Qname Qonly GO (XR base) (XU base) (XN base) (XC base) (XL base) (XS base) (XM base) (XV base) n0R n0U n0N n1N n0C n0L n1L n0S n0M n1M n2M n0V cR cU cN cC cL cS cM cV ⟨clCH, nSp⟩ gCH mmCH (ok_hInit FHI) bHI qHI reHI hEHI⟩
theorem walk {l : PySem.W.OpenLaw} {q : Program} {loose : List Str} {XP : (Str → Option Value) → Heap → Prop} {YP : World → Heap → Prop} {d : DefRec} {K : Params → PySem.W.Frag} (hn : l.most = some 63) (hdf : d.params.defaults = [])
    (hY : ∀ (w : World) (h : Heap), YP w h → (K w.params).In h)
    (F : ∀ (w : World) (mg : Str → Option Value) (fa : Addr) (h : Heap), (K w.params).In h → h.Ns mainGlobals mg → mg d.name = some (.ref fa) →
      ∃ fd : FuncData, (∀ (s : Shared) (u : Value), BindsTo s fd ⟨[u], []⟩ [("_law_script", u)]) ∧ ∀ base : Heap, (K w.params).In base → base.Ns mainGlobals mg → FnOk l.prog w (K w.params) mg base CX0 3 fa fd ["_law_script"] (spLaw (K w.params))) :
    PySem.W.WalkO q loose XP YP l.row.toRowW d [] (fun f vs => PySem.call f vs) :=
  L2.walk_of (n := 63) (k := 3) (x := "_law_script") (CX := fun _ => CX0) (sp := fun w => spLaw (K w.params)) hn (by decide) hdf ⟨rfl, by decide, by decide⟩ hY F (fun _ _ a ns hl _ hS => ⟨a, ns, rfl, hS, hl, fun _ => rfl⟩) fun _ _ _ _ _ z => z
end Yd
--END
open PySem PySem.W PyProof.Rows
set_option maxRecDepth 100000 in
set_option maxHeartbeats 0 in
theorem PySem.Challenge.cw_soundyard_k01_errors_and_fields_holds : PySem.Challenge.rw_soundyard_k01_errors_and_fields.Holds := by
  w_on; o_law; k_head; (case hw => w_witness2)
  k_fill
  refine Yd.walk (l := PySem.Challenge.rw_soundyard_k01_errors_and_fields) rfl rfl (fun w h Y => PySem.W.kIn_of Y) ?F
  case F =>
    intro w mg fa h KX G hmg
    refine' Yd.all_mk KX G hmg ?z0 ?z1 ?z2 ?z3 ?z4 ?z5 ?z6 ?aR ?xR ?rvR ?saR ?gaR ?ggR ?n0R ?eR ?tR ?kCR ?hCR ?iCR ?sCR ?aiR ?tiR ?lR ?cR ?lcR ?hvR ?hfR ?ceR ?cdR ?ovR ?svR ?mrR ?z7 ?top ?any ?aU ?xU ?rvU ?saU ?gaU ?ggU ?n0U ?eU ?tU ?kCU ?hCU ?iCU ?sCU ?aiU ?tiU ?lU ?cU ?lcU ?hvU ?hfU ?ceU ?cdU ?ovU ?svU ?mrU ?aN ?xN ?rvN ?saN ?gaN ?ggN ?n0N ?n1N ?eN ?tN ?kCN ?hCN ?iCN ?sCN ?aiN ?tiN ?lN ?cN ?lcN ?hvN ?hfN ?ceN ?cdN ?ovN ?svN ?mrN ?aC ?xC ?rvC ?saC ?gaC ?ggC ?n0C ?eC ?tC ?kCC ?hCC ?iCC ?sCC ?aiC ?tiC ?lC ?cC ?lcC ?hvC ?hfC ?ceC ?cdC ?ovC ?svC ?mrC ?aL ?xL ?rvL ?saL ?gaL ?ggL ?n0L ?n1L ?eL ?tL ?kCL ?hCL ?iCL ?sCL ?aiL ?tiL ?lL ?cL ?lcL ?hvL ?hfL ?ceL ?cdL ?ovL ?svL ?mrL ?aS ?xS ?rvS ?saS ?gaS ?ggS ?n0S ?eS ?tS ?kCS ?hCS ?iCS ?sCS ?aiS ?tiS ?lS ?cS ?lcS ?hvS ?hfS ?ceS ?cdS ?ovS ?svS ?mrS ?aM ?xM ?rvM ?saM ?gaM ?ggM ?n0M ?n1M ?n2M ?eM ?tM ?kCM ?hCM ?iCM ?sCM ?aiM ?tiM ?lM ?cM ?lcM ?hvM ?hfM ?ceM ?cdM ?ovM ?svM ?mrM ?aV ?xV ?rvV ?saV ?gaV ?ggV ?n0V ?eV ?tV ?kCV ?hCV ?iCV ?sCV ?aiV ?tiV ?lV ?cV ?lcV ?hvV ?hfV ?ceV ?cdV ?ovV ?svV ?mrV ?aEY ?icEY ?tyEY ?cn ?ct ?caR ?cmR ?uRU ?uRN ?uRC ?uRL ?uRS ?uRM ?uRV ?uRY ?kvR ?caU ?cmU ?uUR ?uUN ?uUC ?uUL ?uUS ?uUM ?uUV ?uUY ?kvU ?caN ?cmN ?uNR ?uNU ?uNC ?uNL ?uNS ?uNM ?uNV ?uNY ?kvN ?caC ?cmC ?uCR ?uCU ?uCN ?uCL ?uCS ?uCM ?uCV ?uCY ?kvC ?caL ?cmL ?uLR ?uLU ?uLN ?uLC ?uLS ?uLM ?uLV ?uLY ?kvL ?caS ?cmS ?uSR ?uSU ?uSN ?uSC ?uSL ?uSM ?uSV ?uSY ?kvS ?caM ?cmM ?uMR ?uMU ?uMN ?uMC ?uML ?uMS ?uMV ?uMY ?kvM ?caV ?cmV ?uVR ?uVU ?uVN ?uVC ?uVL ?uVS ?uVM ?uVY ?kvV ?aCH ?pgCH ?hdCH ?poCH ?saCH ?mkCH ?kcCH ?lHI ?cHI ?kHI ?iHI ?lTHI ?dTHI ?lEHI ?cEHI ?dEHI ?nSp ?inCH ?lpool ?cpool ?kpool ?apool ?ltake ?ctake ?ktake ?atake ?lbase ?cbase ?kbase ?abase ?lname ?cname ?kname ?aname ?lonly ?conly ?konly ?aonly ?llaw ?claw ?klaw ?alaw
    (case z0 => k_is)
    (case z1 => k_is)
    (case z2 => k_is)
    (case z3 => k_is)
    (case z4 => k_is)
    (case z5 => k_is)
    (case z6 => k_is)
    (case aR => k_is)
    (case z7 => k_is)
    (case aU => k_is)
    (case aN => k_is)
    (case aC => k_is)
    (case aL => k_is)
    (case aS => k_is)
    (case aM => k_is)
    (case aV => k_is)
    (case aEY => k_is)
    (case aCH => k_is)
    (case apool => k_is)
    (case atake => k_is)
    (case abase => k_is)
    (case aname => k_is)
    (case aonly => k_is)
    (case alaw => k_is)
    (case saR => k_is)
    (case gaR => k_is)
    (case ggR => k_is)
    (case n0R => k_is)
    (case aiR => k_is)
    (case saU => k_is)
    (case gaU => k_is)
    (case ggU => k_is)
    (case n0U => k_is)
    (case aiU => k_is)
    (case saN => k_is)
    (case gaN => k_is)
    (case ggN => k_is)
    (case n0N => k_is)
    (case n1N => k_is)
    (case aiN => k_is)
    (case saC => k_is)
    (case gaC => k_is)
    (case ggC => k_is)
    (case n0C => k_is)
    (case aiC => k_is)
    (case saL => k_is)
    (case gaL => k_is)
    (case ggL => k_is)
    (case n0L => k_is)
    (case n1L => k_is)
    (case aiL => k_is)
    (case saS => k_is)
    (case gaS => k_is)
    (case ggS => k_is)
    (case n0S => k_is)
    (case aiS => k_is)
    (case saM => k_is)
    (case gaM => k_is)
    (case ggM => k_is)
    (case n0M => k_is)
    (case n1M => k_is)
    (case n2M => k_is)
    (case aiM => k_is)
    (case saV => k_is)
    (case gaV => k_is)
    (case ggV => k_is)
    (case n0V => k_is)
    (case aiV => k_is)
    (case caR => k_is)
    (case caU => k_is)
    (case caN => k_is)
    (case caC => k_is)
    (case caL => k_is)
    (case caS => k_is)
    (case caM => k_is)
    (case caV => k_is)
    (case saCH => k_is)
    (case nSp => k_is)
    (case inCH => k_is)
    (case xR => k_is)
    (case rvR => decide +kernel)
    (case eR => k_is)
    (case tR => k_is)
    (case kCR => k_is)
    (case hCR => k_is)
    (case iCR => k_is)
    (case sCR => first | rfl | k_is)
    (case tiR => k_is)
    (case lR => k_is)
    (case cR => k_is)
    (case lcR => k_is)
    (case hvR => exact rfl)
    (case hfR => first | exact rfl | decide +kernel)
    (case ceR => k_is)
    (case cdR => k_is)
    (case ovR => first | ks_is | k_is)
    (case svR => k_is)
    (case mrR => k_is)
    (case top => first | exact rfl | decide +kernel)
    (case any => k_is)
    (case xU => k_is)
    (case rvU => decide +kernel)
    (case eU => k_is)
    (case tU => k_is)
    (case kCU => k_is)
    (case hCU => k_is)
    (case iCU => k_is)
    (case sCU => first | rfl | k_is)
    (case tiU => k_is)
    (case lU => k_is)
    (case cU => k_is)
    (case lcU => k_is)
    (case hvU => exact rfl)
    (case hfU => first | exact rfl | decide +kernel)
    (case ceU => k_is)
    (case cdU => k_is)
    (case ovU => first | ks_is | k_is)
    (case svU => k_is)
    (case mrU => k_is)
    (case xN => k_is)
    (case rvN => decide +kernel)
    (case eN => k_is)
    (case tN => k_is)
    (case kCN => k_is)
    (case hCN => k_is)
    (case iCN => k_is)
    (case sCN => first | rfl | k_is)
    (case tiN => k_is)
    (case lN => k_is)
    (case cN => k_is)
    (case lcN => k_is)
    (case hvN => exact rfl)
    (case hfN => first | exact rfl | decide +kernel)
    (case ceN => k_is)
    (case cdN => k_is)
    (case ovN => first | ks_is | k_is)
    (case svN => k_is)
    (case mrN => k_is)
    (case xC => k_is)
    (case rvC => decide +kernel)
    (case eC => k_is)
    (case tC => k_is)
    (case kCC => k_is)
    (case hCC => k_is)
    (case iCC => k_is)
    (case sCC => first | rfl | k_is)
    (case tiC => k_is)
    (case lC => k_is)
    (case cC => k_is)
    (case lcC => k_is)
    (case hvC => exact rfl)
    (case hfC => first | exact rfl | decide +kernel)
    (case ceC => k_is)
    (case cdC => k_is)
    (case ovC => first | ks_is | k_is)
    (case svC => k_is)
    (case mrC => k_is)
    (case xL => k_is)
    (case rvL => decide +kernel)
    (case eL => k_is)
    (case tL => k_is)
    (case kCL => k_is)
    (case hCL => k_is)
    (case iCL => k_is)
    (case sCL => first | rfl | k_is)
    (case tiL => k_is)
    (case lL => k_is)
    (case cL => k_is)
    (case lcL => k_is)
    (case hvL => exact rfl)
    (case hfL => first | exact rfl | decide +kernel)
    (case ceL => k_is)
    (case cdL => k_is)
    (case ovL => first | ks_is | k_is)
    (case svL => k_is)
    (case mrL => k_is)
    (case xS => k_is)
    (case rvS => decide +kernel)
    (case eS => k_is)
    (case tS => k_is)
    (case kCS => k_is)
    (case hCS => k_is)
    (case iCS => k_is)
    (case sCS => first | rfl | k_is)
    (case tiS => k_is)
    (case lS => k_is)
    (case cS => k_is)
    (case lcS => k_is)
    (case hvS => exact rfl)
    (case hfS => first | exact rfl | decide +kernel)
    (case ceS => k_is)
    (case cdS => k_is)
    (case ovS => first | ks_is | k_is)
    (case svS => k_is)
    (case mrS => k_is)
    (case xM => k_is)
    (case rvM => decide +kernel)
    (case eM => k_is)
    (case tM => k_is)
    (case kCM => k_is)
    (case hCM => k_is)
    (case iCM => k_is)
    (case sCM => first | rfl | k_is)
    (case tiM => k_is)
    (case lM => k_is)
    (case cM => k_is)
    (case lcM => k_is)
    (case hvM => exact rfl)
    (case hfM => first | exact rfl | decide +kernel)
    (case ceM => k_is)
    (case cdM => k_is)
    (case ovM => first | ks_is | k_is)
    (case svM => k_is)
    (case mrM => k_is)
    (case xV => k_is)
    (case rvV => decide +kernel)
    (case eV => k_is)
    (case tV => k_is)
    (case kCV => k_is)
    (case hCV => k_is)
    (case iCV => k_is)
    (case sCV => first | rfl | k_is)
    (case tiV => k_is)
    (case lV => k_is)
    (case cV => k_is)
    (case lcV => k_is)
    (case hvV => exact rfl)
    (case hfV => first | exact rfl | decide +kernel)
    (case ceV => k_is)
    (case cdV => k_is)
    (case ovV => first | ks_is | k_is)
    (case svV => k_is)
    (case mrV => k_is)
    (case icEY => k_is)
    (case tyEY => k_is)
    (case cn => first | k_is | rfl)
    (case ct => first | k_is | rfl)
    (case cmR => k_is)
    (case uRU => first | k_is | rfl)
    (case uRN => first | k_is | rfl)
    (case uRC => first | k_is | rfl)
    (case uRL => first | k_is | rfl)
    (case uRS => first | k_is | rfl)
    (case uRM => first | k_is | rfl)
    (case uRV => first | k_is | rfl)
    (case uRY => first | k_is | rfl)
    (case kvR => first | k_is | decide +kernel | rfl)
    (case cmU => k_is)
    (case uUR => first | k_is | rfl)
    (case uUN => first | k_is | rfl)
    (case uUC => first | k_is | rfl)
    (case uUL => first | k_is | rfl)
    (case uUS => first | k_is | rfl)
    (case uUM => first | k_is | rfl)
    (case uUV => first | k_is | rfl)
    (case uUY => first | k_is | rfl)
    (case kvU => first | k_is | decide +kernel | rfl)
    (case cmN => k_is)
    (case uNR => first | k_is | rfl)
    (case uNU => first | k_is | rfl)
    (case uNC => first | k_is | rfl)
    (case uNL => first | k_is | rfl)
    (case uNS => first | k_is | rfl)
    (case uNM => first | k_is | rfl)
    (case uNV => first | k_is | rfl)
    (case uNY => first | k_is | rfl)
    (case kvN => first | k_is | decide +kernel | rfl)
    (case cmC => k_is)
    (case uCR => first | k_is | rfl)
    (case uCU => first | k_is | rfl)
    (case uCN => first | k_is | rfl)
    (case uCL => first | k_is | rfl)
    (case uCS => first | k_is | rfl)
    (case uCM => first | k_is | rfl)
    (case uCV => first | k_is | rfl)
    (case uCY => first | k_is | rfl)
    (case kvC => first | k_is | decide +kernel | rfl)
    (case cmL => k_is)
    (case uLR => first | k_is | rfl)
    (case uLU => first | k_is | rfl)
    (case uLN => first | k_is | rfl)
    (case uLC => first | k_is | rfl)
    (case uLS => first | k_is | rfl)
    (case uLM => first | k_is | rfl)
    (case uLV => first | k_is | rfl)
    (case uLY => first | k_is | rfl)
    (case kvL => first | k_is | decide +kernel | rfl)
    (case cmS => k_is)
    (case uSR => first | k_is | rfl)
    (case uSU => first | k_is | rfl)
    (case uSN => first | k_is | rfl)
    (case uSC => first | k_is | rfl)
    (case uSL => first | k_is | rfl)
    (case uSM => first | k_is | rfl)
    (case uSV => first | k_is | rfl)
    (case uSY => first | k_is | rfl)
    (case kvS => first | k_is | decide +kernel | rfl)
    (case cmM => k_is)
    (case uMR => first | k_is | rfl)
    (case uMU => first | k_is | rfl)
    (case uMN => first | k_is | rfl)
    (case uMC => first | k_is | rfl)
    (case uML => first | k_is | rfl)
    (case uMS => first | k_is | rfl)
    (case uMV => first | k_is | rfl)
    (case uMY => first | k_is | rfl)
    (case kvM => first | k_is | decide +kernel | rfl)
    (case cmV => k_is)
    (case uVR => first | k_is | rfl)
    (case uVU => first | k_is | rfl)
    (case uVN => first | k_is | rfl)
    (case uVC => first | k_is | rfl)
    (case uVL => first | k_is | rfl)
    (case uVS => first | k_is | rfl)
    (case uVM => first | k_is | rfl)
    (case uVY => first | k_is | rfl)
    (case kvV => first | k_is | decide +kernel | rfl)
    (case pgCH => k_is)
    (case hdCH => k_is)
    (case poCH => k_is)
    (case mkCH => k_is)
    (case kcCH => k_is)
    (case lHI => k_is)
    (case cHI => k_is)
    (case kHI => k_is)
    (case iHI => k_is)
    (case lTHI => k_is)
    (case dTHI => exact rfl)
    (case lEHI => k_is)
    (case cEHI => exact rfl)
    (case dEHI => exact rfl)
    (case lpool => k_is)
    (case cpool => k_is)
    (case kpool => k_is)
    (case ltake => k_is)
    (case ctake => k_is)
    (case ktake => k_is)
    (case lbase => k_is)
    (case cbase => k_is)
    (case kbase => k_is)
    (case lname => k_is)
    (case cname => k_is)
    (case kname => k_is)
    (case lonly => k_is)
    (case conly => k_is)
    (case konly => k_is)
    (case llaw => k_is)
    (case claw => k_is)
    (case klaw => k_is)
