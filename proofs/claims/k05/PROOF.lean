import PyProof.Rows.All
import Wide.All
import OpenK.AllK
import Wide.FinOn
import HandS.ForMost
import HandS.Wide
import KE.KExcSuper
import HandS.ForSpec
import HandS.ExcInit
import HandS.ExcField
import HandS.TryMany
import HandS.FStr
import HandS.DictComp
import HandS.Conv
import HandS.ClsMeth
import HandS.Nested
import KE.Datum
import HandS.IsInst
import HandS.Codes
import HandS.IterVal
import KE.KOwnIter
import KE.KOpsOwn
import OpenK.KMeth
import OpenK.KOps
import HandS.OwnEq
import HandS.Star
import HandS.TupLen
import KE.KEqDict
import HandS.Defaults
import PySem.Challenge.RW_soundyard_k05_holds
set_option Elab.async false
set_option linter.all false
set_option maxRecDepth 100000
set_option maxHeartbeats 4000000
namespace Yd
open PySem L2
/-! ### the text by places -/
def topS (i : Nat) : Stmt := PySem.Challenge.pw_soundyard_k05_holds.main.body.getD i (.Pass ⟨0, 0, 0, 0⟩)
abbrev sHoldInit : Stmt := inClass (topS 1) 0
abbrev sHoldIter : Stmt := inClass (topS 1) 1
abbrev sHoldLen : Stmt := inClass (topS 1) 2
abbrev sHoldIn : Stmt := inClass (topS 1) 3
abbrev sHoldLe : Stmt := inClass (topS 1) 4
abbrev sHoldEq : Stmt := inClass (topS 1) 5
abbrev sHoldOr : Stmt := inClass (topS 1) 6
abbrev sHoldAnd : Stmt := inClass (topS 1) 7
abbrev sHoldSub : Stmt := inClass (topS 1) 8
abbrev sPool : Stmt := topS 3
abbrev sTake : Stmt := topS 4
abbrev sBase : Stmt := topS 5
abbrev sName : Stmt := topS 6
abbrev sOnce : Stmt := topS 7
abbrev sIsHold : Stmt := topS 8
abbrev sIsBool : Stmt := topS 9
abbrev sDrawnSpots : Stmt := topS 10
abbrev sLaw : Stmt := topS 11
end Yd
namespace Yd
open PySem L2
/-! ### tests whose answer is known -/
theorem yes {b : Bool} {A B : Prop} (e : b = true) (h : A) : if b = true then A else B := by subst e; exact (if_pos rfl).mpr h
theorem no {b : Bool} {A B : Prop} (e : b = false) (h : B) : if b = true then A else B := by subst e; exact (if_neg Bool.false_ne_true).mpr h
/-! ### the drawing of a script: the pool, a draw, the base of the names, a name -/
/-- what holds of the list of the pool at p (its cells, if it has some, at c) -/
def PoolL (H : Hp) (p c : Addr) (xs : List V) : Prop :=
  (c = p ∧ ∃ n : Int, xs = [.int n]) ∨ ∃ (x i : Int) (cs : List Int), xs = [.int x, .int i, .ref c] ∧ c ≠ p ∧ H c = some (.lst (cs.map V.int)) ∧ 0 < cs.length ∧ cs.length ≤ 63 ∧ (∀ z ∈ cs, 0 ≤ z ∧ z < 65537) ∧ 0 ≤ x ∧ x < 65537
def Pool (H : Hp) (p c : Addr) : Prop := ∃ xs, H p = some (.lst xs) ∧ PoolL H p c xs
theorem Pool.two {H : Hp} {p c : Addr} (h : Pool H p c) : (∃ o, H p = some o) ∧ ∃ o, H c = some o := by
  obtain ⟨xs, e, q⟩ := h
  refine ⟨⟨_, e⟩, ?_⟩
  rcases q with ⟨rfl, _⟩ | ⟨x, i, cs, _, _, e3, _⟩
  · exact ⟨_, e⟩
  · exact ⟨_, e3⟩
theorem Pool.ne {H : Hp} {p c q : Addr} (h : Pool H p c) (n : H q = none) : q ≠ p ∧ q ≠ c := by
  obtain ⟨⟨o, e⟩, u, e'⟩ := h.two
  exact ⟨(ne_of_none e n).symm, (ne_of_none e' n).symm⟩
theorem Pool.keep {H H' : Hp} {p c : Addr} (h : Pool H p c) (hp : ∀ o, H p = some o → H' p = some o) (hc : ∀ o, H c = some o → H' c = some o) : Pool H' p c := by
  obtain ⟨xs, e, q⟩ := h
  refine ⟨xs, hp _ e, ?_⟩
  rcases q with q | ⟨x, i, cs, e1, e2, e3, q⟩
  · exact .inl q
  · exact .inr ⟨x, i, cs, e1, e2, hc _ e3, q⟩
/-- all but p is as it was, and there may be more -/
def Gro (p : Addr) (H H' : Hp) : Prop := ∀ b o, H b = some o → b ≠ p → H' b = some o
theorem Gro.rfl' {p : Addr} {H : Hp} : Gro p H H := fun _ _ e _ => e
theorem Gro.trans {p : Addr} {H H1 H2 : Hp} (a : Gro p H H1) (b : Gro p H1 H2) : Gro p H H2 := fun q o e n => b q o (a q o e n) n
theorem Gro.new {p q : Addr} {H : Hp} {o : HO} (n : H q = none) : Gro p H (upd H q o) := fun b u e _ => by rw [upd_ne (ne_of_none e n)]; exact e
theorem Gro.own {p : Addr} {H : Hp} {o : HO} : Gro p H (upd H p o) := fun b u e n => by rw [upd_ne n]; exact e
theorem Gro.of_same {p : Addr} {H H' : Hp} (s : Same H H') : Gro p H H' := fun b o e _ => s b o e
theorem Gro.free {p q : Addr} {H H' : Hp} (g : Gro p H H') (n : H' q = none) (hq : q ≠ p) : H q = none := by
  cases e : H q with
  | none => rfl
  | some o => rw [g q o e hq] at n; cases n
theorem Pool.off {H : Hp} {p c q : Addr} {o : HO} (h : Pool H p c) (n1 : q ≠ p) (n2 : q ≠ c) : Pool (upd H q o) p c :=
  h.keep (fun u e => by rw [upd_ne n1.symm]; exact e) fun u e => by rw [upd_ne n2.symm]; exact e
theorem Pool.new {p c q : Addr} {H : Hp} {o : HO} (h : Pool H p c) (n : H q = none) : Pool (upd H q o) p c :=
  h.keep (fun u e => by rw [upd_ne (ne_of_none e n)]; exact e) fun u e => by rw [upd_ne (ne_of_none e n)]; exact e

def spPool (K : PySem.W.Frag) : Sp := fun vs H Q _ => ∃ (a : Addr) (ns : List Int), vs = [.ref a] ∧ SqL K H a (ns.map V.int) ∧ ns.length ≤ 63 ∧
  ∀ p c H', Same H H' → H p = none → (c = p ∨ H c = none) → Pool H' p c → Q (.ref p) H'
def spTake : Sp := fun vs H Q _ => ∃ (p c : Addr) (n : Int), vs = [.ref p, .int n] ∧ Pool H p c ∧ 0 < n ∧ n.natAbs < 2 ^ 200 ∧
  ∀ v H', 0 ≤ v → v < n → Gro p H H' → Pool H' p c → Q (.int v) H'
/-- the signs of a base -/
def Sgn (z : Str) : Prop := ∀ s ∈ z.cps.toList, s ∈ ("mnopqrstuvwxyz0123456789" : Str).cps.toList
def spBase (m : Nat) : Sp := fun vs H Q _ => ∃ (p c : Addr), vs = [.ref p] ∧ Pool H p c ∧
  ∀ z H', z.length < m → Sgn z → Gro p H H' → Pool H' p c → Q (.str z) H'
def kSigns : List Nat := ("afkdibglejch" : Str).cps.toList
/-- the name number k: its sign between two texts of the base's signs -/
def NameK (k : Nat) (z : Str) : Prop := z.length ≤ 12 ∧ ∃ (s : Nat) (a b : Str), kSigns[k]? = some s ∧ z = a ++ (⟨#[s]⟩ : Str) ++ b ∧ Sgn a ∧ Sgn b
def spName : Sp := fun vs H Q _ => ∃ (p c : Addr) (b : Str) (k : Nat), vs = [.ref p, .str b, .int k] ∧ Pool H p c ∧ b.length ≤ 11 ∧ Sgn b ∧ k < 12 ∧
  ∀ z H', NameK k z → Gro p H H' → Pool H' p c → Q (.str z) H'

/-- the built-ins that the drawing reads -/
structure Blt (mg : Str → Option Value) : Prop where
  len : mg "len" = none
  int : mg "int" = none
  range : mg "range" = none

section
variable {P : Program} {w : World} {K : PySem.W.Frag} {mg : Str → Option Value} {base : Heap}
theorem get_map {ns : List Int} {i : Nat} {x : V} (h : (ns.map V.int)[i]? = some x) : ∃ z, ns[i]? = some z ∧ x = .int z := by
  rw [List.getElem?_map] at h
  cases e : ns[i]? with
  | none => rw [e] at h; cases h
  | some z => rw [e] at h; exact ⟨z, rfl, (Option.some.inj h).symm⟩
def nPool : List Str := ["_law_script", "_law_cell"]
theorem scPool : FnScope nPool ["_law_script"] (defScope sPool) := ⟨rfl, rfl, rfl, by decide +kernel, rfl, by decide +kernel, by decide +kernel⟩
theorem ok_pool {f : Addr} {fd : FuncData} (F : Fun K "_law_pool" "_law_pool" sPool f fd) (B : Blt mg) : FnOk P w K mg base CX0 1 f fd ["_law_script"] (spPool K) := by
  refine F.ok scPool (fun vs H Q E h => ?_) (fun cdv A outer s H vs Q E hr h => ?_)
  · obtain ⟨a, ns, rfl, _⟩ := h
    rfl
  · obtain ⟨a, ns, rfl, hS, hlen, k⟩ := h
    refine ⟨_, pss_cons (ps_if (pt_cmpR op_eq (pe_callB call_len_seq (by rfl) B.len PySem.boot_len (pa_cons (pv 0) pa_nil)) pe_int (nomark _)) (pss_one (ps_ret (pe_lst (pa_cons pe_int pa_nil)))) pss_nil)
      (pss_cons (ps_if (pt_cmpR op_ge (pe_ix ix_list (pv 0) pe_int (fun _ _ => rfl)) (pe_op op_pow pe_int pe_int) (nomark _))
        (pss_one (ps_ret (pe_lst (pa_cons (pe_op op_sub (pe_ix ix_list (pv 0) pe_int (fun _ _ => rfl)) (pe_op op_pow pe_int pe_int)) pa_nil)))) pss_nil)
      (pss_one (ps_ret (pe_lst (pa_cons pe_int (pa_cons pe_int (pa_cons
        (pe_lc (own := [("_law_cell", 1)]) (g := gName 1) (tt := tYes) rfl scPool.nd (pi_list (pv 0)) (blkOk_by (N := nPool) (sc := defScope sPool) (by decide +kernel))
          (fun _ _ _ _ _ => pg_name (i := 1) scPool.nd rfl (Or.inl rfl)) (fun _ _ _ _ _ => pts_nil)
          (fun _ _ _ _ _ => pe_op op_mod (pe_callTy call_int1 (by rfl) B.int (by decide +kernel) (pa_cons (pv 1) pa_nil)) pe_int)) pa_nil))))))), ?_⟩
    refine ⟨_, rfl, a, _, rfl, .inl hS, rfl, _, rfl, ?_⟩
    rw [List.length_map]
    by_cases h0 : ns.length = 0
    · have e : decide (V.int (ns.length : Int) = V.int 0) = true := decide_eq_true (by rw [h0]; rfl)
      rw [e]
      refine iteT ⟨(by show 1 ≤ sizeLine; decide), fun p hp => ?_⟩
      exact k p p _ (fun b o q => by rw [upd_ne (ne_of_none q hp)]; exact q) hp (.inl rfl) ⟨_, upd_same, .inl ⟨rfl, 0, rfl⟩⟩
    · have e : decide (V.int (ns.length : Int) = V.int 0) = false := decide_eq_false (fun q => h0 (by injection q with q; omega))
      rw [e]
      refine iteF ?_
      obtain ⟨n0, hn0⟩ : ∃ n0, ns[0]? = some n0 := ⟨ns[0], List.getElem?_eq_getElem (by omega)⟩
      have at0 : atI (ns.map V.int) 0 = some (V.int n0) := atI_nat (j := 0) (by rw [List.getElem?_map, hn0]; rfl)
      refine ⟨_, rfl, a, _, 0, _, rfl, rfl, hS, at0, 10, 18, rfl, rfl, ⟨by decide, by decide, by decide⟩, _, _, rfl, rfl, _, rfl, ?_⟩
      refine ite2 (fun _ => ?_) (fun _ => ?_)
      · refine ⟨_, rfl, a, _, 0, _, rfl, rfl, hS, at0, 10, 18, rfl, rfl, ⟨by decide, by decide, by decide⟩, _, _, rfl, rfl, (by show 1 ≤ sizeLine; decide), fun p hp => ?_⟩
        exact k p p _ (fun b o q => by rw [upd_ne (ne_of_none q hp)]; exact q) hp (.inl rfl) ⟨_, upd_same, .inl ⟨rfl, _, rfl⟩⟩
      · refine ⟨_, rfl, a, rfl, ⟨_, hS⟩, fun D hD => ?_⟩
        refine lc_list (K := K) (a := a) (xs := ns.map V.int) (fun i H' => Same H H' ∧ ∃ cs : List Int, H' D = some (.lst (cs.map V.int)) ∧ cs.length = i ∧ ∀ z ∈ cs, 0 ≤ z ∧ z < 65537)
          ⟨fun b o q => by rw [upd_ne (ne_of_none q hD)]; exact q, [], upd_same, rfl, fun z hz => nomatch hz⟩ (fun i H' _ ⟨s5, _⟩ => s5.seq hS) ?_ ?_
        · rintro i x H' hi ⟨s5, cs, hcs, hcl, hb⟩
          obtain ⟨z, hz, rfl⟩ := get_map hi
          have hil : i < ns.length := (List.getElem?_eq_some_iff.mp hz).1
          refine ⟨rfl, _, rfl, .inl ⟨z, rfl, z, 65537, rfl, rfl, (by show (0 : Int) < 65537; decide), cs.map V.int, hcs, small1000 (by rw [List.length_map]; omega), ?_⟩⟩
          refine ⟨fun b o q => ?_, cs ++ [z % 65537], ?_, by rw [List.length_append, hcl]; rfl, fun y hy => ?_⟩
          · have nb : b ≠ D := ne_of_none q hD
            rw [upd_ne nb]
            exact s5 b o q
          · rw [upd_same, List.map_append]
            rfl
          · rcases List.mem_append.mp hy with hy | hy
            · exact hb y hy
            · rw [List.mem_singleton.mp hy]
              exact ⟨Int.emod_nonneg _ (by decide), Int.emod_lt_of_pos _ (by decide)⟩
        · rintro H' ⟨s5, cs, hcs, hcl, hb⟩
          rw [List.length_map] at hcl
          refine ⟨(by show 3 ≤ sizeLine; decide), fun p hp => ?_⟩
          have npD : D ≠ p := ne_of_none hcs hp
          refine k p D _ (fun b o q => ?_) (s5.free hp) (.inr hD) ⟨_, upd_same, .inr ⟨1, 0, cs, rfl, npD, by rw [upd_ne npD]; exact hcs, by omega, by omega, hb, by decide, by decide⟩⟩
          rw [upd_ne (ne_of_none (s5 b o q) hp)]
          exact s5 b o q
end
end Yd
namespace Yd
open PySem L2
section
variable {P : Program} {w : World} {K : PySem.W.Frag} {mg : Str → Option Value} {base : Heap}
theorem scTake : FnScope ["_law_pool_here", "_law_size", "_law_value", "_law_cells"] ["_law_pool_here", "_law_size"] (defScope sTake) := ⟨rfl, rfl, rfl, by decide +kernel, rfl, by decide +kernel, by decide +kernel⟩
theorem at_c {α : Type} {xs : List α} {j : Nat} {v : α} (h : xs[j]? = some v) {z : Int} (e : z = (j : Int)) : atI xs z = some v := by rw [e]; exact atI_nat h
theorem ixN_c {n j : Nat} (h : j < n) {z : Int} (e : z = (j : Int)) : ixN n z = some j := by
  subst e
  unfold ixN
  rw [if_pos (by omega), if_pos (by omega), Int.toNat_natCast]
theorem len_one {xs : List V} {n : Int} (h : xs = [.int n]) : xs.length = 1 := by rw [h]; rfl
/-- what is left of a draw -/
theorem drawn {n v : Int} (h : 0 < n) : 0 ≤ v % n ∧ v % n < n := ⟨Int.emod_nonneg _ (by omega), Int.emod_lt_of_pos _ h⟩
theorem pow7 {x : Int} (h0 : 0 ≤ x) (h1 : x < 65537) : CPow x 7 := by
  refine ⟨by decide, by decide, ?_⟩
  have e : (65537 : Nat) < 2 ^ 64 := by decide
  omega
theorem ok_take {f : Addr} {fd : FuncData} (F : Fun K "_law_take" "_law_take" sTake f fd) (B : Blt mg) : FnOk P w K mg base CX0 1 f fd ["_law_pool_here", "_law_size"] spTake := by
  refine F.ok scTake (fun vs H Q E h => ?_) (fun cdv A outer s H vs Q E hr h => ?_)
  · obtain ⟨p, c, n, rfl, _⟩ := h
    rfl
  · obtain ⟨p, c, n, rfl, ⟨xs, hp, hx⟩, hn, hb, k⟩ := h
    refine ⟨_, pss_cons (ps_if (pt_cmpR op_eq (pe_callB call_len_seq (by rfl) B.len PySem.boot_len (pa_cons (pv 0) pa_nil)) pe_int (nomark _))
        (pss_cons (ps_set (i := 2) scTake.nd rfl (Or.inl rfl) (pe_op op_mod (pe_callTy call_int1 (by rfl) B.int (by decide +kernel) (pa_cons (pe_ix ix_list (pv 0) pe_int (fun _ _ => rfl)) pa_nil)) (pv 1)))
        (pss_cons (ps_asg (pe_op op_fdivW (pe_ix ix_list (pv 0) pe_int (fun _ _ => rfl)) (pv 1)) (pg_sub (pv 0) pe_int set_list))
        (pss_one (ps_ret (pv 2))))) pss_nil)
      (pss_cons (ps_set (i := 3) scTake.nd rfl (Or.inl rfl) (pe_ix ix_list (pv 0) pe_int (fun _ _ => rfl)))
      (pss_cons (ps_asg (pe_op op_mod (pe_callTy call_int1 (by rfl) B.int (by decide +kernel) (pa_cons (pe_op op_add (pe_op op_add (pe_op op_mul (pe_ix ix_list (pv 0) pe_int (fun _ _ => rfl)) pe_int)
          (pe_ix ix_list (pv 3) (pe_op op_mod (pe_callTy call_int1 (by rfl) B.int (by decide +kernel) (pa_cons (pe_ix ix_list (pv 0) pe_int (fun _ _ => rfl)) pa_nil)) (pe_callB call_len_seq (by rfl) B.len PySem.boot_len (pa_cons (pv 3) pa_nil))) (fun _ _ => rfl))) pe_int) pa_nil)) pe_int)
          (pg_sub (pv 0) pe_int set_list))
      (pss_cons (ps_asg (pe_op op_add (pe_ix ix_list (pv 0) pe_int (fun _ _ => rfl)) pe_int) (pg_sub (pv 0) pe_int set_list))
      (pss_cons (ps_if (pt_cmpR op_gt (pv 1) pe_int (nomark _))
        (pss_one (ps_ret (pe_op op_mod (pe_callTy call_int1 (by rfl) B.int (by decide +kernel) (pa_cons (pe_op op_pow (pe_ix ix_list (pv 0) pe_int (fun _ _ => rfl)) pe_int) pa_nil)) (pv 1)))) pss_nil)
      (pss_one (ps_ret (pe_op op_mod (pe_callTy call_int1 (by rfl) B.int (by decide +kernel) (pa_cons (pe_ix ix_list (pv 0) pe_int (fun _ _ => rfl)) pa_nil)) (pv 1)))))))), ?_⟩
    rcases hx with ⟨hcc, m, rfl⟩ | ⟨x, i, cs, rfl, hcp, hc, hl0, hl1, hcs, hx0, hx1⟩
    · refine ⟨_, rfl, p, _, rfl, .inl (SqL.of hp), rfl, _, rfl, ?_⟩
      refine yes (by rfl) ?_
      have a0 : atI [V.int m] 0 = some (V.int m) := at_c (j := 0) rfl rfl
      refine ⟨_, rfl, p, _, 0, _, rfl, rfl, SqL.of hp, a0, .inl ⟨m, rfl, _, rfl, m, n, rfl, rfl, hn, ?_⟩⟩
      refine ⟨_, rfl, p, _, 0, _, rfl, rfl, SqL.of hp, a0, _, rfl, m, n, rfl, rfl, wide_div hn hb (by decide) (by decide), ?_⟩
      refine ⟨_, rfl, p, _, 0, 0, rfl, rfl, hp, ixN_c (by show 0 < 1; omega) rfl, ?_⟩
      refine ⟨_, rfl, ?_⟩
      exact k _ _ (drawn hn).1 (drawn hn).2 .own ⟨_, upd_same, .inl ⟨hcc, _, rfl⟩⟩
    · refine ⟨_, rfl, p, _, rfl, .inl (SqL.of hp), rfl, _, rfl, ?_⟩
      refine no (by rfl) ?_
      have hn0 : 0 < ((cs.map V.int).length : Int) := by rw [List.length_map]; omega
      obtain ⟨z, hz⟩ : ∃ z, atI (cs.map V.int) (i % ((cs.map V.int).length : Int)) = some (V.int z) := by
        have d := drawn (v := i) hn0
        obtain ⟨j, ej⟩ : ∃ j : Nat, i % ((cs.map V.int).length : Int) = (j : Int) := ⟨(i % ((cs.map V.int).length : Int)).toNat, by omega⟩
        have hj : j < cs.length := by rw [List.length_map] at d ej; omega
        exact ⟨cs[j], at_c (j := j) (by rw [List.getElem?_map, List.getElem?_eq_getElem hj]; rfl) ej⟩
      refine ⟨_, rfl, p, _, 2, _, rfl, rfl, SqL.of hp, at_c (j := 2) rfl rfl, ?_⟩
      refine ⟨_, rfl, p, _, 0, _, rfl, rfl, SqL.of hp, at_c (j := 0) rfl rfl, x, 75, rfl, rfl, .inl ⟨by omega, by omega⟩, ?_⟩
      refine ⟨_, rfl, _, rfl, p, _, 1, _, rfl, rfl, SqL.of hp, at_c (j := 1) rfl rfl, .inl ⟨i, rfl, ?_⟩⟩
      refine ⟨_, rfl, c, _, rfl, .inl (SqL.of hc), i, _, rfl, rfl, hn0, ?_⟩
      refine ⟨c, _, _, _, rfl, rfl, SqL.of hc, hz, _, _, rfl, rfl, _, 74, rfl, rfl, .inl ⟨_, rfl, _, 65537, rfl, rfl, (by show (0 : Int) < 65537; decide), ?_⟩⟩
      refine ⟨_, rfl, p, _, 0, 0, rfl, rfl, hp, ixN_c (by show 0 < 3; omega) rfl, ?_⟩
      have d2 := drawn (n := 65537) (v := x * 75 + z + 74) (by decide)
      refine ⟨_, rfl, p, _, 1, _, rfl, rfl, SqL.of upd_same, at_c (j := 1) rfl rfl, _, 1, rfl, rfl, ?_⟩
      refine ⟨_, rfl, p, _, 1, 1, rfl, rfl, upd_same, ixN_c (by show 1 < 3; omega) rfl, ?_⟩
      rw [upd_upd]
      have hP : Pool (upd H p (.lst [V.int ((x * 75 + z + 74) % 65537), V.int (i + 1), V.ref c])) p c :=
        ⟨_, upd_same, .inr ⟨_, _, cs, rfl, hcp, by rw [upd_ne hcp]; exact hc, hl0, hl1, hcs, d2.1, d2.2⟩⟩
      refine ⟨_, rfl, n, 60000, rfl, rfl, _, rfl, ?_⟩
      refine ite2 (fun _ => ?_) (fun _ => ?_)
      · refine ⟨_, rfl, p, _, 0, _, rfl, rfl, SqL.of upd_same, at_c (j := 0) rfl rfl, _, 7, rfl, rfl, pow7 d2.1 d2.2, .inl ⟨_, rfl, _, rfl, _, n, rfl, rfl, hn, ?_⟩⟩
        exact k _ _ (drawn hn).1 (drawn hn).2 .own hP
      · refine ⟨_, rfl, p, _, 0, _, rfl, rfl, SqL.of upd_same, at_c (j := 0) rfl rfl, .inl ⟨_, rfl, _, rfl, _, n, rfl, rfl, hn, ?_⟩⟩
        exact k _ _ (drawn hn).1 (drawn hn).2 .own hP
end
end Yd
namespace Yd
open PySem L2
/-! ### the base and the names -/
theorem Sgn.nil : Sgn "" := fun s h => by have e : ("" : Str).cps.toList = [] := by decide +kernel
                                          rw [e] at h; cases h
theorem Sgn.app {a b : Str} (x : Sgn a) (y : Sgn b) : Sgn (a ++ b) := fun s h => by
  have e : (a ++ b).cps.toList = a.cps.toList ++ b.cps.toList := by show (a.cps ++ b.cps).toList = _; rw [Array.toList_append]
  rw [e] at h
  exact (List.mem_append.mp h).elim (x s) (y s)
theorem Sgn.cut {z : Str} (x : Sgn z) (lo hi : Option Int) : Sgn (cutS z lo hi) := fun s h => by
  have h : s ∈ ((z.cps.toList.drop (HT.sIx z.length 0 lo)).take (HT.sIx z.length z.length hi - HT.sIx z.length 0 lo)) := by simpa [cutS] using h
  exact x s (List.mem_of_mem_drop (List.mem_of_mem_take h))
theorem Sgn.one {c : Nat} (h : c ∈ ("mnopqrstuvwxyz0123456789" : Str).cps.toList) : Sgn ⟨#[c]⟩ := fun s hs => by
  have e : s = c := by simpa using hs
  rw [e]; exact h
theorem len_app (a b : Str) : (a ++ b).length = a.length + b.length := by show (a.cps ++ b.cps).size = _; rw [Array.size_append]; rfl
theorem join_ok : ∀ ys : List Str, (∀ y ∈ ys, Sgn y ∧ y.length = 1) → Sgn (Txt.join "" ys) ∧ (Txt.join "" ys).length = ys.length
  | [], _ => ⟨Sgn.nil, by decide +kernel⟩
  | [y], h => h y (List.mem_singleton.mpr rfl)
  | y :: z :: r, h => by
    have ih := join_ok (z :: r) fun q hq => h q (List.mem_cons_of_mem _ hq)
    have h0 := h y (List.mem_cons_self ..)
    have e0 : ("" : Str).length = 0 := by decide +kernel
    have e : Txt.join "" (y :: z :: r) = y ++ "" ++ Txt.join "" (z :: r) := by
      show Builtin.Str.glued "" (y :: z :: r) = y ++ "" ++ Builtin.Str.glued "" (z :: r)
      rw [StrLaws.glued_eq_join, StrLaws.glued_eq_join]
      rfl
    rw [e]
    refine ⟨(h0.1.app Sgn.nil).app ih.1, ?_⟩
    rw [len_app, len_app, ih.2, h0.2, e0, List.length_cons (a := y)]
    omega
theorem sum_ones : ∀ {ys : List Str}, (∀ y ∈ ys, Sgn y ∧ y.length = 1) → (ys.map (·.length)).sum = ys.length
  | [], _ => rfl
  | y :: r, h => by
    have ih := sum_ones (ys := r) fun q hq => h q (List.mem_cons_of_mem _ hq)
    rw [List.map_cons, List.sum_cons, ih, (h y (List.mem_cons_self ..)).2, List.length_cons]
    omega
structure Fn (K : PySem.W.Frag) (mg : Str → Option Value) (x : Str) (st : Stmt) (ps : List Str) (f : Addr) (fd : FuncData) : Prop where
  F : Fun K x x st f fd
  g : mg x = some (.ref f)
  b : Binds K fd ps []
section
variable {P : Program} {w : World} {K : PySem.W.Frag} {mg : Str → Option Value} {base : Heap}
def nBase : List Str := ["_law_pool_here", "_law_signs", "_law_k"]
theorem scBase : FnScope nBase ["_law_pool_here"] (defScope sBase) := ⟨rfl, rfl, rfl, by decide +kernel, rfl, by decide +kernel, by decide +kernel⟩
theorem sgn_at {v : Int} (h0 : 0 ≤ v) (h1 : v < 24) : ∃ c, atI ("mnopqrstuvwxyz0123456789" : Str).cps.toList v = some c ∧ c ∈ ("mnopqrstuvwxyz0123456789" : Str).cps.toList := by
  have hl : ("mnopqrstuvwxyz0123456789" : Str).cps.toList.length = 24 := by decide +kernel
  have hj : v.toNat < ("mnopqrstuvwxyz0123456789" : Str).cps.toList.length := by omega
  exact ⟨_, at_c (j := v.toNat) (z := v) (List.getElem?_eq_getElem hj) (by omega), List.getElem_mem hj⟩
theorem ok_base {f fT : Addr} {fd fdT : FuncData} (F : Fun K "_law_base" "_law_base" sBase f fd) (B : Blt mg) (T : Fn K mg "_law_take" sTake ["_law_pool_here", "_law_size"] fT fdT) : FnOk P w K mg base CX0 2 f fd ["_law_pool_here"] (spBase 12) := by
  have GT : FnOk P w K mg base CX0 1 fT fdT ["_law_pool_here", "_law_size"] spTake := ok_take T.F B
  refine F.ok scBase (fun vs H Q E h => ?_) (fun cdv A outer s H vs Q E hr h => ?_)
  · obtain ⟨p, c, rfl, _⟩ := h
    rfl
  · obtain ⟨p, c, rfl, hP, k⟩ := h
    refine ⟨_, pss_cons (ps_set (i := 1) scBase.nd rfl (Or.inr rfl) pe_str)
      (pss_one (ps_ret (pe_join pe_str (pe_lc (own := [("_law_k", 2)]) (g := gName 2) (tt := tYes) rfl scBase.nd
        (pi_range1 rfl B.range (pa_cons (pe_call GT hr rfl T.g T.F.kp T.b .nil pass0 (pa_cons (pv 0) (pa_cons pe_int pa_nil))) pa_nil))
        (blkOk_by (N := nBase) (sc := defScope sBase) (by decide +kernel))
        (fun _ _ _ _ _ => pg_name (i := 2) scBase.nd rfl (Or.inl rfl)) (fun _ _ _ _ _ => pts_nil)
        (fun _ _ _ _ _ => pe_ix ix_str (pv 1) (pe_call GT hr rfl T.g T.F.kp T.b .nil pass0 (pa_cons (pv 0) (pa_cons pe_int pa_nil))) (fun _ _ => rfl)))))), ?_⟩
    refine ⟨⟨_, rfl⟩, _, rfl, p, c, 12, rfl, hP, by decide, by decide, fun n H1 n0 n1 g1 P1 => ⟨n, rfl, by omega, by omega, fun D hD => ?_⟩⟩
    obtain ⟨nDp, nDc⟩ := P1.ne hD
    refine lc_range (lo := 0) (n := n.toNat) (fun i H' => Gro p H H' ∧ Pool H' p c ∧ ∃ ys : List Str, H' D = some (.lst (ys.map V.str)) ∧ ys.length = i ∧ ∀ y ∈ ys, Sgn y ∧ y.length = 1)
      ⟨g1.trans (.new hD), P1.new hD, [], upd_same, rfl, fun y hy => nomatch hy⟩ ?_ ?_
    · rintro i H' hi ⟨g5, P5, ys, hys, hyl, hb⟩
      refine ⟨rfl, _, rfl, _, rfl, p, c, 24, rfl, P5, by decide, by decide, fun v H6 v0 v1 g6 P6 => ?_⟩
      obtain ⟨ch, hch, hm⟩ := sgn_at v0 v1
      have h6 : H6 D = some (.lst (ys.map V.str)) := g6 D _ hys nDp
      refine ⟨_, v, ch, rfl, rfl, (by decide +kernel), hch, ys.map V.str, h6, small1000 (by rw [List.length_map]; omega), ?_⟩
      refine ⟨fun b o q hb' => ?_, P6.off nDp nDc, ys ++ [⟨#[ch]⟩], ?_, by rw [List.length_append, hyl]; rfl, fun y hy => ?_⟩
      · rw [upd_ne (ne_of_none (g1 b o q hb') hD)]
        exact g6 b o (g5 b o q hb') hb'
      · rw [upd_same, List.map_append]
        rfl
      · rcases List.mem_append.mp hy with hy | hy
        · exact hb y hy
        · rw [List.mem_singleton.mp hy]
          exact ⟨Sgn.one hm, rfl⟩
    · rintro H' ⟨g5, P5, ys, hys, hyl, hb⟩
      have j := join_ok ys hb
      refine ⟨_, D, ys, rfl, rfl, .inl (SqL.of hys), ?_, ?_⟩
      · have e0 : ("" : Str).length = 0 := by decide +kernel
        rw [sum_ones hb, e0]
        omega
      · exact k _ _ (by rw [j.2]; omega) j.1 g5 P5
def nName : List Str := ["_law_pool_here", "_law_base_here", "_law_k", "_law_text", "_law_at"]
theorem scName : FnScope nName ["_law_pool_here", "_law_base_here", "_law_k"] (defScope sName) := ⟨rfl, rfl, rfl, by decide +kernel, rfl, by decide +kernel, by decide +kernel⟩
theorem small16 {n : Nat} (h : n ≤ 16) : n ≤ sizeLine := Nat.le_trans h (by decide)
theorem ok_name {f fT : Addr} {fd fdT : FuncData} (F : Fun K "_law_name" "_law_name" sName f fd) (B : Blt mg) (T : Fn K mg "_law_take" sTake ["_law_pool_here", "_law_size"] fT fdT) : FnOk P w K mg base CX0 2 f fd ["_law_pool_here", "_law_base_here", "_law_k"] spName := by
  have GT : FnOk P w K mg base CX0 1 fT fdT ["_law_pool_here", "_law_size"] spTake := ok_take T.F B
  refine F.ok scName (fun vs H Q E h => ?_) (fun cdv A outer s H vs Q E hr h => ?_)
  · obtain ⟨p, c, b, k, rfl, _⟩ := h
    rfl
  · obtain ⟨p, c, b, kk, rfl, hP, hb, hsb, hk, k⟩ := h
    refine ⟨_, pss_cons (ps_set (i := 3) scName.nd rfl (Or.inl rfl) (pe_slice sl_str (pv 1) po_none (po_some (pe_call GT hr rfl T.g T.F.kp T.b .nil pass0 (pa_cons (pv 0) (pa_cons (pe_op op_add (pe_callB call_len_str (by rfl) B.len PySem.boot_len (pa_cons (pv 1) pa_nil)) pe_int) pa_nil))))))
      (pss_cons (ps_set (i := 4) scName.nd rfl (Or.inl rfl) (pe_call GT hr rfl T.g T.F.kp T.b .nil pass0 (pa_cons (pv 0) (pa_cons (pe_op op_add (pe_callB call_len_str (by rfl) B.len PySem.boot_len (pa_cons (pv 3) pa_nil)) pe_int) pa_nil))))
      (pss_one (ps_ret (pe_op op_add_str (pe_op op_add_str (pe_slice sl_str (pv 3) po_none (po_some (pv 4))) (pe_ix ix_str pe_str (pv 2) (fun _ _ => rfl))) (pe_slice sl_str (pv 3) (po_some (pv 4)) po_none))))), ?_⟩
    have n20 : ∀ n : Nat, n ≤ 11 → ((n : Int) + 1).natAbs < 2 ^ 200 := fun n h => Nat.lt_of_le_of_lt (m := 12) (by omega) (by decide)
    refine ⟨_, rfl, _, rfl, _, rfl, b, rfl, small16 (by omega), _, 1, rfl, rfl, p, c, _, rfl, hP, by omega, n20 _ hb, fun v H1 v0 v1 g1 P1 => ⟨v, rfl, b, rfl, small16 (by omega), ?_⟩⟩
    generalize hz : cutS b none (some v) = z
    have hzl : z.length ≤ 11 := by rw [← hz]; exact Nat.le_trans (cutS_length _ _ _) hb
    have hzs : Sgn z := by rw [← hz]; exact hsb.cut _ _
    refine ⟨_, rfl, _, rfl, z, rfl, small16 (by omega), _, 1, rfl, rfl, p, c, _, rfl, P1, by omega, n20 _ hzl, fun u H2 u0 u1 g2 P2 => ?_⟩
    obtain ⟨sg, hsg⟩ : ∃ sg, ("afkdibglejch" : Str).cps.toList[kk]? = some sg := ⟨_, List.getElem?_eq_getElem (by have : ("afkdibglejch" : Str).cps.toList.length = 12 := by decide +kernel
                                                                                                                  omega)⟩
    have l1 := cutS_length z none (some u)
    have l2 := cutS_length z (some u) none
    have lt : (cutS z none (some u)).length + (cutS z (some u) none).length ≤ z.length := by
      obtain ⟨j, rfl⟩ : ∃ j : Nat, u = (j : Int) := ⟨u.toNat, by omega⟩
      have e1 : ∀ lo hi, (cutS z lo hi).length = min (HT.sIx z.length z.length hi - HT.sIx z.length 0 lo) (z.length - HT.sIx z.length 0 lo) := fun lo hi => by
        show (((z.cps.toList.drop (HT.sIx z.length 0 lo)).take (HT.sIx z.length z.length hi - HT.sIx z.length 0 lo)).toArray).size = _
        rw [List.size_toArray, List.length_take, List.length_drop, Array.length_toList]
        rfl
      simp only [e1, HT.sIx_none, HT.sIx_nat]
      omega
    have o1 : (⟨#[sg]⟩ : Str).length = 1 := rfl
    refine ⟨_, rfl, _, rfl, u, rfl, z, rfl, small16 (by omega), _, rfl, _, kk, sg, rfl, rfl, (by decide +kernel), at_c (j := kk) hsg rfl, _, _, rfl, rfl, small16 (by omega), ?_⟩
    refine ⟨_, rfl, _, rfl, u, rfl, z, rfl, small16 (by omega), _, _, rfl, rfl, small16 (by rw [len_app]; omega), ?_⟩
    exact k _ _ ⟨by rw [len_app, len_app]; omega, sg, _, _, hsg, rfl, hzs.cut _ _, hzs.cut _ _⟩ (g1.trans g2) P2
end
end Yd
namespace Yd
open PySem L2
/-! ### == and in of data -/
section
variable {X : Cx}
/-- both read as the same data -/
def rEqS (K : PySem.W.Frag) : R2 := fun x y H Q => ∃ d, Dp K H x d ∧ Dp K H y d ∧ d.plain = true ∧ d.depth ≤ 60 ∧ Q (.bl true) H
def rNeS (K : PySem.W.Frag) : R2 := fun x y H Q => ∃ d, Dp K H x d ∧ Dp K H y d ∧ d.plain = true ∧ d.depth ≤ 60 ∧ Q (.bl false) H
theorem op_eqS (hu : X.A.units + 64 < cLine) : OpR X (compareOp .Eq) (rEqS X.K) := by
  intro pins s σ H x y v u Q I rx ry h
  obtain ⟨d, hd, he, pd, dd, q⟩ := h
  obtain ⟨as, r1⟩ := Dp.reads I d x v hd rx
  obtain ⟨bs, r2⟩ := Dp.reads I d y u he ry
  refine SeqAt.eq_plain r1 r2 pd pd (by omega) ⟨.bl _, H, I, rfl, ?_⟩
  rw [SeqAt.eqv_refl_plain d pd]
  exact q
theorem op_neS (hu : X.A.units + 64 < cLine) : OpR X (compareOp .NotEq) (rNeS X.K) := by
  intro pins s σ H x y v u Q I rx ry h
  obtain ⟨d, hd, he, pd, dd, q⟩ := h
  obtain ⟨as, r1⟩ := Dp.reads I d x v hd rx
  obtain ⟨bs, r2⟩ := Dp.reads I d y u he ry
  refine SeqAt.ne_plain r1 r2 pd pd (by omega) ⟨.bl _, H, I, rfl, ?_⟩
  rw [SeqAt.eqv_refl_plain d pd]
  exact q
/-- an item in a list, both with a Lean type -/
def rInY (K : PySem.W.Frag) (α : Type) [DecidableEq α] [PySem.W.Datum α] : R2 := fun x y H Q => ∃ (a : α) (as : List α), Dp K H x (PySem.W.Datum.toD a) ∧ Dp K H y (.list (as.map PySem.W.Datum.toD)) ∧ Q (.bl (decide (a ∈ as))) H
theorem any_toD {α : Type} [DecidableEq α] [PySem.W.Datum α] (a : α) : ∀ as : List α, ((as.map PySem.W.Datum.toD).any fun z => PyData.eqv z (PySem.W.Datum.toD a)) = decide (a ∈ as)
  | [] => by simp
  | b :: bs => by
    rw [List.map_cons, List.any_cons, any_toD a bs, PySem.W.Datum.eqv, ← Bool.decide_or]
    refine decide_eq_decide.mpr ?_
    rw [List.mem_cons]
    exact ⟨fun h => h.imp Eq.symm id, fun h => h.imp Eq.symm id⟩
theorem op_inY {α : Type} [DecidableEq α] [PySem.W.Datum α] (hd : PySem.W.Datum.depth α ≤ 60) (hu : X.A.units + 65 < cLine) : OpR X (compareOp .In) (rInY X.K α) := by
  intro pins s σ H x y v u Q I rx ry h
  obtain ⟨a, as, h1, h2, q⟩ := h
  obtain ⟨_, r1⟩ := Dp.reads I _ x v h1 rx
  obtain ⟨_, r2⟩ := Dp.reads I _ y u h2 ry
  have d1 := PySem.W.Datum.depth_le (α := α) a
  refine SeqAt.in_list_data r2 r1 (PySem.W.plainAll_map as) (PySem.W.Datum.plain a) (by omega) ⟨.bl _, H, I, rfl, ?_⟩
  rw [any_toD]
  exact q
end
theorem dp_strs {K : PySem.W.Frag} {H : Hp} : ∀ ss : List Str, DpAll K H (ss.map V.str) (ss.map PyData.str)
  | [] => .nil
  | s :: ss => .cons (.str s) (dp_strs ss)
theorem plain_strs (ss : List Str) : PyData.plainAll (ss.map PyData.str) = true := PySem.W.plainAll_map (α := Str) ss
theorem depth_strs (ss : List Str) : PyData.depthAll (ss.map PyData.str) ≤ 0 := PySem.W.depthAll_map (α := Str) ss
theorem plain_tup (ss : List Str) : (PyData.tuple (ss.map PyData.str)).plain = true := by simp only [PyData.plain]; exact plain_strs ss
theorem depth_tup (ss : List Str) : (PyData.tuple (ss.map PyData.str)).depth ≤ 60 := by
  have h := depth_strs ss
  simp only [PyData.depth]
  omega
theorem plain_lst (ss : List Str) : (PyData.list (ss.map PyData.str)).plain = true := by simp only [PyData.plain]; exact plain_strs ss
theorem depth_lst (ss : List Str) : (PyData.list (ss.map PyData.str)).depth ≤ 60 := by
  have h := depth_strs ss
  simp only [PyData.depth]
  omega
/-- a tuple of texts -/
theorem dp_tup {K : PySem.W.Frag} {H : Hp} {a : Addr} {ss : List Str} (h : SqT K H a (ss.map V.str)) : Dp K H (.ref a) (.tuple (ss.map PyData.str)) := .tup h (dp_strs ss)
theorem dp_lst {K : PySem.W.Frag} {H : Hp} {a : Addr} {ss : List Str} (h : SqL K H a (ss.map V.str)) : Dp K H (.ref a) (.list (ss.map PyData.str)) := .lst h (dp_strs ss)
/-- a list of pairs of texts -/
def PairsAt (H : Hp) : List V → List (Str × Str) → Prop
  | [], [] => True
  | v :: xs, p :: ps => (∃ t, v = .ref t ∧ H t = some (.tup [.str p.1, .str p.2])) ∧ PairsAt H xs ps
  | _, _ => False
theorem PairsAt.keep {H H' : Hp} (k : ∀ t xs, H t = some (.tup xs) → H' t = some (.tup xs)) : ∀ {xs : List V} {ps : List (Str × Str)}, PairsAt H xs ps → PairsAt H' xs ps
  | [], [], _ => True.intro
  | v :: xs, p :: ps, ⟨⟨t, e, h⟩, r⟩ => ⟨⟨t, e, k _ _ h⟩, PairsAt.keep k r⟩
  | [], _ :: _, h => h.elim
  | _ :: _, [], h => h.elim
theorem PairsAt.snoc {H : Hp} {t : Addr} {p : Str × Str} (e : H t = some (.tup [.str p.1, .str p.2])) : ∀ {xs : List V} {ps : List (Str × Str)}, PairsAt H xs ps → PairsAt H (xs ++ [.ref t]) (ps ++ [p])
  | [], [], _ => ⟨⟨t, rfl, e⟩, True.intro⟩
  | v :: xs, q :: ps, ⟨h, r⟩ => ⟨h, PairsAt.snoc e r⟩
  | [], _ :: _, h => h.elim
  | _ :: _, [], h => h.elim
theorem PairsAt.len {H : Hp} : ∀ {xs : List V} {ps : List (Str × Str)}, PairsAt H xs ps → xs.length = ps.length
  | [], [], _ => rfl
  | v :: xs, q :: ps, ⟨_, r⟩ => by rw [List.length_cons, List.length_cons, PairsAt.len r]
  | [], _ :: _, h => h.elim
  | _ :: _, [], h => h.elim
theorem dp_pair {K : PySem.W.Frag} {H : Hp} {t : Addr} {p : Str × Str} (h : H t = some (.tup [.str p.1, .str p.2])) : Dp K H (.ref t) (PySem.W.Datum.toD p) := .tup (SqT.of h) (.cons (.str _) (.cons (.str _) .nil))
theorem PairsAt.dp {K : PySem.W.Frag} {H : Hp} : ∀ {xs : List V} {ps : List (Str × Str)}, PairsAt H xs ps → DpAll K H xs (ps.map PySem.W.Datum.toD)
  | [], [], _ => .nil
  | v :: xs, q :: ps, ⟨⟨t, e, h⟩, r⟩ => by subst e; exact .cons (dp_pair h) (PairsAt.dp r)
  | [], _ :: _, h => h.elim
  | _ :: _, [], h => h.elim
end Yd
namespace Yd
open PySem L2
/-! ### own __getitem__ and __setitem__ -/
section
open PySem.W
theorem deeper1 {P : Program} {w : World} {K : Frag} {mg : Str → Option Value} {base : Heap} {A : Around} {out : List Env} {s : Shared} {H : Hp} (e : Env0 P w K mg base A out s H) : Env0 P w K mg base A.in1 out s H :=
  ⟨by exact e.frames, e.mod, e.bs, e.bsz, e.funs, e.frf, e.hok, e.bare⟩
theorem at_all {CX : CXT} {X : Cx} {E : XK} (h : Passes CX X E) : ∀ σ : St, PassesAt CX X σ E := fun σ pins H s e s' I c => h pins σ H s e s' I c
variable {X : Cx} {CX : CXT} {k : Nat} {f C : Addr} {fd : FuncData} {ps : List Str} {sp : Sp} {E : St → XK} {pos : Pos} {o i : Expr} {to ti : TE}
/-- a call of a def one level down -/
theorem run_in1 {pins : List (Addr × Obj)} {σ : St} {H : Hp} {s : Shared} {Q : VK} {us : List Value} {vs : List V} (F : FnOk X.prog X.w X.K X.mg X.base CX k f fd ps sp) (hr : Room (k + 1) X.A) (hb : Binds X.K fd ps []) (hx : PassesAt CX X σ (E σ))
    (I : Inv X pins σ H s) (r : Vals vs us) (h : sp vs H Q (E σ)) : wpAny (model X.prog X.w) X.A.in1 (call (.ref f) us) (EP X pins σ Q) X.xe s := by
  have hl : (us ++ []).length = ps.length := by rw [List.append_nil, ← r.length]; exact F.len _ _ _ _ h
  have b := hb s us I.kIn hl
  rw [List.append_nil] at b
  refine wpAny_call (codeAny_mono (F.run X.A.in1 X.stack s H ⟨us, []⟩ us vs Q (E σ) hr.in1 (deeper1 I.env0) b r h) fun r s' hq => ?_)
  match r, hq with
  | .error e, hq => exact hx pins H s e s' I hq
  | .ok (.ret u), hq => exact I.after hq
/-- an own class whose items are read by a def of its own -/
structure ItemC (K : Frag) (C : Addr) (m : Str) (f : Addr) : Prop where
  at_ : findIn K (.ref C) m = some (some (.ref f))
  fn : isFn K (.ref f) = true
  fi : fnIn K f = true
  noq : noSeq K C = true
def tSubO (C : Addr) (sp : Sp) (E : St → XK) (to ti : TE) : TE := fun σ H Q => to σ H fun x H1 => ti σ H1 fun y H2 => ∃ a dx fs, x = .ref a ∧ H2 a = some (.ins C dx fs) ∧ sp [x, y] H2 Q (E σ)
theorem pe_subO (ho : PE X o to) (hi : PE X i ti) (c : ItemC X.K C "__getitem__" f) (F : FnOk X.prog X.w X.K X.mg X.base CX k f fd ps sp) (hr : Room (k + 1) X.A) (hb : Binds X.K fd ps []) (hx : ∀ σ, PassesAt CX X σ (E σ))
    (hsl : ∀ x i', subscripted i true (.ref x) i' = runValue (.builtin "lifetime.subscript" ⟨[.ref x, i'], []⟩) := by intro _ _; with_unfolding_all rfl) : PE X (.Subscript o i pos) (tSubO C sp E to ti) := by
  refine ⟨fun pins s σ H Q I h => PyProof.Rows.Subscript_ (binT (R := fun x y H2 => ∃ a dx fs, x = V.ref a ∧ H2 a = some (.ins C dx fs) ∧ sp [x, y] H2 Q (E σ)) ho hi I h fun v u s2 x y H2 I2 rx ry hq => ?_)⟩
  obtain ⟨a, dx, fs, rfl, ha, q⟩ := hq
  obtain rfl : v = Value.ref a := rx
  obtain ⟨m, hF⟩ := I2.fr
  obtain ⟨mA, O, _⟩ := ins_get I2.hok ha
  obtain ⟨oa, J, _⟩ := O.look
  exact sub_K hF I2.ok.mod.kin J c.at_ c.fi c.fn (run_in1 F hr hb (hx σ) I2 (Paired.cons (a := V.ref a) rfl (.cons ry .nil)) q) (hsl a u)
def gSubO (C : Addr) (sp : Sp) (E : St → XK) (to ti : TE) : TG := fun v σ H Q => to σ H fun x H1 => ti σ H1 fun y H2 => ∃ a dx fs, x = .ref a ∧ H2 a = some (.ins C dx fs) ∧ sp [x, y, v] H2 (fun _ H3 => Q σ H3) (E σ)
theorem pg_subO (ho : PE X o to) (hi : PE X i ti) (c : ItemC X.K C "__setitem__" f) (F : FnOk X.prog X.w X.K X.mg X.base CX k f fd ps sp) (hr : Room k X.A) (hb : Binds X.K fd ps []) (hx : ∀ σ, PassesAt CX X σ (E σ))
    (ha : ∀ v, assign (.Subscript o i pos) X.env v = (do
      let ov ← holding [v] (eval o X.env)
      let iv ← holding [v, ov] (eval i X.env)
      standAt pos
      holding [v, ov, iv] (setItem ov iv v)
      release [v, ov, iv] []) := by intro _; rfl) : PG X (.Subscript o i pos) (gSubO C sp E to ti) := by
  refine ⟨fun pins s σ H v u Q I r h => ?_⟩
  rw [ha]
  refine wpAny_bind (wpAny_holding (thn (ho.run pins s σ H _ I h) fun ov s1 ⟨x, H1, I1, r1, q1⟩ => wpAny_bind (wpAny_holding (thn (hi.run pins s1 σ H1 _ I1 q1) fun iv s2 ⟨y, H2, I2, r2, a, dx, fs, ex, e2, q2⟩ => ?_))))
  subst ex
  obtain rfl : ov = Value.ref a := r1
  obtain ⟨m, hF⟩ := I2.fr
  obtain ⟨mA, O, _⟩ := ins_get I2.hok e2
  obtain ⟨oa, J, _⟩ := O.look
  refine wpAny_bind (wpAny_standAt (wpAny_bind (wpAny_holding (ksp_setItem hF I2.ok.mod.kin J c.noq c.at_ c.fn (thn (run_fnS F hr hb (hx σ) I2 (Paired.cons (a := V.ref a) rfl (.cons r2 (.cons r .nil))) q2) fun _ s3 ⟨_, H3, I3, _, q3⟩ => wpAny_release ⟨σ, H3, I3, q3⟩)))))
end
end Yd
namespace Yd
open PySem L2
/-! ### own __contains__, __len__, operators and comparisons -/
section
open PySem.W
variable {X : Cx} {CX : CXT} {k : Nat} {f C : Addr} {fd : FuncData} {ps : List Str} {sp : Sp} {E : XK}
/-- the def m of the class at C -/
structure OpC (K : Frag) (C : Addr) (m : Str) (f : Addr) : Prop where
  at_ : findIn K (.ref C) m = some (some (.ref f))
  fn : isFn K (.ref f) = true
/-- x in o -/
def rOwnIn (C : Addr) (sp : Sp) (E : XK) (yes : Bool) : R2 := fun x y H Q => ∃ a dx fs, y = .ref a ∧ H a = some (.ins C dx fs) ∧ sp [y, x] H (fun v H' => ∃ b, v = .bl b ∧ Q (.bl (b == yes)) H') E
theorem op_inO (c : OpC X.K C "__contains__" f) (F : FnOk X.prog X.w X.K X.mg X.base CX k f fd ps sp) (hr : Room k X.A) (hb : Binds X.K fd ps []) (hx : Passes CX X E) : OpR X (compareOp .In) (rOwnIn C sp E true) := by
  intro pins s σ H x y v u Q I rx ry h
  obtain ⟨a, dx, fs, rfl, ha, q⟩ := h
  obtain rfl : u = Value.ref a := ry
  obtain ⟨m, hF⟩ := I.fr
  obtain ⟨mA, O, _⟩ := ins_get I.hok ha
  obtain ⟨oa, J, _⟩ := O.look
  refine in_K hF I.ok.mod.kin J c.at_ c.fn (thn (run_fn (us := [.ref a, v]) (vs := [.ref a, x]) F hr hb .nil hx I (.cons rfl (.cons rx .nil)) q) fun r s1 ⟨z, H1, I1, rz, b, ez, q1⟩ => ?_)
  subst ez
  obtain rfl : r = Value.bool b := rz
  refine wpAny_truthy_bool ⟨.bl b, H1, I1, rfl, ?_⟩
  rw [show (b == true) = b by cases b <;> rfl] at q1
  exact q1
theorem op_notInO (c : OpC X.K C "__contains__" f) (F : FnOk X.prog X.w X.K X.mg X.base CX k f fd ps sp) (hr : Room k X.A) (hb : Binds X.K fd ps []) (hx : Passes CX X E) : OpR X (compareOp .NotIn) (rOwnIn C sp E false) := by
  intro pins s σ H x y v u Q I rx ry h
  obtain ⟨a, dx, fs, rfl, ha, q⟩ := h
  obtain rfl : u = Value.ref a := ry
  obtain ⟨m, hF⟩ := I.fr
  obtain ⟨mA, O, _⟩ := ins_get I.hok ha
  obtain ⟨oa, J, _⟩ := O.look
  refine notIn_K hF I.ok.mod.kin J c.at_ c.fn (thn (run_fn (us := [.ref a, v]) (vs := [.ref a, x]) F hr hb .nil hx I (.cons rfl (.cons rx .nil)) q) fun r s1 ⟨z, H1, I1, rz, b, ez, q1⟩ => ?_)
  subst ez
  obtain rfl : r = Value.bool b := rz
  refine wpAny_truthy_bool ⟨.bl (!b), H1, I1, rfl, ?_⟩
  rw [show (b == false) = !b by cases b <;> rfl] at q1
  exact q1
/-- len(o) -/
def rOwnLen (C : Addr) (sp : Sp) (E : XK) : List V → Hp → VK → Prop := fun xs H Q => ∃ a dx fs, xs = [.ref a] ∧ H a = some (.ins C dx fs) ∧ sp [.ref a] H (fun v H' => ∃ n : Nat, v = .int n ∧ n ≤ sizeLine ∧ Q (.int n) H') E
theorem call_lenO (c : OpC X.K C "__len__" f) (F : FnOk X.prog X.w X.K X.mg X.base CX k f fd ps sp) (hr : Room (k + 1) X.A) (hb : Binds X.K fd ps []) (hx : Passes CX X E) : CallR X (.builtin "len") (rOwnLen C sp E) := by
  intro pins s σ H xs us Q I r h
  obtain ⟨a, dx, fs, rfl, ha, q⟩ := h
  obtain ⟨u, rfl, ru⟩ := vals1 r
  obtain rfl : u = Value.ref a := ru
  obtain ⟨m, hF⟩ := I.fr
  obtain ⟨mA, O, _⟩ := ins_get I.hok ha
  obtain ⟨oa, J, _⟩ := O.look
  refine len_K hF I.ok.mod.kin J c.at_ c.fn (thn (run_in1 (E := fun _ => E) (us := [.ref a]) (vs := [.ref a]) (σ := σ) F hr hb (at_all hx σ) I (.cons rfl .nil) q) fun r s1 ⟨z, H1, I1, rz, n, ez, hn, q1⟩ => ?_)
  subst ez
  obtain ⟨t, rfl⟩ := (show ∃ t, r = Value.int (n : Int) t from rz)
  have h63 : (n : Int) < 2 ^ 63 := by
    have : sizeLine < 2 ^ 63 := by decide
    omega
  exact ⟨⟨Int.natCast_nonneg n, h63⟩, .int n, H1, I1.tok _, ⟨_, rfl⟩, q1⟩
/-- o op p, both of the class at C -/
def rOwnOp (C : Addr) (sp : Sp) (E : XK) : R2 := fun x y H Q => ∃ a b dx dy fs gs, x = .ref a ∧ y = .ref b ∧ H a = some (.ins C dx fs) ∧ H b = some (.ins C dy gs) ∧ sp [x, y] H (fun v H' => ∃ q, v = .ref q ∧ Q (.ref q) H') E
theorem op_ownO {op : Operator} (hc : selfFirst X.K C = true) (c : OpC X.K C (PySem.dunder op.info.2) f) (F : FnOk X.prog X.w X.K X.mg X.base CX k f fd ps sp) (hr : Room k X.A) (hb : Binds X.K fd ps []) (hx : Passes CX X E) : OpR X (binaryOp op) (rOwnOp C sp E) := by
  intro pins s σ H x y v u Q I rx ry h
  obtain ⟨a, b, dx, dy, fs, gs, rfl, rfl, ha, hb', q⟩ := h
  obtain rfl : v = Value.ref a := rx
  obtain rfl : u = Value.ref b := ry
  obtain ⟨m, hF⟩ := I.fr
  obtain ⟨mA, O, _⟩ := ins_get I.hok ha
  obtain ⟨mB, O', _⟩ := ins_get I.hok hb'
  obtain ⟨oa, J, _⟩ := O.look
  obtain ⟨ob, J', _⟩ := O'.look
  refine binop_K hF I.ok.mod.kin J J'.type hc c.at_ c.fn (thn (run_fn (us := [.ref a, .ref b]) (vs := [.ref a, .ref b]) F hr hb .nil hx I (.cons rfl (.cons rfl .nil)) q) fun r s1 ⟨z, H1, I1, rz, d, ez, q1⟩ => ?_)
  subst ez
  obtain rfl : r = Value.ref d := rz
  exact ⟨.ref d, H1, I1, rfl, q1⟩
/-- o <= p, o == p, both of the class at C -/
def rOwnCmp (C : Addr) (sp : Sp) (E : XK) : R2 := fun x y H Q => ∃ a dx fs, x = .ref a ∧ H a = some (.ins C dx fs) ∧ ((∃ b dy gs, y = .ref b ∧ H b = some (.ins C dy gs)) ∨ ∃ b ys, y = .ref b ∧ H b = some (.lst ys)) ∧ sp [x, y] H (fun v H' => ∃ q, v = .bl q ∧ Q (.bl q) H') E
theorem cmp_ownO {op : CmpOp} (hl : notFirst X.K C (.type "list") = true) (c : OpC X.K C (cmpInfo op).2.1 f) (F : FnOk X.prog X.w X.K X.mg X.base CX k f fd ps sp) (hr : Room k X.A) (hb : Binds X.K fd ps []) (hx : Passes CX X E) : OpR X (richCompare op) (rOwnCmp C sp E) := by
  intro pins s σ H x y v u Q I rx ry h
  obtain ⟨a, dx, fs, rfl, ha, hy, q⟩ := h
  obtain rfl : v = Value.ref a := rx
  obtain ⟨m, hF⟩ := I.fr
  obtain ⟨mA, O, _⟩ := ins_get I.hok ha
  obtain ⟨oa, J, _⟩ := O.look
  obtain ⟨tb, ht, hn⟩ : ∃ tb, Looks (model X.prog X.w) s.heap (typeOf u) tb ∧ notFirst X.K C tb = true := by
    rcases hy with ⟨b, dy, gs, rfl, hb'⟩ | ⟨b, ys, rfl, hb'⟩
    · obtain rfl : u = Value.ref b := ry
      obtain ⟨mB, O', _⟩ := ins_get I.hok hb'
      obtain ⟨ob, J', _⟩ := O'.look
      exact ⟨_, J'.type, by simp [notFirst]⟩
    · obtain rfl : u = Value.ref b := ry
      obtain ⟨_, _, n, _, h1⟩ := (show ObjOk X.prog X.w H s.heap b (.lst ys) from I.hok b _ hb')
      exact ⟨.type "list", (Looks.ld h1).andThen .now, hl⟩
  refine cmp_K hr.units0 hF I.ok.mod.kin J ht hn c.at_ c.fn (thn (run_fn (us := [.ref a, u]) (vs := [.ref a, y]) F hr hb .nil hx I (.cons rfl (.cons ry .nil)) q) fun r s1 ⟨z, H1, I1, rz, d, ez, q1⟩ => ?_)
  subst ez
  obtain rfl : r = Value.bool d := rz
  exact ⟨.bl d, H1, I1, rfl, q1⟩
theorem op_eqO (hl : notFirst X.K C (.type "list") = true) (c : OpC X.K C "__eq__" f) (F : FnOk X.prog X.w X.K X.mg X.base CX k f fd ps sp) (hr : Room k X.A) (hb : Binds X.K fd ps []) (hx : Passes CX X E) : OpR X (compareOp .Eq) (rOwnCmp C sp E) := cmp_ownO (op := .Eq) hl c F hr hb hx
theorem op_leO (hl : notFirst X.K C (.type "list") = true) (c : OpC X.K C "__le__" f) (F : FnOk X.prog X.w X.K X.mg X.base CX k f fd ps sp) (hr : Room k X.A) (hb : Binds X.K fd ps []) (hx : Passes CX X E) : OpR X (compareOp .LtE) (rOwnCmp C sp E) := cmp_ownO (op := .LtE) hl c F hr hb hx
end
end Yd
namespace Yd
open PySem L2
/-! ### an own __iter__ that gives a dict's iterator -/
/-- an iterator over the keys of the locked dict at d, at its start -/
def KIo (d it : Addr) (od : Obj) (n : Nat) : HO := .ext fun h => ∃ es ep, od.data = .dict es ep ∧ h.IsKeyIter it d 0 n ep
/-- the locked dict at d has n keys -/
def Keyed (H : Hp) (d : Addr) (od : Obj) (n : Nat) : Prop := (∃ kvs, H d = some (.frz od (.dK kvs)) ∧ n = kvs.length) ∨ ∃ kvs, H d = some (.frz od (.dT kvs)) ∧ n = kvs.length
/-- a def whose promise may speak of the size of the heap at its entry -/
structure FnN (P : Program) (w : World) (K : PySem.W.Frag) (mg : Str → Option Value) (base : Heap) (k : Nat) (f : Addr) (fd : FuncData) (ps : List Str) (sp : Nat → Sp) : Prop where
  len : ∀ n vs H Q E, sp n vs H Q E → vs.length = ps.length
  run : ∀ (A : Around) (out : List Env) (s : Shared) (H : Hp) (args : Args) (us : List Value) (vs : List V) (Q : VK) (E : XK), Room k A → Env0 P w K mg base A out s H → BindsTo s fd args (ps.zip us) → Vals vs us → sp s.heap.objs.size vs H Q E →
    codeAny (model P w) A (.call (.ref f) args) (CR CX0 out P w H s Q E) s
section
variable {P : Program} {w : World} {K : PySem.W.Frag} {mg : Str → Option Value} {base : Heap}
theorem fun_N {x qual : Str} {st : Stmt} {f : Addr} {fd : FuncData} {N ps : List Str} {k : Nat} {sp : Nat → Sp} (F : Fun K x qual st f fd) (S : FnScope N ps (defScope st)) (len : ∀ n vs H Q E, sp n vs H Q E → vs.length = ps.length)
    (body : ∀ (cdv : Value) (A : Around) (out : List Env) (s : Shared) (H : Hp) (vs : List V) (Q : VK) (E : XK), Room k (A.deeper (PyProof.Rows.envOfC qual (defScope st) s.heap.objs.size f cdv)) → sp s.heap.objs.size vs H Q E →
      ∃ t, PSs (cxOf CX0 P w K mg base N qual (defScope st) f cdv A out s H E) (defBody st) t ∧ t { nx := fun _ H' => Q .non H', rt := Q } (start N vs) H) : FnN P w K mg base (k + 1) f fd ps sp := by
  obtain ⟨oc, od, kV, doc, pm, an, cdv, ct, osl, rfl, lk, hcd⟩ := F.ex
  refine ⟨len, fun A out s H args us vs Q E hr e0 hb r hsp => ?_⟩
  have KX : K.In s.heap := e0.mod.kin.keeps fun b o e => (e0.bs b o e).1
  refine codeAny_call_function hr.depth (KX _ _ lk) rfl S.co S.gen rfl (PySem.W.codeRec_of KX hcd) (hb _ _ _ _ (wpAny_newFunctionEnv_cells S.kind (fun ⟨y, v⟩ hy => ?_) fun env he s1 x => ?_))
  · rcases S.par y (List.of_mem_zip hy).1 with q | q
    · exact Or.inl q
    · exact Or.inr ⟨q, PySem.W.cellsFrom_some _ _ _ (Or.inl q)⟩
  subst he
  obtain ⟨t, ht, hq⟩ := body cdv A out s H vs Q E (hr.deeper _) hsp
  refine ⟨(e0.mod.nolimit.keeps fun b o e => (e0.bs b o e).1).keeps x.toInCall.keep, codeAny_func (wpAny_mono (ht.run [] s1 (start N vs) H _ (inv_start S hr.hd e0 (len _ _ _ _ _ hsp) r x) hq) (fun fl s' hs => ?_) fun _ _ z => z)⟩
  match fl, hs with
  | .ret u, ⟨v, σ', H', J, rv, q⟩ => exact ⟨v, H', J.os, J.bare, J.base, J.hok, rv, q⟩
  | .next, ⟨σ', H', J, q⟩ => exact ⟨V.non, H', J.os, J.bare, J.base, J.hok, rfl, q⟩
  | .brk, ⟨_, _, _, q⟩ => exact q.elim
  | .cont, ⟨_, _, _, q⟩ => exact q.elim
end
section
open PySem.W
variable {X : Cx}
theorem kio_ok {P : Program} {w : World} {H : Hp} {h : Heap} {d it n ep : Nat} {od : Obj} {es : Array DictEntry} (hd : od.data = .dict es ep) (st : h.IsKeyIter it d 0 n ep) : ObjOk P w H h it (KIo d it od n) :=
  ⟨⟨es, ep, hd, st⟩, (let ⟨o, ho, _⟩ := st; ⟨o, ho⟩), fun _ _ ⟨e1, p1, a1, a2⟩ k => ⟨e1, p1, a1, a2.at k⟩⟩
/-- iter(d), d locked: a young iterator -/
theorem call_iterK : CallR X (.builtin "iter") (fun xs H Q => ∃ d od n, xs = [.ref d] ∧ Keyed H d od n ∧ ∀ it, H it = none → X.s_0.heap.objs.size ≤ it → Q (.ref it) (upd H it (KIo d it od n))) := by
  intro pins s σ H xs us Q I r h
  obtain ⟨d, od, n, rfl, hk, q⟩ := h
  obtain ⟨u, rfl, ru⟩ := vals1 r
  cases ru
  obtain ⟨hs, hgd, hx, es, ep, hdt, hsz⟩ : (d == sysModules) = false ∧ s.heap.get? d = some od ∧ od.ExactDict ∧ ∃ es ep, od.data = .dict es ep ∧ es.size = n := by
    rcases hk with ⟨kvs, hd, rfl⟩ | ⟨kvs, hd, rfl⟩
    · obtain ⟨hs, hgd, hx, es, ep, vs, hdt, hsz, kv, hm⟩ := I.frzK hd
      exact ⟨hs, hgd, hx, es, ep, hdt, by rw [hsz, Paired.length kv]⟩
    · obtain ⟨hs, hgd, hx, es, ep, hdt, hsz, _⟩ := I.frzT hd
      exact ⟨hs, hgd, hx, es, ep, hdt, hsz⟩
  refine Calls.call_function_entry (by decide +kernel) (by decide +kernel) kdk_entry_iter (kdk_args_iter _) ?_
  unfold Builtin.«iter»
  refine wpAny_bind (m := someArgs "iter" 1 2 _) (wpAny_of_eq (a := [.ref d]) (by first | rfl | kernel_rfl!) (wpAny_bind (m := pyIter (.ref d)) (iter_keys hs hgd hx hdt ?_)))
  refine wpAny_pure ⟨_, rfl, ?_⟩
  have st : (s.heap.push { cls := .type "dict_keyiterator", data := .fields #[.ref d, .int 0 0, .int es.size 0, .int ep 0] }).IsKeyIter s.heap.objs.size d 0 n ep := ⟨_, Heap.get?_push_size _ rfl, rfl, by rw [hsz]; rfl⟩
  exact ⟨.ref s.heap.objs.size, _, I.laid (t' := s.toks) (fun b ob e => Heap.get?_push_of_some _ e) (Nat.le_refl _) (kio_ok hdt st), rfl, q _ (I.hok.fresh (Nat.le_refl _)) I.sz⟩
/-- for x in o, o an instance whose class has such an __iter__ -/
def iOwn (sp : Nat → Sp) (C : Addr) (te : TE) : TI := fun σ H R => te σ H fun x H1 => ∃ a dx fs, x = .ref a ∧ H1 a = some (.ins C dx fs) ∧ ∀ n, sp n [.ref a] H1 (fun v H2 => ∃ it d od m, v = .ref it ∧ n ≤ it ∧ H2 it = some (KIo d it od m) ∧
  ((∃ kvs, H2 d = some (.frz od (.dK kvs)) ∧ m = kvs.length ∧ R (Itk d od kvs) (ItX.dropH H2 it)) ∨ ∃ kvs, H2 d = some (.frz od (.dT kvs)) ∧ m = kvs.length ∧ R (Itkt d od kvs) (ItX.dropH H2 it))) (fun _ _ _ => False)
theorem pi_own {C f : Addr} {fd : FuncData} {k : Nat} {sp : Nat → Sp} {tg e : Expr} {te : TE} (he : PE X e te) (hi : findIn X.K (.ref C) "__iter__" = some (some (.ref f))) (hf : isFn X.K (.ref f) = true) (F : FnN X.prog X.w X.K X.mg X.base k f fd ["self"] sp) (hr : Room k X.A)
    (hb : Binds X.K fd ["self"] []) : PI X tg e (iOwn sp C te) := by
  refine ⟨fun pins s σ H R I h => thn (he.run pins s σ H _ I h) fun u s1 ⟨x, H1, I1, rx, a, dx, fs, ex, ha, q⟩ => ?_⟩
  subst ex
  obtain rfl : u = Value.ref a := rx
  obtain ⟨m, hF⟩ := I1.fr
  obtain ⟨mA, O, _⟩ := ins_get I1.hok ha
  obtain ⟨oa, J, _⟩ := O.look
  have b1 := hb s1 [.ref a] I1.kIn rfl
  refine owit_iter hF I1.ok.mod.kin J hi hf (wpAny_call (codeAny_mono (F.run X.A X.stack s1 H1 ⟨[.ref a], []⟩ [.ref a] [.ref a] _ (fun _ _ _ => False) hr I1.env0 b1 (.cons rfl .nil) (q s1.heap.objs.size)) fun r s' hq => ?_))
  match r, hq with
  | .ok (.ret u), hq =>
    obtain ⟨v, H2, I2, rv, it, d, od, n, rfl, hn, e2, hR⟩ := I1.after hq
    obtain rfl : u = Value.ref it := rv
    have young : X.s_0.heap.objs.size ≤ it := Nat.le_trans I1.sz hn
    obtain ⟨⟨es, ep, hd, st⟩, _⟩ := (show ObjOk X.prog X.w H2 s'.heap it (KIo d it od n) from I2.hok it _ e2)
    have hT : s'.TypeIs (.ref it) "dict_keyiterator" := let ⟨o, ho, hc, _⟩ := st; ⟨o, ho, hc⟩
    have e2' := e2
    unfold KIo at e2'
    refine wpAny_specialOf hT PySem.F.slot_dict_keyiterator_next.lookup ?_
    rcases hR with ⟨kvs, ed, rfl, hR⟩ | ⟨kvs, ed, rfl, hR⟩
    · exact ⟨it, [it], _, _, _, rfl, ItX.inv_drop I2 e2', turn_keys it hd, st, fun b hb => by rw [List.mem_singleton.mp hb]; exact ItX.inv_fp I2 e2 young, hR⟩
    · exact ⟨it, [it], _, _, _, rfl, ItX.inv_drop I2 e2', turn_keysT it hd, st, fun b hb => by rw [List.mem_singleton.mp hb]; exact ItX.inv_fp I2 e2 young, hR⟩
end
end Yd
namespace Yd
open PySem L2
/-! ### a dict comprehension whose keys are pairs (tuples of texts and ints) -/
section
variable {X : Cx}
/-- the new dict at D gets one more pair -/
theorem d_setPair {pins : List (Addr × Obj)} {σ : St} {H : Hp} {s : Shared} {E : Value → Shared → Prop} {D b : Addr} {kvs : List (List Key × V)} {k : List Key} {v : V} {r : Value} {Q : Unit → Shared → Prop} (hu : X.A.units < cLine) (I : Inv X pins σ H s) (hD : H D = some (.dT kvs)) (hb : H b = some (.tup (k.map kV))) (hz : kvs.length < sizeLine)
    (rv : RelV v r) (h : ∀ s', Inv X pins σ (upd H D (.dT (putK kvs k v))) s' → Q () s') : wpAny (model X.prog X.w) X.A (dictSet D (.ref b) r) Q E s := by
  obtain ⟨z, hd, xs, rel, dd⟩ := dt_of I.hok hD
  have l1 : xs.length ≤ sizeLine := Nat.le_trans (Nat.le_of_eq (Paired.length rel).symm) z
  have l2 : (putK kvs k v).length ≤ sizeLine := Nat.le_trans (length_putK kvs k v) hz
  refine wpAny_dictSet_heap (knd := tupleKind (mixKind X.prog X.w)) (hsz := l1) hu (key_of I.hok hb) dd fun h' dd' hs => h _ ?_
  obtain ⟨q, es, ep, hq, c1, c2, c3, _, c5⟩ := dd'
  refine d_write I (by rw [hD]; exact True.intro) hs ⟨q, hq⟩ ⟨l2, hd, _, (rel.put k hb rv).keeps fun c ys ec => ?_, q, es, ep, hq, c1, c2, c3, c5⟩
  rw [upd_ne (ne_of ec hD (fun z => nomatch z))]
  exact ec
/-- what each turn does: the key's tuple, the worth, the dict with the pair -/
def pairTurn (D : Addr) (tk tv : TE) (σ : St) (H : Hp) (R : Hp → Prop) : Prop :=
  tk σ H fun y H1 => tv σ H1 fun z H2 => ∃ kvs k b, y = .ref b ∧ H2 b = some (.tup (List.map kV k)) ∧ H2 D = some (.dT kvs) ∧ kvs.length < sizeLine ∧ R (upd H2 D (.dT (putK kvs k z)))
/-- {k: v for target in iter if ..}, the keys tuples -/
def tDp (wi : TI) (g : TG) (tt : TT) (tk tv : TE) (vs : List Nat) : TE := fun σ H Q => wi σ H fun J H1 => ∀ D, H1 D = none → ∃ W : Nat → Nat → Hp → Prop, (∃ m, W 0 m (upd H1 D (.dT []))) ∧ ∀ i m H, W i m H →
  (J.stop i H ∧ Q (.ref D) H) ∨ (J.go i H ∧ ∃ Nx : Hp → Prop, (∀ H', Nx H' → ∃ m', m' < m ∧ W (i + 1) m' H') ∧ ∀ x H', J.yld i H x H' → g x (wipe σ vs) H' fun σ2 H2 => wipe σ2 vs = wipe σ vs ∧ tt σ2 H2 fun b H3 => if b = true then pairTurn D tk tv σ2 H3 Nx else Nx H3)
theorem pe_dp {kx vx tg iter : Expr} {ifs : List Expr} {scope : Scope} {own : List (Str × Nat)} {pos : Pos} {wi : TI} {g : TG} {tt : TT} {tk tv : TE} (hu : X.A.units < cLine) (hc : X.calm = true) (hN : X.N.Nodup) (hi : PI X tg iter wi) (ok : BlkOk X.N X.env.scope scope own)
    (hg : ∀ (s : Shared) (H : Hp) (C : Addr) (cl : List (Str × Addr)) (fp : List Addr), PG (X.blk s H scope (compEnvC scope cl C X.env) fp) tg g) (ht : ∀ (s : Shared) (H : Hp) (C : Addr) (cl : List (Str × Addr)) (fp : List Addr), PTs (X.blk s H scope (compEnvC scope cl C X.env) fp) ifs tt)
    (hk : ∀ (s : Shared) (H : Hp) (C : Addr) (cl : List (Str × Addr)) (fp : List Addr), PE (X.blk s H scope (compEnvC scope cl C X.env) fp) kx tk)
    (he : ∀ (s : Shared) (H : Hp) (C : Addr) (cl : List (Str × Addr)) (fp : List Addr), PE (X.blk s H scope (compEnvC scope cl C X.env) fp) vx tv) (hs : ∀ x, foldedSetIterable iter X.env x = pure x := by intro _; rfl) :
    PE X (.DictComp kx vx [⟨tg, iter, ifs, 0⟩] scope pos) (tDp wi g tt tk tv (own.map (·.2))) := by
  refine ⟨fun pins s σ H Q I h => ?_⟩
  rw [arm_eval_DictComp]
  have free : ∀ y ∈ scope.names, y.2 = .free → ∃ c, X.env.cells.lookup y.1 = some c := fun y hy e => (ok.free y hy e).elim (fun k => I.ok.has _ (.inl k)) fun k => I.ok.has _ (.inr k)
  refine wpAny_comprehension_free rfl hs (closure_ok free) ok.kind (fun y hy e => (ok.uniq y hy).trans (congrArg some e)) (thn (hi.run pins s σ H _ I h) fun _ s1 hx => thn hx fun _ s2 ⟨it, fp, tn, J, H2, e, I2, T, t2, own2, q⟩ => ?_)
  subst e
  refine wpAny_newObj_type (newEnv_comp ?_)
  -- the dict
  have fresh : H2 s2.heap.objs.size = none := I2.hok.fresh (Nat.le_refl _)
  obtain ⟨W, ⟨m0, w0⟩, turn⟩ := q _ fresh
  have ID : Inv X pins σ (upd H2 s2.heap.objs.size (.dT [])) { s2 with heap := s2.heap.push { cls := .type "dict", data := .dict #[] } } := I2.laid (t' := s2.toks) (fun _ _ e => Heap.get?_push_of_some _ e) (Nat.le_refl _) (dt_empty s2.heap I2.big)
  have fpD : ∀ b ∈ fp, FpOk X pins (upd H2 s2.heap.objs.size (.dT [])) b ∧ b < (s2.heap.push { cls := .type "dict", data := .dict #[] }).objs.size := fun b hb => by
    obtain ⟨o, e, _⟩ := T.obj _ _ t2 b hb
    have lt := Heap.lt_size e
    exact ⟨⟨by rw [upd_ne (Nat.ne_of_lt lt)]; exact (own2 b hb).1, (own2 b hb).2⟩, by rw [Heap.size_push]; exact Nat.lt_succ_of_lt lt⟩
  have tD : tn 0 (s2.heap.push { cls := .type "dict", data := .dict #[] }) := T.keep _ _ _ t2 fun b _ o e => Heap.get?_push_of_some _ e
  generalize hs3 : ({ s2 with heap := s2.heap.push { cls := .type "dict", data := .dict #[] } } : Shared) = s3 at ID
  have h3 : s2.heap.push { cls := .type "dict", data := .dict #[] } = s3.heap := by rw [← hs3]
  rw [h3] at fpD tD
  generalize s2.heap.objs.size = D at fresh w0 turn ID fpD ⊢
  generalize upd H2 D (.dT []) = H3 at w0 ID fpD
  -- the block
  have IB := block_start ID ok hN fpD
  have pg := hg s3 H3 s3.heap.objs.size (cellsFrom (s3.heap.objs.size + 1) scope.names (cloFrom X.env.cells scope.names [])) fp
  have pt := ht s3 H3 s3.heap.objs.size (cellsFrom (s3.heap.objs.size + 1) scope.names (cloFrom X.env.cells scope.names [])) fp
  have pk := hk s3 H3 s3.heap.objs.size (cellsFrom (s3.heap.objs.size + 1) scope.names (cloFrom X.env.cells scope.names [])) fp
  have pv := he s3 H3 s3.heap.objs.size (cellsFrom (s3.heap.objs.size + 1) scope.names (cloFrom X.env.cells scope.names [])) fp
  have away : ∀ b ∈ fp, H3 b = none := fun b hb => (fpD b hb).1.1
  change codeAny _ _ (.compStart (.DictComp kx vx [⟨tg, iter, ifs, 0⟩] scope pos) 0 (.ref it) (.ref D) (compEnvC scope (cellsFrom (s3.heap.objs.size + 1) scope.names (cloFrom X.env.cells scope.names [])) s3.heap.objs.size X.env)) (compPost (model X.prog X.w) X.A X.xe none (EP X pins σ Q) (.ref D) s3.heap.objs.size) { s3 with heap := pushCells (s3.heap.push { cls := .type "dict", data := .dict #[] }) scope.names }
  generalize hce : compEnvC scope (cellsFrom (s3.heap.objs.size + 1) scope.names (cloFrom X.env.cells scope.names [])) s3.heap.objs.size X.env = ce at IB pg pt pk pv ⊢
  have cl : ce.locals = s3.heap.objs.size := by rw [← hce]; rfl
  generalize hs4 : ({ s3 with heap := pushCells (s3.heap.push { cls := .type "dict", data := .dict #[] }) scope.names } : Shared) = s4 at IB ⊢
  have t4 : tn 0 s4.heap := T.keep _ _ _ tD fun b _ o e => by rw [← hs4]; exact pushCells_keeps _ _ _ _ (Heap.get?_push_of_some _ e)
  -- what holds between two turns
  let B : Cx := X.blk s3 H3 scope ce fp
  have inB : ∀ {σ' : St} {H' : Hp} {s' : Shared}, Inv B [] σ' H' s' → (∀ b ∈ fp, H' b = none) → ∀ b ∈ fp, FpOk B [] H' b := fun J n b hb =>
    ⟨n b hb, (J.ok.exf b hb).1, J.ok.exfs b hb, .inl hb, fun x c e => (J.ok.exf b hb).2 x c e, fun _ hp => nomatch (show _ ∈ ([] : List (Addr × Obj)) from hp)⟩
  have loop : codeAny (model X.prog X.w) X.A (.compLoop (.DictComp kx vx [⟨tg, iter, ifs, 0⟩] scope pos) 0 (.ref it) (.ref D) ce) (compPost (model X.prog X.w) X.A X.xe none (EP X pins σ Q) (.ref D) s3.heap.objs.size) s4 := by
    refine compLoop_anyD (fun n s' => ∃ i H', Inv B [] (wipe σ (own.map (·.2))) H' s' ∧ tn i s'.heap ∧ (∀ b ∈ fp, H' b = none) ∧ W i n H') ?_ m0 ⟨0, H3, IB, t4, away, w0⟩
    rintro n s5 ⟨i, H5, I5, t5, n5, w5⟩
    rcases turn i n H5 w5 with ⟨stop, fin⟩ | ⟨go, Nx, next, step⟩
    · -- the iterator is at its end: back in the def
      refine thnF (T.done B rfl rfl rfl hc i [] s5 _ H5 (fun _ _ => False) I5 (inB I5 n5) t5 stop) fun r s6 ⟨hr, I6⟩ => ?_
      subst hr
      have back : Inv X pins σ H5 s6 := ID.call' (ch := fp) I6.os I6.base I6.hok I6.bare fun b hb => ⟨(fpD b hb).1.2.2.2.1, (fpD b hb).1.2.1, (fpD b hb).1.2.2.2.2.1, (fpD b hb).1.2.2.2.2.2⟩
      have gone : H5 s3.heap.objs.size = none := cl ▸ (show H5 ce.locals = none from I6.free)
      obtain ⟨m, ns, _⟩ := I6.loc
      have ns : s6.heap.Ns s3.heap.objs.size m := cl ▸ (show s6.heap.Ns ce.locals m from ns)
      obtain ⟨f0, f1, _, f3, f4, f5⟩ := ID.fpOk (Nat.le_refl _) gone
      exact ⟨m, ns, fun h'' sb => ⟨.ref D, H5, back.turned (t' := s6.toks) (fun b o hb e => (sb.2 b hb).trans e) f0 f1 f3 f4 f5, rfl, fin⟩⟩
    · -- a turn
      refine thnF (T.item B rfl rfl rfl hc i [] s5 _ H5 (fun _ _ => False) I5 (inB I5 n5) t5 go) fun r s6 ⟨u, hr, h6⟩ => ?_
      subst hr
      refine thnF h6 fun _ s7 ⟨x, H7, I7, r7, y7, t7, n7⟩ => ?_
      refine thnF (pg.run _ s7 _ H7 x u _ (I7.pinned (inB I7 n7) (T.obj _ _ t7)) r7 (step x H7 y7)) fun _ s8 ⟨σ8, H8, I8, hw, q8⟩ => ?_
      refine thnF (pt.run _ s8 σ8 H8 _ I8 q8) fun b s9 ⟨H9, I9, q9⟩ => ?_
      -- its end
      have done : ∀ {s' : Shared} {H' : Hp}, Inv B ([] ++ pinsAt fp s7.heap) σ8 H' s' → Nx H' → ∃ m, m < n ∧ ∃ i H', Inv B [] (wipe σ (own.map (·.2))) H' s' ∧ tn i s'.heap ∧ (∀ b ∈ fp, H' b = none) ∧ W i m H' := fun {s' H'} J nx => by
        obtain ⟨m', lt, w'⟩ := next H' nx
        have still : ∀ b ∈ fp, ∀ o, s7.heap.get? b = some o → s'.heap.get? b = some o ∧ H' b = none := fun b hb o e => by
          have z := J.pin (b, o) (List.mem_append_right _ (List.mem_append_right _ (mem_pinsAt hb e)))
          exact ⟨z.1, z.2.1⟩
        refine ⟨m', lt, i + 1, H', (J.unpinned (pins := [])).weak (by rw [← hw, wipe_length]) (fun j v e => ?_), T.keep _ _ _ t7 fun b hb o e => (still b hb o e).1, fun b hb => ?_, w'⟩
        · rw [← hw] at e
          exact (wipe_some e).1
        · obtain ⟨o, e, _⟩ := T.obj _ _ t7 b hb
          exact (still b hb o e).2
      cases b with
      | false => exact done I9 (by simpa using q9)
      | true =>
        have q9 : pairTurn D tk tv σ8 H9 Nx := by simpa using q9
        refine thnF (pk.run _ s9 σ8 H9 _ I9 q9) fun u10 s10 ⟨y10, H10, I10, r10, q10⟩ => ?_
        refine thnF (pv.run _ s10 σ8 H10 _ I10 q10) fun _ s11 ⟨_, H11, I11, r11, kvs, k, c, ek, hc11, hD11, hz, nx⟩ => ?_
        subst ek
        cases r10
        exact d_setPair (X := B) hu I11 hD11 hc11 hz r11 fun _ I12 => done I12 nx
  exact codeAny_compStart_dict loop (T.self X.A 0 _ _ _ t4 loop)
end
end Yd
namespace Yd
open PySem L2
/-! ### comprehensions, run over what an iterator yields -/
theorem dp_run {J : It} {n : Nat} {D : Addr} {g : TG} {tt : TT} {tk tv : TE} {vs : List Nat} {σ : St} {H1 : Hp} {Qd : Hp → Prop} (Pv : Nat → Hp → Prop) (h0 : Pv 0 (upd H1 D (.dT []))) (hgo : ∀ i H, i < n → Pv i H → J.go i H) (hst : ∀ H, Pv n H → J.stop n H)
    (hs : ∀ i x H H', i < n → Pv i H → J.yld i H x H' → g x (wipe σ vs) H' fun σ2 H2 => wipe σ2 vs = wipe σ vs ∧ tt σ2 H2 fun b H3 => if b = true then pairTurn D tk tv σ2 H3 (Pv (i + 1)) else Pv (i + 1) H3) (hd : ∀ H, Pv n H → Qd H) :
    ∃ W : Nat → Nat → Hp → Prop, (∃ m, W 0 m (upd H1 D (.dT []))) ∧ ∀ i m H, W i m H →
      (J.stop i H ∧ Qd H) ∨ (J.go i H ∧ ∃ Nx : Hp → Prop, (∀ H', Nx H' → ∃ m', m' < m ∧ W (i + 1) m' H') ∧ ∀ x H', J.yld i H x H' → g x (wipe σ vs) H' fun σ2 H2 => wipe σ2 vs = wipe σ vs ∧ tt σ2 H2 fun b H3 => if b = true then pairTurn D tk tv σ2 H3 Nx else Nx H3) := by
  refine ⟨fun i m H => m = n - i ∧ i ≤ n ∧ Pv i H, ⟨_, rfl, Nat.zero_le _, h0⟩, fun i m H ⟨em, hi, p⟩ => ?_⟩
  subst em
  by_cases lt : i < n
  · exact .inr ⟨hgo i H lt p, Pv (i + 1), fun H' p' => ⟨n - (i + 1), by omega, rfl, lt, p'⟩, fun x H' y => hs i x H H' lt p y⟩
  · have e : i = n := by omega
    subst e
    exact .inl ⟨hst H p, hd H p⟩
theorem lc_run {J : It} {n : Nat} {D : Addr} {g : TG} {tt : TT} {te : TE} {vs : List Nat} {σ : St} {H1 : Hp} {Qd : Hp → Prop} (Pv : Nat → Hp → Prop) (h0 : Pv 0 (upd H1 D (.lst []))) (hgo : ∀ i H, i < n → Pv i H → J.go i H) (hst : ∀ H, Pv n H → J.stop n H)
    (hs : ∀ i x H H', i < n → Pv i H → J.yld i H x H' → g x (wipe σ vs) H' fun σ2 H2 => wipe σ2 vs = wipe σ vs ∧ tt σ2 H2 fun b H3 => if b = true then te σ2 H3 fun y H4 => ∃ acc, H4 D = some (.lst acc) ∧ acc.length < sizeLine ∧ Pv (i + 1) (upd H4 D (.lst (acc ++ [y]))) else Pv (i + 1) H3) (hd : ∀ H, Pv n H → Qd H) :
    ∃ W : Nat → Nat → Hp → Prop, (∃ m, W 0 m (upd H1 D (.lst []))) ∧ ∀ i m H, W i m H →
      (J.stop i H ∧ Qd H) ∨ (J.go i H ∧ ∃ Nx : Hp → Prop, (∀ H', Nx H' → ∃ m', m' < m ∧ W (i + 1) m' H') ∧ ∀ x H', J.yld i H x H' → g x (wipe σ vs) H' fun σ2 H2 => wipe σ2 vs = wipe σ vs ∧ tt σ2 H2 fun b H3 =>
        if b = true then te σ2 H3 fun y H4 => ∃ acc, H4 D = some (.lst acc) ∧ acc.length < sizeLine ∧ Nx (upd H4 D (.lst (acc ++ [y]))) else Nx H3) := by
  refine ⟨fun i m H => m = n - i ∧ i ≤ n ∧ Pv i H, ⟨_, rfl, Nat.zero_le _, h0⟩, fun i m H ⟨em, hi, p⟩ => ?_⟩
  subst em
  by_cases lt : i < n
  · exact .inr ⟨hgo i H lt p, Pv (i + 1), fun H' p' => ⟨n - (i + 1), by omega, rfl, lt, p'⟩, fun x H' y => hs i x H H' lt p y⟩
  · have e : i = n := by omega
    subst e
    exact .inl ⟨hst H p, hd H p⟩
/-! ### each pair once; a dict of pairs -/
abbrev Pr := Str × Str
def addP (acc : List Pr) (p : Pr) : List Pr := if p ∈ acc then acc else acc ++ [p]
def onceP (ps : List Pr) : List Pr := ps.foldl addP []
theorem takeP {ps : List Pr} {i : Nat} {p : Pr} (h : ps[i]? = some p) : ps.take (i + 1) = ps.take i ++ [p] := by
  rw [List.take_add_one, h]
  rfl
theorem onceP_more {ps : List Pr} {i : Nat} {p : Pr} (h : ps[i]? = some p) : onceP (ps.take (i + 1)) = addP (onceP (ps.take i)) p := by
  unfold onceP
  rw [takeP h, List.foldl_append]
  rfl
theorem addP_nd {acc : List Pr} {p : Pr} (h : acc.Nodup) : (addP acc p).Nodup := by
  unfold addP
  by_cases m : p ∈ acc
  · rw [if_pos m]; exact h
  · rw [if_neg m, List.nodup_append]
    exact ⟨h, List.nodup_cons.mpr ⟨List.not_mem_nil, List.nodup_nil⟩, fun a ha b hb e => m (by rw [List.mem_singleton.mp hb] at e; rw [← e]; exact ha)⟩
theorem onceP_nd (ps : List Pr) : (onceP ps).Nodup := by
  unfold onceP
  suffices q : ∀ (l acc : List Pr), acc.Nodup → (l.foldl addP acc).Nodup from q ps [] List.nodup_nil
  intro l
  induction l with
  | nil => intro acc h; exact h
  | cons s l ih => intro acc h; exact ih _ (addP_nd h)
theorem onceP_len (ps : List Pr) : (onceP ps).length ≤ ps.length := by
  unfold onceP
  suffices q : ∀ (l acc : List Pr), (l.foldl addP acc).length ≤ acc.length + l.length by
    have := q ps []
    rw [List.length_nil, Nat.zero_add] at this
    exact this
  intro l
  induction l with
  | nil => intro acc; exact Nat.le_refl _
  | cons s l ih =>
    intro acc
    have h1 := ih (addP acc s)
    have h2 : (addP acc s).length ≤ acc.length + 1 := by
      unfold addP
      split
      · omega
      · rw [List.length_append]; exact Nat.le_refl _
    rw [List.foldl_cons, List.length_cons]
    omega
theorem onceP_mem {p : Pr} (ps : List Pr) : p ∈ onceP ps ↔ p ∈ ps := by
  unfold onceP
  suffices q : ∀ (l acc : List Pr), p ∈ l.foldl addP acc ↔ p ∈ acc ∨ p ∈ l by
    have := q ps []
    simpa using this
  intro l
  induction l with
  | nil => intro acc; simp
  | cons s l ih =>
    intro acc
    rw [List.foldl_cons, ih]
    unfold addP
    by_cases m : s ∈ acc
    · rw [if_pos m, List.mem_cons]
      exact ⟨fun h => h.elim .inl fun h => .inr (.inr h), fun h => h.elim .inl fun h => h.elim (fun e => .inl (by rw [e]; exact m)) .inr⟩
    · rw [if_neg m, List.mem_append, List.mem_singleton, List.mem_cons, or_assoc]
def kP (p : Pr) : List Key := [Sum.inr p.1, Sum.inr p.2]
theorem kP_inj {p q : Pr} (h : kP p = kP q) : p = q := by
  unfold kP at h
  injection h with h1 h2
  injection h2 with h2 _
  injection h1 with h1
  injection h2 with h2
  exact Prod.ext h1 h2
theorem kP_map (p : Pr) : (kP p).map kV = [.str p.1, .str p.2] := rfl
def pD (ps : List Pr) : List (List Key × V) := ps.map fun p => (kP p, V.bl true)
theorem pD_val (p : Pr) : ∀ ps : List Pr, valV (pD ps) (kP p) = if p ∈ ps then some (.bl true) else none
  | [] => by simp [pD, valV_nil]
  | t :: ps => by
    have e : pD (t :: ps) = (kP t, V.bl true) :: pD ps := rfl
    rw [e]
    by_cases h : t = p
    · subst h
      rw [valV_pos rfl, if_pos (List.mem_cons_self ..)]
    · rw [valV_neg (fun z => h (kP_inj z)), pD_val p ps]
      by_cases m : p ∈ ps
      · rw [if_pos m, if_pos (List.mem_cons_of_mem _ m)]
      · rw [if_neg m, if_neg fun q => (List.mem_cons.mp q).elim (fun z => h z.symm) m]
theorem pD_put (acc : List Pr) (p : Pr) : putK (pD acc) (kP p) (.bl true) = pD (addP acc p) := by
  unfold addP
  by_cases m : p ∈ acc
  · rw [if_pos m]
    unfold putK
    have a : ((pD acc).any fun kv => decide (kv.1 = kP p)) = true := by
      rw [valV_any, pD_val, if_pos m]
      rfl
    rw [if_pos a]
    have e : ∀ kv ∈ pD acc, (if kv.1 = kP p then (kv.1, V.bl true) else kv) = kv := fun kv hk => by
      obtain ⟨t, _, rfl⟩ := List.mem_map.mp hk
      split <;> rfl
    rw [List.map_congr_left e, List.map_id']
  · rw [if_neg m, putK_new _ (by rw [pD_val, if_neg m])]
    unfold pD
    rw [List.map_append]
    rfl
theorem pD_len (ps : List Pr) : (pD ps).length = ps.length := List.length_map _
theorem PairsAt.get {H : Hp} : ∀ {xs : List V} {ps : List Pr} {i : Nat} {x : V}, PairsAt H xs ps → xs[i]? = some x → ∃ t p, x = .ref t ∧ ps[i]? = some p ∧ H t = some (.tup [.str p.1, .str p.2])
  | v :: xs, p :: ps, 0, x, ⟨⟨t, e, h⟩, _⟩, hx => ⟨t, p, by rw [← Option.some.inj hx]; exact e, rfl, h⟩
  | v :: xs, p :: ps, i + 1, x, ⟨_, r⟩, hx => PairsAt.get (i := i) r (by simpa using hx)
  | [], _, _, _, _, hx => by simp at hx
  | _ :: _, [], _, _, h, _ => h.elim
end Yd
namespace Yd
open PySem L2
/-! ### == of two dicts whose keys are tuples -/
section
open PySem.W PySem.Calls
variable {prog : Program} {w : World} {K : Type} [DecidableEq K] {knd : HeapKind prog w K} {A : Around} {E : Value → Shared → Prop} {s : Shared}
inductive HitsH {K : Type} [DecidableEq K] (A : Around) (s : Shared) (ys : List (K × Addr × Value)) : List (K × Addr × Value) → Bool → Prop
  | nil : HitsH A s ys [] true
  | miss {k : K} {p : Addr × Value} {r : List (K × Addr × Value)} : atKey ys k = none → HitsH A s ys ((k, p) :: r) false
  | hit {k : K} {p y : Addr × Value} {r : List (K × Addr × Value)} {e b : Bool} : atKey ys k = some y → SeqAt.EqAt A s p.2 y.2 e → HitsH A s ys r b → HitsH A s ys ((k, p) :: r) (e && b)
theorem HitsH.inv {ys : List (K × Addr × Value)} {k : K} {p : Addr × Value} {r : List (K × Addr × Value)} {b : Bool} (h : HitsH A s ys ((k, p) :: r) b) :
    (atKey ys k = none ∧ b = false) ∨ ∃ y e b', atKey ys k = some y ∧ SeqAt.EqAt A s p.2 y.2 e ∧ HitsH A s ys r b' ∧ b = (e && b') := by
  cases h with
  | miss hn => exact .inl ⟨hn, rfl⟩
  | hit hy he hr => exact .inr ⟨_, _, _, hy, he, hr, rfl⟩
theorem heq_samePairs {nm : String} {a b : Addr} {xs ys : List (K × Addr × Value)} {r : Bool} {Q : Bool → Shared → Prop} (hu : knd.room A) (ha : (a == sysModules) = false) (hb : (b == sysModules) = false)
    (da : s.heap.DictOfH knd a xs) (db : s.heap.DictOfH knd b ys) (hits : xs.length = ys.length → HitsH A s ys xs r) (h : Q (xs.length == ys.length && r) s) :
    wpAny (model prog w) A (Builtin.Dict.samePairs nm a b) Q E s := by
  obtain ⟨oa, es, ep, hoa, _, hda, hea, hka, hna⟩ := da
  obtain ⟨ob, es', ep', hob, _, hdb, heb, hkb, hnb⟩ := db
  have hla : xs.length = es.size := (size_of_entries hea).symm
  have hlb : ys.length = es'.size := (size_of_entries heb).symm
  rw [hla, hlb] at h
  unfold Builtin.Dict.samePairs Builtin.Dict.showsAll
  rw [if_neg (show ¬ (a == sysModules) = true by rw [ha]; exact Bool.false_ne_true), if_neg (show ¬ (b == sysModules) = true by rw [hb]; exact Bool.false_ne_true)]
  refine wpAny_bind (wpAny_pure (wpAny_bind (wpAny_pure ?_)))
  refine wpAny_bind (wpAny_dictEntries hoa hda ?_)
  dsimp only
  refine wpAny_bind (wpAny_dictEntries hob hdb ?_)
  by_cases hsz : es.size = es'.size
  case neg =>
    rw [if_pos (by simpa using hsz)]
    have hbf : (es.size == es'.size) = false := by simpa using hsz
    rw [hbf, Bool.false_and] at h
    exact wpAny_bind (wpAny_rule (wpAny_pure h))
  case pos =>
    have h' : Q r s := by simpa [hsz] using h
    have hits' := hits (by rw [hla, hlb]; exact hsz)
    rw [if_neg (by rw [hsz]; simp)]
    refine wpAny_bind (wpAny_dictEpoch hoa hda ?_)
    refine wpAny_bind ?_
    rw [Std.Legacy.Range.forIn_eq_forIn_range']
    simp only [Std.Legacy.Range.size, Nat.sub_zero, Nat.add_sub_cancel, Nat.div_one]
    refine wpAny_forIn_list _
      (fun rest q s' => s' = s ∧ q = (none, ()) ∧ ∃ i, rest = List.range' i (es.size - i) ∧ i ≤ es.size ∧ HitsH A s ys (xs.drop i) r)
      _ ?_ ?_ _ _ ⟨rfl, rfl, 0, by simp, Nat.zero_le _, hits'⟩
    · rintro x rest q s' ⟨rfl, rfl, i, hr, hi, hpre⟩
      have hlt : i < es.size := by
        rcases Nat.lt_or_ge i es.size with h | h
        · exact h
        · rw [Nat.sub_eq_zero_of_le h] at hr; simp at hr
      obtain ⟨rfl, hrest⟩ : x = i ∧ rest = List.range' (i + 1) (es.size - (i + 1)) := by
        have e : es.size - i = (es.size - (i + 1)) + 1 := by omega
        rw [e, List.range'_succ] at hr
        injection hr with h1 h2
        exact ⟨h1, h2⟩
      refine wpAny_bind (wpAny_dictEntries hoa hda ?_)
      rw [Array.getElem?_eq_getElem hlt]
      have hlt' : x < xs.length := by rw [hla]; exact hlt
      obtain ⟨k, p, hkv⟩ : ∃ k p, xs[x] = (k, p) := ⟨_, _, rfl⟩
      have hdrop : xs.drop x = (k, p) :: xs.drop (x + 1) := by rw [← hkv]; exact List.drop_eq_getElem_cons hlt'
      have hent : es[x] = entryOfKey knd (k, p) := by
        have q := entry_at hea x
        rw [Array.getElem?_eq_getElem hlt, List.getElem?_eq_getElem hlt', hkv] at q
        exact Option.some.inj q
      have hkey : knd.is s'.heap k p.1 := hka (k, p) (by rw [← hkv]; exact List.getElem_mem hlt')
      rw [hdrop] at hpre
      rw [hent]
      refine wpAny_bind (wpAny_holding (wpAny_bind (wpAny_dictFind_heap (k := k) (a := p.1) hu hkey hob hdb heb hkb hnb (fun hnone => ?_) fun j y hj => ?_)))
      · have hn : atKey ys k = none := atKey_none_of_get hnone
        rcases hpre.inv with ⟨_, er⟩ | ⟨y, _, _, hy, _⟩
        · rw [er] at h'
          refine wpAny_pure ?_
          show wpAny _ _ (if (!false) = true then _ else _) _ _ _
          rw [if_pos (by decide)]
          exact wpAny_pure (wpAny_pure h')
        · rw [hn] at hy; exact nomatch hy
      · have hv' : atKey ys k = some y := atKey_of_get hnb hj
        refine wpAny_bind (wpAny_dictEntries hob hdb ?_)
        have hej : es'[j]? = some (entryOfKey knd (k, y)) := by rw [entry_at heb j, hj]; rfl
        rw [hej]
        rcases hpre.inv with ⟨hn, _⟩ | ⟨y', e, b', hy, he, hrr, er⟩
        · rw [hv'] at hn; exact nomatch hn
        · have ey : y = y' := Option.some.inj (hv'.symm.trans hy)
          rw [← ey] at he
          refine wpAny_holding (he prog w _ _ ?_)
          cases e with
          | false =>
            rw [er, Bool.false_and] at h'
            show wpAny _ _ (if (!false) = true then _ else _) _ _ _
            rw [if_pos (by decide)]
            exact wpAny_pure (wpAny_pure h')
          | true =>
            rw [Bool.true_and] at er
            rw [← er] at hrr
            show wpAny _ _ (if (!true) = true then _ else _) _ _ _
            rw [if_neg (by decide)]
            refine wpAny_bind (wpAny_dictEpoch hoa hda ?_)
            rw [if_neg (by simp)]
            exact wpAny_pure ⟨rfl, rfl, x + 1, hrest, hlt, hrr⟩
    · rintro q s' ⟨rfl, rfl, i, hr, hi, hpre⟩
      have hin : i = es.size := by
        rcases Nat.lt_or_ge i es.size with h | h
        · have e : es.size - i = (es.size - (i + 1)) + 1 := by omega
          rw [e, List.range'_succ] at hr; exact nomatch hr
        · exact Nat.le_antisymm hi h
      refine wpAny_pure ?_
      rw [hin, ← hla, List.drop_length] at hpre
      cases hpre
      exact h'
theorem heq_eq {a b : Addr} {xs ys : List (K × Addr × Value)} {r : Bool} {Q : Value → Shared → Prop} (hk : knd.room A.in1) (ha : (a == sysModules) = false) (hb : (b == sysModules) = false)
    (da : s.heap.DictOfH knd a xs) (db : s.heap.DictOfH knd b ys) (hu : A.units < cLine) (hits : xs.length = ys.length → HitsH A.in1 s ys xs r) (h : Q (.bool (xs.length == ys.length && r)) s) :
    wpAny (model prog w) A (compareOp .Eq (.ref a) (.ref b)) Q E s := by
  refine wpAny_richCompare_same_room (op := .Eq) da.typeIs db.typeIs PySem.F.slot_dict_eq (wpAny_call_entry PySem.F.slot_dict_eq da.typeIs PySem.F.entry_dict_eq ?_ (PySem.F.args_dict_eq_2 _ _)) hu
  show wpAny _ _ (Builtin.Dict.dictSlotArgs "__eq__" ⟨[.ref a, .ref b], []⟩ >>= _) _ _ s
  refine wpAny_bind ?_
  unfold Builtin.Dict.dictSlotArgs
  refine wpAny_bind (wpAny_notOrdered_dict da.typeIs ?_)
  show wpAny _ _ (pure (Value.ref a, Value.ref b)) _ _ s
  refine wpAny_pure ?_
  refine wpAny_bind (wpAny_isInstance (T := "dict") db.typeIs PySem.F.sub_dict_dict ?_)
  simp only [Bool.not_true, Bool.false_eq_true, if_false]
  refine wpAny_bind (wpAny_pure (wpAny_bind (wpAny_pure ?_)))
  refine wpAny_bind (heq_samePairs hk ha hb da db hits ?_)
  refine wpAny_pure ⟨_, rfl, ?_, ?_⟩
  · exact fun x => nomatch x
  · simpa using h
/-- what the values of the one say of those of the other -/
inductive HitsT (K : PySem.W.Frag) (H : Hp) (ls : List (List Key × V)) : List (List Key × V) → Bool → Prop
  | nil : HitsT K H ls [] true
  | miss {k : List Key} {v : V} {r : List (List Key × V)} : valV ls k = none → HitsT K H ls ((k, v) :: r) false
  | hit {k : List Key} {v v' : V} {d d' : PyData} {r : List (List Key × V)} {b : Bool} : valV ls k = some v' → Dp K H v d → Dp K H v' d' → d.plain = true → d'.plain = true → d.depth ≤ 60 → HitsT K H ls r b → HitsT K H ls ((k, v) :: r) (PyData.eqv d d' && b)
variable {X : Cx}
def rEqT (K : PySem.W.Frag) : R2 := fun x y H Q => ∃ a b ks ls r, x = .ref a ∧ y = .ref b ∧ Rd H a (.dT ks) ∧ Rd H b (.dT ls) ∧ (ks.length = ls.length → HitsT K H ls ks r) ∧ Q (.bl (ks.length == ls.length && r)) H
theorem op_eqT (hu : X.A.units + 70 < cLine) : OpR X (compareOp .Eq) (rEqT X.K) := by
  intro pins s σ H x y v u Q I rx ry h
  obtain ⟨a, b, ks, ls, r, rfl, rfl, ea, eb, hits, q⟩ := h
  obtain rfl : v = Value.ref a := rx
  obtain rfl : u = Value.ref b := ry
  obtain ⟨_, ya, xs, ra, da⟩ := dt_rd I.hok ea
  obtain ⟨_, yb, ys, rb, db⟩ := dt_rd I.hok eb
  have la : ks.length = xs.length := Paired.length ra
  have lb : ls.length = ys.length := Paired.length rb
  have conv : ∀ (ks : List (List Key × V)) (xs : List (List Key × Addr × Value)) (r : Bool), KT H ks xs → HitsT X.K H ls ks r → HitsH X.A.in1 s ys xs r := by
    intro ks xs r hk hh
    induction hh generalizing xs with
    | nil => cases hk; exact .nil
    | @miss k v rest hn =>
      cases hk with
      | @cons _ q _ qs h t =>
        obtain ⟨k', p⟩ := q
        obtain ⟨h1, _, _⟩ := h
        have h1 : k = k' := h1
        subst h1
        refine .miss ?_
        have z := rb.val k
        rw [hn] at z
        cases e : atKey ys k with
        | none => rfl
        | some y => rw [e] at z; exact z.elim
    | @hit k v v' d d' rest b hv hd hd' pd pd' dd hr ih =>
      cases hk with
      | @cons _ q _ qs h t =>
        obtain ⟨k', p⟩ := q
        obtain ⟨h1, _, h3⟩ := h
        have h1 : k = k' := h1
        subst h1
        have z := rb.val k
        rw [hv] at z
        cases e : atKey ys k with
        | none => rw [e] at z; exact z.elim
        | some y =>
          rw [e] at z
          obtain ⟨as, r1⟩ := Dp.reads I d v p.2 hd h3
          obtain ⟨bs, r2⟩ := Dp.reads I d' v' y.2 hd' z
          exact .hit e (SeqAt.eqAt_plain d d' X.A.in1 s p.2 y.2 as bs r1 r2 pd pd' (by show X.A.units + 1 + _ < cLine; omega)) (ih _ t)
  refine heq_eq (knd := tupleKind (mixKind X.prog X.w)) (r := r) (by show X.A.units + 1 < cLine; omega) ya yb da db (by omega) (fun e => conv ks xs r ra (hits (by omega))) ⟨.bl _, H, I, rfl, ?_⟩
  rw [← la, ← lb]
  exact q
end
end Yd
namespace Yd
open PySem L2
/-! ### o as *o: an instance whose __iter__ gives the iterator of a dict with tuple keys, with a __len__ of its own -/
section
open PySem.W PySem.Calls
variable {X : Cx} {pins : List (Addr × Obj)} {σ : St} {H : Hp} {s : Shared} {A : Around}
theorem env0_sub {n : Nat} (sb : Sub X n A) (I : Inv X pins σ H s) : Env0 X.prog X.w X.K X.mg X.base A X.stack s H := by
  have e := I.env0
  exact ⟨by rw [sb.fr]; exact e.frames, e.mod, e.bs, e.bsz, e.funs, e.frf, e.hok, e.bare⟩
variable {k : Nat} {f C : Addr} {fd : FuncData} {ps : List Str} {us : List Value} {vs : List V} {Q : VK} {E : Value → Shared → Prop} {E0 : XK}
/-- a call, somewhere below the running body, of a def that lets nothing out -/
theorem run_sub {sp : Sp} (sb : Sub X k A) (F : FnOk X.prog X.w X.K X.mg X.base CX0 k f fd ps sp) (hb : Binds X.K fd ps []) (I : Inv X pins σ H s) (r : Vals vs us) (h : sp vs H Q E0) :
    wpAny (model X.prog X.w) A (call (.ref f) us) (EP X pins σ Q) E s := by
  have hl : (us ++ []).length = ps.length := by rw [List.append_nil, ← r.length]; exact F.len _ _ _ _ h
  have b := hb s us I.kIn hl
  rw [List.append_nil] at b
  refine wpAny_call (codeAny_mono (F.run A X.stack s H ⟨us, []⟩ us vs Q E0 sb.room (env0_sub sb I) b r h) fun r s' hq => ?_)
  match r, hq with
  | .ok (.ret u), hq => exact I.after hq
theorem run_subN {sp : Nat → Sp} (sb : Sub X k A) (F : FnN X.prog X.w X.K X.mg X.base k f fd ps sp) (hb : Binds X.K fd ps []) (I : Inv X pins σ H s) (r : Vals vs us) (h : sp s.heap.objs.size vs H Q E0) :
    wpAny (model X.prog X.w) A (call (.ref f) us) (EP X pins σ Q) E s := by
  have hl : (us ++ []).length = ps.length := by rw [List.append_nil, ← r.length]; exact F.len _ _ _ _ _ h
  have b := hb s us I.kIn hl
  rw [List.append_nil] at b
  refine wpAny_call (codeAny_mono (F.run A X.stack s H ⟨us, []⟩ us vs Q E0 sb.room (env0_sub sb I) b r h) fun r s' hq => ?_)
  match r, hq with
  | .ok (.ret u), hq => exact I.after hq
/-- a record of ours is pinned -/
theorem pinN {u : Addr} {o : Obj} (I : Inv X pins σ H s) (hu : s.heap.get? u = some o) (hn : H u = none) (hL : u ≠ X.env.locals) (hf : u ∉ X.fs) (hd : ∀ v, o.data ≠ .cell v) : Inv X ((u, o) :: pins) σ H s :=
  I.pins_of fun p hp => by
    rcases List.mem_cons.mp hp with rfl | hp
    · exact ⟨hu, hn, hL, hf, hd⟩
    · exact I.pin p (List.mem_append_right _ hp)
theorem pinO {u : Addr} {o : Obj} (I : Inv X ((u, o) :: pins) σ H s) : Inv X pins σ H s := I.pins_of fun p hp => I.pin p (List.mem_append_right _ (List.mem_cons_of_mem _ hp))
/-- how long o says that it is -/
theorem hint_own {spl : Sp} {dx : Addr} {fs : List (Str × V)} {a : Addr} {Q : Bool → Shared → Prop} (sb : Sub X (k + 1) A) (c : OpC X.K C "__len__" f) (F : FnOk X.prog X.w X.K X.mg X.base CX0 k f fd ps spl) (hb : Binds X.K fd ps []) (I : Inv X pins σ H s)
    (ha : H a = some (.ins C dx fs)) (h : spl [.ref a] H (fun v H' => H' = H ∧ ∃ n : Nat, v = .int n ∧ n ≤ sizeLine) E0) (hQ : ∀ b s', Inv X pins σ H s' → Q b s') :
    wpAny (model X.prog X.w) A (Builtin.List.listLengthHint (.ref a)) Q E s := by
  obtain ⟨m, hF⟩ := I.fr
  obtain ⟨mA, O, _⟩ := ins_get I.hok ha
  obtain ⟨oa, J, _⟩ := O.look
  unfold Builtin.List.listLengthHint
  refine wpAny_bind (wpAny_bind (J.type.here ((looks_findIn I.kIn c.at_).here ?_)))
  refine KFB.if_not rfl ?_
  refine KFB.if_so rfl ?_
  refine wpAny_bind (wpAny_rule ?_)
  refine wpAny_bind (wpAny_attempt (len_K hF I.ok.mod.kin J c.at_ c.fn (wpAny_mono (run_sub sb.in1 F hb I (us := [.ref a]) (vs := [.ref a]) (.cons rfl .nil) h) (fun r s1 ⟨z, H1, I1, rz, eH, n, ez, hn⟩ => ?_) fun _ _ z => z)))
  subst ez
  subst eH
  obtain ⟨t, rfl⟩ := (show ∃ t, r = Value.int (n : Int) t from rz)
  have h63 : (n : Int) < 2 ^ 63 := by
    have : sizeLine < 2 ^ 63 := by decide
    omega
  refine ⟨⟨Int.natCast_nonneg n, h63⟩, ?_⟩
  refine wpAny_bind (wpAny_pure ?_)
  refine wpAny_ite_split (fun z => ?_) (fun _ => wpAny_pure (hQ _ _ (I1.tok _)))
  exfalso
  have : ¬ (n > sizeLine) := by omega
  simp [Builtin.List.listTooLong] at z
  omega
theorem kt_up {H H2 : Hp} {kvs : List (List Key × V)} {ks : List (List Key × Addr × Value)} (up : ∀ b xs, H2 b = some (.tup xs) → H b = some (.tup xs)) (pr : KT H2 kvs ks) : KT H kvs ks := by
  induction pr with
  | nil => exact .nil
  | cons h t ih => exact .cons ⟨h.1, up _ _ h.2.1, h.2.2⟩ ih
/-- the class: its __iter__ and its __len__ -/
structure StarC (K : Frag) (C fi fl : Addr) : Prop where
  it : OpC K C "__iter__" fi
  ln : OpC K C "__len__" fl
section
variable {fi fl a d : Addr} {fdi fdl : FuncData} {psi psl : List Str} {sp : Nat → Sp} {spl : Sp} {dx : Addr} {fs : List (Str × V)} {od : Obj} {kvs : List (List Key × V)}
/-- where the list S takes in what o's iterator gives -/
theorem own_ext {S : Addr} {R : Result → Shared → Prop} (c : StarC X.K C fi fl) (FI : FnN X.prog X.w X.K X.mg X.base k fi fdi psi sp) (bI : Binds X.K fdi psi []) (FL : FnOk X.prog X.w X.K X.mg X.base CX0 k fl fdl psl spl) (bL : Binds X.K fdl psl [])
    (hr : Room (k + 2) X.A) (hh : X.A.handled = none) (fpS : FpOk X pins H S) (I2 : Inv X ((S, ({ cls := .type "list", data := .seq #[] 0 } : Obj)) :: pins) σ H s) (ha : H a = some (.ins C dx fs)) (hd : H d = some (.frz od (.dT kvs)))
    (hi : ∀ n, sp n [.ref a] H (fun v H2 => ∃ it, v = .ref it ∧ n ≤ it ∧ H it = none ∧ H2 = upd H it (KIo d it od kvs.length)) (fun _ _ _ => False))
    (hl : ∀ H2, H2 a = some (.ins C dx fs) → H2 d = some (.frz od (.dT kvs)) → spl [.ref a] H2 (fun v H' => H' = H2 ∧ ∃ n : Nat, v = .int n ∧ n ≤ sizeLine) (fun _ _ _ => False))
    (hR : ∀ (bs : List Addr) s' c', Inv X pins σ H s' → IsKeys H kvs bs → s'.heap.get? S = some { cls := .type "list", dict := none, data := .seq (bs.map Value.ref).toArray c', slots := #[] } → R (.ok (.ret (.ref S))) s') :
    wpAny (model X.prog X.w) X.A.in1 (Builtin.List.listExtendWith (.ref S) (.ref a) (.ref S))
      (fun fin s' => match fin with | .done f => R (.ok f) s' | .again c' => c'.quiet = true ∧ codeAny (model X.prog X.w) X.A c' R s') (fun e s' => R (.error e) s') s := by
  have sb1 : Sub X (k + 1) X.A.in1 := Sub.in1 (⟨hr, rfl⟩ : Sub X (k + 2) X.A)
  obtain ⟨m1, hF1⟩ := I2.fr
  obtain ⟨mA1, O1, _⟩ := ins_get I2.hok ha
  obtain ⟨oa1, J1, _⟩ := O1.look
  have hne : S ≠ a := fun z => by rw [← z, fpS.1] at ha; cases ha
  unfold Builtin.List.listExtendWith
  refine wpAny_bind (J1.type.here ?_)
  have h1 : Builtin.List.listSameRef (.ref S) (.ref a) = false := by simp [Builtin.List.listSameRef, hne]
  have h2 : (Value.ref C == Value.type "list") = false := rfl
  have h3 : (Value.ref C == Value.type "tuple") = false := rfl
  simp only [h1, h2, h3, Bool.or_false, Bool.false_eq_true, if_false]
  refine wpAny_bind (owit_iter hF1 I2.ok.mod.kin J1 c.it.at_ c.it.fn (wpAny_mono (run_subN (sb1.mono (Nat.le_succ k)) FI bI I2 (us := [.ref a]) (vs := [.ref a]) (.cons rfl .nil) (hi _)) (fun v s2 hv => ?_) fun _ _ z => z))
  obtain ⟨v', H2, I3, rv, it, ev, hn, hit, eH⟩ := hv
  subst ev
  obtain rfl : v = Value.ref it := rv
  have e2 : H2 it = some (KIo d it od kvs.length) := by rw [eH, upd_same]
  have young : X.s_0.heap.objs.size ≤ it := Nat.le_trans I2.sz hn
  have hd2 : H2 d = some (.frz od (.dT kvs)) := by rw [eH, upd_ne (ne_of_none hd hit)]; exact hd
  have ha2 : H2 a = some (.ins C dx fs) := by rw [eH, upd_ne (ne_of_none ha hit)]; exact ha
  have hT : s2.TypeIs (.ref it) "dict_keyiterator" := by
    obtain ⟨⟨es, ep, hdd, st⟩, _⟩ := (show ObjOk X.prog X.w H2 s2.heap it (KIo d it od kvs.length) from I3.hok it _ e2)
    exact let ⟨o, ho, hc, _⟩ := st; ⟨o, ho, hc⟩
  unfold OwitIt
  refine wpAny_specialOf hT PySem.F.slot_dict_keyiterator_next.lookup ?_
  refine wpAny_bind (wpAny_holding (hint_own sb1 c.ln FL bL I3 ha2 (hl H2 ha2 hd2) fun b s3 I4 => ?_))
  obtain ⟨⟨es, ep, hdd, st⟩, _⟩ := (show ObjOk X.prog X.w H2 s3.heap it (KIo d it od kvs.length) from I4.hok it _ e2)
  obtain ⟨hod, z, hsy, ks, pr, o', es', ep', ho, hx, hdt, he, hnd⟩ := I4.hok d _ hd2
  rw [hod] at ho
  cases ho
  rw [hdd] at hdt
  cases hdt
  have hS3 : s3.heap.get? S = some { cls := .type "list", data := .seq #[] 0 } := (I4.pin _ (List.mem_append_right _ (List.mem_cons_self ..))).1
  have l1 : es.size = ks.length := size_of_entries he
  have l2 : kvs.length = ks.length := Paired.length pr
  have hSit : S ≠ it := fun q => by
    have w := (I4.pin _ (List.mem_append_right _ (List.mem_cons_self ..))).2.1
    rw [q, e2] at w
    cases w
  have hSd : S ≠ d := fun q => by
    have w := (I4.pin _ (List.mem_append_right _ (List.mem_cons_self ..))).2.1
    rw [q, hd2] at w
    cases w
  have hdit : d ≠ it := ne_of hd2 e2 (fun z => nomatch z)
  have W := walks_raw (prog := X.prog) (w := X.w) (A := X.A.in1) (o := od) (es := es) (ep := ep) hh it d hdit hdd
  rw [l2, ← l1] at st
  have hSf : S ∉ [it, d] := by simp only [List.mem_cons, List.not_mem_nil, or_false, not_or]; exact ⟨hSit, hSd⟩
  have I5 : Inv X pins σ (ItX.dropH H2 it) s3 := by
    have w := e2
    unfold KIo at w
    exact ItX.inv_drop (pinO I4) w
  have fpI : FpOk X pins (ItX.dropH H2 it) it := ItX.inv_fp (pinO I4) e2 young
  have hdrop : ItX.dropH H2 it = H := by rw [eH]; exact ItX.dropH_upd hit
  rw [hdrop] at I5 fpI
  have pr' : KT H kvs ks := by
    have up : ∀ b xs, H2 b = some (.tup xs) → H b = some (.tup xs) := fun b xs e => by
      have hb : b ≠ it := fun q => by rw [q, e2] at e; cases e
      rw [eH, upd_ne hb] at e
      exact e
    exact kt_up up pr
  -- the loop
  have key : ∀ (h : Heap) (c₁ tk : Nat), h.IsKeyIter it d 0 es.size ep ∧ h.get? d = some od → (∀ b o, b ≠ S → s3.heap.get? b = some o → h.get? b = some o) → h.get? S = some { cls := .type "list", data := .seq #[] c₁ } →
      codeAny (model X.prog X.w) X.A (.builtin "list.extend.loop" ⟨[.ref S, .ref it, .ref S], []⟩) R { s3 with heap := h, toks := tk } := by
    intro h c₁ tk hst hk hS₁
    refine codeAny_extend_loopS W.toS (by omega) S hSf (.ref S) es.size 0 _ #[] c₁ rfl (Nat.zero_le _) hst hS₁ (ItemsOf.nil _) fun s' acc' c' hm hS' hacc => ?_
    have ke : ∀ b o, b ∉ [S, it] → s3.heap.get? b = some o → s'.heap.get? b = some o := fun b o hb e => by
      simp only [List.mem_cons, List.not_mem_nil, or_false, not_or] at hb
      exact hm.heap b o (by simp only [List.mem_cons, List.not_mem_nil, or_false, not_or]; exact hb) (hk b o hb.1 e)
    have ea : acc'.toList = ks.map fun x => Value.ref x.2.1 := by
      have hll : acc'.toList.length = ks.length := by rw [Array.length_toList, hacc.1]; exact l1
      apply List.ext_getElem?
      intro j
      rw [List.getElem?_map]
      cases hj : acc'.toList[j]? with
      | none =>
        have h1 := List.getElem?_eq_none_iff.mp hj
        rw [List.getElem?_eq_none (by omega)]
        all_goals rfl
      | some v =>
        obtain ⟨en, hen, hv⟩ := hacc.2 j v (by rw [← Array.getElem?_toList]; exact hj)
        have qe := entry_at he j
        rw [hen] at qe
        cases hb : ks[j]? with
        | none =>
          rw [hb] at qe
          exact nomatch (show some en = none from qe)
        | some b =>
          rw [hb] at qe
          have e2 : en = entryOfKey (tupleKind (mixKind X.prog X.w)) b := Option.some.inj qe
          rw [hv, e2]
          all_goals rfl
    have eb : acc'.toList = (ks.map fun x => x.2.1).map Value.ref := by rw [ea, List.map_map]; all_goals rfl
    have ec : acc' = ((ks.map fun x => x.2.1).map Value.ref).toArray := by rw [← eb]
    rw [ec] at hS'
    have es' := Moved.eq_with hm
    have J6 : Inv X pins σ H { s3 with heap := s'.heap, toks := s'.toks } := Inv.turnedL (ch := [S, it]) (t' := s'.toks) I5 ke fun b hb => by
      rcases List.mem_cons.mp hb with q | q
      · rw [q]; exact fpS
      · rw [List.mem_singleton.mp q]; exact fpI
    exact hR _ s' c' (by rw [es']; exact J6) (isKeys_of pr') hS'
  refine wpAny_ite_split (fun _ => ?_) (fun _ => wpAny_pure ⟨plainId_quiet PySem.F.plain_extend_loop _, key s3.heap 0 s3.toks ⟨st, hod⟩ (fun b o _ e => e) hS3⟩)
  refine wpAny_bind (wpAny_rule ?_)
  refine wpAny_bind ?_
  show wpAny _ _ (updateSeq S (·.push .none) >>= fun _ => updateSeq S (·.pop)) _ _ _
  refine wpAny_bind (wpAny_updateSeq hS3 rfl ?_)
  have hS₂ := Heap.get?_update_self (Obj.mapSeq (·.push Value.none)) hS3 rfl
  refine wpAny_updateSeq (hz := by seq_fits) hS₂ rfl ?_
  have hS₃ := Heap.get?_update_self (Obj.mapSeq (·.pop)) hS₂ rfl
  refine wpAny_pure ⟨plainId_quiet PySem.F.plain_extend_loop _, key _ _ _ ?_ (fun b o hb e => ?_) hS₃⟩
  · refine W.frame 0 _ _ ⟨st, hod⟩ fun b hb o e => ?_
    have hbS : b ≠ S := fun h => hSf (h ▸ hb)
    exact (Heap.get?_update_other _ _ (Ne.symm hbS)).trans ((Heap.get?_update_other _ _ (Ne.symm hbS)).trans e)
  · exact (Heap.get?_update_other _ _ (Ne.symm hb)).trans ((Heap.get?_update_other _ _ (Ne.symm hb)).trans e)
theorem star_own {Q : List Value → Shared → Prop} (c : StarC X.K C fi fl) (FI : FnN X.prog X.w X.K X.mg X.base k fi fdi psi sp) (bI : Binds X.K fdi psi []) (FL : FnOk X.prog X.w X.K X.mg X.base CX0 k fl fdl psl spl) (bL : Binds X.K fdl psl [])
    (hr : Room (k + 2) X.A) (hc : X.calm = true) (I : Inv X pins σ H s) (ha : H a = some (.ins C dx fs)) (hd : H d = some (.frz od (.dT kvs)))
    (hi : ∀ n, sp n [.ref a] H (fun v H2 => ∃ it, v = .ref it ∧ n ≤ it ∧ H it = none ∧ H2 = upd H it (KIo d it od kvs.length)) (fun _ _ _ => False))
    (hl : ∀ H2, H2 a = some (.ins C dx fs) → H2 d = some (.frz od (.dT kvs)) → spl [.ref a] H2 (fun v H' => H' = H2 ∧ ∃ n : Nat, v = .int n ∧ n ≤ sizeLine) (fun _ _ _ => False))
    (hQ : ∀ bs s', Inv X pins σ H s' → IsKeys H kvs bs → Q (bs.map Value.ref) s') : StarOf (model X.prog X.w) X.A E (.ref a) Q s := by
  obtain ⟨mA, O, _⟩ := ins_get I.hok ha
  obtain ⟨oa, J, _⟩ := O.look
  unfold StarOf notIterableAtAll
  refine wpAny_bind (wpAny_bind (J.type.here ((looks_findIn I.kIn c.it.at_).here ?_)))
  refine wpAny_pure ⟨rfl, ?_⟩
  have fpS : FpOk X pins H s.heap.objs.size := I.fpOk (Nat.le_refl _) (I.hok.fresh (Nat.le_refl _))
  have new : (s.heap.push { cls := .type "list", data := .seq ([] : List Value).toArray }).get? s.heap.objs.size = some { cls := .type "list", data := .seq #[] 0 } := Heap.get?_push_size _ rfl
  unfold collect
  refine wpAny_bind (wpAny_runValue (codeAny_builtin F.entry_proto_collect ?_))
  rw [Around.under_plainId F.plain_proto_collect _]
  refine wpAny_bind (m := newList []) (wpAny_newObj_type (wpAny_pure ⟨plainId_quiet F.plain_list_iadd _, codeAny_builtin F.entry_list_iadd ?_⟩))
  rw [Around.under_plainId F.plain_list_iadd _]
  have I1 : Inv X pins σ H { s with heap := s.heap.push { cls := .type "list", data := .seq ([] : List Value).toArray } } := I.kept (t' := s.toks) fun b o q => Heap.get?_push_of_some _ q
  have I2 := pinN (o := { cls := .type "list", data := .seq #[] 0 }) I1 new fpS.1 fpS.2.1 fpS.2.2.1 (fun v z => by cases z)
  refine wpAny_mono (own_ext (S := s.heap.objs.size) (R := fun rr s' => rr = .ok (.ret (.ref s.heap.objs.size)) ∧ ∃ (bs : List Addr) (c' : Nat), s'.heap.get? s.heap.objs.size = some { cls := .type "list", dict := none, data := .seq (bs.map Value.ref).toArray c', slots := #[] } ∧ Q (bs.map Value.ref) s')
    c FI bI FL bL hr (I.ok.hd hc) fpS I2 ha hd hi hl (fun bs s' c' I' ik e => ⟨rfl, bs, c', e, hQ bs s' I' ik⟩)) (fun fin s' z => ?_) fun e s' z => absurd z.1 (by simp)
  cases fin with
  | done f =>
    obtain ⟨e, bs, c', hS, q⟩ := z
    cases e
    exact wpAny_bind (m := load s.heap.objs.size) (wpAny_load hS (wpAny_pure (by simpa using q)))
  | again c2 =>
    refine ⟨z.1, codeAny_mono z.2 fun rr s'' y => ?_⟩
    obtain ⟨e, bs, c', hS, q⟩ := y
    cases e
    exact wpAny_bind (m := load s.heap.objs.size) (wpAny_load hS (wpAny_pure (by simpa using q)))
/-- [.., *o, ..] -/
def tStarO (C : Addr) (sp : Nat → Sp) (spl : Sp) (te : TE) (t : TA) : TA := fun σ H Q => te σ H fun x H1 => ∃ a dx fs d od kvs, x = V.ref a ∧ H1 a = some (.ins C dx fs) ∧ H1 d = some (.frz od (.dT kvs)) ∧
  (∀ n, sp n [.ref a] H1 (fun v H2 => ∃ it, v = .ref it ∧ n ≤ it ∧ H1 it = none ∧ H2 = upd H1 it (KIo d it od kvs.length)) (fun _ _ _ => False)) ∧
  (∀ H2, H2 a = some (.ins C dx fs) → H2 d = some (.frz od (.dT kvs)) → spl [.ref a] H2 (fun v H' => H' = H2 ∧ ∃ n : Nat, v = .int n ∧ n ≤ sizeLine) (fun _ _ _ => False)) ∧
  ∀ bs, IsKeys H1 kvs bs → t σ H1 fun ys H2 => Q (bs.map V.ref ++ ys) H2
theorem pa_starO {e : Expr} {es : List Expr} {te : TE} {t : TA} {p : Pos} (c : StarC X.K C fi fl) (FI : FnN X.prog X.w X.K X.mg X.base k fi fdi psi sp) (bI : Binds X.K fdi psi []) (FL : FnOk X.prog X.w X.K X.mg X.base CX0 k fl fdl psl spl) (bL : Binds X.K fdl psl [])
    (hr : Room (k + 2) X.A) (hc : X.calm = true) (he : PE X e te) (hrest : PA X es t) (hs : starEach (.Starred e p :: es) X.env = (true, eval e X.env) :: starEach es X.env := by rfl) : PA X (.Starred e p :: es) (tStarO C sp spl te t) := by
  refine ⟨fun pos pins s σ H Q I h => ?_⟩
  refine items_star (thn (he.run pins s σ H _ I h) fun v s1 ⟨y, H1, I1, ry, a, dx, fs, d, od, kvs, ey, ha, hd, hi, hl, q⟩ => ?_) hs
  subst ey
  obtain rfl : v = Value.ref a := ry
  refine star_own c FI bI FL bL hr hc I1 ha hd hi hl fun bs s2 I2 ik => ?_
  exact thn (hrest.run pos pins s2 σ H1 _ I2 (q bs ik)) fun ws s3 ⟨vs, H3, I3, r3, q3⟩ => ⟨bs.map V.ref ++ vs, H3, I3, (vals_refs bs).append r3, q3⟩
end
end
end Yd
namespace Yd
open PySem L2
/-! ### the class Hold -/
section
variable {K : PySem.W.Frag} {a : Addr} {xs : List V} {g : TG} {tt : TT} {tk tv te : TE} {vs : List Nat} {σ : St} {H1 : Hp} {D : Addr} {Qd : Hp → Prop}
theorem dp_list (Pv : Nat → Hp → Prop) (h0 : Pv 0 (upd H1 D (.dT []))) (hl : ∀ i H, i ≤ xs.length → Pv i H → SqL K H a xs)
    (hs : ∀ i x H, xs[i]? = some x → Pv i H → g x (wipe σ vs) H fun σ2 H2 => wipe σ2 vs = wipe σ vs ∧ tt σ2 H2 fun b H3 => if b = true then pairTurn D tk tv σ2 H3 (Pv (i + 1)) else Pv (i + 1) H3) (hd : ∀ H, Pv xs.length H → Qd H) :
    ∃ W : Nat → Nat → Hp → Prop, (∃ m, W 0 m (upd H1 D (.dT []))) ∧ ∀ i m H, W i m H →
      ((Itl K a).stop i H ∧ Qd H) ∨ ((Itl K a).go i H ∧ ∃ Nx : Hp → Prop, (∀ H', Nx H' → ∃ m', m' < m ∧ W (i + 1) m' H') ∧ ∀ x H', (Itl K a).yld i H x H' → g x (wipe σ vs) H' fun σ2 H2 => wipe σ2 vs = wipe σ vs ∧ tt σ2 H2 fun b H3 => if b = true then pairTurn D tk tv σ2 H3 Nx else Nx H3) :=
  dp_run (n := xs.length) Pv h0 (fun i H hi p => ⟨xs, xs[i], hl i H (by omega) p, List.getElem?_eq_getElem hi⟩) (fun H p => ⟨xs, hl _ H (Nat.le_refl _) p, Nat.le_refl _⟩) (fun i x H H' hi p y => by obtain ⟨e, y⟩ := y; subst e; exact hs i x _ (y xs (hl i _ (by omega) p)) p) hd
theorem dp_tupl (Pv : Nat → Hp → Prop) (h0 : Pv 0 (upd H1 D (.dT []))) (hl : ∀ i H, i ≤ xs.length → Pv i H → SqT K H a xs)
    (hs : ∀ i x H, xs[i]? = some x → Pv i H → g x (wipe σ vs) H fun σ2 H2 => wipe σ2 vs = wipe σ vs ∧ tt σ2 H2 fun b H3 => if b = true then pairTurn D tk tv σ2 H3 (Pv (i + 1)) else Pv (i + 1) H3) (hd : ∀ H, Pv xs.length H → Qd H) :
    ∃ W : Nat → Nat → Hp → Prop, (∃ m, W 0 m (upd H1 D (.dT []))) ∧ ∀ i m H, W i m H →
      ((Itt K a).stop i H ∧ Qd H) ∨ ((Itt K a).go i H ∧ ∃ Nx : Hp → Prop, (∀ H', Nx H' → ∃ m', m' < m ∧ W (i + 1) m' H') ∧ ∀ x H', (Itt K a).yld i H x H' → g x (wipe σ vs) H' fun σ2 H2 => wipe σ2 vs = wipe σ vs ∧ tt σ2 H2 fun b H3 => if b = true then pairTurn D tk tv σ2 H3 Nx else Nx H3) :=
  dp_run (n := xs.length) Pv h0 (fun i H hi p => ⟨xs, xs[i], hl i H (by omega) p, List.getElem?_eq_getElem hi⟩) (fun H p => ⟨xs, hl _ H (Nat.le_refl _) p, Nat.le_refl _⟩) (fun i x H H' hi p y => by obtain ⟨e, y⟩ := y; subst e; exact hs i x _ (y xs (hl i _ (by omega) p)) p) hd
/-- a list comprehension over the spots of a locked dict -/
theorem lc_spots {d : Addr} {od : Obj} {ps : List Pr} (Pv : Nat → Hp → Prop) (h0 : Pv 0 (upd H1 D (.lst []))) (hl : ∀ i H, i ≤ ps.length → Pv i H → H d = some (.frz od (.dT (pD ps))))
    (hs : ∀ i p q H, ps[i]? = some p → H q = some (.tup [.str p.1, .str p.2]) → Pv i H → g (.ref q) (wipe σ vs) H fun σ2 H2 => wipe σ2 vs = wipe σ vs ∧ tt σ2 H2 fun b H3 =>
      if b = true then te σ2 H3 fun y H4 => ∃ acc, H4 D = some (.lst acc) ∧ acc.length < sizeLine ∧ Pv (i + 1) (upd H4 D (.lst (acc ++ [y]))) else Pv (i + 1) H3) (hd : ∀ H, Pv ps.length H → Qd H) :
    ∃ W : Nat → Nat → Hp → Prop, (∃ m, W 0 m (upd H1 D (.lst []))) ∧ ∀ i m H, W i m H →
      ((Itkt d od (pD ps)).stop i H ∧ Qd H) ∨ ((Itkt d od (pD ps)).go i H ∧ ∃ Nx : Hp → Prop, (∀ H', Nx H' → ∃ m', m' < m ∧ W (i + 1) m' H') ∧ ∀ x H', (Itkt d od (pD ps)).yld i H x H' → g x (wipe σ vs) H' fun σ2 H2 => wipe σ2 vs = wipe σ vs ∧ tt σ2 H2 fun b H3 =>
        if b = true then te σ2 H3 fun y H4 => ∃ acc, H4 D = some (.lst acc) ∧ acc.length < sizeLine ∧ Nx (upd H4 D (.lst (acc ++ [y]))) else Nx H3) :=
  lc_run (n := ps.length) Pv h0 (fun i H hi p => ⟨hl i H (by omega) p, by rw [pD_len]; exact hi⟩) (fun H p => ⟨hl _ H (Nat.le_refl _) p, by rw [pD_len]; exact Nat.le_refl _⟩) (fun i x H H' hi p y => by
    obtain ⟨e, k, v, q, hk, ex, hq⟩ := y
    subst e ex
    unfold pD at hk
    rw [List.getElem?_map] at hk
    cases hp : ps[i]? with
    | none => rw [hp] at hk; cases hk
    | some pr =>
      rw [hp] at hk
      obtain ⟨rfl, _⟩ := Prod.mk.inj (Option.some.inj hk)
      exact hs i pr q _ hp hq p) hd
end
theorem same_seqT {K : PySem.W.Frag} {H H' : Hp} {a : Addr} {xs : List V} (s : Same H H') (h : SqT K H a xs) : SqT K H' a xs := by
  rcases h with (h | ⟨o, h⟩) | h
  · exact .inl (.inl (s _ _ h))
  · exact .inl (.inr ⟨o, s _ _ h⟩)
  · exact .inr h
structure HCls (K : PySem.W.Frag) (C : Addr) : Prop where
  cls : Cls K C
  nS : NoAttr K C "_spots"
/-- a hold of these spots, its dict at d -/
structure HoldAt (H : Hp) (C a d : Addr) (ps : List Pr) : Prop where
  ins : ∃ dx, H a = some (.ins C dx [("_spots", .ref d)])
  dict : H d = some (.dT (pD ps))
  nd : ps.Nodup
theorem HoldAt.keep {H H' : Hp} {C a d : Addr} {ps : List Pr} (h : HoldAt H C a d ps) (s : Same H H') : HoldAt H' C a d ps := ⟨let ⟨dx, e⟩ := h.ins; ⟨dx, s _ _ e⟩, s _ _ h.dict, h.nd⟩
theorem PairsAt.same {H H' : Hp} {xs : List V} {ps : List Pr} (h : PairsAt H xs ps) (s : Same H H') : PairsAt H' xs ps := h.keep fun t ys e => s t _ e
/-- a list or a tuple of pairs -/
def RowsP (K : PySem.W.Frag) (H : Hp) (l : Addr) (ps : List Pr) : Prop := ∃ xs, PairsAt H xs ps ∧ (SqL K H l xs ∨ SqT K H l xs)
def spHInit (K : PySem.W.Frag) : Sp := fun vs H Q _ => ∃ (a C dx l : Addr) (ps : List Pr), vs = [.ref a, .ref l] ∧ H a = some (.ins C dx []) ∧ HCls K C ∧ RowsP K H l ps ∧ ps.length ≤ 1000 ∧
  ∀ d H', H d = none → Gro a H H' → H' a = some (.ins C dx [("_spots", .ref d)]) → H' d = some (.dT (pD (onceP ps))) → Q .non H'
def spHIter (K : PySem.W.Frag) : Nat → Sp := fun n vs H Q _ => ∃ (a C dx d : Addr) (od : Obj) (ps : List Pr), vs = [.ref a] ∧ H a = some (.ins C dx [("_spots", .ref d)]) ∧ HCls K C ∧ H d = some (.frz od (.dT (pD ps))) ∧
  ∀ it, H it = none → n ≤ it → Q (.ref it) (upd H it (KIo d it od (pD ps).length))
def spHLen (K : PySem.W.Frag) : Sp := fun vs H Q _ => ∃ (a C dx d : Addr) (ps : List Pr), vs = [.ref a] ∧ H a = some (.ins C dx [("_spots", .ref d)]) ∧ HCls K C ∧ Rd H d (.dT (pD ps)) ∧ Q (.int (ps.length : Nat)) H
def spHIn (K : PySem.W.Frag) : Sp := fun vs H Q _ => ∃ (a C dx d t : Addr) (ps : List Pr) (p : Pr), vs = [.ref a, .ref t] ∧ H a = some (.ins C dx [("_spots", .ref d)]) ∧ HCls K C ∧ Rd H d (.dT (pD ps)) ∧ H t = some (.tup [.str p.1, .str p.2]) ∧ Q (.bl (decide (p ∈ ps))) H
/-- len of a dict with tuple keys, locked or not -/
theorem call_lenT {X : Cx} : CallR X (.builtin "len") (fun xs H Q => ∃ (p : Addr) (kvs : List (List Key × V)), xs = [.ref p] ∧ Rd H p (.dT kvs) ∧ Q (.int ((kvs.length : Nat) : Int)) H) := by
  intro pins s σ H xs us Q I r h
  obtain ⟨p, kvs, rfl, hp, q⟩ := h
  obtain ⟨u, rfl, rx⟩ := vals1 r
  obtain rfl : u = .ref p := rx
  obtain ⟨z, hd, ys, rel, dd⟩ := dt_rd I.hok hp
  have hl : kvs.length = ys.length := Paired.length rel
  refine call_len_dictH hd dd (by rw [← hl]; rw [sizeLine_eq] at z; omega) ?_
  rw [← hl]
  exact ⟨.int ((kvs.length : Nat) : Int), H, I.tok _, ⟨_, rfl⟩, q⟩
section
variable {P : Program} {w : World} {K : PySem.W.Frag} {mg : Str → Option Value} {base : Heap}
theorem scHIter : FnScope ["self"] ["self"] (defScope sHoldIter) := ⟨rfl, rfl, rfl, by decide +kernel, rfl, by decide +kernel, by decide +kernel⟩
theorem ok_hIter {f : Addr} {fd : FuncData} (F : Fun K "__iter__" "Hold.__iter__" sHoldIter f fd) (hI : mg "iter" = none) : FnN P w K mg base 1 f fd ["self"] (spHIter K) := by
  refine fun_N F scHIter (fun n vs H Q E h => ?_) (fun cdv A outer s H vs Q E hr h => ?_)
  · obtain ⟨a, C, dx, d, od, ps, rfl, _⟩ := h
    rfl
  · obtain ⟨a, C, dx, d, od, ps, rfl, ha, hc, hd, k⟩ := h
    refine ⟨_, pss_one (ps_ret (pe_callB call_iterK (by rfl) hI (by decide +kernel) (pa_cons (pe_fld (pv 0) rfl) pa_nil))), ?_⟩
    exact ⟨_, rfl, a, C, dx, _, _, rfl, ha, hc.cls, hc.nS, rfl, d, od, _, rfl, .inr ⟨_, hd, rfl⟩, fun it h1 h2 => k it h1 h2⟩
theorem scHLen : FnScope ["self"] ["self"] (defScope sHoldLen) := ⟨rfl, rfl, rfl, by decide +kernel, rfl, by decide +kernel, by decide +kernel⟩
theorem ok_hLen {f : Addr} {fd : FuncData} (F : Fun K "__len__" "Hold.__len__" sHoldLen f fd) (hL : mg "len" = none) : FnOk P w K mg base CX0 1 f fd ["self"] (spHLen K) := by
  refine F.ok scHLen (fun vs H Q E h => ?_) (fun cdv A outer s H vs Q E hr h => ?_)
  · obtain ⟨a, C, dx, d, ps, rfl, _⟩ := h
    rfl
  · obtain ⟨a, C, dx, d, ps, rfl, ha, hc, hd, k⟩ := h
    refine ⟨_, pss_one (ps_ret (pe_callB call_lenT (by rfl) hL PySem.boot_len (pa_cons (pe_fld (pv 0) rfl) pa_nil))), ?_⟩
    refine ⟨_, rfl, a, C, dx, _, _, rfl, ha, hc.cls, hc.nS, rfl, d, _, rfl, hd, ?_⟩
    rw [pD_len]
    exact k
theorem scHIn : FnScope ["self", "x"] ["self", "x"] (defScope sHoldIn) := ⟨rfl, rfl, rfl, by decide +kernel, rfl, by decide +kernel, by decide +kernel⟩
theorem ok_hIn {f : Addr} {fd : FuncData} (F : Fun K "__contains__" "Hold.__contains__" sHoldIn f fd) : FnOk P w K mg base CX0 1 f fd ["self", "x"] (spHIn K) := by
  refine F.ok scHIn (fun vs H Q E h => ?_) (fun cdv A outer s H vs Q E hr h => ?_)
  · obtain ⟨a, C, dx, d, t, ps, p, rfl, _⟩ := h
    rfl
  · obtain ⟨a, C, dx, d, t, ps, p, rfl, ha, hc, hd, ht, k⟩ := h
    refine ⟨_, pss_one (ps_ret (pe_cmp (pc_din (hu_of hr) (pv 1) (pe_fld (pv 0) rfl)))), ?_⟩
    refine ⟨_, rfl, _, rfl, a, C, dx, _, _, rfl, ha, hc.cls, hc.nS, rfl, d, _, rfl, .inr ⟨_, kP p, t, hd, rfl, ht, rfl⟩, ?_⟩
    rw [pD_val]
    by_cases m : p ∈ ps
    · rw [if_pos m, decide_eq_true m] at *
      exact k
    · rw [if_neg m, decide_eq_false m] at *
      exact k
def nHInit : List Str := ["self", "rows", "kind", "standing"]
theorem scHInit : FnScope nHInit ["self", "rows"] (defScope sHoldInit) := ⟨rfl, rfl, rfl, by decide +kernel, rfl, by decide +kernel, by decide +kernel⟩
theorem ok_hInit {f : Addr} {fd : FuncData} {dvs : List V} (F : FunD K "__init__" "Hold.__init__" (defArgs sHoldInit) (defBody sHoldInit) (defScope sHoldInit) dvs [] f fd) : FnOk P w K mg base CX0 1 f fd ["self", "rows"] (spHInit K) := by
  refine F.ok scHInit (fun vs H Q E h => ?_) (fun cdv A outer s H vs Q E hr h => ?_)
  · obtain ⟨a, C, dx, l, ps, rfl, _⟩ := h
    rfl
  · obtain ⟨a, C, dx, l, ps, rfl, ha, hc, ⟨xs, hxs, hl⟩, hlen, k⟩ := h
    have hu := hu_of hr
    have turn : ∀ (D : Addr) (i : Nat) (x : V) (H' : Hp), H D = none → xs[i]? = some x → Same H H' → H' D = some (.dT (pD (onceP (ps.take i)))) → ∃ t p, x = .ref t ∧ ps[i]? = some p ∧ H' t = some (.tup [.str p.1, .str p.2]) ∧
        ∀ b, H' b = none → ∃ kvs k c, V.ref b = .ref c ∧ upd H' b (.tup [.str p.1, .str p.2]) c = some (.tup (List.map kV k)) ∧ upd H' b (.tup [.str p.1, .str p.2]) D = some (.dT kvs) ∧ kvs.length < sizeLine ∧
          (Same H (upd (upd H' b (.tup [.str p.1, .str p.2])) D (.dT (putK kvs k (.bl true)))) ∧ upd (upd H' b (.tup [.str p.1, .str p.2])) D (.dT (putK kvs k (.bl true))) D = some (.dT (pD (onceP (ps.take (i + 1)))))) := fun D i x H' hD hi s e => by
      obtain ⟨t, p, ex, hp, ht⟩ := PairsAt.get (hxs.same s) hi
      refine ⟨t, p, ex, hp, ht, fun b hb => ?_⟩
      have nDb : D ≠ b := ne_of_none e hb
      refine ⟨_, kP p, b, rfl, upd_same, by rw [upd_ne nDb]; exact e, ?_, fun c o q => ?_, ?_⟩
      · have q := onceP_len (ps.take i)
        rw [List.length_take] at q
        refine small1000 ?_
        rw [pD_len]
        omega
      · rw [upd_ne (ne_of_none q hD), upd_ne (ne_of_none (s c o q) hb)]
        exact s c o q
      · rw [upd_same, pD_put, onceP_more hp]
    have start : ∀ D, H D = none → Same H (upd H D (.dT [])) ∧ upd H D (.dT []) D = some (.dT (pD (onceP (ps.take 0)))) := fun D hD => ⟨fun b o e => by rw [upd_ne (ne_of_none e hD)]; exact e, upd_same⟩
    have lx : xs.length = ps.length := hxs.len
    have fin : ∀ (D : Addr) (H' : Hp), H D = none → Same H H' → H' D = some (.dT (pD (onceP (ps.take xs.length)))) → Q .non (upd H' a (.ins C dx [("_spots", .ref D)])) := fun D H' hD s e => by
      rw [lx, List.take_length] at e
      have naD : D ≠ a := (ne_of_none ha hD).symm
      exact k D _ hD (fun b o q n => by rw [upd_ne n]; exact s b o q) upd_same (by rw [upd_ne naD]; exact e)
    rcases hl with hl | hl
    · refine ⟨_, pss_one (ps_fld (pv 0) (pe_dp (own := [("kind", 2), ("standing", 3)]) (g := gTup K 2 (gCons (gName 2) (gCons (gName 3) gNil))) (tt := tYes) (Nat.lt_trans (Nat.lt_succ_self _) hu) rfl scHInit.nd (pi_list (pv 1)) (blkOk_by (N := nHInit) (sc := defScope sHoldInit) (by decide +kernel))
        (fun _ _ _ _ _ => pg_tup (by rfl) (pgs_cons (pg_name (i := 2) scHInit.nd rfl (Or.inl rfl)) (pgs_cons (pg_name (i := 3) scHInit.nd rfl (Or.inl rfl)) pgs_nil))) (fun _ _ _ _ _ => pts_nil)
        (fun _ _ _ _ _ => pe_tup (pa_cons (pv 2) (pa_cons (pv 3) pa_nil))) (fun _ _ _ _ _ => pe_bl)) rfl), ?_⟩
      refine ⟨_, rfl, l, rfl, ⟨_, hl⟩, fun D hD => ?_⟩
      refine dp_list (K := K) (a := l) (xs := xs) (fun i H' => Same H H' ∧ H' D = some (.dT (pD (onceP (ps.take i))))) (start D hD) (fun i H' _ h => h.1.seq hl) (fun i x H' hi h => ?_) fun H' h => ?_
      · obtain ⟨t, p, rfl, hp, ht, go⟩ := turn D i x H' hD hi h.1 h.2
        refine ⟨t, _, rfl, SqT.of ht, rfl, _, _, rfl, _, _, rfl, rfl, rfl, ?_⟩
        exact ⟨_, rfl, _, rfl, (by show 2 ≤ sizeLine; decide), fun b hb => go b hb⟩
      · exact ⟨_, rfl, a, C, dx, _, rfl, h.1 _ _ ha, hc.cls, hc.nS, (by show 0 < 1000; decide), fin D H' hD h.1 h.2⟩
    · refine ⟨_, pss_one (ps_fld (pv 0) (pe_dp (own := [("kind", 2), ("standing", 3)]) (g := gTup K 2 (gCons (gName 2) (gCons (gName 3) gNil))) (tt := tYes) (Nat.lt_trans (Nat.lt_succ_self _) hu) rfl scHInit.nd (pi_tup (pv 1)) (blkOk_by (N := nHInit) (sc := defScope sHoldInit) (by decide +kernel))
        (fun _ _ _ _ _ => pg_tup (by rfl) (pgs_cons (pg_name (i := 2) scHInit.nd rfl (Or.inl rfl)) (pgs_cons (pg_name (i := 3) scHInit.nd rfl (Or.inl rfl)) pgs_nil))) (fun _ _ _ _ _ => pts_nil)
        (fun _ _ _ _ _ => pe_tup (pa_cons (pv 2) (pa_cons (pv 3) pa_nil))) (fun _ _ _ _ _ => pe_bl)) rfl), ?_⟩
      refine ⟨_, rfl, l, rfl, ⟨_, hl⟩, fun D hD => ?_⟩
      refine dp_tupl (K := K) (a := l) (xs := xs) (fun i H' => Same H H' ∧ H' D = some (.dT (pD (onceP (ps.take i))))) (start D hD) (fun i H' _ h => same_seqT h.1 hl) (fun i x H' hi h => ?_) fun H' h => ?_
      · obtain ⟨t, p, rfl, hp, ht, go⟩ := turn D i x H' hD hi h.1 h.2
        refine ⟨t, _, rfl, SqT.of ht, rfl, _, _, rfl, _, _, rfl, rfl, rfl, ?_⟩
        exact ⟨_, rfl, _, rfl, (by show 2 ≤ sizeLine; decide), fun b hb => go b hb⟩
      · exact ⟨_, rfl, a, C, dx, _, rfl, h.1 _ _ ha, hc.cls, hc.nS, (by show 0 < 1000; decide), fin D H' hD h.1 h.2⟩
end
end Yd
namespace Yd
open PySem L2
/-! ### Hold: comparisons and operators -/
/-- the class as it stands: what is known of it -/
structure HoldC (P : Program) (w : World) (K : PySem.W.Frag) (mg : Str → Option Value) (base : Heap) (C : Addr) : Prop where
  h : HCls K C
  g : mg "Hold" = some (.ref C)
  ca : PySem.W.findIn K (.ref C) "__class__" = some (some (.builtin "object.__class__"))
  cn : PySem.W.specialIn K (.builtin "object.__class__") "__get__" = some (some (.builtin "getset_descriptor.__get__"))
  ct : PySem.W.takesIn K (.builtin "object.__class__") = some true
  cm : PySem.W.mroIn K C (.type "object") = some true
  kH : PySem.W.kitOne K (.ref C) (.ref C) = some true
  kL : PySem.W.kitOne K (.type "list") (.ref C) = some false
  sf : PySem.W.selfFirst K C = true
  nf : PySem.W.notFirst K C (.type "list") = true
  st : ∃ fi fl fdi fdl, StarC K C fi fl ∧ FnN P w K mg base 1 fi fdi ["self"] (spHIter K) ∧ Binds K fdi ["self"] [] ∧ FnOk P w K mg base CX0 1 fl fdl ["self"] (spHLen K) ∧ Binds K fdl ["self"] []
  inn : ∃ f fd, OpC K C "__contains__" f ∧ FnOk P w K mg base CX0 1 f fd ["self", "x"] (spHIn K) ∧ Binds K fd ["self", "x"] []
  ini : ∃ f fd e ee, Mk K C f ∧ FnOk P w K mg base CX0 1 f fd ["self", "rows"] (spHInit K) ∧ Binds K fd ["self", "rows"] [] ∧ Binds K fd ["self", "rows"] [ee] ∧ RelV (.ref e) ee ∧ ∀ H, SqT K H e []
theorem HoldAt.ty {P : Program} {w : World} {K : PySem.W.Frag} {mg : Str → Option Value} {base : Heap} {C a d : Addr} {H : Hp} {ps : List Pr} (h : HoldAt H C a d ps) (c : HoldC P w K mg base C) : TyX K H (.ref a) (.ref C) :=
  let ⟨_, e⟩ := h.ins; .base (.ins e c.h.cls c.ca c.cn c.ct c.cm)
theorem same_unlock {H H' : Hp} {d : Addr} {u : HO} (hd : H d = some u) (h : ∀ q o, H q = some o → q ≠ d → H' q = some o) : Same H (upd H' d u) := fun q o e => by
  by_cases n : q = d
  · subst n
    rw [upd_same, ← e, hd]
  · rw [upd_ne n]
    exact h q o e n
theorem HoldAt.rd {H H' : Hp} {C b d1 d2 : Addr} {ps qs : List Pr} {od : Obj} (h2 : HoldAt H C b d2 qs) (h1 : H d1 = some (.dT (pD ps))) (hk : ∀ q o, H q = some o → q ≠ d1 → H' q = some o) (hd : H' d1 = some (.frz od (.dT (pD ps)))) :
    (∃ dy, H' b = some (.ins C dy [("_spots", .ref d2)])) ∧ Rd H' d2 (.dT (pD qs)) := by
  obtain ⟨dy, e⟩ := h2.ins
  refine ⟨⟨dy, hk _ _ e (ne_of e h1 (fun z => nomatch z))⟩, ?_⟩
  by_cases n : d2 = d1
  · have q := h2.dict
    rw [n, h1] at q
    refine .inr ⟨od, ?_⟩
    rw [n, hd]
    rw [HO.dT.inj (Option.some.inj q)]
  · exact .inl (hk _ _ h2.dict n)
def onceP_id : ∀ {ps : List Pr}, ps.Nodup → onceP ps = ps := by
  suffices q : ∀ (l acc : List Pr), (acc ++ l).Nodup → l.foldl addP acc = acc ++ l from fun {ps} h => q ps [] h
  intro l
  induction l with
  | nil => intro acc _; simp
  | cons s l ih =>
    intro acc h
    rw [List.foldl_cons]
    have hs : s ∉ acc := fun m => by
      rw [List.nodup_append] at h
      exact h.2.2 s m s (List.mem_cons_self ..) rfl
    have e : addP acc s = acc ++ [s] := by unfold addP; rw [if_neg hs]
    rw [e, ih _ (by rw [List.append_assoc]; exact h), List.append_assoc]
    rfl
/-- the promise of a def that two holds are given to, which hands back a new one -/
def spHNew (K : PySem.W.Frag) (C : Addr) (op : List Pr → List Pr → List Pr) : Sp := fun vs H Q _ => ∃ (a b d1 d2 : Addr) (ps qs : List Pr), vs = [.ref a, .ref b] ∧ HoldAt H C a d1 ps ∧ HoldAt H C b d2 qs ∧ ps.length ≤ 500 ∧ qs.length ≤ 500 ∧
  ∀ c d' H', Same H H' → H c = none → HoldAt H' C c d' (op ps qs) → Q (.ref c) H'
def spHOr (K : PySem.W.Frag) (C : Addr) : Sp := fun vs H Q _ => ∃ (a b d1 d2 : Addr) (ps qs : List Pr), vs = [.ref a, .ref b] ∧ HoldAt H C a d1 ps ∧ HoldAt H C b d2 qs ∧ d1 ≠ d2 ∧ ps.length ≤ 500 ∧ qs.length ≤ 500 ∧
  ∀ c d' H', Same H H' → H c = none → HoldAt H' C c d' (onceP (ps ++ qs)) → Q (.ref c) H'
def spHLe (K : PySem.W.Frag) (C : Addr) : Sp := fun vs H Q _ => ∃ (a b d1 d2 : Addr) (ps qs : List Pr), vs = [.ref a, .ref b] ∧ HoldAt H C a d1 ps ∧ HoldAt H C b d2 qs ∧ ps.length ≤ 500 ∧ ∀ H', Same H H' → Q (.bl (ps.all fun p => decide (p ∈ qs))) H'
def spHEq (K : PySem.W.Frag) (C : Addr) : Sp := fun vs H Q _ => ∃ (a b d1 : Addr) (ps : List Pr), vs = [.ref a, .ref b] ∧ HoldAt H C a d1 ps ∧
  ((∃ d2 qs, HoldAt H C b d2 qs ∧ Q (.bl (ps.length == qs.length && ps.all fun p => decide (p ∈ qs))) H) ∨ ∃ ys, H b = some (.lst ys) ∧ Q (.bl false) H)
theorem hits_holds {K : PySem.W.Frag} {H : Hp} (qs : List Pr) : ∀ ps : List Pr, HitsT K H (pD qs) (pD ps) (ps.all fun p => decide (p ∈ qs))
  | [] => .nil
  | p :: ps => by
    have ih := hits_holds (K := K) (H := H) qs ps
    have e : pD (p :: ps) = (kP p, V.bl true) :: pD ps := rfl
    rw [e, List.all_cons]
    by_cases m : p ∈ qs
    · rw [decide_eq_true m]
      have v : valV (pD qs) (kP p) = some (V.bl true) := by rw [pD_val, if_pos m]
      exact .hit (d := .bool true) (d' := .bool true) v (.bl true) (.bl true) rfl rfl (Nat.zero_le _) ih
    · rw [decide_eq_false m, Bool.false_and]
      exact .miss (by rw [pD_val, if_neg m])
section
variable {P : Program} {w : World} {K : PySem.W.Frag} {mg : Str → Option Value} {base : Heap}
def nHLe : List Str := ["self", "other", "spot"]
theorem scHLe : FnScope nHLe ["self", "other"] (defScope sHoldLe) := ⟨rfl, rfl, rfl, by decide +kernel, rfl, by decide +kernel, by decide +kernel⟩
theorem small500 {n : Nat} (h : n ≤ 1000) : n < sizeLine := by rw [sizeLine_eq]; omega
theorem ok_hLe {f C : Addr} {fd : FuncData} (F : Fun K "__le__" "Hold.__le__" sHoldLe f fd) (c : HoldC P w K mg base C) (hI : mg "isinstance" = none) (hA : mg "all" = none) : FnOk P w K mg base CX0 2 f fd ["self", "other"] (spHLe K C) := by
  refine F.ok scHLe (fun vs H Q E h => ?_) (fun cdv A outer s H vs Q E hr h => ?_)
  · obtain ⟨a, b, d1, d2, ps, qs, rfl, _⟩ := h
    rfl
  · obtain ⟨a, b, d1, d2, ps, qs, rfl, h1, h2, hl, k⟩ := h
    obtain ⟨fi, fl, fdi, fdl, sc, GI, bI, GL, bL⟩ := c.st
    obtain ⟨fk, fdk, ck, GK, bK⟩ := c.inn
    refine ⟨_, pss_cons (ps_if (pt_not (pt_val (pe_callB call_isi (by rfl) hI (by decide +kernel) (pa_cons (pv 1) (pa_cons (pe_glob (v := .ref C) (by rfl) c.g rfl) pa_nil))))) pss_never pss_nil)
      (pss_one (ps_ret (pe_callB (cr_all rfl) (by rfl) hA (by decide +kernel) (pa_cons (pe_lock (pe_lc (own := [("spot", 2)]) (g := gName 2) (tt := tYes) rfl scHLe.nd (pi_own (pv 0) sc.it.at_ sc.it.fn GI hr bI) (blkOk_by (N := nHLe) (sc := defScope sHoldLe) (by decide +kernel))
        (fun _ _ _ _ _ => pg_name (i := 2) scHLe.nd rfl (Or.inl rfl)) (fun _ _ _ _ _ => pts_nil) (fun _ _ _ _ _ => pe_cmpR (op_inO (E := fun _ _ _ => False) ck GK hr bK pass0) (pv 2) (pv 1) rfl))) pa_nil)))), ?_⟩
    refine ⟨_, rfl, _, _, _, _, true, rfl, .own C, h2.ty c, c.kH, true, rfl, no rfl ?_⟩
    obtain ⟨dx, ea⟩ := h1.ins
    refine ⟨d1, _, h1.dict, True.intro, fun od => ?_⟩
    have nad : a ≠ d1 := ne_of ea h1.dict (by intro z; cases z)
    refine ⟨_, rfl, a, dx, _, rfl, by rw [upd_ne nad]; exact ea, fun n => ⟨a, C, dx, d1, od, ps, rfl, by rw [upd_ne nad]; exact ea, c.h, upd_same, fun it hit hn => ⟨it, d1, od, _, rfl, hn, upd_same, .inr ⟨_, by rw [upd_ne (ne_of_none upd_same hit)]; exact upd_same, rfl, ?_⟩⟩⟩⟩
    rw [ItX.dropH_upd hit]
    intro Dl hDl
    have nDd : d1 ≠ Dl := fun q => by rw [← q, upd_same] at hDl; cases hDl
    have hD0 : H Dl = none := by rw [upd_ne nDd.symm] at hDl; exact hDl
    refine lc_spots (fun j H' => (∀ q o, H q = some o → q ≠ d1 → H' q = some o) ∧ H' d1 = some (.frz od (.dT (pD ps))) ∧ H' Dl = some (.lst ((ps.take j).map fun p => V.bl (decide (p ∈ qs)))))
      ⟨fun q o e1 e2 => by rw [upd_ne (ne_of_none e1 hD0), upd_ne e2]; exact e1, by rw [upd_ne nDd, upd_same], upd_same⟩ (fun j H' _ h => h.2.1) ?_ ?_
    · rintro j p q H' hp hq ⟨s1, s2, s3⟩
      obtain ⟨⟨dy, eb⟩, rd⟩ := h2.rd h1.dict s1 s2
      refine ⟨rfl, _, rfl, _, rfl, b, dy, _, rfl, eb, b, C, dy, d2, q, qs, p, rfl, eb, c.h, rd, hq, _, rfl, ?_⟩
      have hj : j < ps.length := (List.getElem?_eq_some_iff.mp hp).1
      refine ⟨_, s3, small500 (by rw [List.length_map, List.length_take]; omega), fun x o e1 e2 => ?_, by rw [upd_ne nDd]; exact s2, ?_⟩
      · rw [upd_ne (ne_of_none e1 hD0)]
        exact s1 x o e1 e2
      · rw [upd_same, takeP hp, List.map_append]
        have z : ∀ b : Bool, (b == true) = b := fun b => by cases b <;> rfl
        rw [z]
        rfl
    · rintro H' ⟨s1, s2, s3⟩
      rw [List.take_length] at s3
      refine ⟨s2, Dl, ps.map fun p => decide (p ∈ qs), rfl, SqL.of (by rw [upd_ne nDd.symm, s3, List.map_map]; rfl), ?_⟩
      have e : ((ps.map fun p => decide (p ∈ qs)).all id) = ps.all fun p => decide (p ∈ qs) := by rw [List.all_map]; rfl
      rw [e]
      exact k _ (same_unlock h1.dict s1)
theorem scHEq : FnScope ["self", "other"] ["self", "other"] (defScope sHoldEq) := ⟨rfl, rfl, rfl, by decide +kernel, rfl, by decide +kernel, by decide +kernel⟩
theorem units70 {n : Nat} {A : Around} (h : Room n A) : A.units + 70 < cLine := by
  have := h.un
  omega
theorem ok_hEq {f C : Addr} {fd : FuncData} (F : Fun K "__eq__" "Hold.__eq__" sHoldEq f fd) (c : HoldC P w K mg base C) (hI : mg "isinstance" = none) : FnOk P w K mg base CX0 1 f fd ["self", "other"] (spHEq K C) := by
  refine F.ok scHEq (fun vs H Q E h => ?_) (fun cdv A outer s H vs Q E hr h => ?_)
  · obtain ⟨a, b, d1, ps, rfl, _⟩ := h
    rfl
  · obtain ⟨a, b, d1, ps, rfl, h1, hq⟩ := h
    refine ⟨_, pss_one (ps_ret (pe_and (pe_callB call_isi (by rfl) hI (by decide +kernel) (pa_cons (pv 1) (pa_cons (pe_glob (v := .ref C) (by rfl) c.g rfl) pa_nil)))
      (pe_one (pe_cmpR (op_eqT (units70 hr)) (pe_fld (pv 0) rfl) (pe_fld (pv 1) rfl) (nomark _))))), ?_⟩
    obtain ⟨dx, ea⟩ := h1.ins
    rcases hq with ⟨d2, qs, h2, k⟩ | ⟨ys, hb, k⟩
    · obtain ⟨dy, eb⟩ := h2.ins
      refine ⟨_, rfl, _, _, _, _, true, rfl, .own C, h2.ty c, c.kH, _, rfl, yes rfl ?_⟩
      refine ⟨_, rfl, a, C, dx, _, _, rfl, ea, c.h.cls, c.h.nS, rfl, _, rfl, b, C, dy, _, _, rfl, eb, c.h.cls, c.h.nS, rfl, ?_⟩
      refine ⟨d1, d2, _, _, _, rfl, rfl, .inl h1.dict, .inl h2.dict, fun _ => hits_holds qs ps, ?_⟩
      rw [pD_len, pD_len]
      exact k
    · exact ⟨_, rfl, _, _, _, _, false, rfl, .own C, .base (.lst hb), c.kL, _, rfl, no rfl k⟩
def nHAnd : List Str := ["self", "other", "spot"]
theorem scHAnd : FnScope nHAnd ["self", "other"] (defScope sHoldAnd) := ⟨rfl, rfl, rfl, by decide +kernel, rfl, by decide +kernel, by decide +kernel⟩
theorem scHSub : FnScope nHAnd ["self", "other"] (defScope sHoldSub) := ⟨rfl, rfl, rfl, by decide +kernel, rfl, by decide +kernel, by decide +kernel⟩
theorem scHOr : FnScope ["self", "other"] ["self", "other"] (defScope sHoldOr) := ⟨rfl, rfl, rfl, by decide +kernel, rfl, by decide +kernel, by decide +kernel⟩
/-- a hold just made of the rows at l -/
theorem hold_new {C : Addr} (c : HCls K C) {H : Hp} {l x dx : Addr} {vs : List V} {rows : List Pr} {Q : Hp → Prop} {E : XK} (hv : vs = [.ref x, .ref l]) (hl : RowsP K H l rows) (hz : rows.length ≤ 1000) (nx : H x = none) (ndx : H dx = none) (nex : dx ≠ x)
    (k : ∀ d' H', Same H H' → H d' = none → HoldAt H' C x d' (onceP rows) → Q H') :
    spHInit K vs (upd (upd H dx (.own x)) x (.ins C dx [])) (fun v H2 => v = .non ∧ Q H2) E := by
  have s0 : Same H (upd (upd H dx (.own x)) x (.ins C dx [])) := fun b o e => by rw [upd_ne (ne_of_none e nx), upd_ne (ne_of_none e ndx)]; exact e
  obtain ⟨xs, hp, hl⟩ := hl
  refine ⟨x, C, dx, l, rows, hv, upd_same, c, ⟨xs, hp.same s0, hl.imp (fun h => s0.seq h) fun h => same_seqT s0 h⟩, hz, fun d H' hd g e1 e2 => ⟨rfl, k d H' (fun b o e => ?_) (s0.free hd) ⟨⟨dx, e1⟩, e2, onceP_nd _⟩⟩⟩
  exact g b o (s0 b o e) (ne_of_none e nx)
theorem ok_hAnd {f C : Addr} {fd : FuncData} (F : Fun K "__and__" "Hold.__and__" sHoldAnd f fd) (c : HoldC P w K mg base C) (hI : mg "isinstance" = none) : FnOk P w K mg base CX0 3 f fd ["self", "other"] (spHNew K C fun ps qs => ps.filter fun p => decide (p ∈ qs)) := by
  refine F.ok scHAnd (fun vs H Q E h => ?_) (fun cdv A outer s H vs Q E hr h => ?_)
  · obtain ⟨a, b, d1, d2, ps, qs, rfl, _⟩ := h
    rfl
  · obtain ⟨a, b, d1, d2, ps, qs, rfl, h1, h2, hl, hl2, k⟩ := h
    obtain ⟨fi, fl, fdi, fdl, sc, GI, bI, GL, bL⟩ := c.st
    obtain ⟨fk, fdk, ck, GK, bK⟩ := c.inn
    obtain ⟨fn, fdn, e, ee, M, GN, bN, _⟩ := c.ini
    refine ⟨_, pss_cons (ps_if (pt_not (pt_val (pe_callB call_isi (by rfl) hI (by decide +kernel) (pa_cons (pv 1) (pa_cons (pe_glob (v := .ref C) (by rfl) c.g rfl) pa_nil))))) pss_never pss_nil)
      (pss_one (ps_ret (pe_make (E := fun _ _ _ => False) M GN hr (by rfl) c.g bN .nil pass0 (pa_cons (pe_lock (pe_lc (own := [("spot", 2)]) (g := gName 2) rfl scHAnd.nd (pi_own (pv 0) sc.it.at_ sc.it.fn GI (hr.mono (by decide)) bI) (blkOk_by (N := nHAnd) (sc := defScope sHoldAnd) (by decide +kernel))
        (fun _ _ _ _ _ => pg_name (i := 2) scHAnd.nd rfl (Or.inl rfl)) (fun _ _ _ _ _ => pts_one (pt_cmpR (op_inO (E := fun _ _ _ => False) ck GK (hr.mono (by decide)) bK pass0) (pv 2) (pv 1) rfl)) (fun _ _ _ _ _ => pv 2))) pa_nil)))), ?_⟩
    refine ⟨_, rfl, _, _, _, _, true, rfl, .own C, h2.ty c, c.kH, true, rfl, no rfl ?_⟩
    obtain ⟨dx, ea⟩ := h1.ins
    refine ⟨d1, _, h1.dict, True.intro, fun od => ?_⟩
    have nad : a ≠ d1 := ne_of ea h1.dict (by intro z; cases z)
    refine ⟨_, rfl, a, dx, _, rfl, by rw [upd_ne nad]; exact ea, fun n => ⟨a, C, dx, d1, od, ps, rfl, by rw [upd_ne nad]; exact ea, c.h, upd_same, fun it hit hn => ⟨it, d1, od, _, rfl, hn, upd_same, .inr ⟨_, by rw [upd_ne (ne_of_none upd_same hit)]; exact upd_same, rfl, ?_⟩⟩⟩⟩
    rw [ItX.dropH_upd hit]
    intro Dl hDl
    have nDd : d1 ≠ Dl := fun q => by rw [← q, upd_same] at hDl; cases hDl
    have hD0 : H Dl = none := by rw [upd_ne nDd.symm] at hDl; exact hDl
    refine lc_spots (fun j H' => (∀ q o, H q = some o → q ≠ d1 → H' q = some o) ∧ H' d1 = some (.frz od (.dT (pD ps))) ∧ ∃ xs, H' Dl = some (.lst xs) ∧ PairsAt H' xs ((ps.take j).filter fun p => decide (p ∈ qs)))
      ⟨fun q o e1 e2 => by rw [upd_ne (ne_of_none e1 hD0), upd_ne e2]; exact e1, by rw [upd_ne nDd, upd_same], [], upd_same, True.intro⟩ (fun j H' _ h => h.2.1) ?_ ?_
    · rintro j p q H' hp hq ⟨s1, s2, xs, s3, s4⟩
      obtain ⟨⟨dy, eb⟩, rd⟩ := h2.rd h1.dict s1 s2
      refine ⟨rfl, _, rfl, _, rfl, b, dy, _, rfl, eb, b, C, dy, d2, q, qs, p, rfl, eb, c.h, rd, hq, _, rfl, ?_⟩
      have hj : j < ps.length := (List.getElem?_eq_some_iff.mp hp).1
      have z : ∀ b : Bool, (b == true) = b := fun b => by cases b <;> rfl
      by_cases m : p ∈ qs
      · refine ⟨_, rfl, yes (by simpa using m) ⟨_, rfl, xs, s3, small500 ?_, fun x o e1 e2 => ?_, by rw [upd_ne nDd]; exact s2, _, upd_same, ?_⟩⟩
        · rw [s4.len]
          refine Nat.le_trans (List.length_filter_le ..) ?_
          rw [List.length_take]
          omega
        · rw [upd_ne (ne_of_none e1 hD0)]
          exact s1 x o e1 e2
        · have nq : ∀ t ys, H' t = some (.tup ys) → upd H' Dl (.lst (xs ++ [.ref q])) t = some (.tup ys) := fun t ys et => by rw [upd_ne (ne_of et s3 (fun z => nomatch z))]; exact et
          rw [takeP hp, List.filter_append]
          have e1 : ([p].filter fun p => decide (p ∈ qs)) = [p] := by simp [m]
          rw [e1]
          exact PairsAt.snoc (nq _ _ hq) (s4.keep nq)
      · refine ⟨_, rfl, no (by simpa using m) ⟨s1, s2, xs, s3, ?_⟩⟩
        rw [takeP hp, List.filter_append]
        have e1 : ([p].filter fun p => decide (p ∈ qs)) = [] := by simp [m]
        rw [e1, List.append_nil]
        exact s4
    · rintro H' ⟨s1, s2, xs, s3, s4⟩
      rw [List.take_length] at s4
      have s5 := same_unlock h1.dict s1
      have rows : RowsP K (upd H' d1 (.dT (pD ps))) Dl (ps.filter fun p => decide (p ∈ qs)) := ⟨xs, s4.keep fun t ys et => by rw [upd_ne (ne_of et s2 (fun z => nomatch z))]; exact et, .inl (SqL.of (by rw [upd_ne nDd.symm]; exact s3))⟩
      have lf : (ps.filter fun p => decide (p ∈ qs)).length ≤ ps.length := List.length_filter_le ..
      refine ⟨s2, fun x dx nx ndx nex => hold_new c.h rfl rows (by omega) nx ndx nex fun d' H2 s6 _ h' => k x d' H2 (s5.trans s6) (s5.free nx) ?_⟩
      rw [onceP_id (h1.nd.filter _)] at h'
      exact h'
theorem ok_hSub {f C : Addr} {fd : FuncData} (F : Fun K "__sub__" "Hold.__sub__" sHoldSub f fd) (c : HoldC P w K mg base C) (hI : mg "isinstance" = none) : FnOk P w K mg base CX0 3 f fd ["self", "other"] (spHNew K C fun ps qs => ps.filter fun p => !decide (p ∈ qs)) := by
  refine F.ok scHSub (fun vs H Q E h => ?_) (fun cdv A outer s H vs Q E hr h => ?_)
  · obtain ⟨a, b, d1, d2, ps, qs, rfl, _⟩ := h
    rfl
  · obtain ⟨a, b, d1, d2, ps, qs, rfl, h1, h2, hl, hl2, k⟩ := h
    obtain ⟨fi, fl, fdi, fdl, sc, GI, bI, GL, bL⟩ := c.st
    obtain ⟨fk, fdk, ck, GK, bK⟩ := c.inn
    obtain ⟨fn, fdn, e, ee, M, GN, bN, _⟩ := c.ini
    refine ⟨_, pss_cons (ps_if (pt_not (pt_val (pe_callB call_isi (by rfl) hI (by decide +kernel) (pa_cons (pv 1) (pa_cons (pe_glob (v := .ref C) (by rfl) c.g rfl) pa_nil))))) pss_never pss_nil)
      (pss_one (ps_ret (pe_make (E := fun _ _ _ => False) M GN hr (by rfl) c.g bN .nil pass0 (pa_cons (pe_lock (pe_lc (own := [("spot", 2)]) (g := gName 2) rfl scHSub.nd (pi_own (pv 0) sc.it.at_ sc.it.fn GI (hr.mono (by decide)) bI) (blkOk_by (N := nHAnd) (sc := defScope sHoldSub) (by decide +kernel))
        (fun _ _ _ _ _ => pg_name (i := 2) scHSub.nd rfl (Or.inl rfl)) (fun _ _ _ _ _ => pts_one (pt_cmpR (op_notInO (E := fun _ _ _ => False) ck GK (hr.mono (by decide)) bK pass0) (pv 2) (pv 1) rfl)) (fun _ _ _ _ _ => pv 2))) pa_nil)))), ?_⟩
    refine ⟨_, rfl, _, _, _, _, true, rfl, .own C, h2.ty c, c.kH, true, rfl, no rfl ?_⟩
    obtain ⟨dx, ea⟩ := h1.ins
    refine ⟨d1, _, h1.dict, True.intro, fun od => ?_⟩
    have nad : a ≠ d1 := ne_of ea h1.dict (by intro z; cases z)
    refine ⟨_, rfl, a, dx, _, rfl, by rw [upd_ne nad]; exact ea, fun n => ⟨a, C, dx, d1, od, ps, rfl, by rw [upd_ne nad]; exact ea, c.h, upd_same, fun it hit hn => ⟨it, d1, od, _, rfl, hn, upd_same, .inr ⟨_, by rw [upd_ne (ne_of_none upd_same hit)]; exact upd_same, rfl, ?_⟩⟩⟩⟩
    rw [ItX.dropH_upd hit]
    intro Dl hDl
    have nDd : d1 ≠ Dl := fun q => by rw [← q, upd_same] at hDl; cases hDl
    have hD0 : H Dl = none := by rw [upd_ne nDd.symm] at hDl; exact hDl
    refine lc_spots (fun j H' => (∀ q o, H q = some o → q ≠ d1 → H' q = some o) ∧ H' d1 = some (.frz od (.dT (pD ps))) ∧ ∃ xs, H' Dl = some (.lst xs) ∧ PairsAt H' xs ((ps.take j).filter fun p => !decide (p ∈ qs)))
      ⟨fun q o e1 e2 => by rw [upd_ne (ne_of_none e1 hD0), upd_ne e2]; exact e1, by rw [upd_ne nDd, upd_same], [], upd_same, True.intro⟩ (fun j H' _ h => h.2.1) ?_ ?_
    · rintro j p q H' hp hq ⟨s1, s2, xs, s3, s4⟩
      obtain ⟨⟨dy, eb⟩, rd⟩ := h2.rd h1.dict s1 s2
      refine ⟨rfl, _, rfl, _, rfl, b, dy, _, rfl, eb, b, C, dy, d2, q, qs, p, rfl, eb, c.h, rd, hq, _, rfl, ?_⟩
      have hj : j < ps.length := (List.getElem?_eq_some_iff.mp hp).1
      by_cases m : ¬ p ∈ qs
      · refine ⟨_, rfl, yes (by simpa using m) ⟨_, rfl, xs, s3, small500 ?_, fun x o e1 e2 => ?_, by rw [upd_ne nDd]; exact s2, _, upd_same, ?_⟩⟩
        · rw [s4.len]
          refine Nat.le_trans (List.length_filter_le ..) ?_
          rw [List.length_take]
          omega
        · rw [upd_ne (ne_of_none e1 hD0)]
          exact s1 x o e1 e2
        · have nq : ∀ t ys, H' t = some (.tup ys) → upd H' Dl (.lst (xs ++ [.ref q])) t = some (.tup ys) := fun t ys et => by rw [upd_ne (ne_of et s3 (fun z => nomatch z))]; exact et
          rw [takeP hp, List.filter_append]
          have e1 : ([p].filter fun p => !decide (p ∈ qs)) = [p] := by simp [m]
          rw [e1]
          exact PairsAt.snoc (nq _ _ hq) (s4.keep nq)
      · refine ⟨_, rfl, no (by simpa using m) ⟨s1, s2, xs, s3, ?_⟩⟩
        rw [takeP hp, List.filter_append]
        have e1 : ([p].filter fun p => !decide (p ∈ qs)) = [] := by simp [m]
        rw [e1, List.append_nil]
        exact s4
    · rintro H' ⟨s1, s2, xs, s3, s4⟩
      rw [List.take_length] at s4
      have s5 := same_unlock h1.dict s1
      have rows : RowsP K (upd H' d1 (.dT (pD ps))) Dl (ps.filter fun p => !decide (p ∈ qs)) := ⟨xs, s4.keep fun t ys et => by rw [upd_ne (ne_of et s2 (fun z => nomatch z))]; exact et, .inl (SqL.of (by rw [upd_ne nDd.symm]; exact s3))⟩
      have lf : (ps.filter fun p => !decide (p ∈ qs)).length ≤ ps.length := List.length_filter_le ..
      refine ⟨s2, fun x dx nx ndx nex => hold_new c.h rfl rows (by omega) nx ndx nex fun d' H2 s6 _ h' => k x d' H2 (s5.trans s6) (s5.free nx) ?_⟩
      rw [onceP_id (h1.nd.filter _)] at h'
      exact h'
theorem keys_refs {H : Hp} : ∀ {ps : List Pr} {bs : List Addr}, IsKeys H (pD ps) bs → PairsAt H (bs.map V.ref) ps
  | [], [], _ => True.intro
  | p :: ps, b :: bs, h => by
    cases h with
    | cons h t => exact ⟨⟨b, rfl, h⟩, keys_refs t⟩
  | [], _ :: _, h => by cases h
  | _ :: _, [], h => by cases h
theorem PairsAt.app {H : Hp} : ∀ {xs ys : List V} {ps qs : List Pr}, PairsAt H xs ps → PairsAt H ys qs → PairsAt H (xs ++ ys) (ps ++ qs)
  | [], _, [], _, _, h => h
  | v :: xs, ys, p :: ps, qs, ⟨h, r⟩, h' => ⟨h, PairsAt.app r h'⟩
  | [], _, _ :: _, _, h, _ => h.elim
  | _ :: _, _, [], _, h, _ => h.elim
theorem ok_hOr {f C : Addr} {fd : FuncData} (F : Fun K "__or__" "Hold.__or__" sHoldOr f fd) (c : HoldC P w K mg base C) (hI : mg "isinstance" = none) : FnOk P w K mg base CX0 4 f fd ["self", "other"] (spHOr K C) := by
  refine F.ok scHOr (fun vs H Q E h => ?_) (fun cdv A outer s H vs Q E hr h => ?_)
  · obtain ⟨a, b, d1, d2, ps, qs, rfl, _⟩ := h
    rfl
  · obtain ⟨a, b, d1, d2, ps, qs, rfl, h1, h2, hd, hl, hl2, k⟩ := h
    obtain ⟨fi, fl, fdi, fdl, sc, GI, bI, GL, bL⟩ := c.st
    obtain ⟨fn, fdn, e, ee, M, GN, bN, _⟩ := c.ini
    refine ⟨_, pss_cons (ps_if (pt_not (pt_val (pe_callB call_isi (by rfl) hI (by decide +kernel) (pa_cons (pv 1) (pa_cons (pe_glob (v := .ref C) (by rfl) c.g rfl) pa_nil))))) pss_never pss_nil)
        (pss_one (ps_ret (pe_make (E := fun _ _ _ => False) M GN (hr.mono (by decide)) (by rfl) c.g bN .nil pass0 (pa_cons (pe_lock (pe_lock (pe_lst (pa_starO sc GI bI GL bL hr rfl (pv 0) (pa_starO sc GI bI GL bL hr rfl (pv 1) pa_nil))))) pa_nil)))), ?_⟩
    refine ⟨_, rfl, _, _, _, _, true, rfl, .own C, h2.ty c, c.kH, true, rfl, no rfl ?_⟩
    obtain ⟨dx, ea⟩ := h1.ins
    obtain ⟨dy, eb⟩ := h2.ins
    refine ⟨d1, _, h1.dict, True.intro, fun od => ⟨d2, .dT (pD qs), by rw [upd_ne (Ne.symm hd)]; exact h2.dict, True.intro, fun od2 => ?_⟩⟩
    have n1 : a ≠ d1 := ne_of ea h1.dict (fun z => nomatch z)
    have n2 : a ≠ d2 := ne_of ea h2.dict (fun z => nomatch z)
    have n3 : b ≠ d1 := ne_of eb h1.dict (fun z => nomatch z)
    have n4 : b ≠ d2 := ne_of eb h2.dict (fun z => nomatch z)
    have tup : ∀ t ys, upd (upd H d1 (.frz od (.dT (pD ps)))) d2 (.frz od2 (.dT (pD qs))) t = some (.tup ys) → H t = some (.tup ys) := fun t ys e => by
      by_cases m2 : t = d2
      · rw [m2, upd_same] at e; cases e
      · rw [upd_ne m2] at e
        by_cases m1 : t = d1
        · rw [m1, upd_same] at e; cases e
        · rw [upd_ne m1] at e; exact e
    have f1 : upd (upd H d1 (.frz od (.dT (pD ps)))) d2 (.frz od2 (.dT (pD qs))) d1 = some (.frz od (.dT (pD ps))) := by rw [upd_ne hd, upd_same]
    have f2 : upd (upd H d1 (.frz od (.dT (pD ps)))) d2 (.frz od2 (.dT (pD qs))) d2 = some (.frz od2 (.dT (pD qs))) := upd_same
    have fa : upd (upd H d1 (.frz od (.dT (pD ps)))) d2 (.frz od2 (.dT (pD qs))) a = some (.ins C dx [("_spots", .ref d1)]) := by rw [upd_ne n2, upd_ne n1]; exact ea
    have fb : upd (upd H d1 (.frz od (.dT (pD ps)))) d2 (.frz od2 (.dT (pD qs))) b = some (.ins C dy [("_spots", .ref d2)]) := by rw [upd_ne n4, upd_ne n3]; exact eb
    have hk : ∀ q o, H q = some o → q ≠ d1 → q ≠ d2 → upd (upd H d1 (.frz od (.dT (pD ps)))) d2 (.frz od2 (.dT (pD qs))) q = some o := fun q o e m1 m2 => by rw [upd_ne m2, upd_ne m1]; exact e
    have big : ∀ n : Nat, n ≤ 500 → n ≤ sizeLine := fun n h => Nat.le_of_lt (small500 (by omega))
    generalize upd (upd H d1 (.frz od (.dT (pD ps)))) d2 (.frz od2 (.dT (pD qs))) = G at *
    refine ⟨_, rfl, a, dx, _, d1, od, _, rfl, fa, f1, fun n => ⟨a, C, dx, d1, od, ps, rfl, fa, c.h, f1, fun it hit hn => ⟨it, rfl, hn, hit, rfl⟩⟩, fun H2 ha2 hd2 => ⟨a, C, dx, d1, ps, rfl, ha2, c.h, .inr ⟨od, hd2⟩, rfl, _, rfl, big _ hl⟩, fun bs ik => ?_⟩
    refine ⟨_, rfl, b, dy, _, d2, od2, _, rfl, fb, f2, fun n => ⟨b, C, dy, d2, od2, qs, rfl, fb, c.h, f2, fun it hit hn => ⟨it, rfl, hn, hit, rfl⟩⟩, fun H2 ha2 hd2 => ⟨b, C, dy, d2, qs, rfl, ha2, c.h, .inr ⟨od2, hd2⟩, rfl, _, rfl, big _ hl2⟩, fun bs2 ik2 => ?_⟩
    have p1 : PairsAt H (bs.map V.ref) ps := (keys_refs ik).keep tup
    have p2 : PairsAt H (bs2.map V.ref) qs := (keys_refs ik2).keep tup
    have p3 : PairsAt H (bs.map V.ref ++ (bs2.map V.ref ++ [])) (ps ++ qs) := by rw [List.append_nil]; exact p1.app p2
    have l3 := p3.len
    refine ⟨Nat.le_of_lt (small500 (by rw [l3, List.length_append]; omega)), fun L hL => ?_⟩
    have nL1 : L ≠ d1 := fun z => by rw [z, f1] at hL; cases hL
    have nL2 : L ≠ d2 := fun z => by rw [z, f2] at hL; cases hL
    refine ⟨by rw [upd_ne (Ne.symm nL2)]; exact f2, by rw [upd_ne hd, upd_ne (Ne.symm nL1)]; exact f1, ?_⟩
    have s5 : Same H (upd (upd (upd G L (.lst (bs.map V.ref ++ (bs2.map V.ref ++ [])))) d2 (.dT (pD qs))) d1 (.dT (pD ps))) := fun q o e => by
      by_cases m1 : q = d1
      · rw [m1, upd_same, ← h1.dict, ← m1, e]
      · rw [upd_ne m1]
        by_cases m2 : q = d2
        · rw [m2, upd_same, ← h2.dict, ← m2, e]
        · have g := hk q o e m1 m2
          rw [upd_ne m2, upd_ne (ne_of_none g hL)]
          exact g
    have rows : RowsP K (upd (upd (upd G L (.lst (bs.map V.ref ++ (bs2.map V.ref ++ [])))) d2 (.dT (pD qs))) d1 (.dT (pD ps))) L (ps ++ qs) := ⟨_, p3.same s5, .inl (SqL.of (by rw [upd_ne nL1, upd_ne nL2, upd_same]))⟩
    exact fun x dx nx ndx nex => hold_new c.h rfl rows (by rw [List.length_append]; omega) nx ndx nex fun d' H2 s6 _ h' => k x d' H2 (s5.trans s6) (s5.free nx) h'
end
end Yd
namespace Yd
open PySem L2
/-! ### the helpers of the law of holds -/
theorem same_new {H : Hp} {q : Addr} {o : HO} (n : H q = none) : Same H (upd H q o) := fun b u e => by rw [upd_ne (ne_of_none e n)]; exact e
section
variable {X : Cx}
def rNotInY (K : PySem.W.Frag) (α : Type) [DecidableEq α] [PySem.W.Datum α] : R2 := fun x y H Q => ∃ (a : α) (as : List α), Dp K H x (PySem.W.Datum.toD a) ∧ Dp K H y (.list (as.map PySem.W.Datum.toD)) ∧ Q (.bl (!decide (a ∈ as))) H
theorem op_notInY {α : Type} [DecidableEq α] [PySem.W.Datum α] (hd : PySem.W.Datum.depth α ≤ 60) (hu : X.A.units + 65 < cLine) : OpR X (compareOp .NotIn) (rNotInY X.K α) := by
  intro pins s σ H x y v u Q I rx ry h
  obtain ⟨a, as, h1, h2, q⟩ := h
  obtain ⟨_, r1⟩ := Dp.reads I _ x v h1 rx
  obtain ⟨_, r2⟩ := Dp.reads I _ y u h2 ry
  have d1 := PySem.W.Datum.depth_le (α := α) a
  refine SeqAt.notIn_list_data r2 r1 (PySem.W.plainAll_map as) (PySem.W.Datum.plain a) (by omega) ⟨.bl _, H, I, rfl, ?_⟩
  rw [any_toD]
  exact q
end
theorem units65 {A : Around} {k : Nat} (hr : Room k A) : A.units + 65 < cLine := by have := hr.un; omega
/-- a list of pairs -/
def ListP (K : PySem.W.Frag) (H : Hp) (l : Addr) (ps : List Pr) : Prop := ∃ xs, SqL K H l xs ∧ PairsAt H xs ps
theorem ListP.keep {K : PySem.W.Frag} {H H' : Hp} {l : Addr} {ps : List Pr} (h : ListP K H l ps) (s : Same H H') : ListP K H' l ps := let ⟨xs, a, b⟩ := h; ⟨xs, s.seq a, b.same s⟩
theorem ListP.rows {K : PySem.W.Frag} {H : Hp} {l : Addr} {ps : List Pr} (h : ListP K H l ps) : RowsP K H l ps := let ⟨xs, a, b⟩ := h; ⟨xs, b, .inl a⟩
theorem plain_prs (ps : List Pr) : (PyData.list (ps.map PySem.W.Datum.toD)).plain = true := by simp only [PyData.plain]; exact PySem.W.plainAll_map (α := Pr) ps
theorem depth_prs (ps : List Pr) : (PyData.list (ps.map PySem.W.Datum.toD)).depth ≤ 60 := by
  have h : PyData.depthAll (ps.map PySem.W.Datum.toD) ≤ _ := PySem.W.depthAll_map (α := Pr) ps
  have h2 : PySem.W.Datum.depth Pr ≤ 5 := by decide
  simp only [PyData.depth]
  omega
theorem ListP.dp {K : PySem.W.Frag} {H : Hp} {l : Addr} {ps : List Pr} (h : ListP K H l ps) : Dp K H (.ref l) (.list (ps.map PySem.W.Datum.toD)) := let ⟨_, a, b⟩ := h; .lst a b.dp
def spOnce (K : PySem.W.Frag) : Sp := fun vs H Q _ => ∃ (l : Addr) (ps : List Pr), vs = [.ref l] ∧ ListP K H l ps ∧ ps.length ≤ 500 ∧
  ∀ q ys H', Same H H' → H q = none → H' q = some (.lst ys) → PairsAt H' ys (onceP ps) → Q (.ref q) H'
def spIsHold (K : PySem.W.Frag) (C : Addr) : Sp := fun vs H Q _ => ∃ (a d l n : Addr) (ps : List Pr) (ns : List Str), vs = [.ref a, .ref l, .ref n] ∧ HoldAt H C a d ps ∧ ListP K H l ps ∧ SqL K H n (ns.map V.str) ∧ ps.length ≤ 500 ∧ ∀ H', Same H H' → Q (.bl true) H'
def spIsBool : Sp := fun vs H Q _ => ∃ b : Bool, vs = [.bl b, .bl b] ∧ Q (.bl true) H
def spDrawn : Sp := fun vs H Q _ => ∃ (p c n : Addr) (m : Nat) (ns : List Str), vs = [.ref p, .ref n, .int m] ∧ Pool H p c ∧ H n = some (.lst (ns.map V.str)) ∧ n ≠ p ∧ 0 < ns.length ∧ ns.length ≤ 10 ∧ m ≤ 60 ∧
  ∀ q xs ps H', Gro p H H' → Pool H' p c → H q = none → q ≠ p → q ≠ c → H' q = some (.lst xs) → PairsAt H' xs ps → ps.length = m → Q (.ref q) H'
theorem gro_tup {p c : Addr} {H H' : Hp} (g : Gro p H H') (P : Pool H p c) {t : Addr} {xs : List V} (e : H t = some (.tup xs)) : H' t = some (.tup xs) := by
  obtain ⟨ys, hp, _⟩ := P
  exact g t _ e (fun z => by rw [z, hp] at e; cases e)
section
variable {P : Program} {w : World} {K : PySem.W.Frag} {mg : Str → Option Value} {base : Heap}
theorem scOnce : FnScope ["_law_rows", "_law_found", "_law_row"] ["_law_rows"] (defScope sOnce) := ⟨rfl, rfl, rfl, by decide +kernel, rfl, by decide +kernel, by decide +kernel⟩
theorem ok_once {f : Addr} {fd : FuncData} (F : Fun K "_law_once" "_law_once" sOnce f fd) : FnOk P w K mg base CX0 1 f fd ["_law_rows"] (spOnce K) := by
  refine F.ok scOnce (fun vs H Q E h => ?_) (fun cdv A outer s H vs Q E hr h => ?_)
  · obtain ⟨l, ps, rfl, _⟩ := h
    rfl
  · obtain ⟨l, ps, rfl, ⟨xs, hl, hxs⟩, hz, k⟩ := h
    refine ⟨_, pss_cons (ps_set (i := 1) scOnce.nd rfl (Or.inl rfl) (pe_lst pa_nil))
      (pss_cons (ps_for PassesOwn.never rfl (pi_list (pv 0)) (pg_name (i := 2) scOnce.nd rfl (Or.inl rfl))
        (pss_one (ps_if (pt_cmpR (op_notInY (α := Pr) (by decide) (units65 hr)) (pv 2) (pv 1) rfl) (pss_one (ps_expr (pe_bm PySem.F.plainAttrs_list PySem.F.slot_list_append PySem.F.type_list_append mt_append (pv 1) (pa_cons (pv 2) pa_nil)))) pss_nil)))
      (pss_one (ps_ret (pv 1)))), ?_⟩
    refine ⟨(by show 0 ≤ sizeLine; omega), fun D hD => ?_⟩
    refine ⟨_, rfl, l, rfl, ⟨_, (same_new hD).seq hl⟩, for_list (K := K) (a := l) (xs := xs) (fun i σ H' => Same H H' ∧ (∃ ys, H' D = some (.lst ys) ∧ PairsAt H' ys (onceP (ps.take i))) ∧ ∃ v : Option V, σ = [some (.ref l), some (.ref D), v])
      ⟨same_new hD, ⟨[], upd_same, True.intro⟩, _, rfl⟩ (fun i σ H' _ h => h.1.seq hl) ?_ ?_⟩
    · rintro i x σ H' hi ⟨s1, ⟨ys, e1, hys⟩, v, rfl⟩
      obtain ⟨t, p, rfl, hp, ht⟩ := PairsAt.get (hxs.same s1) hi
      refine ⟨_, rfl, _, rfl, p, _, dp_pair ht, .lst (SqL.of e1) hys.dp, _, rfl, ?_⟩
      have om := onceP_more hp
      unfold addP at om
      by_cases hm : p ∈ onceP (ps.take i)
      · rw [if_pos hm] at om
        exact no (by simpa using hm) ⟨s1, ⟨ys, e1, by rw [om]; exact hys⟩, _, rfl⟩
      · rw [if_neg hm] at om
        refine yes (by simpa using hm) ⟨_, rfl, .inl ⟨rfl, _, SqL.of e1⟩, _, rfl, D, _, _, rfl, rfl, e1, small500 ?_, fun b o q => by rw [upd_ne (ne_of_none q hD)]; exact s1 b o q, ⟨_, upd_same, ?_⟩, _, rfl⟩
        · rw [hys.len]
          refine Nat.le_trans (onceP_len _) ?_
          rw [List.length_take]
          omega
        · rw [om]
          have nq : ∀ t' zs, H' t' = some (.tup zs) → upd H' D (.lst (ys ++ [.ref t])) t' = some (.tup zs) := fun t' zs et => by rw [upd_ne (ne_of et e1 (fun z => nomatch z))]; exact et
          exact PairsAt.snoc (nq _ _ ht) (hys.keep nq)
    · rintro σ H' ⟨s1, ⟨ys, e1, hys⟩, v, rfl⟩
      rw [hxs.len, List.take_length] at hys
      exact ⟨_, rfl, k D ys H' s1 hD e1 hys⟩
theorem scIsBool : FnScope ["_law_actual", "_law_expected"] ["_law_actual", "_law_expected"] (defScope sIsBool) := ⟨rfl, rfl, rfl, by decide +kernel, rfl, by decide +kernel, by decide +kernel⟩
theorem ok_isBool {f : Addr} {fd : FuncData} (F : Fun K "_law_is_bool" "_law_is_bool" sIsBool f fd) (hI : mg "isinstance" = none) (hB : mg "bool" = none) : FnOk P w K mg base CX0 1 f fd ["_law_actual", "_law_expected"] spIsBool := by
  refine F.ok scIsBool (fun vs H Q E h => ?_) (fun cdv A outer s H vs Q E hr h => ?_)
  · obtain ⟨b, rfl, _⟩ := h
    rfl
  · obtain ⟨b, rfl, k⟩ := h
    refine ⟨_, pss_one (ps_ret (pe_and (pe_callB call_isi (by rfl) hI (by decide +kernel) (pa_cons (pv 0) (pa_cons (pe_bltn (v := .ty "bool") (by rfl) hB (by decide +kernel) rfl) pa_nil)))
      (pe_one (pe_cmpR op_eq (pv 0) (pv 1) (nomark _))))), ?_⟩
    refine ⟨_, rfl, _, _, _, _, true, rfl, .ty _, .base (.bl b), kit_ty (by decide +kernel), _, rfl, yes rfl ⟨_, rfl, _, rfl, rfl, ?_⟩⟩
    have e : decide (V.bl b = V.bl b) = true := decide_eq_true rfl
    rw [e]
    exact k
def nDrawn : List Str := ["_law_pool_here", "_law_names", "_law_size", "_law_rows", "_law_k"]
theorem scDrawn : FnScope nDrawn ["_law_pool_here", "_law_names", "_law_size"] (defScope sDrawnSpots) := ⟨rfl, rfl, rfl, by decide +kernel, rfl, by decide +kernel, by decide +kernel⟩
theorem nb4 {n : Nat} (h : n ≤ 1000) : ((n : Int)).natAbs < 2 ^ 200 := Nat.lt_of_le_of_lt (m := 1000) (by omega) (by decide)
theorem ok_drawn {f fT : Addr} {fd fdT : FuncData} (F : Fun K "_law_drawn_spots" "_law_drawn_spots" sDrawnSpots f fd) (B : Blt mg) (T : Fn K mg "_law_take" sTake ["_law_pool_here", "_law_size"] fT fdT) :
    FnOk P w K mg base CX0 2 f fd ["_law_pool_here", "_law_names", "_law_size"] spDrawn := by
  have GT : FnOk P w K mg base CX0 1 fT fdT ["_law_pool_here", "_law_size"] spTake := ok_take T.F B
  refine F.ok scDrawn (fun vs H Q E h => ?_) (fun cdv A outer s H vs Q E hr h => ?_)
  · obtain ⟨p, c, n, m, ns, rfl, _⟩ := h
    rfl
  · obtain ⟨p, c, n, m, ns, rfl, hP, hn, nnp, hn0, hn1, hm, k⟩ := h
    refine ⟨_, pss_cons (ps_set (i := 3) scDrawn.nd rfl (Or.inl rfl) (pe_lst pa_nil))
      (pss_cons (ps_for PassesOwn.never rfl (pi_range1 rfl B.range (pa_cons (pv 2) pa_nil)) (pg_name (i := 4) scDrawn.nd rfl (Or.inl rfl))
        (pss_one (ps_expr (pe_bm PySem.F.plainAttrs_list PySem.F.slot_list_append PySem.F.type_list_append mt_append (pv 3) (pa_cons (pe_tup (pa_cons (pe_ix ix_list (pv 1) (pe_call GT hr rfl T.g T.F.kp T.b .nil pass0 (pa_cons (pv 0) (pa_cons (pe_callB call_len_seq (by rfl) B.len PySem.boot_len (pa_cons (pv 1) pa_nil)) pa_nil))) (fun _ _ => rfl))
          (pa_cons (pe_ix ix_list (pv 1) (pe_call GT hr rfl T.g T.F.kp T.b .nil pass0 (pa_cons (pv 0) (pa_cons (pe_callB call_len_seq (by rfl) B.len PySem.boot_len (pa_cons (pv 1) pa_nil)) pa_nil))) (fun _ _ => rfl)) pa_nil))) pa_nil)))))
      (pss_one (ps_ret (pv 3)))), ?_⟩
    refine ⟨(by show 0 ≤ sizeLine; omega), fun D hD => ?_⟩
    obtain ⟨nDp, nDc⟩ := hP.ne hD
    refine ⟨_, rfl, (m : Int), rfl, by omega, by omega, for_range (n := m) (fun i σ H' => Gro p H H' ∧ Pool H' p c ∧ (∃ xs ps, H' D = some (.lst xs) ∧ PairsAt H' xs ps ∧ ps.length = i) ∧ ∃ v : Option V, σ = [some (.ref p), some (.ref n), some (.int m), some (.ref D), v])
      ⟨.new hD, hP.new hD, ⟨[], [], upd_same, True.intro, rfl⟩, _, rfl⟩ ?_ ?_⟩
    · rintro i σ H' hi ⟨g1, P1, ⟨xs, ps, e1, hxs, hpl⟩, v, rfl⟩
      have draw : ∀ {v : Int} {H3 : Hp}, 0 ≤ v → v < (ns.map V.str).length → ∃ s, atI (ns.map V.str) v = some (.str s) := fun {v H3} v0 v1 => by
        have hj : v.toNat < ns.length := by rw [List.length_map] at v1; omega
        exact ⟨ns[v.toNat], at_c (j := v.toNat) (by rw [List.getElem?_map, List.getElem?_eq_getElem hj]; rfl) (by omega)⟩
      have hn' := g1 _ _ hn nnp
      have lb : (((ns.map V.str).length : Nat) : Int).natAbs < 2 ^ 200 := nb4 (by rw [List.length_map]; omega)
      refine ⟨_, rfl, .inl ⟨rfl, _, SqL.of e1⟩, _, rfl, _, rfl, _, rfl, n, _, rfl, .inl (SqL.of hn'), p, c, _, rfl, P1, by rw [List.length_map]; omega, lb, fun v1 H2 a0 a1 g2 P2 => ?_⟩
      obtain ⟨s1, at1⟩ := draw (H3 := H2) a0 a1
      have hn2 := g2 _ _ hn' nnp
      refine ⟨n, _, v1, _, rfl, rfl, SqL.of hn2, at1, _, rfl, _, rfl, _, rfl, n, _, rfl, .inl (SqL.of hn2), p, c, _, rfl, P2, by rw [List.length_map]; omega, lb, fun v2 H3 b0 b1 g3 P3 => ?_⟩
      obtain ⟨s2, at2⟩ := draw (H3 := H3) b0 b1
      have hn3 := g3 _ _ hn2 nnp
      refine ⟨n, _, v2, _, rfl, rfl, SqL.of hn3, at2, (by show 2 ≤ sizeLine; decide), fun t ht => ?_⟩
      have g13 : Gro p H' H3 := g2.trans g3
      have e3 : H3 D = some (.lst xs) := g13 _ _ e1 nDp
      have hxs3 : PairsAt H3 xs ps := hxs.keep fun t ys e => gro_tup g13 P1 e
      have nDt : D ≠ t := ne_of_none e3 ht
      obtain ⟨ntp, ntc⟩ := P3.ne ht
      have lx := hxs.len
      refine ⟨D, _, _, rfl, rfl, by rw [upd_ne nDt]; exact e3, small500 (by omega), fun b o q nb => ?_, (P3.new ht).off nDp nDc, ⟨_, ps ++ [(s1, s2)], upd_same, ?_, by rw [List.length_append, hpl]; rfl⟩, _, rfl⟩
      · have q3 := g13 b o (g1 b o q nb) nb
        rw [upd_ne (ne_of_none q hD), upd_ne (ne_of_none q3 ht)]
        exact q3
      · have nq : ∀ t' zs, upd H3 t (.tup [.str s1, .str s2]) t' = some (.tup zs) → upd (upd H3 t (.tup [.str s1, .str s2])) D (.lst (xs ++ [.ref t])) t' = some (.tup zs) := fun t' zs et => by
          rw [upd_ne (fun z => by rw [z, upd_ne nDt, e3] at et; cases et)]
          exact et
        exact PairsAt.snoc (p := (s1, s2)) (nq _ _ upd_same) ((hxs3.same (same_new ht)).keep nq)
    · rintro σ H' ⟨g1, P1, ⟨xs, ps, e1, hxs, hpl⟩, v, rfl⟩
      exact ⟨_, rfl, k D xs ps H' g1 P1 hD nDp nDc e1 hxs hpl⟩
end
end Yd
namespace Yd
open PySem L2
section
variable {P : Program} {w : World} {K : PySem.W.Frag} {mg : Str → Option Value} {base : Heap}
def nIsHold : List Str := ["_law_hold", "_law_rows", "_law_names", "_law_kind", "_law_standing", "_law_row"]
theorem scIsHold : FnScope nIsHold ["_law_hold", "_law_rows", "_law_names"] (defScope sIsHold) := ⟨rfl, rfl, rfl, by decide +kernel, rfl, by decide +kernel, by decide +kernel⟩
theorem get_strs2 {ns : List Str} {i : Nat} {x : V} (h : (ns.map V.str)[i]? = some x) : ∃ z, ns[i]? = some z ∧ x = .str z := by
  rw [List.getElem?_map] at h
  cases e : ns[i]? with
  | none => rw [e] at h; cases h
  | some z => rw [e] at h; exact ⟨z, rfl, (Option.some.inj h).symm⟩
theorem ok_isHold {f C : Addr} {fd : FuncData} (F : Fun K "_law_is_hold" "_law_is_hold" sIsHold f fd) (B : Blt mg) (c : HoldC P w K mg base C) (hI : mg "isinstance" = none) : FnOk P w K mg base CX0 3 f fd ["_law_hold", "_law_rows", "_law_names"] (spIsHold K C) := by
  refine F.ok scIsHold (fun vs H Q E h => ?_) (fun cdv A outer s H vs Q E hr h => ?_)
  · obtain ⟨a, d, l, n, ps, ns, rfl, _⟩ := h
    rfl
  · obtain ⟨a, d, l, n, ps, ns, rfl, h1, hl, hn, hz, k⟩ := h
    have r1 : Room 1 _ := hr.mono (by decide)
    obtain ⟨fi, fl, fdi, fdl, sc, GI, bI, GL, bL⟩ := c.st
    obtain ⟨fk, fdk, ck, GK, bK⟩ := c.inn
    refine ⟨_, pss_cons (ps_if (PW.pt (pw_or (pt_not (pt_val (pe_callB call_isi (by rfl) hI (by decide +kernel) (pa_cons (pv 0) (pa_cons (pe_glob (v := .ref C) (by rfl) c.g rfl) pa_nil)))))
        (pw_or (pt_cmpR (op_neS hr.units) (pe_lock (pe_lc (own := [("_law_row", 5)]) (g := gName 5) (tt := tYes) rfl scIsHold.nd (pi_own (pv 0) sc.it.at_ sc.it.fn GI r1 bI) (blkOk_by (N := nIsHold) (sc := defScope sIsHold) (by decide +kernel))
            (fun _ _ _ _ _ => pg_name (i := 5) scIsHold.nd rfl (Or.inl rfl)) (fun _ _ _ _ _ => pts_nil) (fun _ _ _ _ _ => pv 5))) (pv 1) (nomark _))
        (pw_or1 (pt_cmpR op_ne (pe_callB (call_lenO (E := fun _ _ _ => False) sc.ln GL hr bL pass0) (by rfl) B.len PySem.boot_len (pa_cons (pv 0) pa_nil)) (pe_callB call_len_seq (by rfl) B.len PySem.boot_len (pa_cons (pv 1) pa_nil)) (nomark _)))))) (pss_one (ps_ret pe_bl)) pss_nil)
      (pss_cons (ps_for PassesOwn.never rfl (pi_list (pv 2)) (pg_name (i := 3) scIsHold.nd rfl (Or.inl rfl))
        (pss_one (ps_for PassesOwn.never rfl (pi_list (pv 2)) (pg_name (i := 4) scIsHold.nd rfl (Or.inl rfl))
          (pss_one (ps_if (pt_cmpR op_ne (pe_cmpR (op_inO (E := fun _ _ _ => False) ck GK r1 bK pass0) (pe_tup (pa_cons (pv 3) (pa_cons (pv 4) pa_nil))) (pv 0) rfl) (pe_cmpR (op_inY (α := Pr) (by decide) (units65 hr)) (pe_tup (pa_cons (pv 3) (pa_cons (pv 4) pa_nil))) (pv 1) rfl) (nomark _))
            (pss_one (ps_ret pe_bl)) pss_nil)))))
      (pss_one (ps_ret pe_bl))), ?_⟩
    refine ⟨_, rfl, _, _, _, _, true, rfl, .own C, h1.ty c, c.kH, true, rfl, no rfl ?_⟩
    obtain ⟨dx, ea⟩ := h1.ins
    refine ⟨d, _, h1.dict, True.intro, fun od => ?_⟩
    have nad : a ≠ d := ne_of ea h1.dict (by intro z; cases z)
    refine ⟨_, rfl, a, dx, _, rfl, by rw [upd_ne nad]; exact ea, fun m => ⟨a, C, dx, d, od, ps, rfl, by rw [upd_ne nad]; exact ea, c.h, upd_same, fun it hit him => ⟨it, d, od, _, rfl, him, upd_same, .inr ⟨_, by rw [upd_ne (ne_of_none upd_same hit)]; exact upd_same, rfl, ?_⟩⟩⟩⟩
    rw [ItX.dropH_upd hit]
    intro Dl hDl
    have nDd : d ≠ Dl := fun q => by rw [← q, upd_same] at hDl; cases hDl
    have hD0 : H Dl = none := by rw [upd_ne nDd.symm] at hDl; exact hDl
    refine lc_spots (fun j H' => (∀ q o, H q = some o → q ≠ d → H' q = some o) ∧ H' d = some (.frz od (.dT (pD ps))) ∧ ∃ xs, H' Dl = some (.lst xs) ∧ PairsAt H' xs (ps.take j))
      ⟨fun q o e1 e2 => by rw [upd_ne (ne_of_none e1 hD0), upd_ne e2]; exact e1, by rw [upd_ne nDd, upd_same], [], upd_same, True.intro⟩ (fun j H' _ h => h.2.1) ?_ ?_
    · rintro j p q H' hp hq ⟨s1, s2, xs, s3, s4⟩
      have l1 := s4.len
      rw [List.length_take] at l1
      refine ⟨rfl, _, rfl, xs, s3, small500 (by omega), fun x o e1 e2 => ?_, by rw [upd_ne nDd]; exact s2, _, upd_same, ?_⟩
      · rw [upd_ne (ne_of_none e1 hD0)]
        exact s1 x o e1 e2
      · have nq : ∀ t ys, H' t = some (.tup ys) → upd H' Dl (.lst (xs ++ [.ref q])) t = some (.tup ys) := fun t ys et => by rw [upd_ne (ne_of et s3 (fun z => nomatch z))]; exact et
        rw [takeP hp]
        exact PairsAt.snoc (nq _ _ hq) (s4.keep nq)
    rintro H' ⟨s1, s2, xs, s3, s4⟩
    rw [List.take_length] at s4
    have s5 := same_unlock h1.dict s1
    have lp : ListP K (upd H' d (.dT (pD ps))) Dl ps := ⟨xs, SqL.of (by rw [upd_ne nDd.symm]; exact s3), s4.keep fun t ys et => by rw [upd_ne (ne_of et s2 (fun z => nomatch z))]; exact et⟩
    refine ⟨s2, ?_⟩
    clear s1 s2 s3 s4 hDl hD0 nDd him hit
    generalize upd H' d (.dT (pD ps)) = H1 at s5 lp
    have hl1 := hl.keep s5
    refine ⟨_, rfl, _, lp.dp, hl1.dp, plain_prs ps, depth_prs ps, _, rfl, no rfl ?_⟩
    obtain ⟨zs, hzs, pzs⟩ := id hl1
    have lz := pzs.len
    have h2 := h1.keep s5
    obtain ⟨dx2, ea2⟩ := h2.ins
    have hn1 := s5.seq hn
    refine ⟨_, rfl, a, dx2, _, rfl, ea2, a, C, dx2, d, ps, rfl, ea2, c.h, .inl h2.dict, ps.length, rfl, Nat.le_of_lt (small500 (by omega)), ?_⟩
    refine ⟨_, rfl, l, _, rfl, .inl hzs, rfl, _, rfl, no ?_ ?_⟩
    · rw [lz, decide_eq_true rfl]
      rfl
    -- the names, one with each
    refine ⟨_, rfl, n, rfl, ⟨_, hn1⟩, for_list (K := K) (a := n) (xs := ns.map V.str) (fun i σ H' => Same H1 H' ∧ ∃ v3 v4 v5 : Option V, σ = [some (.ref a), some (.ref l), some (.ref n), v3, v4, v5])
      ⟨Same.refl _, _, _, _, rfl⟩ (fun i σ H' _ h => h.1.seq hn1) ?_ ?_⟩
    · rintro i x σ H2 hi ⟨s2, v3, v4, v5, rfl⟩
      obtain ⟨z, hz, rfl⟩ := get_strs2 hi
      refine ⟨_, rfl, n, rfl, ⟨_, s2.seq hn1⟩, for_list (K := K) (a := n) (xs := ns.map V.str) (fun i σ H' => Same H1 H' ∧ ∃ v4 v5 : Option V, σ = [some (.ref a), some (.ref l), some (.ref n), some (.str z), v4, v5])
        ⟨s2, _, _, rfl⟩ (fun i σ H' _ h => h.1.seq hn1) ?_ ?_⟩
      · rintro j x σ H3 hj ⟨s3, v4, v5, rfl⟩
        obtain ⟨y, hy, rfl⟩ := get_strs2 hj
        refine ⟨_, rfl, _, rfl, (by show 2 ≤ sizeLine; decide), fun t ht => ?_⟩
        have s4 := s3.trans (same_new (o := .tup [.str z, .str y]) ht)
        have h4 := h2.keep s4
        have hl4 := hl1.keep s4
        have et : upd H3 t (.tup [.str z, .str y]) t = some (.tup [.str z, .str y]) := upd_same
        generalize upd H3 t (.tup [.str z, .str y]) = H4 at s4 h4 hl4 et
        obtain ⟨dx4, ea4⟩ := h4.ins
        refine ⟨_, rfl, a, dx4, _, rfl, ea4, a, C, dx4, d, t, ps, (z, y), rfl, ea4, c.h, .inl h4.dict, et, _, rfl, ?_⟩
        refine ⟨_, rfl, _, rfl, (by show 2 ≤ sizeLine; decide), fun t2 ht2 => ?_⟩
        have s6 := same_new (o := .tup [.str z, .str y]) ht2
        refine ⟨_, rfl, (z, y), ps, dp_pair upd_same, (hl4.keep s6).dp, rfl, _, rfl, no ?_ ⟨s4.trans s6, _, _, rfl⟩⟩
        have e : ∀ b : Bool, (b == true) = b := fun b => by cases b <;> rfl
        rw [e]
        simp
      · rintro σ H3 ⟨s3, v4, v5, rfl⟩
        exact ⟨s3, _, _, _, rfl⟩
    · rintro σ H2 ⟨s2, v3, v4, v5, rfl⟩
      exact k _ (s5.trans s2)
end
end Yd
namespace Yd
open PySem L2
/-! ### lists of pairs, as sets -/
theorem sub_len {α : Type} [BEq α] [LawfulBEq α] : ∀ {l1 l2 : List α}, l1.Nodup → (∀ x ∈ l1, x ∈ l2) → l1.length ≤ l2.length
  | [], _, _, _ => Nat.zero_le _
  | x :: l1, l2, nd, h => by
    rw [List.nodup_cons] at nd
    have hx := h x (List.mem_cons_self ..)
    have ih := sub_len (l1 := l1) (l2 := l2.erase x) nd.2 fun y hy => by
      have hne : y ≠ x := fun e => nd.1 (e ▸ hy)
      exact (List.mem_erase_of_ne hne).mpr (h y (List.mem_cons_of_mem _ hy))
    rw [List.length_erase_of_mem hx] at ih
    have : 0 < l2.length := List.length_pos_of_mem hx
    rw [List.length_cons]
    omega
theorem sub_eq {l1 l2 : List Pr} (n1 : l1.Nodup) (n2 : l2.Nodup) (hl : l1.length = l2.length) (h : ∀ x ∈ l1, x ∈ l2) : ∀ x ∈ l2, x ∈ l1 := fun x hx => by
  rcases Classical.em (x ∈ l1) with m | m
  · exact m
  · have nd : (x :: l1).Nodup := List.nodup_cons.mpr ⟨m, n1⟩
    have z := sub_len nd (l2 := l2) fun y hy => by
      rcases List.mem_cons.mp hy with e | hy
      · rw [e]; exact hx
      · exact h y hy
    rw [List.length_cons] at z
    omega
theorem all_once (ps qs : List Pr) : ((onceP ps).all fun p => decide (p ∈ onceP qs)) = decide (∀ p ∈ ps, p ∈ qs) := by
  rw [Bool.eq_iff_iff]
  simp only [List.all_eq_true, decide_eq_true_eq]
  exact ⟨fun h p hp => (onceP_mem qs).mp (h p ((onceP_mem ps).mpr hp)), fun h p hp => (onceP_mem qs).mpr (h p ((onceP_mem ps).mp hp))⟩
theorem within_eq (ps qs : List Pr) : decide (V.int ((ps.filter fun p => !decide (p ∈ qs)).length : Nat) = V.int 0) = decide (∀ p ∈ ps, p ∈ qs) := by
  refine decide_eq_decide.mpr ⟨fun h p hp => ?_, fun h => ?_⟩
  · have h0 : ((ps.filter fun p => !decide (p ∈ qs)).length : Int) = 0 := by injection h
    have h1 : (ps.filter fun p => !decide (p ∈ qs)) = [] := List.eq_nil_of_length_eq_zero (by omega)
    rw [List.filter_eq_nil_iff] at h1
    have := h1 p hp
    simpa using this
  · have h1 : (ps.filter fun p => !decide (p ∈ qs)) = [] := List.filter_eq_nil_iff.mpr fun p hp => by simp [h p hp]
    rw [h1]
    rfl
theorem same_eq (ps qs : List Pr) : ((onceP ps).length == (onceP qs).length && (onceP ps).all fun p => decide (p ∈ onceP qs)) = (decide (∀ p ∈ ps, p ∈ qs) && decide (∀ p ∈ qs, p ∈ ps)) := by
  rw [all_once, Bool.eq_iff_iff]
  simp only [Bool.and_eq_true, decide_eq_true_eq, beq_iff_eq]
  refine ⟨fun ⟨hl, h⟩ => ⟨h, fun p hp => ?_⟩, fun ⟨h, h'⟩ => ⟨?_, h⟩⟩
  · have z := sub_eq (onceP_nd ps) (onceP_nd qs) hl (fun x hx => (onceP_mem qs).mpr (h x ((onceP_mem ps).mp hx))) p ((onceP_mem qs).mpr hp)
    exact (onceP_mem ps).mp z
  · exact Nat.le_antisymm (sub_len (onceP_nd ps) fun x hx => (onceP_mem qs).mpr (h x ((onceP_mem ps).mp hx))) (sub_len (onceP_nd qs) fun x hx => (onceP_mem ps).mpr (h' x ((onceP_mem qs).mp hx)))
theorem filt_once (l qs : List Pr) : (l.filter fun p => decide (p ∈ onceP qs)) = l.filter fun p => decide (p ∈ qs) := List.filter_congr fun x _ => decide_eq_decide.mpr (onceP_mem qs)
theorem filt_not (l qs : List Pr) : (l.filter fun p => !decide (p ∈ onceP qs)) = l.filter fun p => !decide (p ∈ qs) := List.filter_congr fun x _ => by rw [decide_eq_decide.mpr (onceP_mem qs)]
theorem addP_in {acc : List Pr} {p : Pr} (h : p ∈ acc) : addP acc p = acc := if_pos h
theorem addP_out {acc : List Pr} {p : Pr} (h : p ∉ acc) : addP acc p = acc ++ [p] := if_neg h
theorem once_app (ps qs : List Pr) : onceP (onceP ps ++ onceP qs) = onceP (ps ++ qs) := by
  have step : ∀ (l acc : List Pr), acc.Nodup → (onceP l).foldl addP acc = l.foldl addP acc := by
    have gen : ∀ (l pre acc : List Pr), acc.Nodup → (l.foldl addP pre).foldl addP acc = l.foldl addP (pre.foldl addP acc) := by
      intro l
      induction l with
      | nil => intro pre acc _; rfl
      | cons s l ih =>
        intro pre acc nd
        rw [List.foldl_cons, List.foldl_cons, ih _ _ nd]
        congr 1
        have mem : ∀ (l acc : List Pr) (p : Pr), p ∈ l.foldl addP acc ↔ p ∈ acc ∨ p ∈ l := by
          intro l
          induction l with
          | nil => intro acc p; simp
          | cons t l ih2 =>
            intro acc p
            rw [List.foldl_cons, ih2]
            unfold addP
            by_cases m : t ∈ acc
            · rw [if_pos m, List.mem_cons]
              exact ⟨fun h => h.elim .inl fun h => .inr (.inr h), fun h => h.elim .inl fun h => h.elim (fun e => .inl (by rw [e]; exact m)) .inr⟩
            · rw [if_neg m, List.mem_append, List.mem_singleton, List.mem_cons, or_assoc]
        by_cases m : s ∈ pre
        · have e1 : addP pre s = pre := addP_in m
          have m2 : s ∈ pre.foldl addP acc := (mem pre acc s).mpr (.inr m)
          have e2 : addP (pre.foldl addP acc) s = pre.foldl addP acc := addP_in m2
          rw [e1, e2]
        · have e1 : addP pre s = pre ++ [s] := addP_out m
          rw [e1, List.foldl_append]
          rfl
    intro l acc nd
    exact gen l [] acc nd
  have h1 : onceP (onceP ps ++ onceP qs) = (onceP qs).foldl addP (onceP (onceP ps)) := by unfold onceP; rw [List.foldl_append]
  have h2 : onceP (ps ++ qs) = qs.foldl addP (onceP ps) := by unfold onceP; rw [List.foldl_append]
  rw [h1, h2, onceP_id (onceP_nd ps), step qs _ (onceP_nd ps)]
end Yd
namespace Yd
open PySem L2
/-! ### the law of holds -/
structure HoldO (P : Program) (w : World) (K : PySem.W.Frag) (mg : Str → Option Value) (base : Heap) (C : Addr) : Prop where
  c : HoldC P w K mg base C
  le : ∃ f fd, OpC K C "__le__" f ∧ FnOk P w K mg base CX0 2 f fd ["self", "other"] (spHLe K C) ∧ Binds K fd ["self", "other"] []
  eq : ∃ f fd, OpC K C "__eq__" f ∧ FnOk P w K mg base CX0 1 f fd ["self", "other"] (spHEq K C) ∧ Binds K fd ["self", "other"] []
  or_ : ∃ f fd, OpC K C (PySem.dunder (Operator.BitOr).info.2) f ∧ FnOk P w K mg base CX0 4 f fd ["self", "other"] (spHOr K C) ∧ Binds K fd ["self", "other"] []
  and_ : ∃ f fd, OpC K C (PySem.dunder (Operator.BitAnd).info.2) f ∧ FnOk P w K mg base CX0 3 f fd ["self", "other"] (spHNew K C fun ps qs => ps.filter fun p => decide (p ∈ qs)) ∧ Binds K fd ["self", "other"] []
  sub : ∃ f fd, OpC K C (PySem.dunder (Operator.Sub).info.2) f ∧ FnOk P w K mg base CX0 3 f fd ["self", "other"] (spHNew K C fun ps qs => ps.filter fun p => !decide (p ∈ qs)) ∧ Binds K fd ["self", "other"] []
def spLaw (K : PySem.W.Frag) : Sp := fun vs H Q _ => ∃ (a : Addr) (ns : List Int), vs = [.ref a] ∧ SqL K H a (ns.map V.int) ∧ ns.length ≤ 63 ∧ ∀ H', Q (.bl true) H'
def nLaw : List Str := ["_law_script", "_law_pool_here", "_law_base_here", "_law_names", "_law_size", "_law_first", "_law_second", "_law_given", "_law_one", "_law_two", "_law_near", "_law_within", "_law_around", "_law_k", "_law_row"]
theorem scLaw : FnScope nLaw ["_law_script"] (defScope sLaw) := ⟨rfl, rfl, rfl, by decide +kernel, rfl, by decide +kernel, by decide +kernel⟩
theorem PairsAt.gro {g : Addr} {H H' : Hp} {ys xs : List V} {ps : List Pr} (h : PairsAt H xs ps) (gr : Gro g H H') (hg : H g = some (.lst ys)) : PairsAt H' xs ps := h.keep fun t zs e => gr t _ e (fun z => by rw [z, hg] at e; cases e)
theorem HoldAt.gro {g : Addr} {H H' : Hp} {ys : List V} {C a d : Addr} {ps : List Pr} (h : HoldAt H C a d ps) (gr : Gro g H H') (hg : H g = some (.lst ys)) : HoldAt H' C a d ps :=
  ⟨let ⟨dx, e⟩ := h.ins; ⟨dx, gr _ _ e (fun z => by rw [z, hg] at e; cases e)⟩, gr _ _ h.dict (fun z => by have e := h.dict; rw [z, hg] at e; cases e), h.nd⟩
/-- what stands once the lists and the holds are made -/
structure LawAt (H : Hp) (C D l1 l2 a1 d1 a2 d2 : Addr) (ns : List Str) (ps qs : List Pr) : Prop where
  n : H D = some (.lst (ns.map V.str))
  f : ∃ xs, H l1 = some (.lst xs) ∧ PairsAt H xs ps
  s : ∃ xs, H l2 = some (.lst xs) ∧ PairsAt H xs qs
  one : HoldAt H C a1 d1 (onceP ps)
  two : HoldAt H C a2 d2 (onceP qs)
theorem LawAt.keep {H H' : Hp} {C D l1 l2 a1 d1 a2 d2 : Addr} {ns : List Str} {ps qs : List Pr} (h : LawAt H C D l1 l2 a1 d1 a2 d2 ns ps qs) (s : Same H H') : LawAt H' C D l1 l2 a1 d1 a2 d2 ns ps qs :=
  ⟨s _ _ h.n, let ⟨xs, e, p⟩ := h.f; ⟨xs, s _ _ e, p.same s⟩, let ⟨xs, e, p⟩ := h.s; ⟨xs, s _ _ e, p.same s⟩, h.one.keep s, h.two.keep s⟩
theorem LawAt.gro {H H' : Hp} {C D l1 l2 a1 d1 a2 d2 g : Addr} {ns : List Str} {ps qs : List Pr} {ys : List V} (h : LawAt H C D l1 l2 a1 d1 a2 d2 ns ps qs) (gr : Gro g H H') (hg : H g = some (.lst ys)) (n1 : D ≠ g) (n2 : l1 ≠ g) (n3 : l2 ≠ g) : LawAt H' C D l1 l2 a1 d1 a2 d2 ns ps qs :=
  ⟨gr _ _ h.n n1, let ⟨xs, e, p⟩ := h.f; ⟨xs, gr _ _ e n2, p.gro gr hg⟩, let ⟨xs, e, p⟩ := h.s; ⟨xs, gr _ _ e n3, p.gro gr hg⟩, h.one.gro gr hg, h.two.gro gr hg⟩
theorem filt_in {K : PySem.W.Frag} {q b D : Addr} {ys : List V} {ps qs : List Pr} {j : Nat} {σ : L2.St} {H : Hp} {Qd : Hp → Prop} (hl : H q = some (.lst ys)) (hp : PairsAt H ys ps) (hb : ListP K H b qs) (hz : ps.length ≤ 500) (hD : H D = none)
    (hw : ∀ x, wipe ((wipe σ [14]).set 14 (some x)) [14] = wipe σ [14]) (h14 : ∀ x, ((wipe σ [14]).set 14 (some x))[14]? = some (some x)) (hj : ∀ x, ((wipe σ [14]).set 14 (some x))[j]? = some (some (.ref b)))
    (hd : ∀ H' zs, Same H H' → H' D = some (.lst zs) → PairsAt H' zs (ps.filter fun p => decide (p ∈ qs)) → Qd H') :
    ∃ W : Nat → Nat → Hp → Prop, (∃ m, W 0 m (upd H D (.lst []))) ∧ ∀ i m H, W i m H →
      ((Itl K q).stop i H ∧ Qd H) ∨ ((Itl K q).go i H ∧ ∃ Nx : Hp → Prop, (∀ H', Nx H' → ∃ m', m' < m ∧ W (i + 1) m' H') ∧ ∀ x H', (Itl K q).yld i H x H' → gName 14 x (wipe σ [14]) H' fun σ2 H2 => wipe σ2 [14] = wipe σ [14] ∧ tTest (tOp (rInY K Pr) (tVar 14) (tVar j)) σ2 H2 fun b H3 =>
        if b = true then tVar 14 σ2 H3 fun y H4 => ∃ acc, H4 D = some (.lst acc) ∧ acc.length < sizeLine ∧ Nx (upd H4 D (.lst (acc ++ [y]))) else Nx H3) := by
  refine lc_list (K := K) (a := q) (xs := ys) (fun i H' => Same H H' ∧ ∃ zs, H' D = some (.lst zs) ∧ PairsAt H' zs ((ps.take i).filter fun p => decide (p ∈ qs)))
    ⟨same_new hD, [], upd_same, True.intro⟩ (fun i H' _ h => SqL.of (h.1 _ _ hl)) ?_ ?_
  · rintro i x H' hi ⟨s6, zs, e6, p6⟩
    obtain ⟨t, p, rfl, hpi, ht⟩ := PairsAt.get (hp.same s6) hi
    refine ⟨hw _, _, h14 _, _, hj _, p, qs, dp_pair ht, (hb.keep s6).dp, _, rfl, ?_⟩
    rw [takeP hpi, List.filter_append]
    by_cases m : p ∈ qs
    · have e1 : ([p].filter fun p => decide (p ∈ qs)) = [p] := by simp [m]
      refine yes (by simpa using m) ⟨_, h14 _, zs, e6, small500 ?_, fun b' o' q' => ?_, zs ++ [.ref t], upd_same, ?_⟩
      · rw [p6.len]
        refine Nat.le_trans (List.length_filter_le ..) ?_
        rw [List.length_take]
        omega
      · rw [upd_ne (ne_of_none q' hD)]
        exact s6 _ _ q'
      · rw [e1]
        have nq : ∀ t' ws, H' t' = some (.tup ws) → upd H' D (.lst (zs ++ [.ref t])) t' = some (.tup ws) := fun t' ws et => by rw [upd_ne (ne_of et e6 (fun z => nomatch z))]; exact et
        exact PairsAt.snoc (nq _ _ ht) (p6.keep nq)
    · have e1 : ([p].filter fun p => decide (p ∈ qs)) = [] := by simp [m]
      refine no (by simpa using m) ⟨s6, zs, e6, ?_⟩
      rw [e1, List.append_nil]
      exact p6
  · rintro H' ⟨s6, zs, e6, p6⟩
    rw [hp.len, List.take_length] at p6
    exact hd H' zs s6 e6 p6
theorem filt_out {K : PySem.W.Frag} {q b D : Addr} {ys : List V} {ps qs : List Pr} {j : Nat} {σ : L2.St} {H : Hp} {Qd : Hp → Prop} (hl : H q = some (.lst ys)) (hp : PairsAt H ys ps) (hb : ListP K H b qs) (hz : ps.length ≤ 500) (hD : H D = none)
    (hw : ∀ x, wipe ((wipe σ [14]).set 14 (some x)) [14] = wipe σ [14]) (h14 : ∀ x, ((wipe σ [14]).set 14 (some x))[14]? = some (some x)) (hj : ∀ x, ((wipe σ [14]).set 14 (some x))[j]? = some (some (.ref b)))
    (hd : ∀ H' zs, Same H H' → H' D = some (.lst zs) → PairsAt H' zs (ps.filter fun p => !decide (p ∈ qs)) → Qd H') :
    ∃ W : Nat → Nat → Hp → Prop, (∃ m, W 0 m (upd H D (.lst []))) ∧ ∀ i m H, W i m H →
      ((Itl K q).stop i H ∧ Qd H) ∨ ((Itl K q).go i H ∧ ∃ Nx : Hp → Prop, (∀ H', Nx H' → ∃ m', m' < m ∧ W (i + 1) m' H') ∧ ∀ x H', (Itl K q).yld i H x H' → gName 14 x (wipe σ [14]) H' fun σ2 H2 => wipe σ2 [14] = wipe σ [14] ∧ tTest (tOp (rNotInY K Pr) (tVar 14) (tVar j)) σ2 H2 fun b H3 =>
        if b = true then tVar 14 σ2 H3 fun y H4 => ∃ acc, H4 D = some (.lst acc) ∧ acc.length < sizeLine ∧ Nx (upd H4 D (.lst (acc ++ [y]))) else Nx H3) := by
  refine lc_list (K := K) (a := q) (xs := ys) (fun i H' => Same H H' ∧ ∃ zs, H' D = some (.lst zs) ∧ PairsAt H' zs ((ps.take i).filter fun p => !decide (p ∈ qs)))
    ⟨same_new hD, [], upd_same, True.intro⟩ (fun i H' _ h => SqL.of (h.1 _ _ hl)) ?_ ?_
  · rintro i x H' hi ⟨s6, zs, e6, p6⟩
    obtain ⟨t, p, rfl, hpi, ht⟩ := PairsAt.get (hp.same s6) hi
    refine ⟨hw _, _, h14 _, _, hj _, p, qs, dp_pair ht, (hb.keep s6).dp, _, rfl, ?_⟩
    rw [takeP hpi, List.filter_append]
    by_cases m : ¬ p ∈ qs
    · have e1 : ([p].filter fun p => !decide (p ∈ qs)) = [p] := by simp [m]
      refine yes (by simpa using m) ⟨_, h14 _, zs, e6, small500 ?_, fun b' o' q' => ?_, zs ++ [.ref t], upd_same, ?_⟩
      · rw [p6.len]
        refine Nat.le_trans (List.length_filter_le ..) ?_
        rw [List.length_take]
        omega
      · rw [upd_ne (ne_of_none q' hD)]
        exact s6 _ _ q'
      · rw [e1]
        have nq : ∀ t' ws, H' t' = some (.tup ws) → upd H' D (.lst (zs ++ [.ref t])) t' = some (.tup ws) := fun t' ws et => by rw [upd_ne (ne_of et e6 (fun z => nomatch z))]; exact et
        exact PairsAt.snoc (nq _ _ ht) (p6.keep nq)
    · have e1 : ([p].filter fun p => !decide (p ∈ qs)) = [] := by simp [m]
      refine no (by simpa using m) ⟨s6, zs, e6, ?_⟩
      rw [e1, List.append_nil]
      exact p6
  · rintro H' ⟨s6, zs, e6, p6⟩
    rw [hp.len, List.take_length] at p6
    exact hd H' zs s6 e6 p6
def near12 : List Pr := [("a", "bc"), ("ab", "c")]
def near1 : List Pr := [("a", "bc")]
def near2 : List Pr := [("ab", "c")]
theorem near_once : onceP near12 = near12 := onceP_id (by decide +kernel)
theorem near_1 : onceP near1 = near1 := onceP_id (by decide +kernel)
theorem near_2 : onceP near2 = near2 := onceP_id (by decide +kernel)
theorem near_no : (near1.all fun p => decide (p ∈ near2)) = false := by decide +kernel
section
variable {P : Program} {w : World} {K : PySem.W.Frag} {mg : Str → Option Value} {base : Heap}
theorem at_neg {xs : List V} {i : Nat} (h : i < xs.length) : ∃ v, atI xs (-1 - (i : Int)) = some v ∧ v ∈ xs := by
  have hj : xs.length - 1 - i < xs.length := by omega
  refine ⟨xs[xs.length - 1 - i], ?_, List.getElem_mem hj⟩
  have e : ixN xs.length (-1 - (i : Int)) = some (xs.length - 1 - i) := by
    unfold ixN
    rw [if_neg (by omega), if_pos (by omega)]
    congr 1
    omega
  unfold atI
  rw [e]
  exact List.getElem?_eq_getElem hj
theorem PairsAt.mem {H : Hp} : ∀ {xs : List V} {ps : List Pr} {x : V}, PairsAt H xs ps → x ∈ xs → ∃ (t : Addr) (p : Pr), x = .ref t ∧ H t = some (.tup [.str p.1, .str p.2])
  | v :: xs, p :: ps, x, ⟨⟨t, e, h⟩, r⟩, hx => (List.mem_cons.mp hx).elim (fun q => ⟨t, p, q.trans e, h⟩) fun q => PairsAt.mem r q
  | [], _, _, _, hx => nomatch hx
  | _ :: _, [], _, h, _ => h.elim
theorem ok_law {f fPo fTa fB fNa fO fIH fIB fDr C : Addr} {fd dP dT dB dN dO dIH dIB dDr : FuncData} (F : Fun K "law" "law" sLaw f fd) (B : Blt mg) (hL : mg "list" = none) (hT : mg "tuple" = none) (hI : mg "isinstance" = none) (hB : mg "bool" = none)
    (TP : Fn K mg "_law_pool" sPool ["_law_script"] fPo dP) (TT : Fn K mg "_law_take" sTake ["_law_pool_here", "_law_size"] fTa dT) (TB : Fn K mg "_law_base" sBase ["_law_pool_here"] fB dB)
    (TN : Fn K mg "_law_name" sName ["_law_pool_here", "_law_base_here", "_law_k"] fNa dN) (TO : Fn K mg "_law_once" sOnce ["_law_rows"] fO dO)
    (TH : Fn K mg "_law_is_hold" sIsHold ["_law_hold", "_law_rows", "_law_names"] fIH dIH) (TI : Fn K mg "_law_is_bool" sIsBool ["_law_actual", "_law_expected"] fIB dIB) (TD : Fn K mg "_law_drawn_spots" sDrawnSpots ["_law_pool_here", "_law_names", "_law_size"] fDr dDr)
    (o : HoldO P w K mg base C) : FnOk P w K mg base CX0 5 f fd ["_law_script"] (spLaw K) := by
  have GP : FnOk P w K mg base CX0 1 fPo dP ["_law_script"] (spPool K) := ok_pool TP.F B
  have GT : FnOk P w K mg base CX0 1 fTa dT ["_law_pool_here", "_law_size"] spTake := ok_take TT.F B
  have GB : FnOk P w K mg base CX0 2 fB dB ["_law_pool_here"] (spBase 12) := ok_base TB.F B TT
  have GN : FnOk P w K mg base CX0 2 fNa dN ["_law_pool_here", "_law_base_here", "_law_k"] spName := ok_name TN.F B TT
  have GO : FnOk P w K mg base CX0 1 fO dO ["_law_rows"] (spOnce K) := ok_once TO.F
  have GH : FnOk P w K mg base CX0 3 fIH dIH ["_law_hold", "_law_rows", "_law_names"] (spIsHold K C) := ok_isHold TH.F B o.c hI
  have GIB : FnOk P w K mg base CX0 1 fIB dIB ["_law_actual", "_law_expected"] spIsBool := ok_isBool TI.F hI hB
  have GD : FnOk P w K mg base CX0 2 fDr dDr ["_law_pool_here", "_law_names", "_law_size"] spDrawn := ok_drawn TD.F B TT
  have c := o.c
  obtain ⟨fn, fdn, e0, ee, M, GI, bI, bI1, re0, hE0⟩ := c.ini
  obtain ⟨fle, fdle, cle, Gle, ble⟩ := o.le
  obtain ⟨feq, fdeq, ceq, Geq, beq⟩ := o.eq
  obtain ⟨fo, fdo, co, Go, bo⟩ := o.or_
  obtain ⟨fa, fda, ca, Ga, ba⟩ := o.and_
  obtain ⟨fsu, fdsu, csu, Gsu, bsu⟩ := o.sub
  refine F.ok scLaw (fun vs H Q E h => ?_) (fun cdv A outer s H vs Q E hr h => ?_)
  · obtain ⟨a, ns, rfl, _⟩ := h
    rfl
  · obtain ⟨scr, script, rfl, hS, hlen, k⟩ := h
    have r1 : Room 1 _ := hr.mono (by decide)
    have r2 : Room 2 _ := hr.mono (by decide)
    have r3 : Room 3 _ := hr.mono (by decide)
    have u65 := units65 hr
    refine ⟨_, pss_cons (ps_set (i := 1) scLaw.nd rfl (Or.inr rfl) (pe_call GP r1 rfl TP.g TP.F.kp TP.b .nil pass0 (pa_cons (pv 0) pa_nil)))
      (pss_cons (ps_set (i := 2) scLaw.nd rfl (Or.inr rfl) (pe_call GB r2 rfl TB.g TB.F.kp TB.b .nil pass0 (pa_cons (pv 1) pa_nil)))
      (pss_cons (ps_setLc (i := 3) (own := [("_law_k", 13)]) (g := gName 13) (tt := tYes) rfl scLaw.nd rfl rfl (sw_true rfl rfl rfl (by decide +kernel)) (pi_range1 rfl B.range (pa_cons (pe_op op_add pe_int (pe_call GT r1 rfl TT.g TT.F.kp TT.b .nil pass0 (pa_cons (pv 1) (pa_cons pe_int pa_nil)))) pa_nil))
          (blkOk_by (N := nLaw) (sc := defScope sLaw) (by decide +kernel)) (fun _ _ _ _ _ => pg_name (i := 13) scLaw.nd rfl (Or.inl rfl)) (fun _ _ _ _ _ => pts_nil)
          (fun _ _ _ _ _ => pe_call GN r2 rfl TN.g TN.F.kp TN.b .nil pass0 (pa_cons (pv 1) (pa_cons (pv 2) (pa_cons (pv 13) pa_nil)))))
      (pss_cons (ps_set (i := 4) scLaw.nd rfl (Or.inl rfl) (pe_op op_sub pe_int (pe_call GT r1 rfl TT.g TT.F.kp TT.b .nil pass0 (pa_cons (pv 1) (pa_cons pe_int pa_nil)))))
      (C8.pss_cut (ps_if (pt_cmpR op_eq (pe_call GT r1 rfl TT.g TT.F.kp TT.b .nil pass0 (pa_cons (pv 1) (pa_cons pe_int pa_nil))) pe_int (nomark _)) (pss_one (ps_set (i := 4) scLaw.nd rfl (Or.inl rfl) pe_int)) pss_nil)
      (pss_cons (ps_set (i := 5) scLaw.nd rfl (Or.inr rfl) (pe_call GD r2 rfl TD.g TD.F.kp TD.b .nil pass0 (pa_cons (pv 1) (pa_cons (pv 3) (pa_cons (pv 4) pa_nil)))))
      (pss_cons (ps_set (i := 6) scLaw.nd rfl (Or.inr rfl) (pe_lst (pa_cons (pe_call GD r2 rfl TD.g TD.F.kp TD.b .nil pass0 (pa_cons (pv 1) (pa_cons (pv 3) (pa_cons (pe_op op_sub pe_int (pe_call GT r1 rfl TT.g TT.F.kp TT.b .nil pass0 (pa_cons (pv 1) (pa_cons pe_int pa_nil)))) pa_nil))))
          (pa_cons (pe_lc (own := [("_law_k", 13)]) (g := gName 13) (tt := tYes) (te := tOp (rIxL K) (tVar 5) (tOp (rI0 fun i j => .int (i - j)) (tUn (rU fun i => .int (-i)) (tC (.int 1))) (tVar 13))) rfl scLaw.nd (pi_range1 rfl B.range (pa_cons (pe_callB call_len_seq (by rfl) B.len PySem.boot_len (pa_cons (pv 5) pa_nil)) pa_nil))
            (blkOk_by (N := nLaw) (sc := defScope sLaw) (by decide +kernel)) (fun _ _ _ _ _ => pg_name (i := 13) scLaw.nd rfl (Or.inl rfl)) (fun _ _ _ _ _ => pts_nil)
            (fun _ _ _ _ _ => pe_ix ix_list (pv 5) (pe_op op_sub (pe_un un_neg pe_int) (pv 13)) (fun _ _ => rfl))) pa_nil))))
      (pss_cons (ps_expr (pe_bm PySem.F.plainAttrs_list PySem.F.slot_list_append PySem.F.type_list_append mt_append (pv 6) (pa_cons (pe_lc (own := [("_law_row", 14)]) (g := gName 14) rfl scLaw.nd (pi_list (pv 5))
            (blkOk_by (N := nLaw) (sc := defScope sLaw) (by decide +kernel)) (fun _ _ _ _ _ => pg_name (i := 14) scLaw.nd rfl (Or.inl rfl)) (fun _ _ _ _ _ => pts_one (pt_cmpR op_eq (pe_call GT r1 rfl TT.g TT.F.kp TT.b .nil pass0 (pa_cons (pv 1) (pa_cons pe_int pa_nil))) pe_int (nomark _)))
            (fun _ _ _ _ _ => pv 14)) pa_nil)))
      (pss_cons (ps_set (i := 6) scLaw.nd rfl (Or.inr rfl) (pe_ix ix_list (pv 6) (pe_call GT r1 rfl TT.g TT.F.kp TT.b .nil pass0 (pa_cons (pv 1) (pa_cons pe_int pa_nil))) (fun _ _ => rfl)))
      (pss_cons (ps_set (i := 7) scLaw.nd rfl (Or.inl rfl) (pe_callTy call_list_of (by rfl) hL (by decide +kernel) (pa_cons (pv 5) pa_nil)))
      (pss_cons (ps_set (i := 8) scLaw.nd rfl (Or.inl rfl) (pe_make (E := fun _ _ _ => False) M GI r2 (by rfl) c.g bI .nil pass0 (pa_cons (pv 7) pa_nil)))
      (pss_cons (ps_set (i := 9) scLaw.nd rfl (Or.inl rfl) (pe_make (E := fun _ _ _ => False) M GI r2 (by rfl) c.g bI .nil pass0 (pa_cons (pe_callTy call_tuple_of (by rfl) hT (by decide +kernel) (pa_cons (pv 6) pa_nil)) pa_nil)))
      (pss_cons (ps_if (PW.pt (pw_or (pt_cmpR (op_neS hr.units) (pv 7) (pv 5) (nomark _)) (pw_or1 (pt_not (pt_val (pe_call GH r3 rfl TH.g TH.F.kp TH.b .nil pass0 (pa_cons (pv 8) (pa_cons (pe_call GO r1 rfl TO.g TO.F.kp TO.b .nil pass0 (pa_cons (pv 5) pa_nil)) (pa_cons (pv 3) pa_nil))))))))) (pss_one (ps_ret pe_bl)) pss_nil)
      (pss_cons (ps_expr (pe_bm PySem.F.plainAttrs_list PySem.F.slot_list_append PySem.F.type_list_append mt_append (pv 7) (pa_cons (pe_tup (pa_cons (pe_ix ix_list (pv 3) pe_int (fun _ _ => rfl)) (pa_cons (pe_ix ix_list (pv 3) pe_int (fun _ _ => rfl)) pa_nil))) pa_nil)))
      (pss_cons (ps_expr (pe_bm PySem.F.plainAttrs_list PySem.F.slot_list_append PySem.F.type_list_append mt_append (pv 7) (pa_cons (pe_tup (pa_cons (pe_ix ix_list (pv 3) pe_int (fun _ _ => rfl)) (pa_cons (pe_ix ix_list (pv 3) pe_int (fun _ _ => rfl)) pa_nil))) pa_nil)))
      (pss_cons (ps_if (PW.pt (pw_or (pt_not (pt_val (pe_call GH r3 rfl TH.g TH.F.kp TH.b .nil pass0 (pa_cons (pv 9) (pa_cons (pe_call GO r1 rfl TO.g TO.F.kp TO.b .nil pass0 (pa_cons (pv 6) pa_nil)) (pa_cons (pv 3) pa_nil)))))) (pw_or1 (pt_not (pt_val (pe_call GH r3 rfl TH.g TH.F.kp TH.b .nil pass0 (pa_cons (pe_make0 (E := fun _ _ _ => False) M GI r2 (by rfl) c.g bI1 (.cons re0 .nil) pass0) (pa_cons (pe_lst pa_nil) (pa_cons (pv 3) pa_nil))))))))) (pss_one (ps_ret pe_bl)) pss_nil)
      (pss_cons (ps_if (pt_not (pt_val (pe_call GH r3 rfl TH.g TH.F.kp TH.b .nil pass0 (pa_cons (pe_op (op_ownO (op := .BitOr) (E := fun _ _ _ => False) c.sf co Go hr bo pass0) (pv 8) (pv 9)) (pa_cons (pe_call GO r1 rfl TO.g TO.F.kp TO.b .nil pass0 (pa_cons (pe_op op_cat (pv 5) (pv 6)) pa_nil)) (pa_cons (pv 3) pa_nil)))))) (pss_one (ps_ret pe_bl)) pss_nil)
      (pss_cons (ps_if (pt_not (pt_val (pe_call GH r3 rfl TH.g TH.F.kp TH.b .nil pass0 (pa_cons (pe_op (op_ownO (op := .BitAnd) (E := fun _ _ _ => False) c.sf ca Ga r3 ba pass0) (pv 8) (pv 9)) (pa_cons (pe_lc (own := [("_law_row", 14)]) (g := gName 14) (tt := tTest (tOp (rInY K Pr) (tVar 14) (tVar 6))) rfl scLaw.nd (pi_list (pe_call GO r1 rfl TO.g TO.F.kp TO.b .nil pass0 (pa_cons (pv 5) pa_nil))) (blkOk_by (N := nLaw) (sc := defScope sLaw) (by decide +kernel)) (fun _ _ _ _ _ => pg_name (i := 14) scLaw.nd rfl (Or.inl rfl)) (fun _ _ _ _ _ => pts_one (pt_cmpR (op_inY (α := Pr) (by decide) u65) (pv 14) (pv 6) rfl)) (fun _ _ _ _ _ => pv 14)) (pa_cons (pv 3) pa_nil)))))) (pss_one (ps_ret pe_bl)) pss_nil)
      (pss_cons (ps_if (pt_not (pt_val (pe_call GH r3 rfl TH.g TH.F.kp TH.b .nil pass0 (pa_cons (pe_op (op_ownO (op := .Sub) (E := fun _ _ _ => False) c.sf csu Gsu r3 bsu pass0) (pv 8) (pv 9)) (pa_cons (pe_lc (own := [("_law_row", 14)]) (g := gName 14) (tt := tTest (tOp (rNotInY K Pr) (tVar 14) (tVar 6))) rfl scLaw.nd (pi_list (pe_call GO r1 rfl TO.g TO.F.kp TO.b .nil pass0 (pa_cons (pv 5) pa_nil))) (blkOk_by (N := nLaw) (sc := defScope sLaw) (by decide +kernel)) (fun _ _ _ _ _ => pg_name (i := 14) scLaw.nd rfl (Or.inl rfl)) (fun _ _ _ _ _ => pts_one (pt_cmpR (op_notInY (α := Pr) (by decide) u65) (pv 14) (pv 6) rfl)) (fun _ _ _ _ _ => pv 14)) (pa_cons (pv 3) pa_nil)))))) (pss_one (ps_ret pe_bl)) pss_nil)
      (pss_cons (ps_if (pt_not (pt_val (pe_call GH r3 rfl TH.g TH.F.kp TH.b .nil pass0 (pa_cons (pe_op (op_ownO (op := .Sub) (E := fun _ _ _ => False) c.sf csu Gsu r3 bsu pass0) (pv 9) (pv 8)) (pa_cons (pe_lc (own := [("_law_row", 14)]) (g := gName 14) (tt := tTest (tOp (rNotInY K Pr) (tVar 14) (tVar 5))) rfl scLaw.nd (pi_list (pe_call GO r1 rfl TO.g TO.F.kp TO.b .nil pass0 (pa_cons (pv 6) pa_nil))) (blkOk_by (N := nLaw) (sc := defScope sLaw) (by decide +kernel)) (fun _ _ _ _ _ => pg_name (i := 14) scLaw.nd rfl (Or.inl rfl)) (fun _ _ _ _ _ => pts_one (pt_cmpR (op_notInY (α := Pr) (by decide) u65) (pv 14) (pv 5) rfl)) (fun _ _ _ _ _ => pv 14)) (pa_cons (pv 3) pa_nil)))))) (pss_one (ps_ret pe_bl)) pss_nil)
      (pss_cons (ps_set (i := 10) scLaw.nd rfl (Or.inl rfl) (pe_lst (pa_cons (pe_tup (pa_cons pe_str (pa_cons pe_str pa_nil))) (pa_cons (pe_tup (pa_cons pe_str (pa_cons pe_str pa_nil))) pa_nil))))
      (pss_cons (ps_if (PW.pt (pw_or (pt_not (pt_val (pe_call GH r3 rfl TH.g TH.F.kp TH.b .nil pass0 (pa_cons (pe_make (E := fun _ _ _ => False) M GI r2 (by rfl) c.g bI .nil pass0 (pa_cons (pv 10) pa_nil)) (pa_cons (pv 10) (pa_cons (pe_lst (pa_cons pe_str (pa_cons pe_str (pa_cons pe_str (pa_cons pe_str pa_nil))))) pa_nil)))))) (pw_or1 (pt_cmpR (op_leO (E := fun _ _ _ => False) c.nf cle Gle r2 ble pass0) (pe_make (E := fun _ _ _ => False) M GI r2 (by rfl) c.g bI .nil pass0 (pa_cons (pe_slice sl_list (pv 10) po_none (po_some pe_int)) pa_nil)) (pe_make (E := fun _ _ _ => False) M GI r2 (by rfl) c.g bI .nil pass0 (pa_cons (pe_slice sl_list (pv 10) (po_some pe_int) po_none) pa_nil)) (nomark _))))) (pss_one (ps_ret pe_bl)) pss_nil)
      (pss_cons (ps_set (i := 11) scLaw.nd rfl (Or.inl rfl) (pe_cmpR op_eq (pe_callB call_len_seq (by rfl) B.len PySem.boot_len (pa_cons (pe_lc (own := [("_law_row", 14)]) (g := gName 14) (tt := tTest (tOp (rNotInY K Pr) (tVar 14) (tVar 6))) rfl scLaw.nd (pi_list (pv 5)) (blkOk_by (N := nLaw) (sc := defScope sLaw) (by decide +kernel)) (fun _ _ _ _ _ => pg_name (i := 14) scLaw.nd rfl (Or.inl rfl)) (fun _ _ _ _ _ => pts_one (pt_cmpR (op_notInY (α := Pr) (by decide) u65) (pv 14) (pv 6) rfl)) (fun _ _ _ _ _ => pv 14)) pa_nil)) pe_int (nomark _)))
      (pss_cons (ps_set (i := 12) scLaw.nd rfl (Or.inl rfl) (pe_cmpR op_eq (pe_callB call_len_seq (by rfl) B.len PySem.boot_len (pa_cons (pe_lc (own := [("_law_row", 14)]) (g := gName 14) (tt := tTest (tOp (rNotInY K Pr) (tVar 14) (tVar 5))) rfl scLaw.nd (pi_list (pv 6)) (blkOk_by (N := nLaw) (sc := defScope sLaw) (by decide +kernel)) (fun _ _ _ _ _ => pg_name (i := 14) scLaw.nd rfl (Or.inl rfl)) (fun _ _ _ _ _ => pts_one (pt_cmpR (op_notInY (α := Pr) (by decide) u65) (pv 14) (pv 5) rfl)) (fun _ _ _ _ _ => pv 14)) pa_nil)) pe_int (nomark _)))
      (pss_cons (ps_if (PW.pt (pw_or (pt_not (pt_val (pe_call GIB r1 rfl TI.g TI.F.kp TI.b .nil pass0 (pa_cons (pe_cmpR (op_leO (E := fun _ _ _ => False) c.nf cle Gle r2 ble pass0) (pv 8) (pv 9) (nomark _)) (pa_cons (pv 11) pa_nil))))) (pw_or1 (pt_not (pt_val (pe_call GIB r1 rfl TI.g TI.F.kp TI.b .nil pass0 (pa_cons (pe_cmpR (op_leO (E := fun _ _ _ => False) c.nf cle Gle r2 ble pass0) (pv 9) (pv 8) (nomark _)) (pa_cons (pv 12) pa_nil)))))))) (pss_one (ps_ret pe_bl)) pss_nil)
      (pss_cons (ps_if (PW.pt (pw_or (pt_not (pt_val (pe_call GIB r1 rfl TI.g TI.F.kp TI.b .nil pass0 (pa_cons (pe_cmpR (op_eqO (E := fun _ _ _ => False) c.nf ceq Geq r1 beq pass0) (pv 8) (pv 9) (nomark _)) (pa_cons (pe_and (pv 11) (pe_one (pv 12))) pa_nil))))) (pw_or1 (pt_not (pt_val (pe_call GIB r1 rfl TI.g TI.F.kp TI.b .nil pass0 (pa_cons (pe_cmpR (op_eqO (E := fun _ _ _ => False) c.nf ceq Geq r1 beq pass0) (pv 8) (pe_call GO r1 rfl TO.g TO.F.kp TO.b .nil pass0 (pa_cons (pv 5) pa_nil)) (nomark _)) (pa_cons pe_bl pa_nil)))))))) (pss_one (ps_ret pe_bl)) pss_nil)
      (pss_one (ps_ret (pe_and (pe_call GH r3 rfl TH.g TH.F.kp TH.b .nil pass0 (pa_cons (pv 8) (pa_cons (pe_call GO r1 rfl TO.g TO.F.kp TO.b .nil pass0 (pa_cons (pv 5) pa_nil)) (pa_cons (pv 3) pa_nil)))) (pe_one (pe_call GH r3 rfl TH.g TH.F.kp TH.b .nil pass0 (pa_cons (pv 9) (pa_cons (pe_call GO r1 rfl TO.g TO.F.kp TO.b .nil pass0 (pa_cons (pv 6) pa_nil)) (pa_cons (pv 3) pa_nil))))))))))))))))))))))))))))))))), ?_⟩
    refine ⟨_, rfl, scr, script, rfl, hS, hlen, fun p cc H1 _ _ _ P1 => ?_⟩
    refine ⟨_, rfl, p, cc, rfl, P1, fun b H2 hb hsb _ P2 => ?_⟩
    clear P1
    -- the names
    refine ⟨_, rfl, p, cc, 4, rfl, P2, by decide, by decide, fun v H3 v0 v1 g3 P3 => ⟨_, _, rfl, rfl, _, rfl, by omega, by omega, fun D hD => ?_⟩⟩
    obtain ⟨nDp, nDc⟩ := P3.ne hD
    refine lc_range (lo := 0) (n := (2 + v).toNat) (fun i H' => Gro p H3 H' ∧ Pool H' p cc ∧ ∃ ys : List Str, H' D = some (.lst (ys.map V.str)) ∧ ys.length = i)
      ⟨.new hD, P3.new hD, [], upd_same, rfl⟩ ?_ ?_
    · rintro i H' hi ⟨g6, P6, ys, hys, hyl⟩
      refine ⟨rfl, _, rfl, _, rfl, _, rfl, p, cc, b, i, by rw [show (0 : Int) + (i : Int) = (i : Int) by omega]; rfl, P6, by omega, hsb, by omega, fun z H7 hz g7 P7 => ?_⟩
      refine ⟨ys.map V.str, g7 D _ hys nDp, small500 (by rw [List.length_map]; omega), fun bb o e ne => ?_, P7.off nDp nDc, ys ++ [z], by rw [upd_same, List.map_append]; rfl, by rw [List.length_append, hyl]; rfl⟩
      rw [upd_ne (ne_of_none e hD)]
      exact g7 _ _ (g6 _ _ e ne) ne
    rintro H4 ⟨_, P4, ns, hns, hnl⟩
    have nl2 : 2 ≤ ns.length ∧ ns.length ≤ 5 := by omega
    clear P2 P3 g3 hD hnl v0 v1
    -- the size
    refine ⟨_, rfl, p, cc, 13, rfl, P4, by decide, by decide, fun v5 H5 b0 b1 g5 P5 => ⟨_, _, rfl, rfl, ?_⟩⟩
    obtain ⟨m5, hm5⟩ : ∃ m : Nat, (12 : Int) - v5 = (m : Int) := ⟨(12 - v5).toNat, by omega⟩
    have hns5 := g5 _ _ hns nDp
    clear hns P4 g5
    refine ⟨fun σ H => Pool H p cc ∧ H D = some (.lst (ns.map V.str)) ∧ ∃ m : Nat, m ≤ 60 ∧ σ = [some (.ref scr), some (.ref p), some (.str b), some (.ref D), some (.int m), none, none, none, none, none, none, none, none, none, none], ?_, ?_⟩
    · refine ⟨_, rfl, p, cc, 8, rfl, P5, by decide, by decide, fun v6 H6 _ _ g6 P6 => ⟨rfl, _, rfl, ite2 (fun _ => ?_) (fun _ => ?_)⟩⟩
      · exact ⟨P6, g6 _ _ hns5 nDp, 60, by omega, rfl⟩
      · exact ⟨P6, g6 _ _ hns5 nDp, m5, by omega, by rw [← hm5]; rfl⟩
    clear hns5 P5 hm5 b0 b1
    rintro σ H6 ⟨P6, hns, m, hm, rfl⟩
    -- the first list
    refine ⟨_, rfl, _, rfl, _, rfl, p, cc, D, m, ns, rfl, P6, hns, nDp, by omega, by omega, hm, fun l1 xs1 ps1 H7 g7 P7 nl1 nl1p nl1c e1 p1 hm1 => ?_⟩
    have hns7 := g7 _ _ hns nDp
    have nDl1 : D ≠ l1 := ne_of_none hns nl1
    have lx1 := p1.len
    clear hns P6 g7
    -- the three lists that the second is one of
    refine ⟨_, rfl, _, rfl, _, rfl, p, cc, 13, rfl, P7, by decide, by decide, fun v8 H8 a0 a1 g8 P8 => ⟨_, _, rfl, rfl, ?_⟩⟩
    obtain ⟨m8, hm8⟩ : ∃ m : Nat, (12 : Int) - v8 = (m : Int) := ⟨(12 - v8).toNat, by omega⟩
    have hns8 := g8 _ _ hns7 nDp
    have e8 := g8 _ _ e1 nl1p
    have p8 : PairsAt H8 xs1 ps1 := p1.keep fun t zs e => gro_tup g8 P7 e
    clear hns7 e1 p1 P7 g8 nl1
    refine ⟨p, cc, D, m8, ns, by rw [← hm8]; rfl, P8, hns8, nDp, by omega, by omega, by omega, fun l2 xs2 ps2 H9 g9 P9 nl2 nl2p nl2c e2 p2 hm2 => ?_⟩
    have hns9 := g9 _ _ hns8 nDp
    have e9 := g9 _ _ e8 nl1p
    have p9 : PairsAt H9 xs1 ps1 := p8.keep fun t zs e => gro_tup g9 P8 e
    have n12 : l1 ≠ l2 := ne_of_none e8 nl2
    have nD2 : D ≠ l2 := ne_of_none hns8 nl2
    have lx2 := p2.len
    clear hns8 e8 p8 P8 g9 nl2
    refine ⟨_, rfl, l1, _, rfl, .inl (SqL.of e9), _, rfl, by omega, by omega, fun D2 hD2 => ?_⟩
    obtain ⟨nD2p, nD2c⟩ := P9.ne hD2
    have n1D2 : l1 ≠ D2 := ne_of_none e9 hD2
    have n2D2 : l2 ≠ D2 := ne_of_none e2 hD2
    have nDD2 : D ≠ D2 := ne_of_none hns9 hD2
    refine lc_range (lo := 0) (n := ((xs1.length : Nat) : Int).toNat) (fun i H' => Same H9 H' ∧ ∃ ys qs, H' D2 = some (.lst ys) ∧ PairsAt H' ys qs ∧ qs.length = i)
      ⟨same_new hD2, [], [], upd_same, True.intro, rfl⟩ ?_ ?_
    · rintro i H' hi ⟨s6, ys, qs, e6, p6, hl6⟩
      have hi' : i < xs1.length := by omega
      obtain ⟨x, hat, hx⟩ := at_neg (xs := xs1) hi'
      obtain ⟨t, pr, rfl, ht⟩ := PairsAt.mem (p9.same s6) hx
      have l6 := p6.len
      refine ⟨rfl, _, rfl, _, rfl, _, rfl, _, _, rfl, rfl, l1, _, _, .ref t, rfl, rfl, SqL.of (s6 _ _ e9), ?_, ys, e6, small500 (by omega), fun b' o' q => ?_, ys ++ [.ref t], qs ++ [pr], upd_same, ?_, by rw [List.length_append, hl6]; rfl⟩
      · rw [show (-1 : Int) - (0 + (i : Int)) = -1 - (i : Int) by omega]
        exact hat
      · rw [upd_ne (ne_of_none q hD2)]
        exact s6 _ _ q
      · have nq : ∀ t' zs, H' t' = some (.tup zs) → upd H' D2 (.lst (ys ++ [.ref t])) t' = some (.tup zs) := fun t' zs et => by rw [upd_ne (ne_of et e6 (fun z => nomatch z))]; exact et
        exact PairsAt.snoc (nq _ _ ht) (p6.keep nq)
    rintro H10 ⟨s10, ys2, qs2, e10, p10, hl10⟩
    refine ⟨(by show 2 ≤ sizeLine; decide), fun L hLn => ?_⟩
    have P10 : Pool H10 p cc := P9.keep (fun o e => s10 _ _ e) fun o e => s10 _ _ e
    have P11 := P10.new (o := .lst [.ref l2, .ref D2]) hLn
    obtain ⟨nLp, nLc⟩ := P10.ne hLn
    have nDL : D ≠ L := ne_of_none (s10 _ _ hns9) hLn
    have n1L : l1 ≠ L := ne_of_none (s10 _ _ e9) hLn
    have n2L : l2 ≠ L := ne_of_none (s10 _ _ e2) hLn
    have nD2L : D2 ≠ L := ne_of_none e10 hLn
    have s11 : Same H9 (upd H10 L (.lst [.ref l2, .ref D2])) := s10.trans (same_new hLn)
    have e11 : upd H10 L (.lst [.ref l2, .ref D2]) D2 = some (.lst ys2) := by rw [upd_ne (ne_of_none e10 hLn)]; exact e10
    have p11 : PairsAt (upd H10 L (.lst [.ref l2, .ref D2])) ys2 qs2 := p10.same (same_new hLn)
    have eL : upd H10 L (.lst [.ref l2, .ref D2]) L = some (.lst [.ref l2, .ref D2]) := upd_same
    generalize upd H10 L (.lst [.ref l2, .ref D2]) = H11 at *
    have hns11 := s11 _ _ hns9
    have e1 := s11 _ _ e9
    have p1 := p9.same s11
    have e2 := s11 _ _ e2
    have p2 := p2.same s11
    clear s10 e10 p10 P10 P9 hns9 e9 p9 hD2 hLn s11
    -- the third of them
    refine ⟨_, rfl, .inl ⟨rfl, _, SqL.of eL⟩, _, rfl, l1, rfl, ⟨_, SqL.of e1⟩, fun D3 hD3 => ?_⟩
    obtain ⟨nD3p, nD3c⟩ := P11.ne hD3
    have n1D3 : l1 ≠ D3 := ne_of_none e1 hD3
    have n2D3 : l2 ≠ D3 := ne_of_none e2 hD3
    have nDD3 : D ≠ D3 := ne_of_none hns11 hD3
    have nLD3 : L ≠ D3 := ne_of_none eL hD3
    have nD2D3 : D2 ≠ D3 := ne_of_none e11 hD3
    refine lc_list (K := K) (a := l1) (xs := xs1) (fun i H' => Gro p H11 H' ∧ Pool H' p cc ∧ ∃ ys qs, H' D3 = some (.lst ys) ∧ PairsAt H' ys qs ∧ qs.length ≤ i)
      ⟨.new hD3, P11.new hD3, [], [], upd_same, True.intro, Nat.le_refl _⟩ (fun i H' _ h => SqL.of (h.1 _ _ e1 nl1p)) ?_ ?_
    · rintro i x H' hi ⟨g6, P6, ys, qs, e6, p6, hl6⟩
      have hx : x ∈ xs1 := List.mem_of_getElem? hi
      have hil : i < xs1.length := (List.getElem?_eq_some_iff.mp hi).1
      refine ⟨rfl, _, rfl, p, cc, 2, rfl, P6, by decide, by decide, fun v H7 _ _ g7 P7 => ⟨rfl, _, rfl, ite2 (fun _ => ?_) (fun _ => ?_)⟩⟩
      · have g67 := g6.trans g7
        obtain ⟨t, pr, rfl, ht⟩ := PairsAt.mem (p1.keep fun t zs e => gro_tup g67 P11 e) hx
        have e7 := g7 _ _ e6 nD3p
        have p7 : PairsAt H7 ys qs := p6.keep fun t zs e => gro_tup g7 P6 e
        have l6 := p7.len
        refine ⟨_, rfl, ys, e7, small500 (by omega), fun b' o' q nb => ?_, P7.off nD3p nD3c, ys ++ [.ref t], qs ++ [pr], upd_same, ?_, by rw [List.length_append]; exact Nat.succ_le_succ hl6⟩
        · rw [upd_ne (ne_of_none q hD3)]
          exact g67 _ _ q nb
        · have nq : ∀ t' zs, H7 t' = some (.tup zs) → upd H7 D3 (.lst (ys ++ [.ref t])) t' = some (.tup zs) := fun t' zs et => by rw [upd_ne (ne_of et e7 (fun z => nomatch z))]; exact et
          exact PairsAt.snoc (nq _ _ ht) (p7.keep nq)
      · exact ⟨g6.trans g7, P7, ys, qs, g7 _ _ e6 nD3p, p6.keep fun t zs e => gro_tup g7 P6 e, by omega⟩
    rintro H12 ⟨g12, P12, ys3, qs3, e12, p12, hl12⟩
    have eL2 := g12 _ _ eL nLp
    refine ⟨L, _, _, rfl, rfl, eL2, small500 (by show 2 ≤ 1000; decide), ?_⟩
    have hns13 : upd H12 L (.lst ([.ref l2, .ref D2] ++ [.ref D3])) D = some (.lst (ns.map V.str)) := by rw [upd_ne nDL]; exact g12 _ _ hns11 nDp
    have e13 : upd H12 L (.lst ([.ref l2, .ref D2] ++ [.ref D3])) l1 = some (.lst xs1) := by rw [upd_ne n1L]; exact g12 _ _ e1 nl1p
    have f13 : upd H12 L (.lst ([.ref l2, .ref D2] ++ [.ref D3])) l2 = some (.lst xs2) := by rw [upd_ne n2L]; exact g12 _ _ e2 nl2p
    have u13 : upd H12 L (.lst ([.ref l2, .ref D2] ++ [.ref D3])) D2 = some (.lst ys2) := by rw [upd_ne nD2L]; exact g12 _ _ e11 nD2p
    have w13 : upd H12 L (.lst ([.ref l2, .ref D2] ++ [.ref D3])) D3 = some (.lst ys3) := by rw [upd_ne nLD3.symm]; exact e12
    have L13 : upd H12 L (.lst ([.ref l2, .ref D2] ++ [.ref D3])) L = some (.lst [.ref l2, .ref D2, .ref D3]) := upd_same
    have nq : ∀ t' zs, H12 t' = some (.tup zs) → upd H12 L (.lst ([.ref l2, .ref D2] ++ [.ref D3])) t' = some (.tup zs) := fun t' zs et => by rw [upd_ne (ne_of et eL2 (fun z => nomatch z))]; exact et
    have gt : ∀ {xs : List V} {ps : List Pr}, PairsAt H11 xs ps → PairsAt (upd H12 L (.lst ([.ref l2, .ref D2] ++ [.ref D3]))) xs ps := fun h => (h.keep fun t zs e => gro_tup g12 P11 e).keep nq
    have p1 := gt p1
    have p2 := gt p2
    have p3 := gt p11
    have p4 := p12.keep nq
    have P13 := P12.off (q := L) (o := .lst ([.ref l2, .ref D2] ++ [.ref D3])) nLp nLc
    clear gt nq
    generalize upd H12 L (.lst ([.ref l2, .ref D2] ++ [.ref D3])) = H13 at *
    clear g12 P12 e12 p12 eL2 e1 e2 e11 p11 eL hns11 P11 hD3
    -- the second list
    refine ⟨_, rfl, _, rfl, p, cc, 3, rfl, P13, by decide, by decide, fun v H14 c0 c1 g14 P14 => ?_⟩
    obtain ⟨l, xs, qs, hat, el, pl, ll, nl⟩ : ∃ l xs qs, atI [V.ref l2, V.ref D2, V.ref D3] v = some (.ref l) ∧ H13 l = some (.lst xs) ∧ PairsAt H13 xs qs ∧ qs.length ≤ 60 ∧ l ≠ p := by
      rcases (show v = 0 ∨ v = 1 ∨ v = 2 by omega) with rfl | rfl | rfl
      · exact ⟨l2, xs2, ps2, at_c (j := 0) rfl rfl, f13, p2, by omega, nl2p⟩
      · exact ⟨D2, ys2, qs2, at_c (j := 1) rfl rfl, u13, p3, by omega, nD2p⟩
      · exact ⟨D3, ys3, qs3, at_c (j := 2) rfl rfl, w13, p4, by omega, nD3p⟩
    refine ⟨L, _, v, _, rfl, rfl, SqL.of (g14 _ _ L13 nLp), hat, ?_⟩
    have hns := g14 _ _ hns13 nDp
    have e1 := g14 _ _ e13 nl1p
    have f1 : PairsAt H14 xs1 ps1 := p1.keep fun t zs e => gro_tup g14 P13 e
    have e2 := g14 _ _ el nl
    have f2 : PairsAt H14 xs qs := pl.keep fun t zs e => gro_tup g14 P13 e
    have lz := f2.len
    clear hat el pl hns13 e13 f13 u13 w13 L13 p1 p2 p3 p4 P13 P14 g14
    -- the holds
    refine ⟨_, rfl, l1, _, rfl, .inl (SqL.of e1), fun g hg => ?_⟩
    have s15 := same_new (o := .lst xs1) hg
    have eg : upd H14 g (.lst xs1) g = some (.lst xs1) := upd_same
    have ngD : D ≠ g := ne_of_none hns hg
    have ng1 : l1 ≠ g := ne_of_none e1 hg
    have ng2 : l ≠ g := ne_of_none e2 hg
    generalize upd H14 g (.lst xs1) = H15 at s15 eg
    refine ⟨_, rfl, fun x dx nx ndx nex => hold_new c.h (rows := ps1) rfl ⟨xs1, f1.same s15, .inl (SqL.of eg)⟩ (by omega) nx ndx nex fun d1 H16 s16 _ h1 => ?_⟩
    have s17 := s15.trans s16
    refine ⟨_, rfl, l, _, rfl, .inl ⟨SqL.of (s17 _ _ e2), fun q hq => fun x2 dx2 nx2 ndx2 nex2 => hold_new c.h (rows := qs) rfl ⟨xs, (f2.same s17).same (same_new hq), .inr (SqT.of upd_same)⟩ (by omega) nx2 ndx2 nex2 fun d2 H18 s18 nd2 h2 => ?_⟩⟩
    have s19 := (same_new (o := .tup xs) hq).trans s18
    have LA : LawAt H18 C D l1 l x d1 x2 d2 ns ps1 qs := ⟨s19 _ _ (s17 _ _ hns), ⟨xs1, s19 _ _ (s17 _ _ e1), (f1.same s17).same s19⟩, ⟨xs, s19 _ _ (s17 _ _ e2), (f2.same s17).same s19⟩, h1.keep s19, h2⟩
    have eg := s19 _ _ (s16 _ _ eg)
    have ndd : d1 ≠ d2 := ne_of_none h1.dict ((same_new (o := .tup xs) hq).free nd2)
    have z1 := LA.one.nd
    have oz1 : (onceP ps1).length ≤ 60 := Nat.le_trans (onceP_len _) (by omega)
    have oz2 : (onceP qs).length ≤ 60 := Nat.le_trans (onceP_len _) (by omega)
    have pg := (f1.same s17).same s19
    clear s19 h1 h2 s18 nd2 nx2 ndx2 nex2 hq s17 s16 s15 nx ndx nex hg e1 e2 f1 f2 hns z1
    have lf : ∀ {H : Hp}, LawAt H C D l1 l x d1 x2 d2 ns ps1 qs → ListP K H l1 ps1 := fun h => let ⟨xs, e, p⟩ := h.f; ⟨xs, SqL.of e, p⟩
    have ls : ∀ {H : Hp}, LawAt H C D l1 l x d1 x2 d2 ns ps1 qs → ListP K H l qs := fun h => let ⟨xs, e, p⟩ := h.s; ⟨xs, SqL.of e, p⟩
    -- the list that was passed is as it was, and the first hold is right
    refine ⟨_, rfl, _, rfl, _, (show ListP K H18 g ps1 from ⟨xs1, SqL.of eg, pg⟩).dp, (lf LA).dp, plain_prs ps1, depth_prs ps1, _, rfl, no rfl ?_⟩
    refine ⟨_, rfl, _, rfl, l1, ps1, rfl, lf LA, by omega, fun q ys H19 s19 nq eq pq => ⟨_, rfl, x, d1, q, D, onceP ps1, ns, rfl, (LA.keep s19).one, ⟨ys, SqL.of eq, pq⟩, SqL.of (LA.keep s19).n, by omega, fun H20 s20 => ⟨true, rfl, no rfl ?_⟩⟩⟩
    have LB := (LA.keep s19).keep s20
    have eg := s20 _ _ (s19 _ _ eg)
    clear LA s19 nq eq pq pg
    -- it changes
    obtain ⟨y0, hy0⟩ : ∃ y, ns[0]? = some y := ⟨_, List.getElem?_eq_getElem (by omega)⟩
    obtain ⟨y1, hy1⟩ : ∃ y, ns[1]? = some y := ⟨_, List.getElem?_eq_getElem (by omega)⟩
    have at0 : atI (ns.map V.str) 0 = some (.str y0) := at_c (j := 0) (by rw [List.getElem?_map, hy0]; rfl) rfl
    have at1 : atI (ns.map V.str) 1 = some (.str y1) := at_c (j := 1) (by rw [List.getElem?_map, hy1]; rfl) rfl
    refine ⟨_, rfl, .inl ⟨rfl, _, SqL.of eg⟩, _, rfl, D, _, 0, _, rfl, rfl, SqL.of LB.n, at0, _, rfl, D, _, 0, _, rfl, rfl, SqL.of LB.n, at0, (by show 2 ≤ sizeLine; decide), fun t1 ht1 => ?_⟩
    have LC := LB.keep (same_new (o := .tup [.str y0, .str y0]) ht1)
    have eg1 : upd H20 t1 (.tup [.str y0, .str y0]) g = some (.lst xs1) := by rw [upd_ne (ne_of_none eg ht1)]; exact eg
    refine ⟨g, _, _, rfl, rfl, eg1, small500 (by omega), ?_⟩
    have LD := LC.gro (Gro.own (o := .lst (xs1 ++ [.ref t1]))) eg1 ngD ng1 ng2
    have eg2 : upd (upd H20 t1 (.tup [.str y0, .str y0])) g (.lst (xs1 ++ [.ref t1])) g = some (.lst (xs1 ++ [.ref t1])) := upd_same
    generalize upd (upd H20 t1 (.tup [.str y0, .str y0])) g (.lst (xs1 ++ [.ref t1])) = H21 at LD eg2
    refine ⟨_, rfl, .inl ⟨rfl, _, SqL.of eg2⟩, _, rfl, D, _, 0, _, rfl, rfl, SqL.of LD.n, at0, _, rfl, D, _, 1, _, rfl, rfl, SqL.of LD.n, at1, (by show 2 ≤ sizeLine; decide), fun t2 ht2 => ?_⟩
    have LE := LD.keep (same_new (o := .tup [.str y0, .str y1]) ht2)
    have eg3 : upd H21 t2 (.tup [.str y0, .str y1]) g = some (.lst (xs1 ++ [.ref t1])) := by rw [upd_ne (ne_of_none eg2 ht2)]; exact eg2
    refine ⟨g, _, _, rfl, rfl, eg3, small500 (by rw [List.length_append]; show xs1.length + 1 ≤ 1000; omega), ?_⟩
    have LF := LE.gro (Gro.own (o := .lst ((xs1 ++ [.ref t1]) ++ [.ref t2]))) eg3 ngD ng1 ng2
    generalize upd (upd H21 t2 (.tup [.str y0, .str y1])) g (.lst ((xs1 ++ [.ref t1]) ++ [.ref t2])) = H22 at LF
    clear LB LC LD LE eg eg1 eg2 eg3 ht1 ht2 s20
    -- the second hold, and an empty one
    refine ⟨_, rfl, _, rfl, l, qs, rfl, ls LF, by omega, fun q ys H23 s23 nq eq pq => ⟨_, rfl, x2, d2, q, D, onceP qs, ns, rfl, (LF.keep s23).two, ⟨ys, SqL.of eq, pq⟩, SqL.of (LF.keep s23).n, by omega, fun H24 s24 => ⟨true, rfl, no rfl ?_⟩⟩⟩
    have LG := (LF.keep s23).keep s24
    clear LF s23 nq eq pq
    refine fun x3 dx3 nx3 ndx3 nex3 => hold_new c.h (rows := []) rfl ⟨[], True.intro, .inr (hE0 _)⟩ (Nat.zero_le _) nx3 ndx3 nex3 fun d3 H25 s25 nd3 h3 => ⟨(by show 0 ≤ sizeLine; omega), fun Le hLe => ?_⟩
    refine ⟨_, rfl, x3, d3, Le, D, [], ns, rfl, h3.keep (same_new hLe), ⟨[], SqL.of upd_same, True.intro⟩, SqL.of ((LG.keep s25).keep (same_new hLe)).n, Nat.zero_le _, fun H26 s26 => ⟨true, rfl, no rfl ?_⟩⟩
    have LH := ((LG.keep s25).keep (same_new hLe)).keep s26
    clear LG s25 h3 hLe s26 nx3 ndx3 nex3 nd3 s24
    -- the union
    obtain ⟨xs1', ef1, pf1⟩ := LH.f
    obtain ⟨xs2', ef2, pf2⟩ := LH.s
    obtain ⟨dxa, ia⟩ := LH.one.ins
    obtain ⟨dxb, ib⟩ := LH.two.ins
    refine ⟨_, rfl, _, rfl, x, x2, dxa, dxb, _, _, rfl, rfl, ia, ib, x, x2, d1, d2, _, _, rfl, LH.one, LH.two, ndd, by omega, by omega, fun cu du H27 s27 nu hu' => ⟨_, rfl, ?_⟩⟩
    have lx1' := pf1.len
    have lx2' := pf2.len
    refine ⟨_, rfl, _, rfl, l1, l, xs1', xs2', rfl, rfl, s27 _ _ ef1, s27 _ _ ef2, Nat.le_of_lt (small500 (by omega)), fun lc hlc => ?_⟩
    refine ⟨lc, ps1 ++ qs, rfl, ⟨_, SqL.of upd_same, ((pf1.same s27).app (pf2.same s27)).same (same_new hlc)⟩, by rw [List.length_append]; omega, fun q ys H28 s28 nq eq pq => ?_⟩
    have s29 := s27.trans ((same_new (o := .lst (xs1' ++ xs2')) hlc).trans s28)
    refine ⟨_, rfl, cu, du, q, D, onceP (ps1 ++ qs), ns, rfl, by rw [← once_app]; exact (hu'.keep (same_new hlc)).keep s28, ⟨ys, SqL.of eq, pq⟩, SqL.of (LH.keep s29).n, Nat.le_trans (onceP_len _) (by rw [List.length_append]; omega), fun H30 s30 => ⟨true, rfl, no rfl ?_⟩⟩
    have LI := (LH.keep s29).keep s30
    clear s27 nu hu' hlc s28 nq eq pq s29 s30 ef1 pf1 ef2 pf2 ia ib lx1' lx2' LH
    -- the rest
    have flen : ∀ (f : Pr → Bool) (ps : List Pr), ps.length ≤ 60 → (ps.filter f).length ≤ 500 := fun f ps h => Nat.le_trans (List.length_filter_le ..) (by omega)
    obtain ⟨dxa, ia⟩ := LI.one.ins
    obtain ⟨dxb, ib⟩ := LI.two.ins
    refine ⟨_, rfl, _, rfl, x, x2, dxa, dxb, _, _, rfl, rfl, ia, ib, x, x2, d1, d2, _, _, rfl, LI.one, LI.two, by omega, by omega, fun cu du H31 s31 nu hu' => ⟨_, rfl, ?_⟩⟩
    have LJ := LI.keep s31
    refine ⟨_, rfl, l1, ps1, rfl, lf LJ, by omega, fun q ys H32 s32 nq eq pq => ⟨q, rfl, ⟨_, SqL.of eq⟩, fun Dq hDq => filt_in eq pq (ls (LJ.keep s32)) (by omega) hDq (fun _ => rfl) (fun _ => rfl) (fun _ => rfl) fun H33 zs s33 ez pz => ?_⟩⟩
    have LK := (LJ.keep s32).keep s33
    refine ⟨_, rfl, cu, du, Dq, D, _, ns, rfl, (hu'.keep s32).keep s33, ⟨zs, SqL.of ez, by show PairsAt H33 zs ((onceP ps1).filter fun p => decide (p ∈ onceP qs)); rw [filt_once]; exact pz⟩, SqL.of LK.n, flen _ _ oz1, fun H34 s34 => ⟨true, rfl, no rfl ?_⟩⟩
    have LL := LK.keep s34
    clear ia ib s31 nu hu' LJ s32 nq eq pq hDq s33 ez pz LK s34 LI
    -- one less the other
    obtain ⟨dxa, ia⟩ := LL.one.ins
    obtain ⟨dxb, ib⟩ := LL.two.ins
    refine ⟨_, rfl, _, rfl, x, x2, dxa, dxb, _, _, rfl, rfl, ia, ib, x, x2, d1, d2, _, _, rfl, LL.one, LL.two, by omega, by omega, fun cu du H31 s31 nu hu' => ⟨_, rfl, ?_⟩⟩
    have LJ := LL.keep s31
    refine ⟨_, rfl, l1, ps1, rfl, lf LJ, by omega, fun q ys H32 s32 nq eq pq => ⟨q, rfl, ⟨_, SqL.of eq⟩, fun Dq hDq => filt_out eq pq (ls (LJ.keep s32)) (by omega) hDq (fun _ => rfl) (fun _ => rfl) (fun _ => rfl) fun H33 zs s33 ez pz => ?_⟩⟩
    have LK := (LJ.keep s32).keep s33
    refine ⟨_, rfl, cu, du, Dq, D, _, ns, rfl, (hu'.keep s32).keep s33, ⟨zs, SqL.of ez, by show PairsAt H33 zs ((onceP ps1).filter fun p => !decide (p ∈ onceP qs)); rw [filt_not]; exact pz⟩, SqL.of LK.n, flen _ _ oz1, fun H34 s34 => ⟨true, rfl, no rfl ?_⟩⟩
    have LM := LK.keep s34
    clear ia ib s31 nu hu' LJ s32 nq eq pq hDq s33 ez pz LK s34 LL
    obtain ⟨dxa, ia⟩ := LM.one.ins
    obtain ⟨dxb, ib⟩ := LM.two.ins
    refine ⟨_, rfl, _, rfl, x2, x, dxb, dxa, _, _, rfl, rfl, ib, ia, x2, x, d2, d1, _, _, rfl, LM.two, LM.one, by omega, by omega, fun cu du H31 s31 nu hu' => ⟨_, rfl, ?_⟩⟩
    have LJ := LM.keep s31
    refine ⟨_, rfl, l, qs, rfl, ls LJ, by omega, fun q ys H32 s32 nq eq pq => ⟨q, rfl, ⟨_, SqL.of eq⟩, fun Dq hDq => filt_out eq pq (lf (LJ.keep s32)) (by omega) hDq (fun _ => rfl) (fun _ => rfl) (fun _ => rfl) fun H33 zs s33 ez pz => ?_⟩⟩
    have LK := (LJ.keep s32).keep s33
    refine ⟨_, rfl, cu, du, Dq, D, _, ns, rfl, (hu'.keep s32).keep s33, ⟨zs, SqL.of ez, by show PairsAt H33 zs ((onceP qs).filter fun p => !decide (p ∈ onceP ps1)); rw [filt_not]; exact pz⟩, SqL.of LK.n, flen _ _ oz2, fun H34 s34 => ⟨true, rfl, no rfl ?_⟩⟩
    have LN := LK.keep s34
    clear ia ib s31 nu hu' LJ s32 nq eq pq hDq s33 ez pz LK s34 LM
    -- spots whose letters are the same when they are joined
    refine ⟨(by show 2 ≤ sizeLine; decide), fun t1 ht1 => ⟨(by show 2 ≤ sizeLine; decide), fun t2 ht2 => ⟨(by show 2 ≤ sizeLine; decide), fun N hN => ?_⟩⟩⟩
    have s35 := ((same_new (o := .tup [.str "a", .str "bc"]) ht1).trans (same_new (o := .tup [.str "ab", .str "c"]) ht2)).trans (same_new (o := .lst [.ref t1, .ref t2]) hN)
    have q1 : upd (upd (upd H34 t1 (.tup [.str "a", .str "bc"])) t2 (.tup [.str "ab", .str "c"])) N (.lst [.ref t1, .ref t2]) t1 = some (.tup [.str "a", .str "bc"]) := same_new hN _ _ (same_new ht2 _ _ upd_same)
    have q2 : upd (upd (upd H34 t1 (.tup [.str "a", .str "bc"])) t2 (.tup [.str "ab", .str "c"])) N (.lst [.ref t1, .ref t2]) t2 = some (.tup [.str "ab", .str "c"]) := same_new hN _ _ upd_same
    have q3 : upd (upd (upd H34 t1 (.tup [.str "a", .str "bc"])) t2 (.tup [.str "ab", .str "c"])) N (.lst [.ref t1, .ref t2]) N = some (.lst [.ref t1, .ref t2]) := upd_same
    have LO := LN.keep s35
    generalize upd (upd (upd H34 t1 (.tup [.str "a", .str "bc"])) t2 (.tup [.str "ab", .str "c"])) N (.lst [.ref t1, .ref t2]) = H35 at *
    clear s35 ht1 ht2 hN LN
    have pn : ∀ {H : Hp}, Same H35 H → PairsAt H [.ref t1, .ref t2] near12 := fun s => ⟨⟨t1, rfl, s _ _ q1⟩, ⟨t2, rfl, s _ _ q2⟩, True.intro⟩
    refine ⟨_, rfl, fun x3 dx3 nx3 ndx3 nex3 => hold_new c.h (rows := near12) rfl ⟨_, pn (Same.refl _), .inl (SqL.of q3)⟩ (by decide) nx3 ndx3 nex3 fun d3 H36 s36 _ h3 => ⟨_, rfl, (by show 4 ≤ sizeLine; decide), fun F4 hF4 => ?_⟩⟩
    rw [near_once] at h3
    have s37 := s36.trans (same_new (o := .lst [.str "a", .str "ab", .str "bc", .str "c"]) hF4)
    refine ⟨x3, d3, N, F4, _, ["a", "ab", "bc", "c"], rfl, h3.keep (same_new hF4), ⟨_, SqL.of (s37 _ _ q3), pn s37⟩, SqL.of upd_same, (by decide), fun H38 s38 => ⟨true, rfl, no rfl ?_⟩⟩
    have s39 := s37.trans s38
    refine ⟨_, rfl, 1, rfl, N, _, rfl, SqL.of (s39 _ _ q3), fun N1 hN1 => ?_⟩
    have s40 := s39.trans (same_new (o := .lst (cutV [.ref t1, .ref t2] none (some 1))) hN1)
    refine fun x4 dx4 nx4 ndx4 nex4 => hold_new c.h (rows := near1) rfl ⟨[.ref t1], ⟨⟨t1, rfl, s40 _ _ q1⟩, True.intro⟩, .inl (SqL.of upd_same)⟩ (by decide) nx4 ndx4 nex4 fun d4 H41 s41 _ h4 => ?_
    have s42 := s40.trans s41
    refine ⟨_, rfl, 1, rfl, N, _, rfl, SqL.of (s42 _ _ q3), fun N2 hN2 => ?_⟩
    have s43 := s42.trans (same_new (o := .lst (cutV [.ref t1, .ref t2] (some 1) none)) hN2)
    refine fun x5 dx5 nx5 ndx5 nex5 => hold_new c.h (rows := near2) rfl ⟨[.ref t2], ⟨⟨t2, rfl, s43 _ _ q2⟩, True.intro⟩, .inl (SqL.of upd_same)⟩ (by decide) nx5 ndx5 nex5 fun d5 H44 s44 _ h5 => ?_
    rw [near_1] at h4
    rw [near_2] at h5
    have h4 := (h4.keep (same_new hN2)).keep s44
    obtain ⟨dy4, i4⟩ := h4.ins
    obtain ⟨dy5, i5⟩ := h5.ins
    refine ⟨x4, dy4, _, rfl, i4, .inl ⟨x5, dy5, _, rfl, i5⟩, x4, x5, d4, d5, _, _, rfl, h4, h5, (by decide), fun H45 s45 => ⟨_, rfl, _, rfl, no near_no ?_⟩⟩
    have LP := LO.keep ((s43.trans s44).trans s45)
    clear q1 q2 q3 pn h3 s36 s37 s38 s39 s40 s41 s42 s43 s44 s45 h4 h5 i4 i5 LO hF4 hN1 hN2 nx3 ndx3 nex3 nx4 ndx4 nex4 nx5 ndx5 nex5
    -- within and around
    obtain ⟨xs1', ef1, pf1⟩ := LP.f
    refine ⟨_, rfl, l1, rfl, ⟨_, SqL.of ef1⟩, fun Dq hDq => filt_out ef1 pf1 (ls LP) (by omega) hDq (fun _ => rfl) (fun _ => rfl) (fun _ => rfl) fun H46 zs s46 ez pz => ⟨Dq, _, rfl, .inl (SqL.of ez), rfl, ?_⟩⟩
    have hw : decide (V.int ((zs.length : Nat) : Int) = V.int 0) = decide (∀ p ∈ ps1, p ∈ qs) := by rw [pz.len]; exact within_eq ps1 qs
    rw [hw]
    have LQ := LP.keep s46
    clear ef1 pf1 hDq s46 ez pz hw LP
    obtain ⟨xs2', ef2, pf2⟩ := LQ.s
    refine ⟨_, rfl, l, rfl, ⟨_, SqL.of ef2⟩, fun Dq hDq => filt_out ef2 pf2 (lf LQ) (by omega) hDq (fun _ => rfl) (fun _ => rfl) (fun _ => rfl) fun H47 zs s47 ez pz => ⟨Dq, _, rfl, .inl (SqL.of ez), rfl, ?_⟩⟩
    have hw : decide (V.int ((zs.length : Nat) : Int) = V.int 0) = decide (∀ p ∈ qs, p ∈ ps1) := by rw [pz.len]; exact within_eq qs ps1
    rw [hw]
    have LR := LQ.keep s47
    clear ef2 pf2 hDq s47 ez pz hw LQ
    -- the comparisons
    obtain ⟨dxa, ia⟩ := LR.one.ins
    obtain ⟨dxb, ib⟩ := LR.two.ins
    refine ⟨_, rfl, _, rfl, x, dxa, _, rfl, ia, .inl ⟨x2, dxb, _, rfl, ib⟩, x, x2, d1, d2, _, _, rfl, LR.one, LR.two, by omega, fun H48 s48 => ⟨_, rfl, _, rfl, decide (∀ p ∈ ps1, p ∈ qs), by rw [all_once]; rfl, true, rfl, no rfl ?_⟩⟩
    have LS := LR.keep s48
    clear s48 LR ia ib
    obtain ⟨dxa, ia⟩ := LS.one.ins
    obtain ⟨dxb, ib⟩ := LS.two.ins
    refine ⟨_, rfl, _, rfl, x2, dxb, _, rfl, ib, .inl ⟨x, dxa, _, rfl, ia⟩, x2, x, d2, d1, _, _, rfl, LS.two, LS.one, by omega, fun H49 s49 => ⟨_, rfl, _, rfl, decide (∀ p ∈ qs, p ∈ ps1), by rw [all_once]; rfl, true, rfl, no rfl ?_⟩⟩
    have LT := LS.keep s49
    clear s49 LS ia ib
    obtain ⟨dxa, ia⟩ := LT.one.ins
    obtain ⟨dxb, ib⟩ := LT.two.ins
    refine ⟨_, rfl, _, rfl, x, dxa, _, rfl, ia, .inl ⟨x2, dxb, _, rfl, ib⟩, x, x2, d1, _, rfl, LT.one, .inl ⟨d2, _, LT.two, _, rfl, _, rfl, _, rfl, ?_⟩⟩
    have se := same_eq ps1 qs
    by_cases w1 : ∀ p ∈ ps1, p ∈ qs
    · refine yes (decide_eq_true w1) ⟨_, rfl, decide (∀ p ∈ qs, p ∈ ps1), by rw [se, decide_eq_true w1, Bool.true_and]; rfl, true, rfl, no rfl ?_⟩
      obtain ⟨dxa, ia⟩ := LT.one.ins
      refine ⟨_, rfl, _, rfl, l1, ps1, rfl, lf LT, by omega, fun q ys H51 s51 nq eq pq => ⟨x, dxa, _, rfl, s51 _ _ ia, .inr ⟨q, ys, rfl, eq⟩, x, q, d1, _, rfl, LT.one.keep s51, .inr ⟨ys, eq, _, rfl, false, rfl, true, rfl, no rfl ?_⟩⟩⟩
      have LV := LT.keep s51
      refine ⟨_, rfl, _, rfl, l1, ps1, rfl, lf LV, by omega, fun q2 ys2 H52 s52 nq2 eq2 pq2 => ⟨_, rfl, x, d1, q2, D, _, ns, rfl, LV.one.keep s52, ⟨ys2, SqL.of eq2, pq2⟩, SqL.of (LV.keep s52).n, by omega, fun H53 s53 => ⟨true, rfl, yes rfl ?_⟩⟩⟩
      have LW := (LV.keep s52).keep s53
      exact ⟨_, rfl, _, rfl, l, qs, rfl, ls LW, by omega, fun q3 ys3 H54 s54 nq3 eq3 pq3 => ⟨_, rfl, x2, d2, q3, D, _, ns, rfl, LW.two.keep s54, ⟨ys3, SqL.of eq3, pq3⟩, SqL.of (LW.keep s54).n, by omega, fun H55 s55 => k _⟩⟩
    · refine no (decide_eq_false w1) ⟨false, by rw [se, decide_eq_false w1, Bool.false_and]; rfl, true, rfl, no rfl ?_⟩
      obtain ⟨dxa, ia⟩ := LT.one.ins
      refine ⟨_, rfl, _, rfl, l1, ps1, rfl, lf LT, by omega, fun q ys H51 s51 nq eq pq => ⟨x, dxa, _, rfl, s51 _ _ ia, .inr ⟨q, ys, rfl, eq⟩, x, q, d1, _, rfl, LT.one.keep s51, .inr ⟨ys, eq, _, rfl, false, rfl, true, rfl, no rfl ?_⟩⟩⟩
      have LV := LT.keep s51
      refine ⟨_, rfl, _, rfl, l1, ps1, rfl, lf LV, by omega, fun q2 ys2 H52 s52 nq2 eq2 pq2 => ⟨_, rfl, x, d1, q2, D, _, ns, rfl, LV.one.keep s52, ⟨ys2, SqL.of eq2, pq2⟩, SqL.of (LV.keep s52).n, by omega, fun H53 s53 => ⟨true, rfl, yes rfl ?_⟩⟩⟩
      have LW := (LV.keep s52).keep s53
      exact ⟨_, rfl, _, rfl, l, qs, rfl, ls LW, by omega, fun q3 ys3 H54 s54 nq3 eq3 pq3 => ⟨_, rfl, x2, d2, q3, D, _, ns, rfl, LW.two.keep s54, ⟨ys3, SqL.of eq3, pq3⟩, SqL.of (LW.keep s54).n, by omega, fun H55 s55 => k _⟩⟩
end
end Yd
namespace Yd
open PySem L2
/-! ### isinstance, of an own class -/
theorem kit_is {K : PySem.W.Frag} {C D : Addr} {b : Bool} (h1 : PySem.W.isClsIn K D = true) (h2 : PySem.W.typeIn K (.ref D) = some (.type "type")) (h3 : PySem.W.subIn K (.ref C) (.ref D) = some b) (h4 : C = D → b = true) : PySem.W.kitOne K (.ref C) (.ref D) = some b := by
  have h5 : (PySem.W.clsIn K D).isSome = true := h1
  have a2 : ((PySem.W.clsIn K D).isSome && PySem.W.typeIn K (.ref D) == some (.type "type")) = true := by rw [h5, h2]; rfl
  unfold PySem.W.kitOne
  split
  · rename_i q
    have q' : C = D := by
      first
        | exact Value.ref.inj (eq_of_beq q)
        | simpa using q
    rw [h4 q']
  · exact (if_pos a2).trans h3
end Yd
namespace Yd
open PySem L2
/-! ### isinstance of a list; a def with one default -/
theorem kit_tyL {K : PySem.W.Frag} {D : Addr} {T : String} {b : Bool} (h1 : PySem.W.isClsIn K D = true) (h2 : PySem.W.typeIn K (.ref D) = some (.type "type")) (h3 : PySem.W.subIn K (.type T) (.ref D) = some b) : PySem.W.kitOne K (.type T) (.ref D) = some b := by
  have h5 : (PySem.W.clsIn K D).isSome = true := h1
  have a2 : ((PySem.W.clsIn K D).isSome && PySem.W.typeIn K (.ref D) == some (.type "type")) = true := by rw [h5, h2]; rfl
  unfold PySem.W.kitOne
  split
  · rename_i q
    exact absurd q (by simp)
  · exact (if_pos a2).trans h3
end Yd
namespace Yd
open PySem L2
/-! ### what the top has written -/
theorem all_mk {P : Program} {w : World} {K : PySem.W.Frag} {h : Heap} {mg : Str → Option Value} {fa : Addr} (X : K.In h) (G : h.Ns mainGlobals mg) (hfa : mg "law" = some (.ref fa))
    {CH : Addr} {fHI TDHI edHI : Addr} {odHI anHI : Option Addr} {slHI : Array (Option Value)} {ocHI kVHI dcHI pmHI cdHI ctHI : Value} {oTHI oEHI : Obj} {nTHI nEHI : Nat} {fHt : Addr} {odHt anHt : Option Addr} {slHt : Array (Option Value)} {ocHt kVHt dcHt pmHt cdHt ctHt : Value} {fHl : Addr} {odHl anHl : Option Addr} {slHl : Array (Option Value)} {ocHl kVHl dcHl pmHl cdHl ctHl : Value} {fHk : Addr} {odHk anHk : Option Addr} {slHk : Array (Option Value)} {ocHk kVHk dcHk pmHk cdHk ctHk : Value} {fHe : Addr} {odHe anHe : Option Addr} {slHe : Array (Option Value)} {ocHe kVHe dcHe pmHe cdHe ctHe : Value} {fHq : Addr} {odHq anHq : Option Addr} {slHq : Array (Option Value)} {ocHq kVHq dcHq pmHq cdHq ctHq : Value} {fHo : Addr} {odHo anHo : Option Addr} {slHo : Array (Option Value)} {ocHo kVHo dcHo pmHo cdHo ctHo : Value} {fHa : Addr} {odHa anHa : Option Addr} {slHa : Array (Option Value)} {ocHa kVHa dcHa pmHa cdHa ctHa : Value} {fHs : Addr} {odHs anHs : Option Addr} {slHs : Array (Option Value)} {ocHs kVHs dcHs pmHs cdHs ctHs : Value} {fpool : Addr} {odpool anpool : Option Addr} {slpool : Array (Option Value)} {ocpool kVpool dcpool pmpool cdpool ctpool : Value} {ftake : Addr} {odtake antake : Option Addr} {sltake : Array (Option Value)} {octake kVtake dctake pmtake cdtake cttake : Value} {fbase : Addr} {odbase anbase : Option Addr} {slbase : Array (Option Value)} {ocbase kVbase dcbase pmbase cdbase ctbase : Value} {fname : Addr} {odname anname : Option Addr} {slname : Array (Option Value)} {ocname kVname dcname pmname cdname ctname : Value} {fonce : Addr} {odonce anonce : Option Addr} {slonce : Array (Option Value)} {oconce kVonce dconce pmonce cdonce ctonce : Value} {fish : Addr} {odish anish : Option Addr} {slish : Array (Option Value)} {ocish kVish dcish pmish cdish ctish : Value} {fisb : Addr} {odisb anisb : Option Addr} {slisb : Array (Option Value)} {ocisb kVisb dcisb pmisb cdisb ctisb : Value} {fdrw : Addr} {oddrw andrw : Option Addr} {sldrw : Array (Option Value)} {ocdrw kVdrw dcdrw pmdrw cddrw ctdrw : Value} {flaw : Addr} {odlaw anlaw : Option Addr} {sllaw : Array (Option Value)} {oclaw kVlaw dclaw pmlaw cdlaw ctlaw : Value}
    (z0 : PySem.W.nsIn K mainGlobals "len" = some none)
    (z1 : PySem.W.nsIn K mainGlobals "int" = some none)
    (z2 : PySem.W.nsIn K mainGlobals "range" = some none)
    (z3 : PySem.W.nsIn K mainGlobals "tuple" = some none)
    (z4 : PySem.W.nsIn K mainGlobals "list" = some none)
    (z5 : PySem.W.nsIn K mainGlobals "isinstance" = some none)
    (z6 : PySem.W.nsIn K mainGlobals "iter" = some none)
    (z7 : PySem.W.nsIn K mainGlobals "all" = some none)
    (z8 : PySem.W.nsIn K mainGlobals "bool" = some none)
    (aCH : PySem.W.nsIn K mainGlobals "Hold" = some (some (.ref CH)))
    (pgCH : PySem.W.plainGet K CH Str.empty = true)
    (hdCH : PySem.W.hasDictIn K CH = true)
    (poCH : PySem.W.plainOver K CH = true)
    (saCH : PySem.W.findIn K (.ref CH) "__setattr__" = some (some (.builtin "object.__setattr__")))
    (mkCH : PySem.W.makesIn K CH = true)
    (kcCH : PySem.W.keepIn K (.ref CH) = true)
    (lHI : K.lookup fHI = some ⟨ocHI, odHI, .func (PySem.W.fnOf "__init__" "Hold.__init__" (defArgs sHoldInit) (defBody sHoldInit) (defScope sHoldInit) (.ref TDHI) kVHI dcHI pmHI anHI cdHI ctHI), slHI⟩)
    (cHI : PySem.W.codeIn K cdHI "Hold.__init__" = true)
    (kHI : PySem.W.keepIn K (.ref fHI) = true)
    (iHI : PySem.W.isFn K (.ref fHI) = true)
    (lTHI : K.lookup TDHI = some oTHI)
    (dTHI : oTHI.data = .seq [Value.ref edHI].toArray nTHI)
    (lEHI : K.lookup edHI = some oEHI)
    (cEHI : oEHI.cls = .type "tuple")
    (dEHI : oEHI.data = .seq #[] nEHI)
    (lHt : K.lookup fHt = some ⟨ocHt, odHt, .func (PySem.W.fnOf "__iter__" "Hold.__iter__" (defArgs sHoldIter) (defBody sHoldIter) (defScope sHoldIter) .none kVHt dcHt pmHt anHt cdHt ctHt), slHt⟩)
    (cHt : PySem.W.codeIn K cdHt "Hold.__iter__" = true)
    (kHt : PySem.W.keepIn K (.ref fHt) = true)
    (iHt : PySem.W.isFn K (.ref fHt) = true)
    (o_Ht : PySem.W.findIn K (.ref CH) "__iter__" = some (some (.ref fHt)))
    (lHl : K.lookup fHl = some ⟨ocHl, odHl, .func (PySem.W.fnOf "__len__" "Hold.__len__" (defArgs sHoldLen) (defBody sHoldLen) (defScope sHoldLen) .none kVHl dcHl pmHl anHl cdHl ctHl), slHl⟩)
    (cHl : PySem.W.codeIn K cdHl "Hold.__len__" = true)
    (kHl : PySem.W.keepIn K (.ref fHl) = true)
    (iHl : PySem.W.isFn K (.ref fHl) = true)
    (o_Hl : PySem.W.findIn K (.ref CH) "__len__" = some (some (.ref fHl)))
    (lHk : K.lookup fHk = some ⟨ocHk, odHk, .func (PySem.W.fnOf "__contains__" "Hold.__contains__" (defArgs sHoldIn) (defBody sHoldIn) (defScope sHoldIn) .none kVHk dcHk pmHk anHk cdHk ctHk), slHk⟩)
    (cHk : PySem.W.codeIn K cdHk "Hold.__contains__" = true)
    (kHk : PySem.W.keepIn K (.ref fHk) = true)
    (iHk : PySem.W.isFn K (.ref fHk) = true)
    (o_Hk : PySem.W.findIn K (.ref CH) "__contains__" = some (some (.ref fHk)))
    (lHe : K.lookup fHe = some ⟨ocHe, odHe, .func (PySem.W.fnOf "__le__" "Hold.__le__" (defArgs sHoldLe) (defBody sHoldLe) (defScope sHoldLe) .none kVHe dcHe pmHe anHe cdHe ctHe), slHe⟩)
    (cHe : PySem.W.codeIn K cdHe "Hold.__le__" = true)
    (kHe : PySem.W.keepIn K (.ref fHe) = true)
    (iHe : PySem.W.isFn K (.ref fHe) = true)
    (o_He : PySem.W.findIn K (.ref CH) "__le__" = some (some (.ref fHe)))
    (lHq : K.lookup fHq = some ⟨ocHq, odHq, .func (PySem.W.fnOf "__eq__" "Hold.__eq__" (defArgs sHoldEq) (defBody sHoldEq) (defScope sHoldEq) .none kVHq dcHq pmHq anHq cdHq ctHq), slHq⟩)
    (cHq : PySem.W.codeIn K cdHq "Hold.__eq__" = true)
    (kHq : PySem.W.keepIn K (.ref fHq) = true)
    (iHq : PySem.W.isFn K (.ref fHq) = true)
    (o_Hq : PySem.W.findIn K (.ref CH) "__eq__" = some (some (.ref fHq)))
    (lHo : K.lookup fHo = some ⟨ocHo, odHo, .func (PySem.W.fnOf "__or__" "Hold.__or__" (defArgs sHoldOr) (defBody sHoldOr) (defScope sHoldOr) .none kVHo dcHo pmHo anHo cdHo ctHo), slHo⟩)
    (cHo : PySem.W.codeIn K cdHo "Hold.__or__" = true)
    (kHo : PySem.W.keepIn K (.ref fHo) = true)
    (iHo : PySem.W.isFn K (.ref fHo) = true)
    (o_Ho : PySem.W.findIn K (.ref CH) "__or__" = some (some (.ref fHo)))
    (lHa : K.lookup fHa = some ⟨ocHa, odHa, .func (PySem.W.fnOf "__and__" "Hold.__and__" (defArgs sHoldAnd) (defBody sHoldAnd) (defScope sHoldAnd) .none kVHa dcHa pmHa anHa cdHa ctHa), slHa⟩)
    (cHa : PySem.W.codeIn K cdHa "Hold.__and__" = true)
    (kHa : PySem.W.keepIn K (.ref fHa) = true)
    (iHa : PySem.W.isFn K (.ref fHa) = true)
    (o_Ha : PySem.W.findIn K (.ref CH) "__and__" = some (some (.ref fHa)))
    (lHs : K.lookup fHs = some ⟨ocHs, odHs, .func (PySem.W.fnOf "__sub__" "Hold.__sub__" (defArgs sHoldSub) (defBody sHoldSub) (defScope sHoldSub) .none kVHs dcHs pmHs anHs cdHs ctHs), slHs⟩)
    (cHs : PySem.W.codeIn K cdHs "Hold.__sub__" = true)
    (kHs : PySem.W.keepIn K (.ref fHs) = true)
    (iHs : PySem.W.isFn K (.ref fHs) = true)
    (o_Hs : PySem.W.findIn K (.ref CH) "__sub__" = some (some (.ref fHs)))
    (nSp : PySem.W.findIn K (.ref CH) "_spots" = some none)
    (inCH : PySem.W.findIn K (.ref CH) "__init__" = some (some (.ref fHI)))
    (cn : PySem.W.specialIn K (.builtin "object.__class__") "__get__" = some (some (.builtin "getset_descriptor.__get__")))
    (ct : PySem.W.takesIn K (.builtin "object.__class__") = some true)
    (caCH : PySem.W.findIn K (.ref CH) "__class__" = some (some (.builtin "object.__class__")))
    (cmCH : PySem.W.mroIn K CH (.type "object") = some true)
    (icCH : PySem.W.isClsIn K CH = true)
    (tyCH : PySem.W.typeIn K (.ref CH) = some (.type "type"))
    (suCH : PySem.W.subIn K (.ref CH) (.ref CH) = some true)
    (suL : PySem.W.subIn K (.type "list") (.ref CH) = some false)
    (sfCH : PySem.W.selfFirst K CH = true)
    (lpool : K.lookup fpool = some ⟨ocpool, odpool, .func (PySem.W.fnOf "_law_pool" "_law_pool" (defArgs sPool) (defBody sPool) (defScope sPool) .none kVpool dcpool pmpool anpool cdpool ctpool), slpool⟩)
    (cpool : PySem.W.codeIn K cdpool "_law_pool" = true)
    (kpool : PySem.W.keepIn K (.ref fpool) = true)
    (apool : PySem.W.nsIn K mainGlobals "_law_pool" = some (some (.ref fpool)))
    (ltake : K.lookup ftake = some ⟨octake, odtake, .func (PySem.W.fnOf "_law_take" "_law_take" (defArgs sTake) (defBody sTake) (defScope sTake) .none kVtake dctake pmtake antake cdtake cttake), sltake⟩)
    (ctake : PySem.W.codeIn K cdtake "_law_take" = true)
    (ktake : PySem.W.keepIn K (.ref ftake) = true)
    (atake : PySem.W.nsIn K mainGlobals "_law_take" = some (some (.ref ftake)))
    (lbase : K.lookup fbase = some ⟨ocbase, odbase, .func (PySem.W.fnOf "_law_base" "_law_base" (defArgs sBase) (defBody sBase) (defScope sBase) .none kVbase dcbase pmbase anbase cdbase ctbase), slbase⟩)
    (cbase : PySem.W.codeIn K cdbase "_law_base" = true)
    (kbase : PySem.W.keepIn K (.ref fbase) = true)
    (abase : PySem.W.nsIn K mainGlobals "_law_base" = some (some (.ref fbase)))
    (lname : K.lookup fname = some ⟨ocname, odname, .func (PySem.W.fnOf "_law_name" "_law_name" (defArgs sName) (defBody sName) (defScope sName) .none kVname dcname pmname anname cdname ctname), slname⟩)
    (cname : PySem.W.codeIn K cdname "_law_name" = true)
    (kname : PySem.W.keepIn K (.ref fname) = true)
    (aname : PySem.W.nsIn K mainGlobals "_law_name" = some (some (.ref fname)))
    (lonce : K.lookup fonce = some ⟨oconce, odonce, .func (PySem.W.fnOf "_law_once" "_law_once" (defArgs sOnce) (defBody sOnce) (defScope sOnce) .none kVonce dconce pmonce anonce cdonce ctonce), slonce⟩)
    (conce : PySem.W.codeIn K cdonce "_law_once" = true)
    (konce : PySem.W.keepIn K (.ref fonce) = true)
    (aonce : PySem.W.nsIn K mainGlobals "_law_once" = some (some (.ref fonce)))
    (lish : K.lookup fish = some ⟨ocish, odish, .func (PySem.W.fnOf "_law_is_hold" "_law_is_hold" (defArgs sIsHold) (defBody sIsHold) (defScope sIsHold) .none kVish dcish pmish anish cdish ctish), slish⟩)
    (cish : PySem.W.codeIn K cdish "_law_is_hold" = true)
    (kish : PySem.W.keepIn K (.ref fish) = true)
    (aish : PySem.W.nsIn K mainGlobals "_law_is_hold" = some (some (.ref fish)))
    (lisb : K.lookup fisb = some ⟨ocisb, odisb, .func (PySem.W.fnOf "_law_is_bool" "_law_is_bool" (defArgs sIsBool) (defBody sIsBool) (defScope sIsBool) .none kVisb dcisb pmisb anisb cdisb ctisb), slisb⟩)
    (cisb : PySem.W.codeIn K cdisb "_law_is_bool" = true)
    (kisb : PySem.W.keepIn K (.ref fisb) = true)
    (aisb : PySem.W.nsIn K mainGlobals "_law_is_bool" = some (some (.ref fisb)))
    (ldrw : K.lookup fdrw = some ⟨ocdrw, oddrw, .func (PySem.W.fnOf "_law_drawn_spots" "_law_drawn_spots" (defArgs sDrawnSpots) (defBody sDrawnSpots) (defScope sDrawnSpots) .none kVdrw dcdrw pmdrw andrw cddrw ctdrw), sldrw⟩)
    (cdrw : PySem.W.codeIn K cddrw "_law_drawn_spots" = true)
    (kdrw : PySem.W.keepIn K (.ref fdrw) = true)
    (adrw : PySem.W.nsIn K mainGlobals "_law_drawn_spots" = some (some (.ref fdrw)))
    (llaw : K.lookup flaw = some ⟨oclaw, odlaw, .func (PySem.W.fnOf "law" "law" (defArgs sLaw) (defBody sLaw) (defScope sLaw) .none kVlaw dclaw pmlaw anlaw cdlaw ctlaw), sllaw⟩)
    (claw : PySem.W.codeIn K cdlaw "law" = true)
    (klaw : PySem.W.keepIn K (.ref flaw) = true)
    (alaw : PySem.W.nsIn K mainGlobals "law" = some (some (.ref flaw))) :
    ∃ fd : FuncData, (∀ (s : Shared) (v : Value), BindsTo s fd ⟨[v], []⟩ [("_law_script", v)]) ∧ ∀ base : Heap, K.In base → base.Ns mainGlobals mg → FnOk P w K mg base CX0 5 fa fd ["_law_script"] (spLaw K) := by
  have e := hfa.symm.trans (PySem.W.mg_of X G alaw)
  cases e
  have clCH : Cls K CH := ⟨pgCH, hdCH, poCH, saCH⟩
  have gCH : mg "Hold" = some (.ref CH) := (PySem.W.mg_of X G aCH)
  have FHI : FunD K "__init__" "Hold.__init__" (defArgs sHoldInit) (defBody sHoldInit) (defScope sHoldInit) [V.ref edHI] [] fHI _ := ⟨⟨_, _, _, _, _, _, _, _, _, _, rfl, lHI, cHI, .inr ⟨List.cons_ne_nil _ _, _, _, _, _, rfl, lTHI, dTHI, .cons rfl .nil⟩, .inl rfl⟩, kHI⟩
  obtain ⟨dsHI, vsHI, bHI⟩ := FHI.binds1 (ps := ["self", "rows"]) 2 1 (List.cons_ne_nil _ _) rfl (fun _ _ _ _ _ _ _ us its h1 h2 => match us, its, h1, h2 with | [_, _], [_], _, _ => ⟨_, rfl, rfl⟩)
  cases vsHI
  obtain ⟨esHI, wsHI, qHI⟩ := FHI.binds1 (ps := ["self", "rows"]) 1 0 (List.cons_ne_nil _ _) rfl (fun _ _ _ _ _ _ _ us its h1 h2 => match us, its, h1, h2 with | [_], [_], _, _ => ⟨_, rfl, rfl⟩)
  obtain ⟨eeHI, rfl, reHI⟩ := vals1 wsHI
  have hEHI : ∀ H, SqT K H edHI [] := fun H => .inr ⟨_, #[], _, lEHI, cEHI, dEHI, Nat.zero_le _, .nil⟩
  have FHt := fun_mk (st := sHoldIter) lHt cHt kHt
  have bHt := FHt.binds (ps := ["self"]) fun _ _ _ _ _ _ us hl => match us, hl with | [_], _ => rfl
  have FHl := fun_mk (st := sHoldLen) lHl cHl kHl
  have bHl := FHl.binds (ps := ["self"]) fun _ _ _ _ _ _ us hl => match us, hl with | [_], _ => rfl
  have FHk := fun_mk (st := sHoldIn) lHk cHk kHk
  have bHk := FHk.binds (ps := ["self", "x"]) fun _ _ _ _ _ _ us hl => match us, hl with | [_, _], _ => rfl
  have FHe := fun_mk (st := sHoldLe) lHe cHe kHe
  have bHe := FHe.binds (ps := ["self", "other"]) fun _ _ _ _ _ _ us hl => match us, hl with | [_, _], _ => rfl
  have FHq := fun_mk (st := sHoldEq) lHq cHq kHq
  have bHq := FHq.binds (ps := ["self", "other"]) fun _ _ _ _ _ _ us hl => match us, hl with | [_, _], _ => rfl
  have FHo := fun_mk (st := sHoldOr) lHo cHo kHo
  have bHo := FHo.binds (ps := ["self", "other"]) fun _ _ _ _ _ _ us hl => match us, hl with | [_, _], _ => rfl
  have FHa := fun_mk (st := sHoldAnd) lHa cHa kHa
  have bHa := FHa.binds (ps := ["self", "other"]) fun _ _ _ _ _ _ us hl => match us, hl with | [_, _], _ => rfl
  have FHs := fun_mk (st := sHoldSub) lHs cHs kHs
  have bHs := FHs.binds (ps := ["self", "other"]) fun _ _ _ _ _ _ us hl => match us, hl with | [_, _], _ => rfl
  have mmCH : Mk K CH fHI := ⟨mkCH, inCH, iHI, kcCH⟩
  have Fpool := fun_mk (st := sPool) lpool cpool kpool
  have bpool := Fpool.binds (ps := ["_law_script"]) fun _ _ _ _ _ _ us hl => match us, hl with | [_], _ => rfl
  have Qpool : Fn K mg "_law_pool" sPool ["_law_script"] fpool _ := ⟨Fpool, (PySem.W.mg_of X G apool), bpool⟩
  have Ftake := fun_mk (st := sTake) ltake ctake ktake
  have btake := Ftake.binds (ps := ["_law_pool_here", "_law_size"]) fun _ _ _ _ _ _ us hl => match us, hl with | [_, _], _ => rfl
  have Qtake : Fn K mg "_law_take" sTake ["_law_pool_here", "_law_size"] ftake _ := ⟨Ftake, (PySem.W.mg_of X G atake), btake⟩
  have Fbase := fun_mk (st := sBase) lbase cbase kbase
  have bbase := Fbase.binds (ps := ["_law_pool_here"]) fun _ _ _ _ _ _ us hl => match us, hl with | [_], _ => rfl
  have Qbase : Fn K mg "_law_base" sBase ["_law_pool_here"] fbase _ := ⟨Fbase, (PySem.W.mg_of X G abase), bbase⟩
  have Fname := fun_mk (st := sName) lname cname kname
  have bname := Fname.binds (ps := ["_law_pool_here", "_law_base_here", "_law_k"]) fun _ _ _ _ _ _ us hl => match us, hl with | [_, _, _], _ => rfl
  have Qname : Fn K mg "_law_name" sName ["_law_pool_here", "_law_base_here", "_law_k"] fname _ := ⟨Fname, (PySem.W.mg_of X G aname), bname⟩
  have Fonce := fun_mk (st := sOnce) lonce conce konce
  have bonce := Fonce.binds (ps := ["_law_rows"]) fun _ _ _ _ _ _ us hl => match us, hl with | [_], _ => rfl
  have Qonce : Fn K mg "_law_once" sOnce ["_law_rows"] fonce _ := ⟨Fonce, (PySem.W.mg_of X G aonce), bonce⟩
  have Fish := fun_mk (st := sIsHold) lish cish kish
  have bish := Fish.binds (ps := ["_law_hold", "_law_rows", "_law_names"]) fun _ _ _ _ _ _ us hl => match us, hl with | [_, _, _], _ => rfl
  have Qish : Fn K mg "_law_is_hold" sIsHold ["_law_hold", "_law_rows", "_law_names"] fish _ := ⟨Fish, (PySem.W.mg_of X G aish), bish⟩
  have Fisb := fun_mk (st := sIsBool) lisb cisb kisb
  have bisb := Fisb.binds (ps := ["_law_actual", "_law_expected"]) fun _ _ _ _ _ _ us hl => match us, hl with | [_, _], _ => rfl
  have Qisb : Fn K mg "_law_is_bool" sIsBool ["_law_actual", "_law_expected"] fisb _ := ⟨Fisb, (PySem.W.mg_of X G aisb), bisb⟩
  have Fdrw := fun_mk (st := sDrawnSpots) ldrw cdrw kdrw
  have bdrw := Fdrw.binds (ps := ["_law_pool_here", "_law_names", "_law_size"]) fun _ _ _ _ _ _ us hl => match us, hl with | [_, _, _], _ => rfl
  have Qdrw : Fn K mg "_law_drawn_spots" sDrawnSpots ["_law_pool_here", "_law_names", "_law_size"] fdrw _ := ⟨Fdrw, (PySem.W.mg_of X G adrw), bdrw⟩
  have Flaw := fun_mk (st := sLaw) llaw claw klaw
  have blaw := Flaw.binds (ps := ["_law_script"]) fun _ _ _ _ _ _ us hl => match us, hl with | [_], _ => rfl
  exact ⟨PySem.W.fnOf "law" "law" (defArgs sLaw) (defBody sLaw) (defScope sLaw) .none kVlaw dclaw pmlaw anlaw cdlaw ctlaw, fun s v => .of_eq rfl, fun base _ _ => by
    have hc : HCls K CH := ⟨clCH, nSp⟩
    have hC : HoldC P w K mg base CH := ⟨hc, gCH, caCH, cn, ct, cmCH, kit_is icCH tyCH suCH (fun _ => rfl), kit_tyL icCH tyCH suL, sfCH, by simp [PySem.W.notFirst, suL],
      ⟨_, _, _, _, ⟨⟨o_Ht, iHt⟩, ⟨o_Hl, iHl⟩⟩, ok_hIter FHt (PySem.W.mg_none_of X G z6), bHt, ok_hLen FHl (PySem.W.mg_none_of X G z0), bHl⟩, ⟨_, _, ⟨o_Hk, iHk⟩, ok_hIn FHk, bHk⟩, ⟨_, _, _, _, mmCH, ok_hInit FHI, bHI, qHI, reHI, hEHI⟩⟩
    have hO : HoldO P w K mg base CH := ⟨hC, ⟨_, _, ⟨o_He, iHe⟩, ok_hLe FHe hC (PySem.W.mg_none_of X G z5) (PySem.W.mg_none_of X G z7), bHe⟩, ⟨_, _, ⟨o_Hq, iHq⟩, ok_hEq FHq hC (PySem.W.mg_none_of X G z5), bHq⟩, ⟨_, _, ⟨o_Ho, iHo⟩, ok_hOr FHo hC (PySem.W.mg_none_of X G z5), bHo⟩, ⟨_, _, ⟨o_Ha, iHa⟩, ok_hAnd FHa hC (PySem.W.mg_none_of X G z5), bHa⟩, ⟨_, _, ⟨o_Hs, iHs⟩, ok_hSub FHs hC (PySem.W.mg_none_of X G z5), bHs⟩⟩
    exact ok_law Flaw ⟨(PySem.W.mg_none_of X G z0), (PySem.W.mg_none_of X G z1), (PySem.W.mg_none_of X G z2)⟩ (PySem.W.mg_none_of X G z4) (PySem.W.mg_none_of X G z3) (PySem.W.mg_none_of X G z5) (PySem.W.mg_none_of X G z8) Qpool Qtake Qbase Qname Qonce Qish Qisb Qdrw hO⟩
theorem walk {l : PySem.W.OpenLaw} {q : Program} {loose : List Str} {XP : (Str → Option Value) → Heap → Prop} {YP : World → Heap → Prop} {d : DefRec} {K : Params → PySem.W.Frag} (hn : l.most = some 63) (hdf : d.params.defaults = [])
    (hY : ∀ (w : World) (h : Heap), YP w h → (K w.params).In h)
    (F : ∀ (w : World) (mg : Str → Option Value) (fa : Addr) (h : Heap), (K w.params).In h → h.Ns mainGlobals mg → mg d.name = some (.ref fa) →
      ∃ fd : FuncData, (∀ (s : Shared) (u : Value), BindsTo s fd ⟨[u], []⟩ [("_law_script", u)]) ∧ ∀ base : Heap, (K w.params).In base → base.Ns mainGlobals mg → FnOk l.prog w (K w.params) mg base CX0 5 fa fd ["_law_script"] (spLaw (K w.params))) :
    PySem.W.WalkO q loose XP YP l.row.toRowW d [] (fun f vs => PySem.call f vs) :=
  L2.walk_of (n := 63) (k := 5) (x := "_law_script") (CX := fun _ => CX0) (sp := fun w => spLaw (K w.params)) hn (by decide) hdf ⟨rfl, by decide, by decide⟩ hY F (fun _ _ a ns hl _ hS => ⟨a, ns, rfl, hS, hl, fun _ => rfl⟩) fun _ _ _ _ _ z => z
end Yd
--END
open PySem PySem.W PyProof.Rows
set_option maxRecDepth 100000 in
set_option maxHeartbeats 0 in
theorem PySem.Challenge.cw_soundyard_k05_holds_holds : PySem.Challenge.rw_soundyard_k05_holds.Holds := by
  w_on; o_law; k_head; (case hw => w_witness2)
  k_fill
  refine Yd.walk (l := PySem.Challenge.rw_soundyard_k05_holds) rfl rfl (fun w h Y => PySem.W.kIn_of Y) ?F
  case F =>
    intro w mg fa h KX G hmg
    refine' Yd.all_mk KX G hmg ?z0 ?z1 ?z2 ?z3 ?z4 ?z5 ?z6 ?z7 ?z8 ?aCH ?pgCH ?hdCH ?poCH ?saCH ?mkCH ?kcCH ?lHI ?cHI ?kHI ?iHI ?lTHI ?dTHI ?lEHI ?cEHI ?dEHI ?lHt ?cHt ?kHt ?iHt ?o_Ht ?lHl ?cHl ?kHl ?iHl ?o_Hl ?lHk ?cHk ?kHk ?iHk ?o_Hk ?lHe ?cHe ?kHe ?iHe ?o_He ?lHq ?cHq ?kHq ?iHq ?o_Hq ?lHo ?cHo ?kHo ?iHo ?o_Ho ?lHa ?cHa ?kHa ?iHa ?o_Ha ?lHs ?cHs ?kHs ?iHs ?o_Hs ?nSp ?inCH ?cn ?ct ?caCH ?cmCH ?icCH ?tyCH ?suCH ?suL ?sfCH ?lpool ?cpool ?kpool ?apool ?ltake ?ctake ?ktake ?atake ?lbase ?cbase ?kbase ?abase ?lname ?cname ?kname ?aname ?lonce ?conce ?konce ?aonce ?lish ?cish ?kish ?aish ?lisb ?cisb ?kisb ?aisb ?ldrw ?cdrw ?kdrw ?adrw ?llaw ?claw ?klaw ?alaw
    (case z0 => k_is)
    (case z1 => k_is)
    (case z2 => k_is)
    (case z3 => k_is)
    (case z4 => k_is)
    (case z5 => k_is)
    (case z6 => k_is)
    (case z7 => k_is)
    (case z8 => k_is)
    (case aCH => k_is)
    (case apool => k_is)
    (case atake => k_is)
    (case abase => k_is)
    (case aname => k_is)
    (case aonce => k_is)
    (case aish => k_is)
    (case aisb => k_is)
    (case adrw => k_is)
    (case alaw => k_is)
    (case saCH => k_is)
    (case o_Ht => k_is)
    (case o_Hl => k_is)
    (case o_Hk => k_is)
    (case o_He => k_is)
    (case o_Hq => k_is)
    (case o_Ho => k_is)
    (case o_Ha => k_is)
    (case o_Hs => k_is)
    (case nSp => k_is)
    (case inCH => k_is)
    (case caCH => k_is)
    (case pgCH => k_is)
    (case hdCH => k_is)
    (case poCH => k_is)
    (case mkCH => k_is)
    (case kcCH => k_is)
    (case lHI => k_is)
    (case cHI => k_is)
    (case kHI => k_is)
    (case iHI => k_is)
    (case lTHI => k_is)
    (case dTHI => exact rfl)
    (case lEHI => k_is)
    (case cEHI => exact rfl)
    (case dEHI => exact rfl)
    (case lHt => k_is)
    (case cHt => k_is)
    (case kHt => k_is)
    (case iHt => k_is)
    (case lHl => k_is)
    (case cHl => k_is)
    (case kHl => k_is)
    (case iHl => k_is)
    (case lHk => k_is)
    (case cHk => k_is)
    (case kHk => k_is)
    (case iHk => k_is)
    (case lHe => k_is)
    (case cHe => k_is)
    (case kHe => k_is)
    (case iHe => k_is)
    (case lHq => k_is)
    (case cHq => k_is)
    (case kHq => k_is)
    (case iHq => k_is)
    (case lHo => k_is)
    (case cHo => k_is)
    (case kHo => k_is)
    (case iHo => k_is)
    (case lHa => k_is)
    (case cHa => k_is)
    (case kHa => k_is)
    (case iHa => k_is)
    (case lHs => k_is)
    (case cHs => k_is)
    (case kHs => k_is)
    (case iHs => k_is)
    (case cn => first | k_is | rfl)
    (case ct => first | k_is | rfl)
    (case cmCH => k_is)
    (case icCH => k_is)
    (case tyCH => k_is)
    (case suCH => first | rfl | k_is)
    (case suL => first | k_is | rfl)
    (case sfCH => first | k_is | rfl)
    (case lpool => k_is)
    (case cpool => k_is)
    (case kpool => k_is)
    (case ltake => k_is)
    (case ctake => k_is)
    (case ktake => k_is)
    (case lbase => k_is)
    (case cbase => k_is)
    (case kbase => k_is)
    (case lname => k_is)
    (case cname => k_is)
    (case kname => k_is)
    (case lonce => k_is)
    (case conce => k_is)
    (case konce => k_is)
    (case lish => k_is)
    (case cish => k_is)
    (case kish => k_is)
    (case lisb => k_is)
    (case cisb => k_is)
    (case kisb => k_is)
    (case ldrw => k_is)
    (case cdrw => k_is)
    (case kdrw => k_is)
    (case llaw => k_is)
    (case claw => k_is)
    (case klaw => k_is)
