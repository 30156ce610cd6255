import PyProof.Rows.All
import Wide.All
import OpenK.AllK
import Wide.FinOn
import HandS.ForMost
import HandS.Wide
import KE.KExcSuper
import HandS.ForSpec
import HandS.ExcInit
import HandS.ExcField
import HandS.TryMany
import HandS.FStr
import HandS.DictComp
import HandS.Conv
import HandS.ClsMeth
import HandS.Nested
import KE.Datum
import HandS.IsInst
import HandS.Codes
import PySem.Challenge.RW_soundyard_k06_steps_of_a_kind
set_option Elab.async false
set_option linter.all false
set_option maxRecDepth 100000
set_option maxHeartbeats 4000000
namespace Yd
open PySem L2
/-! ### the text by places -/
def topS (i : Nat) : Stmt := PySem.Challenge.pw_soundyard_k06_steps_of_a_kind.main.body.getD i (.Pass ⟨0, 0, 0, 0⟩)
abbrev sWall : Stmt := topS 0
abbrev sRepeatedInit : Stmt := inClass (topS 3) 0
abbrev sUnknownInit : Stmt := inClass (topS 4) 0
abbrev sNoStepInit : Stmt := inClass (topS 5) 0
abbrev sDistinct : Stmt := topS 7
abbrev sStepsInit : Stmt := inClass (topS 8) 0
abbrev sStepsStandings : Stmt := inClass (topS 8) 1
abbrev sStepsAllow : Stmt := inClass (topS 8) 2
abbrev sStepsStepsFrom : Stmt := inClass (topS 8) 3
abbrev sDoorsInit : Stmt := inClass (topS 9) 0
abbrev sDoorsIter : Stmt := inClass (topS 9) 1
abbrev sDoorsGet : Stmt := inClass (topS 9) 2
abbrev sDoorsPut : Stmt := inClass (topS 9) 3
abbrev sDoorsNeeds : Stmt := inClass (topS 9) 4
abbrev sDoorsGives : Stmt := inClass (topS 9) 5
abbrev sPartInit : Stmt := inClass (topS 10) 0
abbrev sPartRow : Stmt := inClass (topS 10) 1
abbrev sPartFollow : Stmt := inClass (topS 10) 2
abbrev sSingleInit : Stmt := inClass (topS 11) 0
abbrev sSingleRow : Stmt := inClass (topS 11) 1
abbrev sSingleTwin : Stmt := inClass (topS 11) 2
abbrev sManyInit : Stmt := inClass (topS 12) 0
abbrev sManyRow : Stmt := inClass (topS 12) 1
abbrev sManyTwin : Stmt := inClass (topS 12) 2
abbrev sPool : Stmt := topS 14
abbrev sTake : Stmt := topS 15
abbrev sBase : Stmt := topS 16
abbrev sName : Stmt := topS 17
abbrev sIsTuple : Stmt := topS 18
abbrev sMade : Stmt := topS 19
abbrev sRepeated : Stmt := topS 20
abbrev sAllowed : Stmt := topS 21
abbrev sSteps : Stmt := topS 22
abbrev sDue : Stmt := topS 23
abbrev sAgrees : Stmt := topS 24
abbrev sLaw : Stmt := topS 25
end Yd
namespace Yd
open PySem L2
/-! ### tests whose answer is known -/
theorem yes {b : Bool} {A B : Prop} (e : b = true) (h : A) : if b = true then A else B := by subst e; exact (if_pos rfl).mpr h
theorem no {b : Bool} {A B : Prop} (e : b = false) (h : B) : if b = true then A else B := by subst e; exact (if_neg Bool.false_ne_true).mpr h
/-! ### the drawing of a script: the pool, a draw, the base of the names, a name -/
/-- what holds of the list of the pool at p (its cells, if it has some, at c) -/
def PoolL (H : Hp) (p c : Addr) (xs : List V) : Prop :=
  (c = p ∧ ∃ n : Int, xs = [.int n]) ∨ ∃ (x i : Int) (cs : List Int), xs = [.int x, .int i, .ref c] ∧ c ≠ p ∧ H c = some (.lst (cs.map V.int)) ∧ 0 < cs.length ∧ cs.length ≤ 63 ∧ (∀ z ∈ cs, 0 ≤ z ∧ z < 65537) ∧ 0 ≤ x ∧ x < 65537
def Pool (H : Hp) (p c : Addr) : Prop := ∃ xs, H p = some (.lst xs) ∧ PoolL H p c xs
theorem Pool.two {H : Hp} {p c : Addr} (h : Pool H p c) : (∃ o, H p = some o) ∧ ∃ o, H c = some o := by
  obtain ⟨xs, e, q⟩ := h
  refine ⟨⟨_, e⟩, ?_⟩
  rcases q with ⟨rfl, _⟩ | ⟨x, i, cs, _, _, e3, _⟩
  · exact ⟨_, e⟩
  · exact ⟨_, e3⟩
theorem Pool.ne {H : Hp} {p c q : Addr} (h : Pool H p c) (n : H q = none) : q ≠ p ∧ q ≠ c := by
  obtain ⟨⟨o, e⟩, u, e'⟩ := h.two
  exact ⟨(ne_of_none e n).symm, (ne_of_none e' n).symm⟩
theorem Pool.keep {H H' : Hp} {p c : Addr} (h : Pool H p c) (hp : ∀ o, H p = some o → H' p = some o) (hc : ∀ o, H c = some o → H' c = some o) : Pool H' p c := by
  obtain ⟨xs, e, q⟩ := h
  refine ⟨xs, hp _ e, ?_⟩
  rcases q with q | ⟨x, i, cs, e1, e2, e3, q⟩
  · exact .inl q
  · exact .inr ⟨x, i, cs, e1, e2, hc _ e3, q⟩
/-- all but p is as it was, and there may be more -/
def Gro (p : Addr) (H H' : Hp) : Prop := ∀ b o, H b = some o → b ≠ p → H' b = some o
theorem Gro.rfl' {p : Addr} {H : Hp} : Gro p H H := fun _ _ e _ => e
theorem Gro.trans {p : Addr} {H H1 H2 : Hp} (a : Gro p H H1) (b : Gro p H1 H2) : Gro p H H2 := fun q o e n => b q o (a q o e n) n
theorem Gro.new {p q : Addr} {H : Hp} {o : HO} (n : H q = none) : Gro p H (upd H q o) := fun b u e _ => by rw [upd_ne (ne_of_none e n)]; exact e
theorem Gro.own {p : Addr} {H : Hp} {o : HO} : Gro p H (upd H p o) := fun b u e n => by rw [upd_ne n]; exact e
theorem Gro.of_same {p : Addr} {H H' : Hp} (s : Same H H') : Gro p H H' := fun b o e _ => s b o e
theorem Gro.free {p q : Addr} {H H' : Hp} (g : Gro p H H') (n : H' q = none) (hq : q ≠ p) : H q = none := by
  cases e : H q with
  | none => rfl
  | some o => rw [g q o e hq] at n; cases n
theorem Pool.off {H : Hp} {p c q : Addr} {o : HO} (h : Pool H p c) (n1 : q ≠ p) (n2 : q ≠ c) : Pool (upd H q o) p c :=
  h.keep (fun u e => by rw [upd_ne n1.symm]; exact e) fun u e => by rw [upd_ne n2.symm]; exact e
theorem Pool.new {p c q : Addr} {H : Hp} {o : HO} (h : Pool H p c) (n : H q = none) : Pool (upd H q o) p c :=
  h.keep (fun u e => by rw [upd_ne (ne_of_none e n)]; exact e) fun u e => by rw [upd_ne (ne_of_none e n)]; exact e

def spPool (K : PySem.W.Frag) : Sp := fun vs H Q _ => ∃ (a : Addr) (ns : List Int), vs = [.ref a] ∧ SqL K H a (ns.map V.int) ∧ ns.length ≤ 63 ∧
  ∀ p c H', Same H H' → H p = none → (c = p ∨ H c = none) → Pool H' p c → Q (.ref p) H'
def spTake : Sp := fun vs H Q _ => ∃ (p c : Addr) (n : Int), vs = [.ref p, .int n] ∧ Pool H p c ∧ 0 < n ∧ n.natAbs < 2 ^ 200 ∧
  ∀ v H', 0 ≤ v → v < n → Gro p H H' → Pool H' p c → Q (.int v) H'
/-- the signs of a base -/
def Sgn (z : Str) : Prop := ∀ s ∈ z.cps.toList, s ∈ ("mnopqrstuvwxyz0123456789" : Str).cps.toList
def spBase (m : Nat) : Sp := fun vs H Q _ => ∃ (p c : Addr), vs = [.ref p] ∧ Pool H p c ∧
  ∀ z H', z.length < m → Sgn z → Gro p H H' → Pool H' p c → Q (.str z) H'
def kSigns : List Nat := ("afkdibglejch" : Str).cps.toList
/-- the name number k: its sign between two texts of the base's signs -/
def NameK (k : Nat) (z : Str) : Prop := z.length ≤ 12 ∧ ∃ (s : Nat) (a b : Str), kSigns[k]? = some s ∧ z = a ++ (⟨#[s]⟩ : Str) ++ b ∧ Sgn a ∧ Sgn b
def spName : Sp := fun vs H Q _ => ∃ (p c : Addr) (b : Str) (k : Nat), vs = [.ref p, .str b, .int k] ∧ Pool H p c ∧ b.length ≤ 11 ∧ Sgn b ∧ k < 12 ∧
  ∀ z H', NameK k z → Gro p H H' → Pool H' p c → Q (.str z) H'

/-- the built-ins that the drawing reads -/
structure Blt (mg : Str → Option Value) : Prop where
  len : mg "len" = none
  int : mg "int" = none
  range : mg "range" = none

section
variable {P : Program} {w : World} {K : PySem.W.Frag} {mg : Str → Option Value} {base : Heap}
theorem get_map {ns : List Int} {i : Nat} {x : V} (h : (ns.map V.int)[i]? = some x) : ∃ z, ns[i]? = some z ∧ x = .int z := by
  rw [List.getElem?_map] at h
  cases e : ns[i]? with
  | none => rw [e] at h; cases h
  | some z => rw [e] at h; exact ⟨z, rfl, (Option.some.inj h).symm⟩
def nPool : List Str := ["_law_script", "_law_cell"]
theorem scPool : FnScope nPool ["_law_script"] (defScope sPool) := ⟨rfl, rfl, rfl, by decide +kernel, rfl, by decide +kernel, by decide +kernel⟩
theorem ok_pool {f : Addr} {fd : FuncData} (F : Fun K "_law_pool" "_law_pool" sPool f fd) (B : Blt mg) : FnOk P w K mg base CX0 1 f fd ["_law_script"] (spPool K) := by
  refine F.ok scPool (fun vs H Q E h => ?_) (fun cdv A outer s H vs Q E hr h => ?_)
  · obtain ⟨a, ns, rfl, _⟩ := h
    rfl
  · obtain ⟨a, ns, rfl, hS, hlen, k⟩ := h
    refine ⟨_, pss_cons (ps_if (pt_cmpR op_eq (pe_callB call_len_seq (by rfl) B.len PySem.boot_len (pa_cons (pv 0) pa_nil)) pe_int (nomark _)) (pss_one (ps_ret (pe_lst (pa_cons pe_int pa_nil)))) pss_nil)
      (pss_cons (ps_if (pt_cmpR op_ge (pe_ix ix_list (pv 0) pe_int (fun _ _ => rfl)) (pe_op op_pow pe_int pe_int) (nomark _))
        (pss_one (ps_ret (pe_lst (pa_cons (pe_op op_sub (pe_ix ix_list (pv 0) pe_int (fun _ _ => rfl)) (pe_op op_pow pe_int pe_int)) pa_nil)))) pss_nil)
      (pss_one (ps_ret (pe_lst (pa_cons pe_int (pa_cons pe_int (pa_cons
        (pe_lc (own := [("_law_cell", 1)]) (g := gName 1) (tt := tYes) rfl scPool.nd (pi_list (pv 0)) (blkOk_by (N := nPool) (sc := defScope sPool) (by decide +kernel))
          (fun _ _ _ _ _ => pg_name (i := 1) scPool.nd rfl (Or.inl rfl)) (fun _ _ _ _ _ => pts_nil)
          (fun _ _ _ _ _ => pe_op op_mod (pe_callTy call_int1 (by rfl) B.int (by decide +kernel) (pa_cons (pv 1) pa_nil)) pe_int)) pa_nil))))))), ?_⟩
    refine ⟨_, rfl, a, _, rfl, .inl hS, rfl, _, rfl, ?_⟩
    rw [List.length_map]
    by_cases h0 : ns.length = 0
    · have e : decide (V.int (ns.length : Int) = V.int 0) = true := decide_eq_true (by rw [h0]; rfl)
      rw [e]
      refine iteT ⟨(by show 1 ≤ sizeLine; decide), fun p hp => ?_⟩
      exact k p p _ (fun b o q => by rw [upd_ne (ne_of_none q hp)]; exact q) hp (.inl rfl) ⟨_, upd_same, .inl ⟨rfl, 0, rfl⟩⟩
    · have e : decide (V.int (ns.length : Int) = V.int 0) = false := decide_eq_false (fun q => h0 (by injection q with q; omega))
      rw [e]
      refine iteF ?_
      obtain ⟨n0, hn0⟩ : ∃ n0, ns[0]? = some n0 := ⟨ns[0], List.getElem?_eq_getElem (by omega)⟩
      have at0 : atI (ns.map V.int) 0 = some (V.int n0) := atI_nat (j := 0) (by rw [List.getElem?_map, hn0]; rfl)
      refine ⟨_, rfl, a, _, 0, _, rfl, rfl, hS, at0, 10, 18, rfl, rfl, ⟨by decide, by decide, by decide⟩, _, _, rfl, rfl, _, rfl, ?_⟩
      refine ite2 (fun _ => ?_) (fun _ => ?_)
      · refine ⟨_, rfl, a, _, 0, _, rfl, rfl, hS, at0, 10, 18, rfl, rfl, ⟨by decide, by decide, by decide⟩, _, _, rfl, rfl, (by show 1 ≤ sizeLine; decide), fun p hp => ?_⟩
        exact k p p _ (fun b o q => by rw [upd_ne (ne_of_none q hp)]; exact q) hp (.inl rfl) ⟨_, upd_same, .inl ⟨rfl, _, rfl⟩⟩
      · refine ⟨_, rfl, a, rfl, ⟨_, hS⟩, fun D hD => ?_⟩
        refine lc_list (K := K) (a := a) (xs := ns.map V.int) (fun i H' => Same H H' ∧ ∃ cs : List Int, H' D = some (.lst (cs.map V.int)) ∧ cs.length = i ∧ ∀ z ∈ cs, 0 ≤ z ∧ z < 65537)
          ⟨fun b o q => by rw [upd_ne (ne_of_none q hD)]; exact q, [], upd_same, rfl, fun z hz => nomatch hz⟩ (fun i H' _ ⟨s5, _⟩ => s5.seq hS) ?_ ?_
        · rintro i x H' hi ⟨s5, cs, hcs, hcl, hb⟩
          obtain ⟨z, hz, rfl⟩ := get_map hi
          have hil : i < ns.length := (List.getElem?_eq_some_iff.mp hz).1
          refine ⟨rfl, _, rfl, .inl ⟨z, rfl, z, 65537, rfl, rfl, (by show (0 : Int) < 65537; decide), cs.map V.int, hcs, small1000 (by rw [List.length_map]; omega), ?_⟩⟩
          refine ⟨fun b o q => ?_, cs ++ [z % 65537], ?_, by rw [List.length_append, hcl]; rfl, fun y hy => ?_⟩
          · have nb : b ≠ D := ne_of_none q hD
            rw [upd_ne nb]
            exact s5 b o q
          · rw [upd_same, List.map_append]
            rfl
          · rcases List.mem_append.mp hy with hy | hy
            · exact hb y hy
            · rw [List.mem_singleton.mp hy]
              exact ⟨Int.emod_nonneg _ (by decide), Int.emod_lt_of_pos _ (by decide)⟩
        · rintro H' ⟨s5, cs, hcs, hcl, hb⟩
          rw [List.length_map] at hcl
          refine ⟨(by show 3 ≤ sizeLine; decide), fun p hp => ?_⟩
          have npD : D ≠ p := ne_of_none hcs hp
          refine k p D _ (fun b o q => ?_) (s5.free hp) (.inr hD) ⟨_, upd_same, .inr ⟨1, 0, cs, rfl, npD, by rw [upd_ne npD]; exact hcs, by omega, by omega, hb, by decide, by decide⟩⟩
          rw [upd_ne (ne_of_none (s5 b o q) hp)]
          exact s5 b o q
end
end Yd
namespace Yd
open PySem L2
section
variable {P : Program} {w : World} {K : PySem.W.Frag} {mg : Str → Option Value} {base : Heap}
theorem scTake : FnScope ["_law_pool_here", "_law_size", "_law_value", "_law_cells"] ["_law_pool_here", "_law_size"] (defScope sTake) := ⟨rfl, rfl, rfl, by decide +kernel, rfl, by decide +kernel, by decide +kernel⟩
theorem at_c {α : Type} {xs : List α} {j : Nat} {v : α} (h : xs[j]? = some v) {z : Int} (e : z = (j : Int)) : atI xs z = some v := by rw [e]; exact atI_nat h
theorem ixN_c {n j : Nat} (h : j < n) {z : Int} (e : z = (j : Int)) : ixN n z = some j := by
  subst e
  unfold ixN
  rw [if_pos (by omega), if_pos (by omega), Int.toNat_natCast]
theorem len_one {xs : List V} {n : Int} (h : xs = [.int n]) : xs.length = 1 := by rw [h]; rfl
/-- what is left of a draw -/
theorem drawn {n v : Int} (h : 0 < n) : 0 ≤ v % n ∧ v % n < n := ⟨Int.emod_nonneg _ (by omega), Int.emod_lt_of_pos _ h⟩
theorem pow7 {x : Int} (h0 : 0 ≤ x) (h1 : x < 65537) : CPow x 7 := by
  refine ⟨by decide, by decide, ?_⟩
  have e : (65537 : Nat) < 2 ^ 64 := by decide
  omega
theorem ok_take {f : Addr} {fd : FuncData} (F : Fun K "_law_take" "_law_take" sTake f fd) (B : Blt mg) : FnOk P w K mg base CX0 1 f fd ["_law_pool_here", "_law_size"] spTake := by
  refine F.ok scTake (fun vs H Q E h => ?_) (fun cdv A outer s H vs Q E hr h => ?_)
  · obtain ⟨p, c, n, rfl, _⟩ := h
    rfl
  · obtain ⟨p, c, n, rfl, ⟨xs, hp, hx⟩, hn, hb, k⟩ := h
    refine ⟨_, pss_cons (ps_if (pt_cmpR op_eq (pe_callB call_len_seq (by rfl) B.len PySem.boot_len (pa_cons (pv 0) pa_nil)) pe_int (nomark _))
        (pss_cons (ps_set (i := 2) scTake.nd rfl (Or.inl rfl) (pe_op op_mod (pe_callTy call_int1 (by rfl) B.int (by decide +kernel) (pa_cons (pe_ix ix_list (pv 0) pe_int (fun _ _ => rfl)) pa_nil)) (pv 1)))
        (pss_cons (ps_asg (pe_op op_fdivW (pe_ix ix_list (pv 0) pe_int (fun _ _ => rfl)) (pv 1)) (pg_sub (pv 0) pe_int set_list))
        (pss_one (ps_ret (pv 2))))) pss_nil)
      (pss_cons (ps_set (i := 3) scTake.nd rfl (Or.inl rfl) (pe_ix ix_list (pv 0) pe_int (fun _ _ => rfl)))
      (pss_cons (ps_asg (pe_op op_mod (pe_callTy call_int1 (by rfl) B.int (by decide +kernel) (pa_cons (pe_op op_add (pe_op op_add (pe_op op_mul (pe_ix ix_list (pv 0) pe_int (fun _ _ => rfl)) pe_int)
          (pe_ix ix_list (pv 3) (pe_op op_mod (pe_callTy call_int1 (by rfl) B.int (by decide +kernel) (pa_cons (pe_ix ix_list (pv 0) pe_int (fun _ _ => rfl)) pa_nil)) (pe_callB call_len_seq (by rfl) B.len PySem.boot_len (pa_cons (pv 3) pa_nil))) (fun _ _ => rfl))) pe_int) pa_nil)) pe_int)
          (pg_sub (pv 0) pe_int set_list))
      (pss_cons (ps_asg (pe_op op_add (pe_ix ix_list (pv 0) pe_int (fun _ _ => rfl)) pe_int) (pg_sub (pv 0) pe_int set_list))
      (pss_cons (ps_if (pt_cmpR op_gt (pv 1) pe_int (nomark _))
        (pss_one (ps_ret (pe_op op_mod (pe_callTy call_int1 (by rfl) B.int (by decide +kernel) (pa_cons (pe_op op_pow (pe_ix ix_list (pv 0) pe_int (fun _ _ => rfl)) pe_int) pa_nil)) (pv 1)))) pss_nil)
      (pss_one (ps_ret (pe_op op_mod (pe_callTy call_int1 (by rfl) B.int (by decide +kernel) (pa_cons (pe_ix ix_list (pv 0) pe_int (fun _ _ => rfl)) pa_nil)) (pv 1)))))))), ?_⟩
    rcases hx with ⟨hcc, m, rfl⟩ | ⟨x, i, cs, rfl, hcp, hc, hl0, hl1, hcs, hx0, hx1⟩
    · refine ⟨_, rfl, p, _, rfl, .inl (SqL.of hp), rfl, _, rfl, ?_⟩
      refine yes (by rfl) ?_
      have a0 : atI [V.int m] 0 = some (V.int m) := at_c (j := 0) rfl rfl
      refine ⟨_, rfl, p, _, 0, _, rfl, rfl, SqL.of hp, a0, .inl ⟨m, rfl, _, rfl, m, n, rfl, rfl, hn, ?_⟩⟩
      refine ⟨_, rfl, p, _, 0, _, rfl, rfl, SqL.of hp, a0, _, rfl, m, n, rfl, rfl, wide_div hn hb (by decide) (by decide), ?_⟩
      refine ⟨_, rfl, p, _, 0, 0, rfl, rfl, hp, ixN_c (by show 0 < 1; omega) rfl, ?_⟩
      refine ⟨_, rfl, ?_⟩
      exact k _ _ (drawn hn).1 (drawn hn).2 .own ⟨_, upd_same, .inl ⟨hcc, _, rfl⟩⟩
    · refine ⟨_, rfl, p, _, rfl, .inl (SqL.of hp), rfl, _, rfl, ?_⟩
      refine no (by rfl) ?_
      have hn0 : 0 < ((cs.map V.int).length : Int) := by rw [List.length_map]; omega
      obtain ⟨z, hz⟩ : ∃ z, atI (cs.map V.int) (i % ((cs.map V.int).length : Int)) = some (V.int z) := by
        have d := drawn (v := i) hn0
        obtain ⟨j, ej⟩ : ∃ j : Nat, i % ((cs.map V.int).length : Int) = (j : Int) := ⟨(i % ((cs.map V.int).length : Int)).toNat, by omega⟩
        have hj : j < cs.length := by rw [List.length_map] at d ej; omega
        exact ⟨cs[j], at_c (j := j) (by rw [List.getElem?_map, List.getElem?_eq_getElem hj]; rfl) ej⟩
      refine ⟨_, rfl, p, _, 2, _, rfl, rfl, SqL.of hp, at_c (j := 2) rfl rfl, ?_⟩
      refine ⟨_, rfl, p, _, 0, _, rfl, rfl, SqL.of hp, at_c (j := 0) rfl rfl, x, 75, rfl, rfl, .inl ⟨by omega, by omega⟩, ?_⟩
      refine ⟨_, rfl, _, rfl, p, _, 1, _, rfl, rfl, SqL.of hp, at_c (j := 1) rfl rfl, .inl ⟨i, rfl, ?_⟩⟩
      refine ⟨_, rfl, c, _, rfl, .inl (SqL.of hc), i, _, rfl, rfl, hn0, ?_⟩
      refine ⟨c, _, _, _, rfl, rfl, SqL.of hc, hz, _, _, rfl, rfl, _, 74, rfl, rfl, .inl ⟨_, rfl, _, 65537, rfl, rfl, (by show (0 : Int) < 65537; decide), ?_⟩⟩
      refine ⟨_, rfl, p, _, 0, 0, rfl, rfl, hp, ixN_c (by show 0 < 3; omega) rfl, ?_⟩
      have d2 := drawn (n := 65537) (v := x * 75 + z + 74) (by decide)
      refine ⟨_, rfl, p, _, 1, _, rfl, rfl, SqL.of upd_same, at_c (j := 1) rfl rfl, _, 1, rfl, rfl, ?_⟩
      refine ⟨_, rfl, p, _, 1, 1, rfl, rfl, upd_same, ixN_c (by show 1 < 3; omega) rfl, ?_⟩
      rw [upd_upd]
      have hP : Pool (upd H p (.lst [V.int ((x * 75 + z + 74) % 65537), V.int (i + 1), V.ref c])) p c :=
        ⟨_, upd_same, .inr ⟨_, _, cs, rfl, hcp, by rw [upd_ne hcp]; exact hc, hl0, hl1, hcs, d2.1, d2.2⟩⟩
      refine ⟨_, rfl, n, 60000, rfl, rfl, _, rfl, ?_⟩
      refine ite2 (fun _ => ?_) (fun _ => ?_)
      · refine ⟨_, rfl, p, _, 0, _, rfl, rfl, SqL.of upd_same, at_c (j := 0) rfl rfl, _, 7, rfl, rfl, pow7 d2.1 d2.2, .inl ⟨_, rfl, _, rfl, _, n, rfl, rfl, hn, ?_⟩⟩
        exact k _ _ (drawn hn).1 (drawn hn).2 .own hP
      · refine ⟨_, rfl, p, _, 0, _, rfl, rfl, SqL.of upd_same, at_c (j := 0) rfl rfl, .inl ⟨_, rfl, _, rfl, _, n, rfl, rfl, hn, ?_⟩⟩
        exact k _ _ (drawn hn).1 (drawn hn).2 .own hP
end
end Yd
namespace Yd
open PySem L2
/-! ### the base and the names -/
theorem Sgn.nil : Sgn "" := fun s h => by have e : ("" : Str).cps.toList = [] := by decide +kernel
                                          rw [e] at h; cases h
theorem Sgn.app {a b : Str} (x : Sgn a) (y : Sgn b) : Sgn (a ++ b) := fun s h => by
  have e : (a ++ b).cps.toList = a.cps.toList ++ b.cps.toList := by show (a.cps ++ b.cps).toList = _; rw [Array.toList_append]
  rw [e] at h
  exact (List.mem_append.mp h).elim (x s) (y s)
theorem Sgn.cut {z : Str} (x : Sgn z) (lo hi : Option Int) : Sgn (cutS z lo hi) := fun s h => by
  have h : s ∈ ((z.cps.toList.drop (HT.sIx z.length 0 lo)).take (HT.sIx z.length z.length hi - HT.sIx z.length 0 lo)) := by simpa [cutS] using h
  exact x s (List.mem_of_mem_drop (List.mem_of_mem_take h))
theorem Sgn.one {c : Nat} (h : c ∈ ("mnopqrstuvwxyz0123456789" : Str).cps.toList) : Sgn ⟨#[c]⟩ := fun s hs => by
  have e : s = c := by simpa using hs
  rw [e]; exact h
theorem len_app (a b : Str) : (a ++ b).length = a.length + b.length := by show (a.cps ++ b.cps).size = _; rw [Array.size_append]; rfl
theorem join_ok : ∀ ys : List Str, (∀ y ∈ ys, Sgn y ∧ y.length = 1) → Sgn (Txt.join "" ys) ∧ (Txt.join "" ys).length = ys.length
  | [], _ => ⟨Sgn.nil, by decide +kernel⟩
  | [y], h => h y (List.mem_singleton.mpr rfl)
  | y :: z :: r, h => by
    have ih := join_ok (z :: r) fun q hq => h q (List.mem_cons_of_mem _ hq)
    have h0 := h y (List.mem_cons_self ..)
    have e0 : ("" : Str).length = 0 := by decide +kernel
    have e : Txt.join "" (y :: z :: r) = y ++ "" ++ Txt.join "" (z :: r) := by
      show Builtin.Str.glued "" (y :: z :: r) = y ++ "" ++ Builtin.Str.glued "" (z :: r)
      rw [StrLaws.glued_eq_join, StrLaws.glued_eq_join]
      rfl
    rw [e]
    refine ⟨(h0.1.app Sgn.nil).app ih.1, ?_⟩
    rw [len_app, len_app, ih.2, h0.2, e0, List.length_cons (a := y)]
    omega
theorem sum_ones : ∀ {ys : List Str}, (∀ y ∈ ys, Sgn y ∧ y.length = 1) → (ys.map (·.length)).sum = ys.length
  | [], _ => rfl
  | y :: r, h => by
    have ih := sum_ones (ys := r) fun q hq => h q (List.mem_cons_of_mem _ hq)
    rw [List.map_cons, List.sum_cons, ih, (h y (List.mem_cons_self ..)).2, List.length_cons]
    omega
structure Fn (K : PySem.W.Frag) (mg : Str → Option Value) (x : Str) (st : Stmt) (ps : List Str) (f : Addr) (fd : FuncData) : Prop where
  F : Fun K x x st f fd
  g : mg x = some (.ref f)
  b : Binds K fd ps []
section
variable {P : Program} {w : World} {K : PySem.W.Frag} {mg : Str → Option Value} {base : Heap}
def nBase : List Str := ["_law_pool_here", "_law_signs", "_law_k"]
theorem scBase : FnScope nBase ["_law_pool_here"] (defScope sBase) := ⟨rfl, rfl, rfl, by decide +kernel, rfl, by decide +kernel, by decide +kernel⟩
theorem sgn_at {v : Int} (h0 : 0 ≤ v) (h1 : v < 24) : ∃ c, atI ("mnopqrstuvwxyz0123456789" : Str).cps.toList v = some c ∧ c ∈ ("mnopqrstuvwxyz0123456789" : Str).cps.toList := by
  have hl : ("mnopqrstuvwxyz0123456789" : Str).cps.toList.length = 24 := by decide +kernel
  have hj : v.toNat < ("mnopqrstuvwxyz0123456789" : Str).cps.toList.length := by omega
  exact ⟨_, at_c (j := v.toNat) (z := v) (List.getElem?_eq_getElem hj) (by omega), List.getElem_mem hj⟩
theorem ok_base {f fT : Addr} {fd fdT : FuncData} (F : Fun K "_law_base" "_law_base" sBase f fd) (B : Blt mg) (T : Fn K mg "_law_take" sTake ["_law_pool_here", "_law_size"] fT fdT) : FnOk P w K mg base CX0 2 f fd ["_law_pool_here"] (spBase 11) := by
  have GT : FnOk P w K mg base CX0 1 fT fdT ["_law_pool_here", "_law_size"] spTake := ok_take T.F B
  refine F.ok scBase (fun vs H Q E h => ?_) (fun cdv A outer s H vs Q E hr h => ?_)
  · obtain ⟨p, c, rfl, _⟩ := h
    rfl
  · obtain ⟨p, c, rfl, hP, k⟩ := h
    refine ⟨_, pss_cons (ps_set (i := 1) scBase.nd rfl (Or.inr rfl) pe_str)
      (pss_one (ps_ret (pe_join pe_str (pe_lc (own := [("_law_k", 2)]) (g := gName 2) (tt := tYes) rfl scBase.nd
        (pi_range1 rfl B.range (pa_cons (pe_call GT hr rfl T.g T.F.kp T.b .nil pass0 (pa_cons (pv 0) (pa_cons pe_int pa_nil))) pa_nil))
        (blkOk_by (N := nBase) (sc := defScope sBase) (by decide +kernel))
        (fun _ _ _ _ _ => pg_name (i := 2) scBase.nd rfl (Or.inl rfl)) (fun _ _ _ _ _ => pts_nil)
        (fun _ _ _ _ _ => pe_ix ix_str (pv 1) (pe_call GT hr rfl T.g T.F.kp T.b .nil pass0 (pa_cons (pv 0) (pa_cons pe_int pa_nil))) (fun _ _ => rfl)))))), ?_⟩
    refine ⟨⟨_, rfl⟩, _, rfl, p, c, 11, rfl, hP, by decide, by decide, fun n H1 n0 n1 g1 P1 => ⟨n, rfl, by omega, by omega, fun D hD => ?_⟩⟩
    obtain ⟨nDp, nDc⟩ := P1.ne hD
    refine lc_range (lo := 0) (n := n.toNat) (fun i H' => Gro p H H' ∧ Pool H' p c ∧ ∃ ys : List Str, H' D = some (.lst (ys.map V.str)) ∧ ys.length = i ∧ ∀ y ∈ ys, Sgn y ∧ y.length = 1)
      ⟨g1.trans (.new hD), P1.new hD, [], upd_same, rfl, fun y hy => nomatch hy⟩ ?_ ?_
    · rintro i H' hi ⟨g5, P5, ys, hys, hyl, hb⟩
      refine ⟨rfl, _, rfl, _, rfl, p, c, 24, rfl, P5, by decide, by decide, fun v H6 v0 v1 g6 P6 => ?_⟩
      obtain ⟨ch, hch, hm⟩ := sgn_at v0 v1
      have h6 : H6 D = some (.lst (ys.map V.str)) := g6 D _ hys nDp
      refine ⟨_, v, ch, rfl, rfl, (by decide +kernel), hch, ys.map V.str, h6, small1000 (by rw [List.length_map]; omega), ?_⟩
      refine ⟨fun b o q hb' => ?_, P6.off nDp nDc, ys ++ [⟨#[ch]⟩], ?_, by rw [List.length_append, hyl]; rfl, fun y hy => ?_⟩
      · rw [upd_ne (ne_of_none (g1 b o q hb') hD)]
        exact g6 b o (g5 b o q hb') hb'
      · rw [upd_same, List.map_append]
        rfl
      · rcases List.mem_append.mp hy with hy | hy
        · exact hb y hy
        · rw [List.mem_singleton.mp hy]
          exact ⟨Sgn.one hm, rfl⟩
    · rintro H' ⟨g5, P5, ys, hys, hyl, hb⟩
      have j := join_ok ys hb
      refine ⟨_, D, ys, rfl, rfl, .inl (SqL.of hys), ?_, ?_⟩
      · have e0 : ("" : Str).length = 0 := by decide +kernel
        rw [sum_ones hb, e0]
        omega
      · exact k _ _ (by rw [j.2]; omega) j.1 g5 P5
def nName : List Str := ["_law_pool_here", "_law_base_here", "_law_k", "_law_text", "_law_at"]
theorem scName : FnScope nName ["_law_pool_here", "_law_base_here", "_law_k"] (defScope sName) := ⟨rfl, rfl, rfl, by decide +kernel, rfl, by decide +kernel, by decide +kernel⟩
theorem small16 {n : Nat} (h : n ≤ 16) : n ≤ sizeLine := Nat.le_trans h (by decide)
theorem ok_name {f fT : Addr} {fd fdT : FuncData} (F : Fun K "_law_name" "_law_name" sName f fd) (B : Blt mg) (T : Fn K mg "_law_take" sTake ["_law_pool_here", "_law_size"] fT fdT) : FnOk P w K mg base CX0 2 f fd ["_law_pool_here", "_law_base_here", "_law_k"] spName := by
  have GT : FnOk P w K mg base CX0 1 fT fdT ["_law_pool_here", "_law_size"] spTake := ok_take T.F B
  refine F.ok scName (fun vs H Q E h => ?_) (fun cdv A outer s H vs Q E hr h => ?_)
  · obtain ⟨p, c, b, k, rfl, _⟩ := h
    rfl
  · obtain ⟨p, c, b, kk, rfl, hP, hb, hsb, hk, k⟩ := h
    refine ⟨_, pss_cons (ps_set (i := 3) scName.nd rfl (Or.inl rfl) (pe_slice sl_str (pv 1) po_none (po_some (pe_call GT hr rfl T.g T.F.kp T.b .nil pass0 (pa_cons (pv 0) (pa_cons (pe_op op_add (pe_callB call_len_str (by rfl) B.len PySem.boot_len (pa_cons (pv 1) pa_nil)) pe_int) pa_nil))))))
      (pss_cons (ps_set (i := 4) scName.nd rfl (Or.inl rfl) (pe_call GT hr rfl T.g T.F.kp T.b .nil pass0 (pa_cons (pv 0) (pa_cons (pe_op op_add (pe_callB call_len_str (by rfl) B.len PySem.boot_len (pa_cons (pv 3) pa_nil)) pe_int) pa_nil))))
      (pss_one (ps_ret (pe_op op_add_str (pe_op op_add_str (pe_slice sl_str (pv 3) po_none (po_some (pv 4))) (pe_ix ix_str pe_str (pv 2) (fun _ _ => rfl))) (pe_slice sl_str (pv 3) (po_some (pv 4)) po_none))))), ?_⟩
    have n20 : ∀ n : Nat, n ≤ 11 → ((n : Int) + 1).natAbs < 2 ^ 200 := fun n h => Nat.lt_of_le_of_lt (m := 12) (by omega) (by decide)
    refine ⟨_, rfl, _, rfl, _, rfl, b, rfl, small16 (by omega), _, 1, rfl, rfl, p, c, _, rfl, hP, by omega, n20 _ hb, fun v H1 v0 v1 g1 P1 => ⟨v, rfl, b, rfl, small16 (by omega), ?_⟩⟩
    generalize hz : cutS b none (some v) = z
    have hzl : z.length ≤ 11 := by rw [← hz]; exact Nat.le_trans (cutS_length _ _ _) hb
    have hzs : Sgn z := by rw [← hz]; exact hsb.cut _ _
    refine ⟨_, rfl, _, rfl, z, rfl, small16 (by omega), _, 1, rfl, rfl, p, c, _, rfl, P1, by omega, n20 _ hzl, fun u H2 u0 u1 g2 P2 => ?_⟩
    obtain ⟨sg, hsg⟩ : ∃ sg, ("afkdibglejch" : Str).cps.toList[kk]? = some sg := ⟨_, List.getElem?_eq_getElem (by have : ("afkdibglejch" : Str).cps.toList.length = 12 := by decide +kernel
                                                                                                                  omega)⟩
    have l1 := cutS_length z none (some u)
    have l2 := cutS_length z (some u) none
    have lt : (cutS z none (some u)).length + (cutS z (some u) none).length ≤ z.length := by
      obtain ⟨j, rfl⟩ : ∃ j : Nat, u = (j : Int) := ⟨u.toNat, by omega⟩
      have e1 : ∀ lo hi, (cutS z lo hi).length = min (HT.sIx z.length z.length hi - HT.sIx z.length 0 lo) (z.length - HT.sIx z.length 0 lo) := fun lo hi => by
        show (((z.cps.toList.drop (HT.sIx z.length 0 lo)).take (HT.sIx z.length z.length hi - HT.sIx z.length 0 lo)).toArray).size = _
        rw [List.size_toArray, List.length_take, List.length_drop, Array.length_toList]
        rfl
      simp only [e1, HT.sIx_none, HT.sIx_nat]
      omega
    have o1 : (⟨#[sg]⟩ : Str).length = 1 := rfl
    refine ⟨_, rfl, _, rfl, u, rfl, z, rfl, small16 (by omega), _, rfl, _, kk, sg, rfl, rfl, (by decide +kernel), at_c (j := kk) hsg rfl, _, _, rfl, rfl, small16 (by omega), ?_⟩
    refine ⟨_, rfl, _, rfl, u, rfl, z, rfl, small16 (by omega), _, _, rfl, rfl, small16 (by rw [len_app]; omega), ?_⟩
    exact k _ _ ⟨by rw [len_app, len_app]; omega, sg, _, _, hsg, rfl, hzs.cut _ _, hzs.cut _ _⟩ (g1.trans g2) P2
end
end Yd
namespace Yd
open PySem L2
/-! ### a def that begins with super().__init__(text): how the errors of the program are made -/
/-- such a def as it stands behind the top: D its class, cc the cell that holds D -/
structure SupFn (P : Program) (K : PySem.W.Frag) (mg : Str → Option Value) (x qual : Str) (st : Stmt) (f D cc : Addr) (fd : FuncData) : Prop where
  fn : ∃ (oc : Value) (od : Option Addr) (kV doc pm : Value) (an : Option Addr) (cda : Addr) (ct : Value) (osl : Array (Option Value)) (ccl : Value) (cdd : Option Addr) (vs : Array Value) (ccs : Array (Option Value)) (file : Str) (tf : Tok),
    fd = PySem.W.fnX x qual (defArgs st) (defBody st) (defScope st) [("__class__", cc)] .none kV doc pm an (.ref cda) ct ∧ K.lookup f = some ⟨oc, od, .func fd, osl⟩ ∧ PySem.W.codeIn K (.ref cda) qual = true ∧
    K.lookup cda = some ⟨ccl, cdd, .fields vs, ccs⟩ ∧ vs[2]? = some (.str file tf) ∧ ((P.main.file : Str) == file) = true
  cell : ∃ (cl : Value) (cld : Option Addr) (csl : Array (Option Value)), K.lookup cc = some ⟨cl, cld, .cell (some (.ref D)), csl⟩
  cd : ∃ cdD, PySem.W.clsIn K D = some cdD
  sup : mg "super" = none
  top : (P.main.scope.names.lookup ("super" : Str)).isSome = false
  any : PySem.W.nsIn K PySem.cStatics "thirdparty.any" = some none
/-- the class at C of the object, seen from a def of the class at D -/
structure SupC (K : PySem.W.Frag) (C D : Addr) : Prop where
  ox : OexC K C
  over : PySem.W.ks_superIn K C D "__init__" = some (some (.builtin "ValueError.__init__"))
  sub : PySem.W.subIn K (.ref C) (.type "ValueError") = some true
  mro : PySem.W.mroIn K C (.ref D) = some true
section
open PySem.W PySem.Calls
variable {X : Cx} {pins : List (Addr × Obj)} {σ : St} {H : Hp} {s : Shared} {a C D f cc cda : Addr} {E : Value → Shared → Prop}
theorem inst_exo {hh : Heap} {t1 : Addr} (h : hh.get? a = some (PySem.HandSPX.excO C t1)) : InstAt hh a (PySem.HandSPX.excO C t1) C none := ⟨h, rfl, rfl, trivial⟩
/-- super(), ahead of its attribute -/
theorem sup_base {qual : Str} {scope : Scope} {L : Addr} {fd : FuncData} {of oc : Obj} {ar : Arg} {vs : Array Value} {file : Str} {tf : Tok} {body : List Stmt} {p0 p1 : Pos} {attr : Str} {whole : Sem Value} {ox : Obj} {odx : Option Obj} {ocl : Obj}
    (I : Inv X pins σ H s) (hE : X.env = envX qual scope L f (.ref cda) [("__class__", cc)]) (hks : scope.names.lookup ("super" : Str) = some .globalImplicit) (hkc : scope.names.lookup ("__class__" : Str) = some .free)
    (hat : (attr == ("__class__" : Str)) = false) (hf : X.K.lookup f = some of) (hfd : of.data = .func fd) (hp : (fd.params.posonlyargs ++ fd.params.args).head? = some ar) (hself : X.N[0]? = some ar.arg) (hloc : scope.names.lookup ar.arg = some .local)
    (hv : σ[0]? = some (some (.ref a))) (hco : X.K.lookup cda = some oc) (hoc : oc.data = .fields vs) (hvs : vs[2]? = some (.str file tf)) (hfile : ((X.prog.main.file : Str) == file) = true)
    (htop : (X.prog.main.scope.names.lookup ("super" : Str)).isSome = false) (hmg : X.mg "super" = none) (hcell : X.K.lookup cc = some ocl) (hcd : ocl.data = .cell (some (.ref D))) (hD : ∃ cdD, clsIn X.K D = some cdD)
    (J : InstAt s.heap a ox C odx) (hm : mroIn X.K C (.ref D) = some true) :
    PySem.wpAt (model X.prog X.w) X.A (.func body X.env) (attributeBase (.Call (.Name "super" p0) [] [] p1) attr X.env whole)
      (fun v s' => ∃ so, v = .ref so ∧ s'.heap.get? so = some (ks_superObj D a C) ∧ (∀ b o, s.heap.get? b = some o → s'.heap.get? b = some o) ∧ Inv X pins σ H s') E s := by
  have KI := I.kIn
  have hkind : scope.kind = .function := by have z := I.ok.kind; rw [hE] at z; exact z
  have hglob : X.env.globals = mainGlobals := I.ok.glob
  obtain ⟨mb, hb1, hb2⟩ := I.mod.blt
  have hbl : s.heap.Ns builtinsNs mb := hb1.keeps I.bk
  have hgl : s.heap.Ns mainGlobals X.mg := I.mod.glob.keeps I.bk
  obtain ⟨m, hns, hlk⟩ := id I.loc
  have vis : Vis X.env.scope ar.arg := by rw [hE]; exact .inl hloc
  obtain ⟨u, hru, hlook⟩ := hlk 0 ar.arg (.ref a) hself hv vis
  have hu : u = Value.ref a := hru
  subst hu
  have hma : m ar.arg = some (.ref a) := by
    rcases hlook with ⟨_, z⟩ | ⟨k, _⟩
    · exact z
    · rw [hE] at k
      have k' : scope.names.lookup ar.arg = some .cell ∨ scope.names.lookup ar.arg = some .free := k
      rw [hloc] at k'
      rcases k' with k' | k' <;> cases k'
  obtain ⟨cdD, hcdD⟩ := hD
  obtain ⟨oD, hD1, hD2⟩ : ∃ oD, s.heap.get? D = some oD ∧ oD.data = .cls cdD := by
    unfold clsIn at hcdD
    split at hcdD
    · rename_i q1 q2 q3 q4 hq
      cases hcdD
      exact ⟨_, KI _ _ hq, rfl⟩
    · cases hcdD
  have hlocals : X.env.locals = L := by rw [hE]
  rw [hlocals] at hns
  have hK : ∀ {b o}, X.K.lookup b = some o → s.heap.get? b = some o := fun {b o} e => KI b o e
  have keep : ∀ h', (∀ b o, s.heap.get? b = some o → h'.get? b = some o) → Inv X pins σ H { s with heap := h' } := fun h' k => I.kept (t' := s.toks) k
  rw [hE]
  obtain ⟨hh, g, d, t, os⟩ := s
  refine ks_wpAt_super_base (env := envX qual scope L f (.ref cda) [("__class__", cc)]) hks hkc hat rfl (hK hf) hfd hp rfl (hK hco) hoc hvs hfile htop ?_
  refine ks_loadName_global hkind hks (loadGlobal_builtin (env := envX qual scope L f (.ref cda) [("__class__", cc)]) hgl hmg hbl ((hb2 _ (by decide +kernel)).trans (by decide +kernel)) ⟨rfl, ?_⟩)
  refine wpAny_loadName_free hkind hkc rfl ⟨_, hK hcell, hcd⟩ ?_
  refine wpAny_loadName_local hkind hloc hns hma ?_
  refine ks_wpAny_isType_cls hD1 hD2 ⟨rfl, ?_⟩
  refine ks_wpAny_call_super hD1 hD2 J.at_ J.cls (fun c e => ?_) (looks_mroIn KI hm) fun h' e k => ⟨_, rfl, e, k, keep h' k⟩
  have z := J.no
  unfold notCls at z
  rw [e] at z
  exact Bool.noConfusion z
end
end Yd
namespace Yd
open PySem L2
section
open PySem.W PySem.Calls
variable {X : Cx} {pins : List (Addr × Obj)} {σ : St} {H : Hp} {s : Shared} {a C D f cc cda u : Addr} {E : Value → Shared → Prop}
/-- a record of ours is pinned -/
theorem pin_new (I : Inv X pins σ H s) {o : Obj} (hu : s.heap.get? u = some o) (hn : H u = none) (hL : u ≠ X.env.locals) (hf : u ∉ X.fs) (hd : ∀ v, o.data ≠ .cell v) : Inv X ((u, o) :: pins) σ H s :=
  I.pins_of fun p hp => by
    rcases List.mem_cons.mp hp with rfl | hp
    · exact ⟨hu, hn, hL, hf, hd⟩
    · exact I.pin p (List.mem_append_right _ hp)
theorem pin_off {o : Obj} (I : Inv X ((u, o) :: pins) σ H s) : Inv X pins σ H s := I.pins_of fun p hp => I.pin p (List.mem_append_right _ (List.mem_cons_of_mem _ hp))
theorem mw_nocell {i : String} {x : Addr} : ∀ v, (kxs_mw i x).data ≠ .cell v := fun _ z => by cases z
/-- the bound ValueError.__init__ runs -/
theorem mw_run {us : List Value} {Q : Value → Shared → Prop} (T : OexC X.K C) (I : Inv X pins σ H s) (e : H a = some (exo a C none)) (hu : s.heap.get? u = some (kxs_mw "ValueError.__init__" a)) (hl : us.length ≤ sizeLine)
    (h : ∀ s', Inv X pins σ H s' → Q .none s') : wpAny (model X.prog X.w) X.A (call (.ref u) us) Q E s := by
  obtain ⟨nm, q, N, bs, bm, sn, sub, ab, col, dd, k0, k1, k2, k3, k5, hC, hbm⟩ := T.cls
  obtain ⟨t1, ho⟩ := exo_at I.hok e
  obtain ⟨hp, g, d, t, os⟩ := s
  have hTy : ∀ n : String, n = "method-wrapper" → (Value.type n == Value.type "method" || Value.type n == Value.type "builtin_function_or_method" || Value.type n == Value.type "method-wrapper") = true := fun n hn => by subst hn; decide
  refine wpAny_call (codeAny_of_tree (?_ : wpAny _ X.A.in1 (callAny (.ref u) ⟨us, []⟩) _ _ _))
  simp only [callAny]
  refine wpAny_bind (wpAny_load hu ?_)
  simp only [kxs_mw, hTy "method-wrapper" rfl, if_true]
  refine KFB.if_so (by decide) (wpAny_bind (check_bound_init F.excBase_ValueError.toExcCallFacts (I.kIn _ _ hC) ho rfl (wpAny_bind (wpAny_pure (wpAny_pure ?_)))))
  refine ⟨plainId_quiet F.excBase_ValueError.init.plain _, codeAny_builtin F.excBase_ValueError.initEntry ?_⟩
  refine exc_init_tree (cls := .ref C) (t0 := t1) (dv := none) (c2 := .none) (c3 := .none) (b4 := .bool false) ho hl fun h' k hx _ => ?_
  have same : upd H a (exo a C none) = H := funext fun b => by
    by_cases hb : b = a
    · rw [hb, upd_same, e]
    · exact upd_ne hb
  have J := I.write (t' := t) (x := a) (e := a) (o := exo a C none) (by rw [e]; exact True.intro) (.inl rfl) k ⟨_, hx⟩ (exo_ok hx)
  rw [same] at J
  exact h _ J
end
end Yd
namespace Yd
open PySem L2
section
open PySem.W PySem.Calls
variable {X : Cx} {pins : List (Addr × Obj)} {σ : St} {H : Hp} {s : Shared} {a C D f cc cda u : Addr} {E : Value → Shared → Prop}
/-- super().__init__(e), the whole statement, where the def's own code runs -/
theorem sup_stmt {qual : Str} {scope : Scope} {L : Addr} {fd : FuncData} {of oc : Obj} {ar : Arg} {vs : Array Value} {file : Str} {tf : Tok} {body : List Stmt} {p0 p1 p2 p3 p4 : Pos} {ocl : Obj} {e : Expr} {te : TE} {Q : Hp → Prop} {pl : Sem Bool}
    (I : Inv X pins σ H s) (hE : X.env = envX qual scope L f (.ref cda) [("__class__", cc)]) (hks : scope.names.lookup ("super" : Str) = some .globalImplicit) (hkc : scope.names.lookup ("__class__" : Str) = some .free)
    (hf : X.K.lookup f = some of) (hfd : of.data = .func fd) (hp : (fd.params.posonlyargs ++ fd.params.args).head? = some ar) (hself : X.N[0]? = some ar.arg) (hloc : scope.names.lookup ar.arg = some .local)
    (hv : σ[0]? = some (some (.ref a))) (hco : X.K.lookup cda = some oc) (hoc : oc.data = .fields vs) (hvs : vs[2]? = some (.str file tf)) (hfile : ((X.prog.main.file : Str) == file) = true)
    (htop : (X.prog.main.scope.names.lookup ("super" : Str)).isSome = false) (hmg : X.mg "super" = none) (hcell : X.K.lookup cc = some ocl) (hcd : ocl.data = .cell (some (.ref D))) (hD : ∃ cdD, clsIn X.K D = some cdD)
    (hany : nsIn X.K cStatics "thirdparty.any" = some none) (S : SupC X.K C D) (he : PE X e te) (ha : H a = some (exo a C none)) (hq : te σ H fun _ H1 => H1 a = some (exo a C none) ∧ Q H1)
    (hi : interactive X.env = false := by rfl) (hsw : swapsWith (.Call (.Attribute (.Call (.Name "super" p0) [] [] p1) "__init__" p2) [e] [] p3) none p4.line X.env = pure false := by rfl)
    (hst : starEach [e] X.env = (false, eval e X.env) :: starEach [] X.env := by rfl)
    (hc : eval (.Call (.Attribute (.Call (.Name "super" p0) [] [] p1) "__init__" p2) [e] [] p3) X.env = (do
      let ov ← attributeBase (.Call (.Name "super" p0) [] [] p1) "__init__" X.env (eval (.Call (.Name "super" p0) [] [] p1) X.env)
      standAt p2.atName
      let (f, first) ← holding [ov] (getMethod ov "__init__" pl)
      callWith p3 f first (backTo p3 (starEach [e] X.env)) []) := by rfl) :
    PySem.wpAt (model X.prog X.w) X.A (.func body X.env) (exec (.Expr (.Call (.Attribute (.Call (.Name "super" p0) [] [] p1) "__init__" p2) [e] [] p3) p4) X.env)
      (fun fl s' => fl = .next ∧ ∃ H', Inv X pins σ H' s' ∧ Q H') X.xe s := by
  obtain ⟨t1, ho⟩ := exo_at I.hok ha
  refine ks_wpAt_Expr_any ?_ hi hsw
  refine ks_wpAt_MethodCall ?_ hc
  · refine ks_wpAt_mono (sup_base I hE hks hkc (by decide) hf hfd hp hself hloc hv hco hoc hvs hfile htop hmg hcell hcd hD (inst_exo ho) S.mro) (fun v s1 hh => ?_) fun _ _ z => z
    obtain ⟨so, rfl, hso, k1, I1⟩ := hh
    obtain ⟨t2, ho1⟩ := exo_at I1.hok ha
    have KI := I1.kIn
    have hcls : ∃ cd, clsIn X.K C = some cd ∧ alongIn X.K "__init__" ((cd.mro.dropWhile (· != .ref D)).drop 1) = some (some (.builtin "ValueError.__init__")) := by
      have z := S.over
      unfold ks_superIn at z
      cases q : clsIn X.K C with
      | none => rw [q] at z; cases z
      | some cd => rw [q] at z; exact ⟨cd, rfl, z⟩
    obtain ⟨cd, hcdC, hal⟩ := hcls
    have hI : Looks (model X.prog X.w) s1.heap (isInstance (.ref a) (.type "ValueError")) true := (inst_exo ho1).type.andThen (looks_subIn KI S.sub)
    have hmro : Looks (model X.prog X.w) s1.heap (mroOf (.ref C)) cd.mro := fun A' Q' E' s' k q => wpAny_bind ((looks_clsIn KI hcdC) A' _ E' s' k (wpAny_pure q))
    have hne : a ≠ C := ks_ne KI (inst_exo ho1) hcdC
    obtain ⟨hp1, g, d, t, os⟩ := s1
    refine kxs_getMethod kxs_ValueError hso (looks_opaque KI hany) hmro rfl KI hal hI hne (by decide) ?_
    -- the bound method is a new record
    have hnew : H hp1.objs.size = none := I1.hok.fresh (Nat.le_refl _)
    have I2 : Inv X pins σ H ⟨hp1.push (kxs_mw "ValueError.__init__" a), g, d, t + 1, os⟩ := I1.kept (t' := t + 1) fun b o q => Heap.get?_push_of_some _ q
    have hL : hp1.objs.size ≠ X.env.locals := (Nat.ne_of_lt I1.lt).symm
    have I3 := pin_new (o := kxs_mw "ValueError.__init__" a) I2 (Heap.get?_push_at rfl rfl) hnew hL (I1.nofs (Nat.le_refl _)) mw_nocell
    have hplain : ((false, eval e X.env) :: backTo p3 (starEach [] X.env)).any (·.1) = false := by rfl
    rw [hst]
    refine kxs_callWith (i := "ValueError.__init__") (x := a) hplain (evalArgs_plain ?_)
    refine spliced_cons (thn (he.run _ _ σ H _ I3 hq) fun v s2 ⟨x, H2, I4, _, ha2, q2⟩ => ?_)
    refine spliced_nil ⟨(I4.pin _ (List.mem_append_right _ (List.mem_cons_self ..))).1, ?_⟩
    exact mw_run S.ox I4 ha2 (I4.pin _ (List.mem_append_right _ (List.mem_cons_self ..))).1 (by show 1 ≤ sizeLine; decide) fun s' J => ⟨rfl, H2, pin_off J, q2⟩
/-- the names of such a def: the parameters, then __class__ -/
structure SupScope (N ps : List Str) (sc : Scope) : Prop where
  ns : NdefX.NScope N ps ["__class__"] sc
  sup : sc.names.lookup ("super" : Str) = some .globalImplicit
/-- THE RULE for a def that begins so: its text, and what is behind it -/
theorem fn_sup {P : Program} {w : World} {K : Frag} {mg : Str → Option Value} {base : Heap} {CX : CXT} {x qual : Str} {st : Stmt} {fd : FuncData} {N ps : List Str} {k : Nat} {sp : Sp} {ar : Arg} {e : Expr} {rest : List Stmt} {p0 p1 p2 p3 p4 : Pos} {pl : Sem Bool}
    (F : SupFn P K mg x qual st f D cc fd) (S : SupScope N ps (defScope st)) (hp : ((defArgs st).posonlyargs ++ (defArgs st).args).head? = some ar) (hself : N[0]? = some ar.arg) (hloc : (defScope st).names.lookup ar.arg = some .local)
    (hb : defBody st = .Expr (.Call (.Attribute (.Call (.Name "super" p0) [] [] p1) "__init__" p2) [e] [] p3) p4 :: rest) (len : ∀ vs H Q E, sp vs H Q E → vs.length = ps.length)
    (hsw : ∀ env : Env, env.scope = defScope st → swapsWith (.Call (.Attribute (.Call (.Name "super" p0) [] [] p1) "__init__" p2) [e] [] p3) none p4.line env = pure false)
    (hst : ∀ env, starEach [e] env = (false, eval e env) :: starEach [] env)
    (hc : ∀ env, eval (.Call (.Attribute (.Call (.Name "super" p0) [] [] p1) "__init__" p2) [e] [] p3) env = (do
      let ov ← attributeBase (.Call (.Name "super" p0) [] [] p1) "__init__" env (eval (.Call (.Name "super" p0) [] [] p1) env)
      standAt p2.atName
      let (f, first) ← holding [ov] (getMethod ov "__init__" pl)
      callWith p3 f first (backTo p3 (starEach [e] env)) []))
    (hbody : ∀ (Fn : NdefX.NF) (A : Around) (outer : List Env) (s : Shared) (H : Hp) (vs : List V) (Q : VK) (E : XK), Fn.scope = defScope st → Fn.cl = [(("__class__" : Str), cc)] → Room k (A.deeper (NdefX.envF Fn f s.heap.objs.size)) → sp vs H Q E →
      ∃ te t a C, PE (NdefX.ncx CX P w K mg base N Fn f A outer s H E) e te ∧ PSs (NdefX.ncx CX P w K mg base N Fn f A outer s H E) rest t ∧ vs[0]? = some (.ref a) ∧ SupC K C D ∧ H a = some (exo a C none) ∧
        te (NdefX.startF N vs [some (.ref D)]) H fun _ H1 => H1 a = some (exo a C none) ∧ t { nx := fun _ H' => Q .non H', rt := Q } (NdefX.startF N vs [some (.ref D)]) H1) :
    FnOk P w K mg base CX (k + 1) f fd ps sp := by
  obtain ⟨oc, od, kV, doc, pm, an, cda, ct, osl, ccl, cdd, vsC, ccs, file, tf, rfl, lk, hcd, lkC, hvs, hfile⟩ := F.fn
  obtain ⟨cl, cld, csl, lkc⟩ := F.cell
  refine ⟨len, fun A outer s H args us vs Q E hr e0 hb' r hsp => ?_⟩
  have hl := len _ _ _ _ hsp
  have inK : ∀ {b o}, K.lookup b = some o → s.heap.get? b = some o ∧ H b = none := fun {b o} z => e0.bs b o (e0.mod.kin b o z)
  have KX : K.In s.heap := fun b o z => (inK z).1
  have lim : s.heap.NoLimit := e0.mod.nolimit.keeps fun b o z => (e0.bs b o z).1
  refine ks_codeAny_call_defAt (fd := fnX x qual (defArgs st) (defBody st) (defScope st) [("__class__", cc)] .none kV doc pm an (.ref cda) ct) (body := defBody st) (binds := ps.zip us) hr.depth (inK lk).1 rfl lim (codeRec_of KX hcd) rfl hb' S.ns.nocell
    (fun y hy => S.ns.par _ (List.of_mem_zip hy).1) (fun h₁ hns kp => ?_) S.ns.co S.ns.gen S.ns.kind
  let Fn : NdefX.NF := ⟨x, qual, defArgs st, defBody st, defScope st, [(("__class__" : Str), cc)], cda⟩
  have C1 : NdefX.CellsAt Fn.cl ["__class__"] [some (.ref D)] s.heap H := by
    have one : ∀ y c, List.lookup y [(("__class__" : Str), cc)] = some c → y = "__class__" ∧ c = cc := fun y c z => by
      by_cases hy : y = "__class__"
      · subst hy
        refine ⟨rfl, ?_⟩
        simp [List.lookup] at z
        exact z.symm
      · have q : (y == ("__class__" : Str)) = false := by simpa using hy
        simp [List.lookup, q] at z
    refine ⟨rfl, fun y c z => ?_, fun y z c h1 h2 => (one y c h1).1.trans (one z c h2).1.symm, fun i y hy => ?_⟩
    · obtain ⟨_, rfl⟩ := one y c z
      exact ⟨(inK lkc).2, _, _, (inK lkc).1, rfl⟩
    · match i, hy with
      | 0, hy =>
        have ey : ("__class__" : Str) = y := Option.some.inj hy
        subst ey
        refine ⟨cc, by show List.lookup _ [(("__class__" : Str), cc)] = _; simp [List.lookup], fun v hv => ?_⟩
        have ev : V.ref D = v := Option.some.inj (Option.some.inj hv)
        subst ev
        exact ⟨_, rfl, _, (inK lkc).1, rfl⟩
      | i + 1, hy => simp at hy
  have I : Inv (NdefX.ncx CX P w K mg base N Fn f A outer s H E) [] (NdefX.startF N vs [some (.ref D)]) H { s with heap := h₁, toks := s.toks + (ps.zip us).length } := NdefX.inv_startN S.ns hr.hd e0 hl r C1 hns kp
  obtain ⟨te, t, a, C, pe, pss, hv0, hS, ha, hq⟩ := hbody Fn A outer s H vs Q E rfl rfl (hr.deeper _) hsp
  have hσ : (NdefX.startF N vs [some (.ref D)])[0]? = some (some (.ref a)) := by
    unfold NdefX.startF
    have h0 : 0 < vs.length := (List.getElem?_eq_some_iff.mp hv0).1
    rw [List.getElem?_append_left (by rw [List.length_map]; exact h0), List.getElem?_map, hv0]
    rfl
  rw [hb]
  refine ks_wpAt_execs_cons (ks_wpAt_mono (sup_stmt (X := NdefX.ncx CX P w K mg base N Fn f A outer s H E) (qual := qual) (scope := defScope st) (L := s.heap.objs.size) I rfl S.sup (S.ns.frk _ (List.mem_singleton.mpr rfl)) lk rfl hp hself hloc hσ lkC rfl hvs hfile F.top F.sup lkc rfl F.cd F.any hS pe ha hq
    (by unfold interactive; rw [show (NdefX.ncx CX P w K mg base N Fn f A outer s H E).env.scope.kind = .function from S.ns.kind]; rfl) (hsw _ rfl) (hst _) (hc _)) (fun fl s' hh => ?_) fun _ _ z => z)
  obtain ⟨rfl, H1, I1, q1⟩ := hh
  refine wpAt_of_wpAny (wpAny_mono (pss.run [] s' _ H1 _ I1 q1) (fun fl s2 hs => ?_) fun _ _ z => z)
  have fin : ∀ {σ' : L2.St} {H' : Hp} {v : V} {u : Value}, Inv (NdefX.ncx CX P w K mg base N Fn f A outer s H E) [] σ' H' s2 → RelV v u → Q v H' → CE outer P w H s Q u s2 :=
    fun {σ' H' v u} J rv q => ⟨v, H', J.os, J.bare, J.base, J.hok, rv, q⟩
  cases fl with
  | ret u =>
    obtain ⟨v, σ', H', J, rv, q⟩ := hs
    exact fin J rv q
  | next =>
    obtain ⟨σ', H', J, q⟩ := hs
    exact fin (v := V.non) (u := Value.none) J rfl q
  | brk =>
    obtain ⟨_, _, _, q⟩ := hs
    exact q.elim
  | cont =>
    obtain ⟨_, _, _, q⟩ := hs
    exact q.elim
end
end Yd
namespace Yd
open PySem L2
/-! ### the errors: a text, then the fields -/
/-- a part of a text that is short -/
def Short (σ : St) (H : Hp) (t : TE) : Prop := ∃ y : Str, y.length ≤ 100 ∧ ∀ Q : VK, Q (.str y) H → t σ H Q
theorem short_c {σ : St} {H : Hp} {x : Str} (h : x.length ≤ 100 := by decide +kernel) : Short σ H (tC (.str x)) := ⟨x, h, fun _ q => q⟩
theorem short_v {σ : St} {H : Hp} {i : Nat} {x : Str} (e : σ[i]? = some (some (.str x))) (h : x.length ≤ 100) : Short σ H (tFmt (tVar i)) :=
  ⟨x, h, fun _ q => ⟨_, e, .inl ⟨x, rfl, Nat.le_trans h (by decide), q⟩⟩⟩
theorem js_short {σ : St} {H : Hp} {Q : Str → Hp → Prop} (hq : ∀ out, Q out H) : ∀ (ts : List TE) (acc : Str), (∀ t ∈ ts, Short σ H t) → acc.length + 100 * ts.length ≤ 10000 → tJs ts acc σ H Q
  | [], acc, _, _ => hq acc
  | t :: ts, acc, h, hl => by
    obtain ⟨y, hy, ht⟩ := h t (List.mem_cons_self ..)
    rw [List.length_cons] at hl
    have e : (acc ++ y).length = acc.length + y.length := len_app acc y
    refine ht _ ⟨y, rfl, ?_, js_short hq ts (acc ++ y) (fun u hu => h u (List.mem_cons_of_mem _ hu)) (by omega)⟩
    exact Nat.le_trans (show (acc ++ y).length ≤ 10000 by omega) (by decide)
/-- what an error's __init__ promises: fs, the fields, the last one stored first -/
def spErr (C : Addr) (n : Nat) (ok : List V → Prop) (fs : List V → List (Str × V)) : Sp := fun vs H Q _ => ∃ (a : Addr) (us : List V), vs = .ref a :: us ∧ us.length = n ∧ ok us ∧ H a = some (exo a C none) ∧
  ∀ d H', H d = none → d ≠ a → H' a = some (exo a C (some d)) → H' d = some (exd d (fs us)) → (∀ b, b ≠ a → b ≠ d → H' b = H b) → Q .non H'
def isTxt (v : V) : Prop := ∃ x : Str, v = .str x ∧ x.length ≤ 100
end Yd
namespace Yd
open PySem L2
section
variable {P : Program} {w : World} {K : PySem.W.Frag} {mg : Str → Option Value} {base : Heap} {CX : CXT}
theorem scRepeatedInit : SupScope ["self", "name", "__class__"] ["self", "name"] (defScope sRepeatedInit) := ⟨NdefX.nscope_by (by decide +kernel), rfl⟩
def fsRepeated : List V → List (Str × V)
  | [v0] => [("name", v0)]
  | _ => []
def okRepeated : List V → Prop
  | [v0] => isTxt v0
  | _ => False
theorem ok_RepeatedInit {f D cc : Addr} {fd : FuncData} (F : SupFn P K mg "__init__" "Repeated.__init__" sRepeatedInit f D cc fd) (S : SupC K D D) (n0 : PySem.W.findIn K (.ref D) "name" = some none) : FnOk P w K mg base CX 1 f fd ["self", "name"] (spErr D 1 okRepeated fsRepeated) := by
  refine fn_sup F scRepeatedInit rfl rfl rfl rfl (fun vs H Q E h => ?_) (fun _ _ => rfl) (fun _ => rfl) (fun _ => rfl) (fun Fn A outer s H vs Q E hsc hcl hr h => ?_)
  · obtain ⟨a, us, rfl, hl, _⟩ := h
    rw [List.length_cons, hl]
    rfl
  · obtain ⟨a, us, rfl, hl, ok, ha, k⟩ := h
    obtain ⟨nm, ql, pr, bd, scp, cl, cdx⟩ := Fn
    simp only at hsc hcl
    subst hsc hcl
    match us, hl, ok, k with
    | [v0], _, ⟨x0, e0, l0⟩, k =>
      subst e0
      refine ⟨_, _, a, D, pe_joined (PJ.cons pe_str (PJ.cons (pe_fmt (pv 1)) (PJ.cons pe_str PJ.nil))), (pss_one (ps_ost (pv 0) (pv 1))), rfl, S, ha, ?_⟩
      refine js_short (fun out => ?_) _ _ (fun t ht => ?_) (by decide)
      rotate_left
      · simp only [List.mem_cons, List.not_mem_nil, or_false] at ht
        rcases ht with rfl | rfl | rfl
        · exact short_c
        · exact short_v rfl l0
        · exact short_c
      refine ⟨ha, ?_⟩
      refine ⟨_, rfl, _, rfl, a, D, rfl, S.ox, n0, .inl ⟨ha, fun dx hd hda => ?_⟩⟩
      refine k dx _ hd hda upd_same (by rw [upd_ne hda]; exact upd_same) fun b hb1 hb2 => ?_
      rw [upd_ne hb1, upd_ne hb2]
theorem scUnknownInit : SupScope ["self", "name", "__class__"] ["self", "name"] (defScope sUnknownInit) := ⟨NdefX.nscope_by (by decide +kernel), rfl⟩
def fsUnknown : List V → List (Str × V)
  | [v0] => [("name", v0)]
  | _ => []
def okUnknown : List V → Prop
  | [v0] => isTxt v0
  | _ => False
theorem ok_UnknownInit {f D cc : Addr} {fd : FuncData} (F : SupFn P K mg "__init__" "Unknown.__init__" sUnknownInit f D cc fd) (S : SupC K D D) (n0 : PySem.W.findIn K (.ref D) "name" = some none) : FnOk P w K mg base CX 1 f fd ["self", "name"] (spErr D 1 okUnknown fsUnknown) := by
  refine fn_sup F scUnknownInit rfl rfl rfl rfl (fun vs H Q E h => ?_) (fun _ _ => rfl) (fun _ => rfl) (fun _ => rfl) (fun Fn A outer s H vs Q E hsc hcl hr h => ?_)
  · obtain ⟨a, us, rfl, hl, _⟩ := h
    rw [List.length_cons, hl]
    rfl
  · obtain ⟨a, us, rfl, hl, ok, ha, k⟩ := h
    obtain ⟨nm, ql, pr, bd, scp, cl, cdx⟩ := Fn
    simp only at hsc hcl
    subst hsc hcl
    match us, hl, ok, k with
    | [v0], _, ⟨x0, e0, l0⟩, k =>
      subst e0
      refine ⟨_, _, a, D, pe_joined (PJ.cons pe_str (PJ.cons (pe_fmt (pv 1)) (PJ.cons pe_str PJ.nil))), (pss_one (ps_ost (pv 0) (pv 1))), rfl, S, ha, ?_⟩
      refine js_short (fun out => ?_) _ _ (fun t ht => ?_) (by decide)
      rotate_left
      · simp only [List.mem_cons, List.not_mem_nil, or_false] at ht
        rcases ht with rfl | rfl | rfl
        · exact short_c
        · exact short_v rfl l0
        · exact short_c
      refine ⟨ha, ?_⟩
      refine ⟨_, rfl, _, rfl, a, D, rfl, S.ox, n0, .inl ⟨ha, fun dx hd hda => ?_⟩⟩
      refine k dx _ hd hda upd_same (by rw [upd_ne hda]; exact upd_same) fun b hb1 hb2 => ?_
      rw [upd_ne hb1, upd_ne hb2]
theorem scNoStepInit : SupScope ["self", "before", "after", "__class__"] ["self", "before", "after"] (defScope sNoStepInit) := ⟨NdefX.nscope_by (by decide +kernel), rfl⟩
def fsNoStep : List V → List (Str × V)
  | [v0, v1] => [("after", v1), ("before", v0)]
  | _ => []
def okNoStep : List V → Prop
  | [v0, v1] => isTxt v0 ∧ isTxt v1
  | _ => False
theorem ok_NoStepInit {f D cc : Addr} {fd : FuncData} (F : SupFn P K mg "__init__" "NoStep.__init__" sNoStepInit f D cc fd) (S : SupC K D D) (n0 : PySem.W.findIn K (.ref D) "before" = some none) (n1 : PySem.W.findIn K (.ref D) "after" = some none) : FnOk P w K mg base CX 1 f fd ["self", "before", "after"] (spErr D 2 okNoStep fsNoStep) := by
  refine fn_sup F scNoStepInit rfl rfl rfl rfl (fun vs H Q E h => ?_) (fun _ _ => rfl) (fun _ => rfl) (fun _ => rfl) (fun Fn A outer s H vs Q E hsc hcl hr h => ?_)
  · obtain ⟨a, us, rfl, hl, _⟩ := h
    rw [List.length_cons, hl]
    rfl
  · obtain ⟨a, us, rfl, hl, ok, ha, k⟩ := h
    obtain ⟨nm, ql, pr, bd, scp, cl, cdx⟩ := Fn
    simp only at hsc hcl
    subst hsc hcl
    match us, hl, ok, k with
    | [v0, v1], _, ⟨⟨x0, e0, l0⟩, ⟨x1, e1, l1⟩⟩, k =>
      subst e0
      subst e1
      refine ⟨_, _, a, D, pe_joined (PJ.cons pe_str (PJ.cons (pe_fmt (pv 1)) (PJ.cons pe_str (PJ.cons (pe_fmt (pv 2)) PJ.nil)))), (pss_cons (ps_ost (pv 0) (pv 1)) (pss_one (ps_ost (pv 0) (pv 2)))), rfl, S, ha, ?_⟩
      refine js_short (fun out => ?_) _ _ (fun t ht => ?_) (by decide)
      rotate_left
      · simp only [List.mem_cons, List.not_mem_nil, or_false] at ht
        rcases ht with rfl | rfl | rfl | rfl
        · exact short_c
        · exact short_v rfl l0
        · exact short_c
        · exact short_v rfl l1
      refine ⟨ha, ?_⟩
      refine ⟨_, rfl, _, rfl, a, D, rfl, S.ox, n0, .inl ⟨ha, fun dx hd hda => ?_⟩⟩
      refine ⟨_, rfl, _, rfl, a, D, rfl, S.ox, n1, .inr ⟨dx, [("before", .str x0)], ?_, ?_, (by show 1 ≤ 900; decide), ?_⟩⟩
      · exact upd_same
      · rw [upd_ne hda]; exact upd_same
      refine k dx _ hd hda (by simp only [upd_ne (Ne.symm hda), upd_same]) upd_same fun b hb1 hb2 => ?_
      simp only [upd_ne hb1, upd_ne hb2]
end
end Yd
namespace Yd
open PySem L2
/-! ### tuple(d) of a dict: its keys -/
section
open PySem.W PySem.Calls PyProof.Rows
variable {prog : Program} {w : World} {A : Around} {E : Value → Shared → Prop} {s : Shared} {T : String} {r d : Addr} {n : Nat} {P : Nat → Value → Prop} {OK : Heap → Prop}
/-- what is collected of such a thing -/
theorem collect_src {Q : List Value → Shared → Prop} (Z : KdlSrc prog w T r d n P OK) (hh : A.handled = none) (hok : OK s.heap) (hn : n ≤ sizeLine)
    (hQ : ∀ (h' : Heap) (tk : Nat) (acc : Array Value), (∀ b o, s.heap.get? b = some o → h'.get? b = some o) → ItemsOf P acc n → Q acc.toList { s with heap := h', toks := tk }) :
    wpAny (model prog w) A (collect (.ref r)) Q E s := by
  have new : (s.heap.push { cls := .type "list", data := .seq ([] : List Value).toArray }).get? s.heap.objs.size = some { cls := .type "list", data := .seq #[] 0 } := Heap.get?_push_size _ rfl
  have up : ∀ b o, s.heap.get? b = some o → (s.heap.push { cls := .type "list", data := .seq ([] : List Value).toArray }).get? b = some o := fun b o e => Heap.get?_push_of_some _ e
  have lt := Z.there _ hok
  unfold collect
  refine wpAny_bind (wpAny_runValue (codeAny_builtin F.entry_proto_collect ?_))
  rw [Around.under_plainId F.plain_proto_collect _]
  refine wpAny_bind (m := newList []) (wpAny_newObj_type (wpAny_pure ⟨plainId_quiet F.plain_list_iadd _, codeAny_builtin F.entry_list_iadd ?_⟩))
  rw [Around.under_plainId F.plain_list_iadd _]
  refine wpAny_mono (kdl_extend (A := A) (s := { s with heap := s.heap.push { cls := .type "list", data := .seq ([] : List Value).toArray } })
    (R := fun rr s' => rr = .ok (.ret (.ref s.heap.objs.size)) ∧ ∃ (h' : Heap) (tk : Nat) (acc : Array Value) (c' : Nat), s' = { s with heap := h', toks := tk } ∧ (∀ b o, s.heap.get? b = some o → h'.get? b = some o) ∧
      h'.get? s.heap.objs.size = some { cls := .type "list", dict := none, data := .seq acc c', slots := #[] } ∧ ItemsOf P acc n)
    Z hh (Z.keep _ _ hok fun b _ o e => up b o e) s.heap.objs.size (Nat.ne_of_gt lt.1) (Nat.ne_of_gt lt.2) (.ref s.heap.objs.size) 0 new
    (fun h' tk acc c' k e hi => ⟨rfl, h', tk, acc, c', rfl, fun b o q => k b o (Nat.ne_of_lt (Heap.lt_size q)) (up b o q), e, hi⟩) hn) (fun fin s' z => ?_) fun e s' z => absurd z.1 (by simp)
  have done : ∀ {rr : Result} {s2 : Shared}, (rr = .ok (.ret (.ref s.heap.objs.size)) ∧ ∃ (h' : Heap) (tk : Nat) (acc : Array Value) (c' : Nat), s2 = { s with heap := h', toks := tk } ∧ (∀ b o, s.heap.get? b = some o → h'.get? b = some o) ∧
      h'.get? s.heap.objs.size = some { cls := .type "list", dict := none, data := .seq acc c', slots := #[] } ∧ ItemsOf P acc n) → ∃ h' tk acc c', rr = .ok (.ret (.ref s.heap.objs.size)) ∧ s2 = { s with heap := h', toks := tk } ∧
      h'.get? s.heap.objs.size = some { cls := .type "list", dict := none, data := .seq acc c', slots := #[] } ∧ Q acc.toList { s with heap := h', toks := tk } := fun ⟨e1, h', tk, acc, c', e2, k, e3, hi⟩ => ⟨h', tk, acc, c', e1, e2, e3, hQ h' tk acc k hi⟩
  cases fin with
  | done f =>
    obtain ⟨h', tk, acc, c', e, rfl, hS, q⟩ := done z
    cases e
    exact wpAny_bind (m := load s.heap.objs.size) (wpAny_load hS (wpAny_pure q))
  | again c2 =>
    refine ⟨z.1, codeAny_mono z.2 fun rr s'' y => ?_⟩
    obtain ⟨h', tk, acc, c', rfl, rfl, hS, q⟩ := done y
    exact wpAny_bind (m := load s.heap.objs.size) (wpAny_load hS (wpAny_pure q))
theorem tuple_src {Q : Value → Shared → Prop} (Z : KdlSrc prog w T r d n P OK) (hh : A.handled = none) (hok : OK s.heap) (hn : n ≤ sizeLine)
    (hQ : ∀ (h' : Heap) (tk : Nat) (acc : Array Value), (∀ b o, s.heap.get? b = some o → h'.get? b = some o) → ItemsOf P acc n → Q (.ref h'.objs.size) { s with heap := h'.push { cls := .type "tuple", data := .seq acc }, toks := tk }) :
    wpAny (model prog w) A (call (.type "tuple") [.ref r]) Q E s := by
  refine callType_codes (Q₁ := fun obj s₁ => s₁.TypeIs obj "tuple" ∧ Q obj s₁) F.called_tuple (F.typeCall_tuple_1 _) F.entry_object_init ?_ fun obj s₁ h₁ =>
    ⟨h₁.1, F.args_object_init_2 obj _, object_init_meets F.called_tuple.init.lookup F.called_tuple.made (by decide) prog w A.in1 _ s₁ ⟨h₁.1, rfl, h₁.2⟩⟩
  refine codeAny_of_tree (wpAny_bind (wpAny_of_eq (F.newCall_tuple_1 _) (wpAny_pure ⟨plainId_quiet F.plain_tuple_new _, codeAny_builtin F.entry_tuple_new ?_⟩)))
  rw [Around.under_plainId F.plain_tuple_new _]
  have f1 := sub_tuple_self
  have f2 := init_tuple_lookup
  have f3 := madeHere_tuple
  have f4 := Z.type s hok
  have f5 := Z.notTuple
  have f6 := Z.notList
  have hz : A.in1.in1.handled = none := hh
  wp_walk using wpAny_typeOf f4, collect_src (A := A.in1.in1) Z hz hok hn
  intro h' tk acc hk hacc
  have sz : acc.toList.toArray.size ≤ sizeLine := by rw [Array.toArray_toList, hacc.1]; exact hn
  have back : acc.toList.toArray = acc := by simp
  refine wpAny_bind (m := Builtin.Tuple.tupleExact acc.toList.toArray) ?_
  unfold Builtin.Tuple.tupleExact
  refine wpAny_newObj_type ?k1 ?k2
  case k2 => exact sz
  refine wpAny_pure ?_
  rw [back]
  exact ⟨⟨_, Heap.get?_push_size _ rfl, rfl⟩, hQ h' tk acc hk hacc⟩
end
section
open PySem.W PySem.Calls PyProof.Rows
variable {X : Cx}
/-- tuple(d), d with keys that are ints and texts -/
theorem call_tupleD (hc : X.calm = true) : CallR X (.type "tuple") (fun xs H Q => ∃ (a : Addr) (kvs : List (Key × V)), xs = [.ref a] ∧ Rd H a (.dK kvs) ∧ ∀ p, H p = none → Q (.ref p) (upd H p (.tup (kvs.map fun kv => kV kv.1)))) := by
  rintro pins s σ H xs us Q I r ⟨a, kvs, rfl, hd, q⟩
  obtain ⟨u, rfl, rx⟩ := vals1 r
  cases rx
  obtain ⟨z, lo, vs, rel, dd⟩ := dk_rd I.hok hd
  obtain ⟨ep, hat⟩ := dd.dictAt
  have ek : (kvs.map fun kv => kV kv.1) = vs.map fun p => kV p.1 := by
    have e := congrArg (List.map kV) rel.keys
    rw [List.map_map, List.map_map] at e
    exact e
  have hlen : vs.length ≤ sizeLine := by rw [← rel.length]; exact z
  refine tuple_src (kdl_dict (knd := mixKind X.prog X.w) (kvs := vs) (ep := ep) lo) (I.ok.hd hc) hat hlen fun h' tk acc hk hacc => ?_
  have hv : Vals (vs.map fun p => kV p.1) acc.toList := keys_at (by rw [Array.length_toList]; exact hacc.1) fun j v e => hacc.2 j v (by rw [← Array.getElem?_toList]; exact e)
  have I1 : Inv X pins σ H { s with heap := h', toks := tk } := I.kept hk
  refine ⟨.ref h'.objs.size, upd H h'.objs.size (.tup (kvs.map fun kv => kV kv.1)), I1.laid (t' := tk) (fun b o e => Heap.get?_push_of_some _ e) (Nat.le_refl _) ?_, rfl, q _ (I1.hok.fresh (Nat.le_refl _))⟩
  refine ⟨by rw [List.length_map]; exact z, acc.toList, by rw [ek]; exact hv, ?_⟩
  have e : acc = acc.toList.toArray := by simp
  rw [e]
  exact IsTup.new _ _
end
end Yd
namespace Yd
open PySem L2
/-! ### a def read off its class: C.m(..) -/
section
open PySem.W
variable {X : Cx} {CX : CXT} {k : Nat} {f C : Addr} {mc : Value} {fd : FuncData} {ps : List Str} {sp : Sp} {dvs : List V} {ds : List Value} {E : XK} {m : Str} {pos apos : Pos} {e o : Expr} {es : List Expr} {ta : TE} {t : TA} {pl : Sem Bool}
def tCfun (C : Addr) (sp : Sp) (dvs : List V) (E : XK) (ta : TE) (t : TA) : TE := fun σ H Q => ta σ H fun x H1 => x = .ref C ∧ t σ H1 fun vs H2 => sp (vs ++ dvs) H2 Q E
theorem pe_cfun (he : PE X o ta) (r : ClX.CRead X.K C mc) (c : findCls X.K (.ref C) mc m = some (.val (.ref f))) (F : FnOk X.prog X.w X.K X.mg X.base CX k f fd ps sp) (hr : Room k X.A) (hk : keepIn X.K (.ref f) = true) (hb : Binds X.K fd ps ds) (hd : Vals dvs ds) (hx : Passes CX X E)
    (ha : PA X (e :: es) t) (hst : starEach (e :: es) X.env = (false, eval e X.env) :: starEach es X.env := by rfl) (hpl : (backTo pos (starEach es X.env)).any (·.1) = false := by rfl)
    (ht : eval (.Call (.Attribute o m apos) (e :: es) [] pos) X.env = (do
      let ov ← eval o X.env
      standAt apos.atName
      let (f, first) ← holding [ov] (getMethod ov m pl)
      callWith pos f first (backTo pos (starEach (e :: es) X.env)) (backToKw pos (keywordEach [] X.env))) := by rfl) :
    PE X (.Call (.Attribute o m apos) (e :: es) [] pos) (tCfun C sp dvs E ta t) := by
  refine ⟨fun pins s σ H Q I h => methodCall_KW (thn (he.run pins s σ H _ I h) fun u s1 ⟨x, H1, I1, rx, ex, q⟩ => ?_) ht⟩
  subst ex
  obtain rfl : u = Value.ref C := rx
  refine method_cls I1.kIn r.ga (cls_value I1.kIn r.rd c rfl ?_)
  have I2 := I1.tok (s1.toks + 1)
  exact callWith_K (first := []) (h₀ := X.base) I.ok.mod.kin hk (thn (ha.run pos pins _ σ H1 _ I2 q) fun us s2 ⟨vs, H2, I3, rv, q2⟩ => ⟨I3.kIn, run_fn F hr hb hd hx I3 rv q2⟩) hst hpl
end
/-! ### o.m(..) within a try -/
section
variable {X : Cx} {CX : CXT} {k : Nat} {f C : Addr} {fd : FuncData} {ps : List Str} {sp : Sp} {E : St → XK} {m : Str} {pos apos : Pos} {e o : Expr} {es : List Expr} {ta : TE} {t : TA} {pl : Sem Bool}
def tMethE (C : Addr) (m : Str) (sp : Sp) (E : St → XK) (ta : TE) (t : TA) : TE := fun σ H Q => ta σ H fun x H1 => ∃ a dx fs, x = .ref a ∧ H1 a = some (.ins C dx fs) ∧ fs.lookup m = none ∧ t σ H1 fun vs H2 => sp (x :: vs) H2 Q (E σ)
theorem pe_methE (he : PE X o ta) (c : Cls X.K C) (hm : Meth X.K C m f) (F : FnOk X.prog X.w X.K X.mg X.base CX k f fd ps sp) (hr : Room k X.A) (hb : Binds X.K fd ps []) (hx : ∀ σ, PassesAt CX X σ (E σ)) (ha : PA X (e :: es) t)
    (hst : starEach (e :: es) X.env = (false, eval e X.env) :: starEach es X.env := by rfl) (hpl : (backTo pos (starEach es X.env)).any (·.1) = false := by rfl)
    (ht : eval (.Call (.Attribute o m apos) (e :: es) [] pos) X.env = (do
      let ov ← eval o X.env
      standAt apos.atName
      let (f, first) ← holding [ov] (getMethod ov m pl)
      callWith pos f first (backTo pos (starEach (e :: es) X.env)) (backToKw pos (keywordEach [] X.env))) := by rfl) :
    PE X (.Call (.Attribute o m apos) (e :: es) [] pos) (tMethE C m sp E ta t) := by
  refine ⟨fun pins s σ H Q I h => PySem.W.methodCall_KW (thn (he.run pins s σ H _ I h) fun u s1 ⟨x, H1, I1, rx, a, dx, fs, ex, ea, l, q⟩ => ?_) ht⟩
  subst ex
  obtain rfl : u = Value.ref a := rx
  refine getmeth_ok I1 ea c hm l ?_
  exact PySem.W.callWith_K (first := [.ref a]) (h₀ := X.base) I.ok.mod.kin hm.kp (thn (ha.run pos pins s1 σ H1 _ I1 q) fun us s2 ⟨vs, H2, I2, r, q2⟩ => ⟨I2.kIn, run_fnS (us := .ref a :: us) (vs := .ref a :: vs) F hr hb (hx σ) I2 (.cons rfl r) q2⟩) hst hpl
end
end Yd
namespace Yd
open PySem L2
/-! ### the errors as they are raised; the steps of a kind in the heap -/
/-- an error class as the top has made it, with what its __init__ promises -/
structure ErrOk (P : Program) (w : World) (K : PySem.W.Frag) (mg : Str → Option Value) (base : Heap) (x : Str) (C : Addr) (n : Nat) (ok : List V → Prop) (fs : List V → List (Str × V)) : Prop where
  g : mg x = some (.ref C)
  ox : OexC K C
  ini : ∃ fI fd ps, PySem.W.findIn K (.ref C) "__init__" = some (some (.ref fI)) ∧ PySem.W.typeIn K (.ref fI) = some (.type "function") ∧ FnOk P w K mg base CX0 1 fI fd ps (spErr C n ok fs) ∧ Binds K fd ps []
/-- what a raised error asks: its class, its fields, its own new dict -/
def Raised (C : Addr) (us : List V) (fs : List V → List (Str × V)) (H : Hp) (E : XK) : Prop := ∀ d H', Same H H' → H d = none → H' d = some (.xd (fs us)) → E (.ref C) (some d) H'
section
variable {X : Cx} {x : Str} {C : Addr} {n : Nat} {ok : List V → Prop} {fs : List V → List (Str × V)} {e : Expr} {es : List Expr} {ta : TA} {p pos : Pos}
theorem pmk_err (O : ErrOk X.prog X.w X.K X.mg X.base x C n ok fs) (hr : Room 2 X.A) (hg : Gl X x) (ha : PA X (e :: es) ta)
    (hdb : (x == ("__debug__" : Str)) = false := by decide) (he : starEach (e :: es) X.env = (false, eval e X.env) :: starEach es X.env := by rfl) (hpl : (backTo pos (starEach es X.env)).any (·.1) = false := by rfl) :
    PMk X (.Call (.Name x p) (e :: es) [] pos) (tMkO C (spErr C n ok fs) [] ta) := by
  obtain ⟨fI, fd, ps, i1, i2, F, b⟩ := O.ini
  exact pmk_oex O.ox i1 i2 F hr b .nil pass0 hg O.g ha hdb he hpl
/-- the reading of a raise, answered -/
theorem err_read {us : List V} {H1 : Hp} {Q : XK} (hl : us.length = n) (hn : n ≤ 1000) (hok : ok us) (hR : Raised C us fs H1 Q) : us.length ≤ 1000 ∧ ∀ a, H1 a = none → spErr C n ok fs (.ref a :: (us ++ [])) (upd H1 a (exo a C none))
      (fun v H2 => v = .non ∧ ∃ (d : Addr) (gs : List (Str × V)), H2 a = some (exo a C (some d)) ∧ H2 d = some (exd d gs) ∧ H1 d = none ∧ Q (.ref C) (some d) (upd (del H2 a) d (.xd gs))) (fun _ _ _ => False) := by
  refine ⟨by omega, fun a ha => ⟨a, us, by rw [List.append_nil], hl, hok, upd_same, fun d H' hd hda h1 h2 h3 => ?_⟩⟩
  have hd1 : H1 d = none := by rw [upd_ne hda] at hd; exact hd
  refine ⟨rfl, d, fs us, h1, h2, hd1, hR d _ (fun b o q => ?_) hd1 upd_same⟩
  have nb : b ≠ a := ne_of_none q ha
  have nd : b ≠ d := ne_of_none q hd1
  rw [upd_ne nd, del_ne nb, h3 b nb nd, upd_ne nb]
  exact q
end

/-! ### dicts from texts to addresses -/
def dP (ss : List Str) (es : List Addr) : List (Key × V) := (ss.zip es).map fun p => (Sum.inr p.1, V.ref p.2)
theorem dP_nil {es : List Addr} : dP [] es = [] := rfl
theorem dP_cons {s : Str} {ss : List Str} {e : Addr} {es : List Addr} : dP (s :: ss) (e :: es) = (Sum.inr s, V.ref e) :: dP ss es := rfl
theorem dP_none : ∀ {ss : List Str} {es : List Addr} {s : Str}, s ∉ ss → valV (dP ss es) (Sum.inr s : Key) = none
  | [], _, _, _ => rfl
  | _ :: _, [], _, _ => rfl
  | a :: r, e :: es, s, h => by
    have h1 : ¬ (Sum.inr a : Key) = Sum.inr s := fun z => h (by injection z with z; rw [z]; exact List.mem_cons_self ..)
    rw [dP_cons, valV_neg h1]
    exact dP_none fun m => h (List.mem_cons_of_mem _ m)
theorem dP_some : ∀ {ss : List Str} {es : List Addr} {i : Nat} {s : Str} {e : Addr}, ss.Nodup → ss[i]? = some s → es[i]? = some e → valV (dP ss es) (Sum.inr s : Key) = some (.ref e)
  | [], _, _, _, _, _, h, _ => by simp at h
  | _ :: _, [], _, _, _, _, _, h => by simp at h
  | a :: r, b :: es, 0, s, e, _, h1, h2 => by
    simp at h1 h2
    subst h1 h2
    exact valV_pos rfl
  | a :: r, b :: es, i + 1, s, e, nd, h1, h2 => by
    have hm : s ∈ r := List.mem_of_getElem? (by simpa using h1)
    have n1 : ¬ (Sum.inr a : Key) = Sum.inr s := fun z => (List.nodup_cons.mp nd).1 (by injection z with z; rw [z]; exact hm)
    rw [dP_cons, valV_neg n1]
    exact dP_some (i := i) (List.nodup_cons.mp nd).2 (by simpa using h1) (by simpa using h2)
theorem dP_snoc {s : Str} {e : Addr} : ∀ {ss : List Str} {es : List Addr}, ss.length = es.length → dP (ss ++ [s]) (es ++ [e]) = dP ss es ++ [(Sum.inr s, V.ref e)]
  | [], [], _ => rfl
  | [], _ :: _, h => by simp at h
  | _ :: _, [], h => by simp at h
  | a :: r, b :: es, h => by
    show (Sum.inr a, V.ref b) :: dP (r ++ [s]) (es ++ [e]) = _
    rw [dP_snoc (by simpa using h)]
    rfl
theorem dP_len : ∀ {ss : List Str} {es : List Addr}, ss.length = es.length → (dP ss es).length = ss.length
  | [], [], _ => rfl
  | [], _ :: _, h => by simp at h
  | _ :: _, [], h => by simp at h
  | a :: r, b :: es, h => by rw [dP_cons, List.length_cons, List.length_cons, dP_len (by simpa using h)]
theorem dP_is {ss : List Str} {es : List Addr} {s : Str} (nd : ss.Nodup) (hl : ss.length = es.length) : (valV (dP ss es) (Sum.inr s : Key)).isSome = decide (s ∈ ss) := by
  by_cases h : s ∈ ss
  · obtain ⟨i, hi⟩ := List.mem_iff_getElem?.mp h
    have hj : i < es.length := by rw [← hl]; exact (List.getElem?_eq_some_iff.mp hi).1
    rw [dP_some nd hi (List.getElem?_eq_getElem hj), decide_eq_true h]
    rfl
  · rw [dP_none h, decide_eq_false h]
    rfl
theorem dP_key {ss : List Str} {es : List Addr} {i : Nat} {k : Key} {v : V} (hl : ss.length = es.length) (h : (dP ss es)[i]? = some (k, v)) : ∃ s e, ss[i]? = some s ∧ es[i]? = some e ∧ k = Sum.inr s ∧ v = .ref e := by
  have hi : i < ss.length := by rw [← dP_len hl]; exact (List.getElem?_eq_some_iff.mp h).1
  have hj : i < es.length := by omega
  unfold dP at h
  have ez : (ss.zip es)[i]? = some (ss[i], es[i]) := List.getElem?_zip_eq_some.mpr ⟨List.getElem?_eq_getElem hi, List.getElem?_eq_getElem hj⟩
  rw [List.getElem?_map, ez] at h
  have h := Option.some.inj h
  injection h with h1 h2
  exact ⟨_, _, List.getElem?_eq_getElem hi, List.getElem?_eq_getElem hj, h1.symm, h2.symm⟩
theorem dP_keys {ss : List Str} {es : List Addr} (hl : ss.length = es.length) : ((dP ss es).map fun kv => kV kv.1) = ss.map V.str := by
  unfold dP
  rw [List.map_map]
  have e : ((fun kv : Key × V => kV kv.1) ∘ fun p : Str × Addr => ((Sum.inr p.1 : Key), V.ref p.2)) = V.str ∘ Prod.fst := rfl
  rw [e, ← List.map_map, List.map_fst_zip (by omega)]

/-- the steps of a kind: at ds the dict of its standings ss, at es the dicts of the standings to which R leads, at most m in each -/
structure StepsAt (H : Hp) (ds : Addr) (ss : List Str) (es : List Addr) (R : Str → Str → Bool) (m : Nat) : Prop where
  d : H ds = some (.dK (dP ss es))
  len : ss.length = es.length
  nd : ss.Nodup
  ed : es.Nodup
  no : ds ∉ es
  at_ : ∀ (i : Nat) (e : Addr) (s : Str), es[i]? = some e → ss[i]? = some s → ∃ kvs : List (Key × V), H e = some (.dK kvs) ∧ kvs.length ≤ m ∧ ∀ t : Str, (valV kvs (Sum.inr t)).isSome = R s t
theorem StepsAt.keep {H H' : Hp} {ds : Addr} {ss : List Str} {es : List Addr} {R : Str → Str → Bool} {m : Nat} (S : StepsAt H ds ss es R m) (k : ∀ b kvs, H b = some (.dK kvs) → H' b = some (.dK kvs)) : StepsAt H' ds ss es R m :=
  ⟨k _ _ S.d, S.len, S.nd, S.ed, S.no, fun i e s h1 h2 => let ⟨kvs, h, r⟩ := S.at_ i e s h1 h2; ⟨kvs, k _ _ h, r⟩⟩
/-- an object of the class at C with these steps -/
def KindAt (H : Hp) (a C : Addr) (ss : List Str) (R : Str → Str → Bool) (m : Nat) : Prop := ∃ dx fs ds es, H a = some (.ins C dx fs) ∧ fs.lookup ("_steps" : Str) = some (.ref ds) ∧ fs.lookup ("allow" : Str) = none ∧ fs.lookup ("standings" : Str) = none ∧ fs.lookup ("steps_from" : Str) = none ∧ StepsAt H ds ss es R m
/-- nothing that isn't a dict has changed -/
def NoD (H H' : Hp) : Prop := ∀ b o, H b = some o → (∀ kvs, o ≠ .dK kvs) → H' b = some o
/-- what a class of kinds must have -/
structure KindC (K : PySem.W.Frag) (C fA fS fF : Addr) : Prop where
  cls : Cls K C
  nS : NoAttr K C "_steps"
  mA : Meth K C "allow" fA
  mS : Meth K C "standings" fS
  mF : Meth K C "steps_from" fF
end Yd
namespace Yd
open PySem L2
/-! ### the class Steps -/
def spStepsInit (K : PySem.W.Frag) (CR : Addr) : Sp := fun vs H Q E => ∃ (a C dx : Addr) (fs : List (Str × V)) (l : Addr) (ss : List Str), vs = [.ref a, .ref l] ∧ H a = some (.ins C dx fs) ∧ fs.length ≤ 900 ∧ Cls K C ∧ NoAttr K C "_steps" ∧
  SqL K H l (ss.map V.str) ∧ ss.length ≤ 1000 ∧ (∀ s ∈ ss, s.length ≤ 100) ∧
  (∀ (i : Nat) (s : Str), ss[i]? = some s → s ∈ ss.take i → (ss.take i).Nodup → ∀ d H', Gro a H H' → H d = none → H' d = some (.xd (fsRepeated [.str s])) → E (.ref CR) (some d) H') ∧
  (ss.Nodup → ∀ ds es H', H ds = none → (∀ e ∈ es, H e = none) → Gro a H H' → H' a = some (.ins C dx (putF "_steps" (.ref ds) fs)) → StepsAt H' ds ss es (fun _ _ => false) 0 → Q .non H')
section
variable {P : Program} {w : World} {K : PySem.W.Frag} {mg : Str → Option Value} {base : Heap}
theorem take_more {α : Type} {l : List α} {i : Nat} {x : α} (h : l[i]? = some x) : l.take (i + 1) = l.take i ++ [x] := by
  rw [List.take_add_one, h]
  rfl
theorem get_strs {ns : List Str} {i : Nat} {x : V} (h : (ns.map V.str)[i]? = some x) : ∃ z, ns[i]? = some z ∧ x = .str z := by
  rw [List.getElem?_map] at h
  cases e : ns[i]? with
  | none => rw [e] at h; cases h
  | some z => rw [e] at h; exact ⟨z, rfl, (Option.some.inj h).symm⟩
theorem scStepsInit : FnScope ["self", "standings", "standing"] ["self", "standings"] (defScope sStepsInit) := ⟨rfl, rfl, rfl, by decide +kernel, rfl, by decide +kernel, by decide +kernel⟩
theorem ok_stepsInit {f CR : Addr} {fd : FuncData} (F : Fun K "__init__" "Steps.__init__" sStepsInit f fd) (O : ErrOk P w K mg base "Repeated" CR 1 okRepeated fsRepeated) :
    FnOk P w K mg base (L2.CX P w) 3 f fd ["self", "standings"] (spStepsInit K CR) := by
  refine F.okX scStepsInit (fun vs H Q E h => ?_) (fun cdv A outer s H vs Q E hr h => ?_)
  · obtain ⟨a, C, dx, fs, l, ss, rfl, _⟩ := h
    rfl
  · obtain ⟨a, C, dx, fs, l, ss, rfl, ha, hfs, cls, nS, hl, hsl, hsh, kR, kN⟩ := h
    have hu := hu_of hr
    refine ⟨_, pss_cons (ps_fld (pv 0) pe_dnewK rfl)
      (pss_one (ps_for (passes_of rfl) rfl (pi_list (pv 1)) (pg_name (i := 2) scStepsInit.nd rfl (Or.inl rfl))
        (pss_cons (ps_if (pt_cmp (pc_din hu (pv 2) (pe_fld (pv 0) rfl))) (pss_one (ps_raise rfl (takes_of rfl rfl rfl rfl) (pmk_err O hr rfl (pa_cons (pv 2) pa_nil)))) pss_nil)
        (pss_one (ps_dput hu (pe_fld (pv 0) rfl) (pv 2) pe_dnewK rfl))))), ?_⟩
    -- self._steps = {}
    intro ds hds
    have nad : a ≠ ds := ne_of_none ha hds
    refine ⟨_, rfl, a, C, dx, fs, rfl, (by rw [upd_ne nad]; exact ha), cls, nS, by omega, ?_⟩
    generalize hH1 : upd (upd H ds (.dK [])) a (.ins C dx (putF "_steps" (.ref ds) fs)) = H1
    have g1 : Gro a H H1 := fun b o q n => by rw [← hH1, upd_ne n, upd_ne (ne_of_none q hds)]; exact q
    have e1 : H1 a = some (.ins C dx (putF "_steps" (.ref ds) fs)) := by rw [← hH1, upd_same]
    have d1 : H1 ds = some (.dK []) := by rw [← hH1, upd_ne nad.symm, upd_same]
    have hla : ∀ H' : Hp, Gro a H H' → SqL K H' l (ss.map V.str) := fun H' g => by
      rcases hl with (h | ⟨o, h⟩) | h
      · exact .inl (.inl (g _ _ h (ne_of h ha (by intro z; cases z))))
      · exact .inl (.inr ⟨o, g _ _ h (ne_of h ha (by intro z; cases z))⟩)
      · exact .inr h
    have lk : (putF "_steps" (.ref ds) fs).lookup ("_steps" : Str) = some (V.ref ds) := by rw [lookup_putF, if_pos rfl]
    refine ⟨_, rfl, l, rfl, ⟨_, hla _ g1⟩, for_list (K := K) (a := l) (xs := ss.map V.str)
      (fun i σ H' => ∃ (v : Option V) (es : List Addr), σ = [some (.ref a), some (.ref l), v] ∧ Gro a H H' ∧ H' a = some (.ins C dx (putF "_steps" (.ref ds) fs)) ∧ (∀ e ∈ es, H e = none) ∧ StepsAt H' ds (ss.take i) es (fun _ _ => false) 0)
      ⟨none, [], rfl, g1, e1, (fun e h => nomatch h), ⟨d1, rfl, List.nodup_nil, List.nodup_nil, (fun h => nomatch h), fun i e s h => by simp at h⟩⟩
      (fun i σ H' _ ⟨_, _, _, g, _⟩ => hla _ g) ?_ ?_⟩
    · rintro i y σ H' hi ⟨v, es, rfl, g, ea, hes, S⟩
      obtain ⟨z, hz, rfl⟩ := get_strs hi
      have hzl := hsh z (List.mem_of_getElem? hz)
      refine ⟨_, rfl, _, rfl, a, C, dx, _, _, rfl, ea, cls, nS, lk, ds, _, rfl, DGet.k (k := Sum.inr z) S.d, _, rfl, ?_⟩
      rw [dP_is S.nd S.len]
      refine ite2 (fun hm => ?_) (fun hm => ?_)
      · have hm := of_decide_eq_true hm
        refine ⟨_, rfl, err_read rfl (by decide) ⟨z, rfl, hzl⟩ fun d H2 s2 hd hx => ?_⟩
        exact kR i z hz hm S.nd d H2 (fun b o q n => s2 _ _ (g b o q n)) (by
          by_cases q : d = a
          · rw [q, ea] at hd; cases hd
          · exact g.free hd q) hx
      · have hm : z ∉ ss.take i := fun q => hm (decide_eq_true q)
        -- self._steps[standing] = {}
        intro e he
        have nea : a ≠ e := ne_of_none ea he
        have ned : ds ≠ e := ne_of_none S.d he
        refine ⟨_, rfl, a, C, dx, _, _, rfl, (by rw [upd_ne nea]; exact ea), cls, nS, lk, _, rfl, ds, _, rfl, DPut.k (k := Sum.inr z) (by rw [upd_ne ned]; exact S.d) (small1000 (by rw [dP_len S.len, List.length_take]; omega)), ?_⟩
        refine ⟨_, es ++ [e], rfl, fun b o q n => ?_, ?_, fun c hc => ?_, ?_⟩
        · have nb : b ≠ ds := by rintro rfl; rw [hds] at q; cases q
          rw [upd_ne nb, upd_ne (ne_of_none (g b o q n) he)]
          exact g b o q n
        · rw [upd_ne nad, upd_ne nea]; exact ea
        · rcases List.mem_append.mp hc with hc | hc
          · exact hes c hc
          · rw [List.mem_singleton.mp hc]
            exact g.free he nea.symm
        · have fresh : ∀ c ∈ es, c ≠ e := fun c hc => by
            obtain ⟨j, hj⟩ := List.mem_iff_getElem?.mp hc
            have hjl : j < (ss.take i).length := by rw [S.len]; exact (List.getElem?_eq_some_iff.mp hj).1
            obtain ⟨kvs, h, _⟩ := S.at_ j c _ hj (List.getElem?_eq_getElem hjl)
            exact ne_of_none h he
          refine ⟨?_, by rw [take_more hz, List.length_append, List.length_append, S.len]; rfl, ?_, ?_, ?_, ?_⟩
          · rw [upd_same, take_more hz, dP_snoc S.len, putK_new _ (dP_none hm)]
          · rw [take_more hz]; exact nd_snoc S.nd hm
          · exact nd_snoc S.ed fun m => fresh e m rfl
          · intro m
            rcases List.mem_append.mp m with m | m
            · exact S.no m
            · exact ned (List.mem_singleton.mp m)
          · intro j c q h1 h2
            by_cases hj : j < es.length
            · rw [List.getElem?_append_left hj] at h1
              have h2' : (ss.take i)[j]? = some q := by
                rw [take_more hz, List.getElem?_append_left (by rw [S.len]; exact hj)] at h2
                exact h2
              obtain ⟨kvs, h, r⟩ := S.at_ j c q h1 h2'
              have hc := List.mem_of_getElem? h1
              exact ⟨kvs, by rw [upd_ne (show c ≠ ds from fun q => S.no (by rw [← q]; exact hc)), upd_ne (fresh c hc)]; exact h, r⟩
            · rw [List.getElem?_append_right (by omega)] at h1
              have hj0 : j - es.length = 0 := by
                have := (List.getElem?_eq_some_iff.mp h1).1
                simp at this
                omega
              rw [hj0] at h1
              have hc : e = c := Option.some.inj h1
              subst hc
              exact ⟨[], by rw [upd_ne ned.symm, upd_same], by simp, fun t => rfl⟩
    · rintro σ H' ⟨v, es, rfl, g, ea, hes, S⟩
      rw [List.length_map, List.take_length] at S
      exact kN S.nd ds es H' hds hes g ea S
end
end Yd
namespace Yd
open PySem L2
def addR (R : Str → Str → Bool) (b c : Str) : Str → Str → Bool := fun s t => R s t || (decide (s = b) && decide (t = c))
def spStandings (K : PySem.W.Frag) : Sp := fun vs H Q _ => ∃ (a C fA fS fF : Addr) (ss : List Str) (R : Str → Str → Bool) (m : Nat), vs = [.ref a] ∧ KindC K C fA fS fF ∧ KindAt H a C ss R m ∧
  ∀ q, H q = none → Q (.ref q) (upd H q (.tup (ss.map V.str)))
def spAllow (K : PySem.W.Frag) (CU CN : Addr) : Sp := fun vs H Q E => ∃ (a C fA fS fF : Addr) (ss : List Str) (R : Str → Str → Bool) (m : Nat) (b c : Str), vs = [.ref a, .str b, .str c] ∧ KindC K C fA fS fF ∧ KindAt H a C ss R m ∧ m < 1000 ∧ b.length ≤ 100 ∧ c.length ≤ 100 ∧
  (b ∉ ss → Raised CU [.str b] fsUnknown H E) ∧ (b ∈ ss → c ∉ ss → Raised CU [.str c] fsUnknown H E) ∧ (b ∈ ss → c ∈ ss → b = c → Raised CN [.str b, .str c] fsNoStep H E) ∧
  (b ∈ ss → c ∈ ss → b ≠ c → ∀ H', NoD H H' → KindAt H' a C ss (addR R b c) (m + 1) → Q .non H')
def spStepsFrom (K : PySem.W.Frag) (CU : Addr) : Sp := fun vs H Q E => ∃ (a C fA fS fF : Addr) (ss : List Str) (R : Str → Str → Bool) (m : Nat) (b : Str), vs = [.ref a, .str b] ∧ KindC K C fA fS fF ∧ KindAt H a C ss R m ∧ ss.length ≤ 1000 ∧ b.length ≤ 100 ∧
  (b ∉ ss → Raised CU [.str b] fsUnknown H E) ∧ (b ∈ ss → ∀ q H', Same H H' → H' q = some (.tup ((ss.filter (R b)).map V.str)) → Q (.ref q) H')
theorem Raised.of {C : Addr} {us : List V} {fs : List V → List (Str × V)} {H H1 : Hp} {E : XK} (h : Raised C us fs H E) (s : Same H H1) : Raised C us fs H1 E := fun d H' s' n x => h d H' (s.trans s') (s.free n) x
section
variable {P : Program} {w : World} {K : PySem.W.Frag} {mg : Str → Option Value} {base : Heap}
theorem scStandings : FnScope ["self"] ["self"] (defScope sStepsStandings) := ⟨rfl, rfl, rfl, by decide +kernel, rfl, by decide +kernel, by decide +kernel⟩
theorem ok_standings {f : Addr} {fd : FuncData} (F : Fun K "standings" "Steps.standings" sStepsStandings f fd) (hT : mg "tuple" = none) : FnOk P w K mg base CX0 1 f fd ["self"] (spStandings K) := by
  refine F.ok scStandings (fun vs H Q E h => ?_) (fun cdv A outer s H vs Q E hr h => ?_)
  · obtain ⟨a, C, fA, fS, fF, ss, R, m, rfl, _⟩ := h
    rfl
  · obtain ⟨a, C, fA, fS, fF, ss, R, m, rfl, kc, ⟨dx, fs, ds, es, ha, l1, l2, l3, l4, S⟩, k⟩ := h
    refine ⟨_, pss_one (ps_ret (pe_callTy (call_tupleD rfl) (by rfl) hT (by decide +kernel) (pa_cons (pe_fld (pv 0) rfl) pa_nil))), ?_⟩
    refine ⟨_, rfl, a, C, dx, fs, _, rfl, ha, kc.cls, kc.nS, l1, ds, _, rfl, .of S.d, fun q hq => ?_⟩
    rw [dP_keys S.len]
    exact k q hq
theorem scAllow : FnScope ["self", "before", "after", "standing"] ["self", "before", "after"] (defScope sStepsAllow) := ⟨rfl, rfl, rfl, by decide +kernel, rfl, by decide +kernel, by decide +kernel⟩
theorem ok_allow {f CU CN : Addr} {fd : FuncData} (F : Fun K "allow" "Steps.allow" sStepsAllow f fd) (OU : ErrOk P w K mg base "Unknown" CU 1 okUnknown fsUnknown) (ON : ErrOk P w K mg base "NoStep" CN 2 okNoStep fsNoStep) :
    FnOk P w K mg base (L2.CX P w) 3 f fd ["self", "before", "after"] (spAllow K CU CN) := by
  refine F.okX scAllow (fun vs H Q E h => ?_) (fun cdv A outer s H vs Q E hr h => ?_)
  · obtain ⟨a, C, fA, fS, fF, ss, R, m, b, c, rfl, _⟩ := h
    rfl
  · obtain ⟨a, C, fA, fS, fF, ss, R, m, b, c, rfl, kc, ⟨dx, fs, ds, es, ha, l1, l2, l3, l4, S⟩, hm, hb, hc, k1, k2, k3, k4⟩ := h
    have hu := hu_of hr
    refine ⟨_, pss_cons (ps_for (passes_of rfl) rfl (pi_tup (pe_tup (pa_cons (pv 1) (pa_cons (pv 2) pa_nil)))) (pg_name (i := 3) scAllow.nd rfl (Or.inl rfl))
        (pss_one (ps_if (pt_cmp (pc_dnotin hu (pv 3) (pe_fld (pv 0) rfl))) (pss_one (ps_raise rfl (takes_of rfl rfl rfl rfl) (pmk_err OU hr rfl (pa_cons (pv 3) pa_nil)))) pss_nil)))
      (pss_cons (ps_if (pt_cmpR op_eq (pv 1) (pv 2) (nomark _)) (pss_one (ps_raise rfl (takes_of rfl rfl rfl rfl) (pmk_err ON hr rfl (pa_cons (pv 1) (pa_cons (pv 2) pa_nil))))) pss_nil)
      (pss_one (ps_dput hu (pe_dget hu (pe_fld (pv 0) rfl) (pv 1) (fun _ _ => rfl)) (pv 2) pe_bl rfl))), ?_⟩
    -- for standing in (before, after)
    refine ⟨_, rfl, _, rfl, (by show 2 ≤ sizeLine; decide), fun t ht => ?_⟩
    have st : Same H (upd H t (.tup [.str b, .str c])) := fun q o e => by rw [upd_ne (ne_of_none e ht)]; exact e
    have et : upd H t (.tup [.str b, .str c]) t = some (.tup [.str b, .str c]) := upd_same
    generalize upd H t (.tup [.str b, .str c]) = H1 at st et
    refine ⟨t, rfl, ⟨_, SqT.of et⟩, for_tup (K := K) (a := t) (xs := [.str b, .str c]) (fun i σ H' => H' = H1 ∧ (∃ v : Option V, σ = [some (.ref a), some (.str b), some (.str c), v]) ∧ (0 < i → b ∈ ss) ∧ (1 < i → b ∈ ss ∧ c ∈ ss))
      ⟨rfl, ⟨none, rfl⟩, fun h => absurd h (by omega), fun h => absurd h (by omega)⟩ (fun i σ H' _ ⟨e, _⟩ => by rw [e]; exact SqT.of et) ?_ ?_⟩
    · rintro i y σ H' hi ⟨rfl, ⟨v, rfl⟩, h0, h1⟩
      have S1 := S.keep fun q kvs e => st q _ e
      obtain ⟨z, rfl, hr1, hn, hz⟩ : ∃ z : Str, y = .str z ∧ (z ∉ ss → Raised CU [.str z] fsUnknown H E) ∧ (z ∈ ss → (0 < i + 1 → b ∈ ss) ∧ (1 < i + 1 → b ∈ ss ∧ c ∈ ss)) ∧ z.length ≤ 100 := by
        match i, hi with
        | 0, hi => exact ⟨b, (Option.some.inj hi).symm, k1, fun m => ⟨fun _ => m, fun q => absurd q (by omega)⟩, hb⟩
        | 1, hi => exact ⟨c, (Option.some.inj hi).symm, k2 (h0 (by omega)), fun m => ⟨fun _ => h0 (by omega), fun _ => ⟨h0 (by omega), m⟩⟩, hc⟩
        | i + 2, hi => simp at hi
      refine ⟨_, rfl, _, rfl, a, C, dx, fs, _, rfl, st _ _ ha, kc.cls, kc.nS, l1, ds, _, rfl, DGet.k (k := Sum.inr z) S1.d, _, rfl, ?_⟩
      rw [dP_is S1.nd S1.len]
      by_cases hz1 : z ∈ ss
      · rw [decide_eq_true hz1]
        exact no rfl ⟨rfl, ⟨_, rfl⟩, hn hz1⟩
      · rw [decide_eq_false hz1]
        exact yes rfl ⟨_, rfl, err_read rfl (by decide) ⟨z, rfl, hz⟩ ((hr1 hz1).of st)⟩
    · rintro σ H' ⟨rfl, ⟨v, rfl⟩, _, h2⟩
      obtain ⟨mb, mc⟩ := h2 (by show 1 < 2; omega)
      have S1 := S.keep fun q kvs e => st q _ e
      refine ⟨_, rfl, _, rfl, rfl, _, rfl, ?_⟩
      by_cases hbc : b = c
      · refine yes (decide_eq_true (by rw [hbc])) ⟨_, rfl, _, rfl, err_read rfl (by decide) ⟨⟨b, rfl, hb⟩, ⟨c, rfl, hc⟩⟩ ((k3 mb mc hbc).of st)⟩
      · refine no (decide_eq_false fun q => hbc (by injection q)) ?_
        obtain ⟨i, hi⟩ := List.mem_iff_getElem?.mp mb
        have hil : i < es.length := by rw [← S.len]; exact (List.getElem?_eq_some_iff.mp hi).1
        obtain ⟨e, he⟩ : ∃ e, es[i]? = some e := ⟨_, List.getElem?_eq_getElem hil⟩
        obtain ⟨kvs, hk, hkl, hkr⟩ := S1.at_ i e b he hi
        have nde : ds ≠ e := fun q => S.no (by rw [q]; exact List.mem_of_getElem? he)
        refine ⟨_, rfl, a, C, dx, fs, _, rfl, st _ _ ha, kc.cls, kc.nS, l1, _, rfl, ds, .ref e, rfl, ?_, _, rfl, e, _, rfl, DPut.k (k := Sum.inr c) hk (small1000 (by omega)), ?_⟩
        · have q := DGet.k (k := Sum.inr b) S1.d
          rw [dP_some S1.nd hi he] at q
          exact q
        · refine k4 mb mc hbc _ (fun q o h1 h2 => ?_) ⟨dx, fs, ds, es, ?_, l1, l2, l3, l4, ?_⟩
          · have nq : q ≠ e := by
              rintro rfl
              have z := st _ _ h1
              rw [hk] at z
              exact h2 kvs (Option.some.inj z).symm
            rw [upd_ne nq]
            exact st _ _ h1
          · rw [upd_ne (ne_of (st _ _ ha) hk (by intro z; cases z))]
            exact st _ _ ha
          · refine ⟨by rw [upd_ne nde]; exact S1.d, S1.len, S1.nd, S1.ed, S1.no, fun j c' s' q1 q2 => ?_⟩
            by_cases hj : j = i
            · subst hj
              have e1 : c' = e := Option.some.inj (q1.symm.trans he)
              have e2 : s' = b := Option.some.inj (q2.symm.trans hi)
              subst e1 e2
              refine ⟨_, upd_same, Nat.le_trans (length_putK _ _ _) (by omega), fun t' => ?_⟩
              rw [valV_put]
              show _ = (R s' t' || (decide (s' = s') && decide (t' = c)))
              by_cases ht : t' = c
              · subst ht
                rw [if_pos rfl]
                simp
              · have nk : ¬ (Sum.inr t' : Key) = Sum.inr c := fun z => ht (by injection z)
                rw [if_neg nk, hkr t', decide_eq_false ht]
                simp
            · have nc : c' ≠ e := fun q => hj (nd_ix S1.ed q1 (by rw [q]; exact he))
              have ns : s' ≠ b := fun q => hj (nd_ix S1.nd q2 (by rw [q]; exact hi))
              obtain ⟨kv2, g1, g2, g3⟩ := S1.at_ j c' s' q1 q2
              refine ⟨kv2, by rw [upd_ne nc]; exact g1, by omega, fun t' => ?_⟩
              rw [g3 t']
              show R s' t' = (R s' t' || (decide (s' = b) && decide (t' = c)))
              rw [decide_eq_false ns]
              simp
end
end Yd
namespace Yd
open PySem L2
/-! ### a comprehension over a locked dict's keys -/
theorem lc_keys {d : Addr} {o : Obj} {kvs : List (Key × V)} {g : TG} {tt : TT} {te : TE} {vs : List Nat} {σ : St} {H1 : Hp} {D : Addr} {Qd : Hp → Prop} (Pv : Nat → Hp → Prop) (h0 : Pv 0 (upd H1 D (.lst []))) (hl : ∀ i H, i ≤ kvs.length → Pv i H → H d = some (.frz o (.dK kvs)))
    (hs : ∀ i k v H, kvs[i]? = some (k, v) → Pv i H → g (kV k) (wipe σ vs) H fun σ2 H2 => wipe σ2 vs = wipe σ vs ∧ tt σ2 H2 fun b H3 =>
      if b = true then te σ2 H3 fun y H4 => ∃ acc, H4 D = some (.lst acc) ∧ acc.length < sizeLine ∧ Pv (i + 1) (upd H4 D (.lst (acc ++ [y]))) else Pv (i + 1) H3) (hd : ∀ H, Pv kvs.length H → Qd H) :
    ∃ W : Nat → Nat → Hp → Prop, (∃ m, W 0 m (upd H1 D (.lst []))) ∧ ∀ i m H, W i m H →
      ((Itk d o kvs).stop i H ∧ Qd H) ∨ ((Itk d o kvs).go i H ∧ ∃ Nx : Hp → Prop, (∀ H', Nx H' → ∃ m', m' < m ∧ W (i + 1) m' H') ∧ ∀ x H', (Itk d o kvs).yld i H x H' → g x (wipe σ vs) H' fun σ2 H2 => wipe σ2 vs = wipe σ vs ∧ tt σ2 H2 fun b H3 =>
        if b = true then te σ2 H3 fun y H4 => ∃ acc, H4 D = some (.lst acc) ∧ acc.length < sizeLine ∧ Nx (upd H4 D (.lst (acc ++ [y]))) else Nx H3) := by
  refine ⟨fun i m H => m = kvs.length - i ∧ i ≤ kvs.length ∧ Pv i H, ⟨_, rfl, Nat.zero_le _, h0⟩, fun i m H ⟨em, hi, p⟩ => ?_⟩
  subst em
  have hf := hl i H hi p
  by_cases hlt : i < kvs.length
  · refine .inr ⟨⟨hf, hlt⟩, Pv (i + 1), fun H' p' => ⟨kvs.length - (i + 1), by omega, rfl, hlt, p'⟩, ?_⟩
    rintro x H' ⟨rfl, k, v, hkv, rfl⟩
    exact hs i k v _ hkv p
  · have e : i = kvs.length := by omega
    subst e
    exact .inl ⟨⟨hf, Nat.le_refl _⟩, hd H p⟩
section
variable {P : Program} {w : World} {K : PySem.W.Frag} {mg : Str → Option Value} {base : Heap}
def nStepsFrom : List Str := ["self", "standing", "after"]
theorem scStepsFrom : FnScope nStepsFrom ["self", "standing"] (defScope sStepsStepsFrom) := ⟨rfl, rfl, rfl, by decide +kernel, rfl, by decide +kernel, by decide +kernel⟩
theorem filter_more {l : List Str} {i : Nat} {x : Str} {p : Str → Bool} (h : l[i]? = some x) : (l.take (i + 1)).filter p = (l.take i).filter p ++ (if p x = true then [x] else []) := by
  rw [take_more h, List.filter_append]
  congr 1
  by_cases q : p x = true
  · rw [if_pos q, List.filter_cons, if_pos q]; rfl
  · rw [if_neg q, List.filter_cons, if_neg q]; rfl
theorem ok_stepsFrom {f CU : Addr} {fd : FuncData} (F : Fun K "steps_from" "Steps.steps_from" sStepsStepsFrom f fd) (OU : ErrOk P w K mg base "Unknown" CU 1 okUnknown fsUnknown) (hT : mg "tuple" = none) :
    FnOk P w K mg base (L2.CX P w) 3 f fd ["self", "standing"] (spStepsFrom K CU) := by
  refine F.okX scStepsFrom (fun vs H Q E h => ?_) (fun cdv A outer s H vs Q E hr h => ?_)
  · obtain ⟨a, C, fA, fS, fF, ss, R, m, b, rfl, _⟩ := h
    rfl
  · obtain ⟨a, C, fA, fS, fF, ss, R, m, b, rfl, kc, ⟨dx, fs, ds, es, ha, l1, l2, l3, l4, S⟩, hsl, hb, k1, k2⟩ := h
    have hu := hu_of hr
    refine ⟨_, pss_cons (ps_if (pt_cmp (pc_dnotin hu (pv 1) (pe_fld (pv 0) rfl))) (pss_one (ps_raise rfl (takes_of rfl rfl rfl rfl) (pmk_err OU hr rfl (pa_cons (pv 1) pa_nil)))) pss_nil)
      (pss_one (ps_ret (pe_callTy call_tuple_of (by rfl) hT (by decide +kernel) (pa_cons (pe_lock (pe_lc (own := [("after", 2)]) (g := gName 2) (tt := tB (tDIn (tVar 2) (tDGet (tFld K (tVar 0) "_steps") (tVar 1)))) rfl scStepsFrom.nd (pi_keys (pe_fld (pv 0) rfl))
        (blkOk_by (N := nStepsFrom) (sc := defScope sStepsStepsFrom) (by decide +kernel)) (fun _ _ _ _ _ => pg_name (i := 2) scStepsFrom.nd rfl (Or.inl rfl))
        (fun _ _ _ _ _ => pts_one (pt_cmp (pc_din hu (pv 2) (pe_dget hu (pe_fld (pv 0) rfl) (pv 1) (fun _ _ => rfl))))) (fun _ _ _ _ _ => pv 2))) pa_nil)))), ?_⟩
    refine ⟨_, rfl, _, rfl, a, C, dx, fs, _, rfl, ha, kc.cls, kc.nS, l1, ds, _, rfl, DGet.k (k := Sum.inr b) S.d, _, rfl, ?_⟩
    rw [dP_is S.nd S.len]
    by_cases hbs : b ∈ ss
    · rw [decide_eq_true hbs]
      refine no rfl ?_
      obtain ⟨i, hi⟩ := List.mem_iff_getElem?.mp hbs
      have hil : i < es.length := by rw [← S.len]; exact (List.getElem?_eq_some_iff.mp hi).1
      obtain ⟨e, he⟩ : ∃ e, es[i]? = some e := ⟨_, List.getElem?_eq_getElem hil⟩
      obtain ⟨kvs, hk, hkl, hkr⟩ := S.at_ i e b he hi
      have nde : ds ≠ e := fun q => S.no (by rw [q]; exact List.mem_of_getElem? he)
      have nad : a ≠ ds := ne_of ha S.d (by intro z; cases z)
      refine ⟨ds, _, S.d, True.intro, fun od => ?_⟩
      refine ⟨_, rfl, a, C, dx, fs, _, rfl, (by rw [upd_ne nad]; exact ha), kc.cls, kc.nS, l1, ds, od, rfl, .inl ⟨_, upd_same, fun D hD => ?_⟩⟩
      have nDs : ds ≠ D := fun q => by rw [← q, upd_same] at hD; cases hD
      have hD0 : H D = none := by rw [upd_ne nDs.symm] at hD; exact hD
      -- what the comprehension keeps
      refine lc_keys (fun j H' => (∀ q o, H q = some o → q ≠ ds → H' q = some o) ∧ H' ds = some (.frz od (.dK (dP ss es))) ∧ H' D = some (.lst (((ss.take j).filter (R b)).map V.str)))
        ⟨fun q o h1 h2 => by rw [upd_ne (ne_of_none h1 hD0), upd_ne h2]; exact h1, by rw [upd_ne nDs, upd_same], upd_same⟩ (fun j H' _ h => h.2.1) ?_ ?_
      · rintro j k v H' hkv ⟨s1, s2, s3⟩
        obtain ⟨z, ez, hz, _, rfl, rfl⟩ := dP_key S.len hkv
        have dg : DGet H' ds (.str b) (some (.ref e)) := .inl ⟨_, Sum.inr b, .inr ⟨od, s2⟩, rfl, (dP_some S.nd hi he).symm⟩
        refine ⟨rfl, _, rfl, _, rfl, a, C, dx, fs, _, rfl, s1 _ _ ha nad, kc.cls, kc.nS, l1, _, rfl, ds, _, rfl, dg, e, _, rfl, DGet.k (k := Sum.inr z) (s1 _ _ hk nde.symm), _, rfl, ?_⟩
        rw [hkr z]
        by_cases hR : R b z = true
        · refine yes hR ⟨_, rfl, _, s3, ?_, fun q o h1 h2 => ?_, by rw [upd_ne nDs]; exact s2, ?_⟩
          · refine small1000 (Nat.le_trans ?_ hsl)
            rw [List.length_map]
            exact Nat.le_trans (List.length_filter_le _ _) (by rw [List.length_take]; omega)
          · rw [upd_ne (ne_of_none h1 hD0)]; exact s1 q o h1 h2
          · rw [upd_same, filter_more hz, if_pos hR, List.map_append]
            rfl
        · have hR' : R b z = false := by simpa using hR
          refine no hR' ⟨s1, s2, ?_⟩
          rw [filter_more hz, if_neg hR, List.append_nil]
          exact s3
      · rintro H' ⟨s1, s2, s3⟩
        rw [dP_len S.len, List.take_length] at s3
        refine ⟨s2, D, _, rfl, .inl ⟨SqL.of (by rw [upd_ne nDs.symm]; exact s3), fun q hq => ?_⟩⟩
        refine k2 hbs q _ (fun p o h1 => ?_) upd_same
        have hpq : p ≠ q := by
          rintro rfl
          by_cases hp : p = ds
          · rw [hp, upd_same] at hq; cases hq
          · rw [upd_ne hp, s1 p o h1 hp] at hq; cases hq
        rw [upd_ne hpq]
        by_cases hp : p = ds
        · subst hp
          rw [upd_same, ← h1, S.d]
        · rw [upd_ne hp]
          exact s1 p o h1 hp
    · rw [decide_eq_false hbs]
      exact yes rfl ⟨_, rfl, err_read rfl (by decide) ⟨b, rfl, hb⟩ (k1 hbs)⟩
end
end Yd
namespace Yd
open PySem L2
/-! ### a dict comprehension over a list -/
theorem dc_list {K : PySem.W.Frag} {a : Addr} {xs : List V} {g : TG} {tt : TT} {tk tv : TE} {vs : List Nat} {σ : St} {H1 : Hp} {D : Addr} {Qd : Hp → Prop} (Pv : Nat → Hp → Prop) (h0 : Pv 0 (upd H1 D (.dK []))) (hl : ∀ i H, i ≤ xs.length → Pv i H → SqL K H a xs)
    (hs : ∀ i x H, xs[i]? = some x → Pv i H → g x (wipe σ vs) H fun σ2 H2 => wipe σ2 vs = wipe σ vs ∧ tt σ2 H2 fun b H3 =>
      if b = true then tk σ2 H3 fun y H4 => tv σ2 H4 fun z H5 => ∃ kvs k, y = kV k ∧ H5 D = some (.dK kvs) ∧ kvs.length < sizeLine ∧ Pv (i + 1) (upd H5 D (.dK (putK kvs k z))) else Pv (i + 1) H3) (hd : ∀ H, Pv xs.length H → Qd H) :
    ∃ W : Nat → Nat → Hp → Prop, (∃ m, W 0 m (upd H1 D (.dK []))) ∧ ∀ i m H, W i m H →
      ((Itl K a).stop i H ∧ Qd H) ∨ ((Itl K a).go i H ∧ ∃ Nx : Hp → Prop, (∀ H', Nx H' → ∃ m', m' < m ∧ W (i + 1) m' H') ∧ ∀ x H', (Itl K a).yld i H x H' → g x (wipe σ vs) H' fun σ2 H2 => wipe σ2 vs = wipe σ vs ∧ tt σ2 H2 fun b H3 =>
        if b = true then tk σ2 H3 fun y H4 => tv σ2 H4 fun z H5 => ∃ kvs k, y = kV k ∧ H5 D = some (.dK kvs) ∧ kvs.length < sizeLine ∧ Nx (upd H5 D (.dK (putK kvs k z))) else Nx H3) := by
  refine ⟨fun i m H => m = xs.length - i ∧ i ≤ xs.length ∧ Pv i H, ⟨_, rfl, Nat.zero_le _, h0⟩, fun i m H ⟨em, hi, p⟩ => ?_⟩
  subst em
  have q := hl i H hi p
  by_cases hlt : i < xs.length
  · refine .inr ⟨⟨xs, xs[i], q, by simp [hlt]⟩, Pv (i + 1), fun H' p' => ⟨xs.length - (i + 1), by omega, rfl, hlt, p'⟩, fun x H' y => ?_⟩
    obtain ⟨e, y⟩ := y
    subst e
    exact hs i x _ (y xs q) p
  · have e : i = xs.length := by omega
    subst e
    exact .inl ⟨⟨xs, q, by simp⟩, hd H p⟩
/-! ### the class Doors: its dict of doors -/
/-- at dd the dict of the doors of the standings ss: at ts the pairs, ng what they need and give -/
structure DoorsAt (H : Hp) (dd : Addr) (ss : List Str) (ts : List Addr) (ng : List (List Str × List Str)) : Prop where
  d : H dd = some (.dK (dP ss ts))
  len : ss.length = ts.length
  nd : ss.Nodup
  ln : ng.length = ss.length
  at_ : ∀ (i : Nat) (t : Addr) (p : List Str × List Str), ts[i]? = some t → ng[i]? = some p → ∃ n g, H t = some (.tup [.ref n, .ref g]) ∧ H n = some (.tup (p.1.map V.str)) ∧ H g = some (.tup (p.2.map V.str))
def spDoorsInit (K : PySem.W.Frag) : Sp := fun vs H Q _ => ∃ (a C dx : Addr) (fs : List (Str × V)) (l : Addr) (ss : List Str), vs = [.ref a, .ref l] ∧ H a = some (.ins C dx fs) ∧ fs.length ≤ 900 ∧ Cls K C ∧ NoAttr K C "_doors" ∧
  SqL K H l (ss.map V.str) ∧ ss.length ≤ 1000 ∧ ss.Nodup ∧
  (∀ dd ts H', H dd = none → Gro a H H' → H' a = some (.ins C dx (putF "_doors" (.ref dd) fs)) → DoorsAt H' dd ss ts (ss.map fun _ => ([], [])) → Q .non H')
section
variable {P : Program} {w : World} {K : PySem.W.Frag} {mg : Str → Option Value} {base : Heap}
def nDoorsInit : List Str := ["self", "standings", "standing"]
theorem scDoorsInit : FnScope nDoorsInit ["self", "standings"] (defScope sDoorsInit) := ⟨rfl, rfl, rfl, by decide +kernel, rfl, by decide +kernel, by decide +kernel⟩
theorem ok_doorsInit {f : Addr} {fd : FuncData} (F : Fun K "__init__" "Doors.__init__" sDoorsInit f fd) : FnOk P w K mg base CX0 1 f fd ["self", "standings"] (spDoorsInit K) := by
  refine F.ok scDoorsInit (fun vs H Q E h => ?_) (fun cdv A outer s H vs Q E hr h => ?_)
  · obtain ⟨a, C, dx, fs, l, ss, rfl, _⟩ := h
    rfl
  · obtain ⟨a, C, dx, fs, l, ss, rfl, ha, hfs, cls, nD, hl, hsl, hnd, k⟩ := h
    refine ⟨_, pss_one (ps_fld (pv 0) (pe_dc (own := [("standing", 2)]) (g := gName 2) (tt := tYes) rfl scDoorsInit.nd (pi_list (pv 1)) (blkOk_by (N := nDoorsInit) (sc := defScope sDoorsInit) (by decide +kernel))
      (fun _ _ _ _ _ => pg_name (i := 2) scDoorsInit.nd rfl (Or.inl rfl)) (fun _ _ _ _ _ => pts_nil) (fun _ _ _ _ _ => pv 2) (fun _ _ _ _ _ => pe_tup (pa_cons (pe_tup pa_nil) (pa_cons (pe_tup pa_nil) pa_nil)))) rfl), ?_⟩
    refine ⟨_, rfl, l, rfl, ⟨_, hl⟩, fun D hD => ?_⟩
    have naD : a ≠ D := ne_of_none ha hD
    have grow : ∀ H' : Hp, Same H H' → SqL K H' l (ss.map V.str) := fun H' g => g.seq hl
    refine dc_list (K := K) (a := l) (xs := ss.map V.str) (fun i H' => Same H H' ∧ ∃ ts : List Addr, DoorsAt H' D (ss.take i) ts ((ss.take i).map fun _ => ([], [])))
      ⟨fun b o q => by rw [upd_ne (ne_of_none q hD)]; exact q, [], ⟨by rw [upd_same]; rfl, rfl, List.nodup_nil, rfl, fun i t p h => by simp at h⟩⟩ (fun i H' _ h => grow H' h.1) ?_ ?_
    · rintro i x H' hi ⟨s5, ts, S⟩
      obtain ⟨z, hz, rfl⟩ := get_strs hi
      have hm : z ∉ ss.take i := fun q => by
        obtain ⟨j, hj⟩ := List.mem_iff_getElem?.mp q
        have hji : j < i := by
          have := (List.getElem?_eq_some_iff.mp hj).1
          rw [List.length_take] at this
          omega
        rw [List.getElem?_take_of_lt hji] at hj
        exact absurd (nd_ix hnd hj hz) (by omega)
      refine ⟨rfl, _, rfl, (by show 0 ≤ sizeLine; omega), fun n hn => ⟨(by show 0 ≤ sizeLine; omega), fun g hg => ⟨(by show 2 ≤ sizeLine; decide), fun t ht => ?_⟩⟩⟩
      have n1 : D ≠ n := ne_of_none S.d hn
      have n2 : D ≠ g := ne_of_none (by rw [upd_ne n1]; exact S.d) hg
      have n3 : D ≠ t := ne_of_none (by rw [upd_ne n2, upd_ne n1]; exact S.d) ht
      have n4 : n ≠ g := ne_of_none upd_same hg
      have n5 : n ≠ t := ne_of_none (by rw [upd_ne n4, upd_same]) ht
      have n6 : g ≠ t := ne_of_none upd_same ht
      have old : ∀ b o, H' b = some o → b ≠ n ∧ b ≠ g ∧ b ≠ t := fun b o q => by
        have m1 := ne_of_none q hn
        have m2 : b ≠ g := ne_of_none (by rw [upd_ne m1]; exact q) hg
        exact ⟨m1, m2, ne_of_none (by rw [upd_ne m2, upd_ne m1]; exact q) ht⟩
      refine ⟨dP (ss.take i) ts, Sum.inr z, rfl, by rw [upd_ne n3, upd_ne n2, upd_ne n1]; exact S.d, small1000 (by rw [dP_len S.len, List.length_take]; omega), ?_⟩
      refine ⟨fun b o q => ?_, ts ++ [t], ⟨?_, by rw [take_more hz, List.length_append, List.length_append, S.len]; rfl, by rw [take_more hz]; exact nd_snoc S.nd hm, by rw [List.length_map], fun j c p h1 h2 => ?_⟩⟩
      · have q5 := s5 b o q
        obtain ⟨m1, m2, m3⟩ := old b o q5
        rw [upd_ne (ne_of_none q hD), upd_ne m3, upd_ne m2, upd_ne m1]
        exact q5
      · rw [upd_same, take_more hz, dP_snoc S.len, putK_new _ (dP_none hm)]
      · by_cases hj : j < ts.length
        · rw [List.getElem?_append_left hj] at h1
          have h2' : ((ss.take i).map fun _ => (([], []) : List Str × List Str))[j]? = some p := by
            rw [take_more hz, List.map_append, List.getElem?_append_left (by rw [List.length_map, S.len]; exact hj)] at h2
            exact h2
          obtain ⟨n', g', q1, q2, q3⟩ := S.at_ j c p h1 h2'
          have up : ∀ b o, H' b = some o → b ≠ D → upd (upd (upd (upd H' n (.tup [])) g (.tup [])) t (.tup [.ref n, .ref g])) D (.dK (putK (dP (ss.take i) ts) (Sum.inr z) (.ref t))) b = some o := fun b o q nb => by
            obtain ⟨m1, m2, m3⟩ := old b o q
            rw [upd_ne nb, upd_ne m3, upd_ne m2, upd_ne m1]
            exact q
          exact ⟨n', g', up _ _ q1 (ne_of q1 S.d (by intro z; cases z)), up _ _ q2 (ne_of q2 S.d (by intro z; cases z)), up _ _ q3 (ne_of q3 S.d (by intro z; cases z))⟩
        · rw [List.getElem?_append_right (by omega)] at h1
          have hj0 : j - ts.length = 0 := by
            have := (List.getElem?_eq_some_iff.mp h1).1
            simp at this
            omega
          rw [hj0] at h1
          have hc : t = c := Option.some.inj h1
          subst hc
          have hp : p = ([], []) := by
            obtain ⟨u, hu, e⟩ := List.mem_map.mp (List.mem_of_getElem? h2)
            exact e.symm
          subst hp
          exact ⟨n, g, by rw [upd_ne n3.symm, upd_same], by rw [upd_ne n1.symm, upd_ne n5, upd_ne n4, upd_same]; rfl, by rw [upd_ne n2.symm, upd_ne n6, upd_same]; rfl⟩
    · rintro H' ⟨s5, ts, S⟩
      rw [List.length_map, List.take_length] at S
      refine ⟨_, rfl, a, C, dx, fs, rfl, s5 _ _ ha, cls, nD, by omega, ?_⟩
      refine k D ts _ hD (fun b o q n => by rw [upd_ne n]; exact s5 b o q) upd_same ⟨by rw [upd_ne naD.symm]; exact S.d, S.len, S.nd, S.ln, fun i t p h1 h2 => ?_⟩
      obtain ⟨n, g, q1, q2, q3⟩ := S.at_ i t p h1 h2
      have na : ∀ b xs, H' b = some (.tup xs) → b ≠ a := fun b xs q => ne_of q (s5 _ _ ha) (by intro z; cases z)
      exact ⟨n, g, by rw [upd_ne (na _ _ q1)]; exact q1, by rw [upd_ne (na _ _ q2)]; exact q2, by rw [upd_ne (na _ _ q3)]; exact q3⟩
end
end Yd
namespace Yd
open PySem L2
/-! ### Part, Single, Many: how they are made -/
/-- the def m of the class named x, read off that class -/
structure ClsFn (K : PySem.W.Frag) (mg : Str → Option Value) (x : Str) (C : Addr) (m : Str) (f : Addr) : Prop where
  g : mg x = some (.ref C)
  r : ∃ mc, ClX.CRead K C mc ∧ PySem.W.findCls K (.ref C) mc m = some (.val (.ref f))
/-- a part's attributes -/
def fsPart (nm : Str) (ds dd : Addr) : List (Str × V) := putF "name" (.str nm) (putF "_doors" (.ref dd) (putF "_steps" (.ref ds) []))
structure PartC (K : PySem.W.Frag) (C : Addr) : Prop where
  cls : Cls K C
  nS : NoAttr K C "_steps"
  nD : NoAttr K C "_doors"
  nN : NoAttr K C "name"
def spPartInit (K : PySem.W.Frag) (CR : Addr) : Sp := fun vs H Q E => ∃ (a C dx : Addr) (nm : Str) (l : Addr) (ss : List Str), vs = [.ref a, .str nm, .ref l] ∧ H a = some (.ins C dx []) ∧ PartC K C ∧
  SqL K H l (ss.map V.str) ∧ ss.length ≤ 1000 ∧ (∀ s ∈ ss, s.length ≤ 100) ∧
  (∀ (i : Nat) (s : Str), ss[i]? = some s → s ∈ ss.take i → (ss.take i).Nodup → ∀ d H', Gro a H H' → H d = none → H' d = some (.xd (fsRepeated [.str s])) → E (.ref CR) (some d) H') ∧
  (ss.Nodup → ∀ ds es dd ts H', Gro a H H' → H' a = some (.ins C dx (fsPart nm ds dd)) → StepsAt H' ds ss es (fun _ _ => false) 0 → DoorsAt H' dd ss ts (ss.map fun _ => ([], [])) → Q .non H')
theorem nodup_take {ss : List Str} (h : ¬ ∃ (i : Nat) (s : Str), ss[i]? = some s ∧ s ∈ ss.take i ∧ (ss.take i).Nodup) : ss.Nodup := by
  have all : ∀ i, i ≤ ss.length → (ss.take i).Nodup := by
    intro i
    induction i with
    | zero => intro _; exact List.nodup_nil
    | succ i ih =>
      intro hi
      have e : ss[i]? = some ss[i] := List.getElem?_eq_getElem (by omega)
      rw [take_more e]
      exact nd_snoc (ih (by omega)) fun m => h ⟨i, _, e, m, ih (by omega)⟩
  have q := all ss.length (Nat.le_refl _)
  rwa [List.take_length] at q
/-- a def that hands on the call of another one: its own end is None -/
theorem part_non {K : PySem.W.Frag} {CR : Addr} {vs : List V} {H : Hp} {Q : VK} {E : XK} (h : spPartInit K CR vs H Q E) : spPartInit K CR vs H (fun _ H' => Q .non H') E := by
  obtain ⟨a, C, dx, nm, l, ss, h1, h2, h3, h4, h5, h6, h7, h8⟩ := h
  exact ⟨a, C, dx, nm, l, ss, h1, h2, h3, h4, h5, h6, h7, h8⟩
section
variable {P : Program} {w : World} {K : PySem.W.Frag} {mg : Str → Option Value} {base : Heap}
theorem scPartInit : FnScope ["self", "name", "standings"] ["self", "name", "standings"] (defScope sPartInit) := ⟨rfl, rfl, rfl, by decide +kernel, rfl, by decide +kernel, by decide +kernel⟩
theorem ok_partInit {f CR CS CD fS fD : Addr} {fd fdS fdD : FuncData} (F : Fun K "__init__" "Part.__init__" sPartInit f fd) (O : ErrOk P w K mg base "Repeated" CR 1 okRepeated fsRepeated)
    (FS : Fun K "__init__" "Steps.__init__" sStepsInit fS fdS) (bS : Binds K fdS ["self", "standings"] []) (cS : ClsFn K mg "Steps" CS "__init__" fS)
    (FD : Fun K "__init__" "Doors.__init__" sDoorsInit fD fdD) (bD : Binds K fdD ["self", "standings"] []) (cD : ClsFn K mg "Doors" CD "__init__" fD) :
    FnOk P w K mg base (L2.CX P w) 4 f fd ["self", "name", "standings"] (spPartInit K CR) := by
  obtain ⟨gS, mcS, rS, vS⟩ := cS
  obtain ⟨gD, mcD, rD, vD⟩ := cD
  have GS : FnOk P w K mg base (L2.CX P w) 3 fS fdS ["self", "standings"] (spStepsInit K CR) := ok_stepsInit FS O
  have GD : FnOk P w K mg base CX0 1 fD fdD ["self", "standings"] (spDoorsInit K) := ok_doorsInit FD
  refine F.okX scPartInit (fun vs H Q E h => ?_) (fun cdv A outer s H vs Q E hr h => ?_)
  · obtain ⟨a, C, dx, nm, l, ss, rfl, _⟩ := h
    rfl
  · obtain ⟨a, C, dx, nm, l, ss, rfl, ha, pc, hl, hsl, hsh, kR, kN⟩ := h
    have hr1 : Room 1 _ := hr.mono (by decide)
    refine ⟨_, pss_cons (ps_expr (pe_cfun (E := E) (pe_glob (v := .ref CS) (by rfl) gS rfl) rS vS GS hr FS.kp bS .nil (passes_call (takes_of rfl rfl rfl rfl) fun _ _ _ _ h => h) (pa_cons (pv 0) (pa_cons (pv 2) pa_nil))))
      (pss_cons (ps_expr (pe_cfun (pe_glob (v := .ref CD) (by rfl) gD rfl) rD vD GD hr1 FD.kp bD .nil pass0 (pa_cons (pv 0) (pa_cons (pv 2) pa_nil))))
      (pss_one (ps_fld (pv 0) (pv 1) rfl))), ?_⟩
    have sq : ∀ H' : Hp, Gro a H H' → SqL K H' l (ss.map V.str) := fun H' g => by
      rcases hl with (h | ⟨o, h⟩) | h
      · exact .inl (.inl (g _ _ h (ne_of h ha (by intro z; cases z))))
      · exact .inl (.inr ⟨o, g _ _ h (ne_of h ha (by intro z; cases z))⟩)
      · exact .inr h
    refine ⟨rfl, _, rfl, _, rfl, a, C, dx, [], l, ss, rfl, ha, Nat.zero_le _, pc.cls, pc.nS, hl, hsl, hsh, kR, fun nd ds es H1 hds hes g1 e1 S1 => ?_⟩
    have l0 : (putF "_steps" (V.ref ds) []).length ≤ 1 := length_putF _ _ _
    have l1 : (putF "_steps" (V.ref ds) []).length ≤ 900 := Nat.le_trans l0 (by decide)
    have l2 : ∀ dd, (putF "_doors" (V.ref dd) (putF "_steps" (V.ref ds) [])).length < 1000 := fun dd => by
      have q := length_putF "_doors" (V.ref dd) (putF "_steps" (V.ref ds) [])
      omega
    refine ⟨rfl, _, rfl, _, rfl, a, C, dx, _, l, ss, rfl, e1, l1, pc.cls, pc.nD, sq H1 g1, hsl, nd, fun dd ts H2 hdd g2 e2 D2 => ?_⟩
    refine ⟨_, rfl, _, rfl, a, C, dx, _, rfl, e2, pc.cls, pc.nN, l2 dd, ?_⟩
    refine kN nd ds es dd ts _ ((g1.trans g2).trans .own) upd_same (S1.keep fun b kvs q => ?_) ⟨?_, D2.len, D2.nd, D2.ln, fun i t p h1 h2 => ?_⟩
    · have nb : b ≠ a := ne_of q e1 (by intro z; cases z)
      rw [upd_ne nb]
      exact g2 b _ q nb
    · rw [upd_ne (ne_of D2.d e2 (by intro z; cases z))]; exact D2.d
    · obtain ⟨n, g, q1, q2, q3⟩ := D2.at_ i t p h1 h2
      have na : ∀ b xs, H2 b = some (.tup xs) → b ≠ a := fun b xs q => ne_of q e2 (by intro z; cases z)
      exact ⟨n, g, by rw [upd_ne (na _ _ q1)]; exact q1, by rw [upd_ne (na _ _ q2)]; exact q2, by rw [upd_ne (na _ _ q3)]; exact q3⟩
theorem scSingleInit : FnScope ["self", "name", "standings"] ["self", "name", "standings"] (defScope sSingleInit) := ⟨rfl, rfl, rfl, by decide +kernel, rfl, by decide +kernel, by decide +kernel⟩
theorem ok_singleInit {f CR CP fP : Addr} {fd fdP : FuncData} (F : Fun K "__init__" "Single.__init__" sSingleInit f fd) (GP : FnOk P w K mg base (L2.CX P w) 4 fP fdP ["self", "name", "standings"] (spPartInit K CR)) (kP : PySem.W.keepIn K (.ref fP) = true)
    (bP : Binds K fdP ["self", "name", "standings"] []) (cP : ClsFn K mg "Part" CP "__init__" fP) : FnOk P w K mg base (L2.CX P w) 5 f fd ["self", "name", "standings"] (spPartInit K CR) := by
  obtain ⟨gP, mcP, rP, vP⟩ := cP
  refine F.okX scSingleInit (fun vs H Q E h => GP.len vs H Q E h) (fun cdv A outer s H vs Q E hr h => ?_)
  have h0 := h
  obtain ⟨a, C, dx, nm, l, ss, rfl, _⟩ := h0
  exact ⟨_, pss_one (ps_expr (pe_cfun (E := E) (pe_glob (v := .ref CP) (by rfl) gP rfl) rP vP GP hr kP bP .nil (passes_call (takes_of rfl rfl rfl rfl) fun _ _ _ _ h => h) (pa_cons (pv 0) (pa_cons (pv 1) (pa_cons (pv 2) pa_nil))))),
    rfl, _, rfl, _, rfl, _, rfl, part_non h⟩
theorem scManyInit : FnScope ["self", "name", "standings"] ["self", "name", "standings"] (defScope sManyInit) := ⟨rfl, rfl, rfl, by decide +kernel, rfl, by decide +kernel, by decide +kernel⟩
theorem ok_manyInit {f CR CP fP : Addr} {fd fdP : FuncData} (F : Fun K "__init__" "Many.__init__" sManyInit f fd) (GP : FnOk P w K mg base (L2.CX P w) 4 fP fdP ["self", "name", "standings"] (spPartInit K CR)) (kP : PySem.W.keepIn K (.ref fP) = true)
    (bP : Binds K fdP ["self", "name", "standings"] []) (cP : ClsFn K mg "Part" CP "__init__" fP) : FnOk P w K mg base (L2.CX P w) 5 f fd ["self", "name", "standings"] (spPartInit K CR) := by
  obtain ⟨gP, mcP, rP, vP⟩ := cP
  refine F.okX scManyInit (fun vs H Q E h => GP.len vs H Q E h) (fun cdv A outer s H vs Q E hr h => ?_)
  have h0 := h
  obtain ⟨a, C, dx, nm, l, ss, rfl, _⟩ := h0
  exact ⟨_, pss_one (ps_expr (pe_cfun (E := E) (pe_glob (v := .ref CP) (by rfl) gP rfl) rP vP GP hr kP bP .nil (passes_call (takes_of rfl rfl rfl rfl) fun _ _ _ _ h => h) (pa_cons (pv 0) (pa_cons (pv 1) (pa_cons (pv 2) pa_nil))))),
    rfl, _, rfl, _, rfl, _, rfl, part_non h⟩
end
end Yd
namespace Yd
open PySem L2
/-! ### several clauses, each «except X as n» -/
/-- behind the suite n has no value any more -/
def offAt (i : Nat) (D : Ends) : Ends := { nx := fun σ' H' => D.nx (σ'.set i none) H', rt := D.rt, bk := fun σ' H' => D.bk (σ'.set i none) H', ct := fun σ' H' => D.ct (σ'.set i none) H' }
def wAses (K : PySem.W.Frag) (i : Nat) (Wout : WX) (D : Ends) : List (Value × (Addr → Value → Option Addr → TS)) → WX
  | [] => Wout
  | (c, ts) :: r => fun cls d σ H => ∃ b, PySem.W.exmOne K cls c = some b ∧ (b = true → ∀ a, H a = none → ts a cls d (offAt i D) (σ.set i (some (.ref a))) H) ∧ (b = false → wAses K i Wout D r cls d σ H)
inductive HdsAs (X : Cx) (n : Str) : List ExceptHandler → List (Value × (Addr → Value → Option Addr → TS)) → Prop
  | nil : HdsAs X n [] []
  | cons {x : Str} {c : Value} {ts : Addr → Value → Option Addr → TS} {b₀ : Stmt} {suite : List Stmt} {np ps : Pos} {hds : List ExceptHandler} {l : List (Value × (Addr → Value → Option Addr → TS))} (hc : Names X x c)
      (hsu : ∀ (a : Addr) (oe : Obj) (cls : Value) (d : Option Addr) (pn : List (Addr × Obj)), Zc cls d oe → (∃ vs, oe.data = .fields vs) → PSs (X.suite a ((a, oe) :: pn)) (b₀ :: suite) (ts a cls d)) (r : HdsAs X n hds l) :
      HdsAs X n (.ExceptHandler (some (.Name x np)) (some n) (b₀ :: suite) ps :: hds) ((c, ts) :: l)
section
variable {X : Cx} {n : Str} {i : Nat} {body : List Stmt} {k₀ : ExceptHandler} {ks : List ExceptHandler} {l : List (Value × (Addr → Value → Option Addr → TS))} {pos : Pos} {tb : WX → TS} {Wout : WX}
theorem ps_try_ases (hst : X.stack = X.env :: X.outer) (hfr0 : X.env.frame = some X.env.locals) (hN : X.N.Nodup) (hi : X.N[i]? = some n) (hln : X.env.kindOf n = some .local) (out : Takes X Wout)
    (hb : ∀ (W : WX) (pn : List (Addr × Obj)) (xe : Value → Shared → Prop), Takes (X.tr pn xe) W → PassesOwn (model X.prog X.w) X.A X.env xe → PSs (X.tr pn xe) body (tb W))
    (hh : HdsAs X n (k₀ :: ks) l) : PS X (.Try body (k₀ :: ks) [] [] pos) (fun D σ H => tb (wAses X.K i Wout D l) D σ H) := by
  refine ⟨fun pins s σ H D I h => wpAny_Try_except ?_⟩
  have okX := I.ok
  have frames : X.A.frames = some (X.env :: X.outer) := by rw [okX.frames, hst]
  have nloc : Loc X.env.scope n := .inl hln
  let wish : Value → Shared → Prop := fun e s₁ => wpAny (model X.prog X.w) X.A (noteFrame e X.env) (fun _ s₂ => wpAny (model X.prog X.w) X.A (setFlight e none) (fun _ s₃ => wpAny (model X.prog X.w) X.A (handleBy e X.env (k₀ :: ks)) (SP X pins D) X.xe s₃) X.xe s₂) X.xe s₁
  refine wpAny_mono ((hb (wAses X.K i Wout D l) (X.pn ++ pins) wish (fun u s' xx => ?_) PassesOwn.looking).run [] s σ H D (I.toTry _) h) (fun f s1 ended => ?_) fun e s1 he => he
  · obtain ⟨a, B, sI, pins', σ1, H1, cls, d, rfl, J0, nb, up, sky, na, os, ag, ww⟩ := xx
    have J : Inv X pins σ1 H1 sI := J0.ofTry okX
    have sky1 : Sky B (X.env :: X.outer) a (Zc cls d) X.env.locals s'.heap := hst ▸ sky
    refine Sky.land Zc.steady frames hfr0 sky1 fun h3 fl3 up3 => ?_
    have JL : Inv X pins σ1 H1 { s' with heap := h3 } := J.landed nb fl3.1 (up.trans up3) os ag
    obtain ⟨oe3, vs3, he3, hz3, hd3⟩ := fl3.there
    have outside : a ∉ frs (X.env :: X.outer) := fun hm => by
      obtain ⟨_, o', e', hnf⟩ := fl3.2.2.1.mem hm
      rw [he3] at e'
      cases e'
      exact hnf _ hd3
    have nL : a ≠ X.env.locals := fun z => outside (List.mem_filterMap.mpr ⟨X.env, List.mem_cons_self, by rw [hfr0, z]⟩)
    have nF : a ∉ X.fs := fun hm => by
      obtain ⟨e, he, q⟩ := List.mem_filterMap.mp hm
      exact outside (List.mem_filterMap.mpr ⟨e, List.mem_cons_of_mem _ he, q⟩)
    have SL := JL.suite he3 hd3 na nL nF
    have LT : PySem.W.Looks (model X.prog X.w) h3 (typeOf (.ref a)) cls := fun A Q E s k q => wpAny_typeOf_ref (k _ _ he3) (hz3.1 ▸ q)
    have each : ∀ {hs : List ExceptHandler} {ls : List (Value × (Addr → Value → Option Addr → TS))}, HdsAs X n hs ls → wAses X.K i Wout D ls cls d σ1 H1 →
        wpAny (model X.prog X.w) X.A (handleBy (.ref a) X.env hs) (SP X pins D) X.xe { s' with heap := h3 } := by
      intro hs ls hh
      induction hh with
      | nil =>
        intro w0
        refine wpAny_handleBy_nil ?_
        obtain ⟨_, _, _, oe, vs, T, oT, _, he, hz, hd, h1, _⟩ := id fl3
        unfold PySem.passOn
        refine wpAny_bind (wpAny_field he hd h1 ?_)
        have nt : ¬ ((Value.ref T == Value.none) = true) := by simp
        rw [if_neg nt]
        have fin : wpAny (model X.prog X.w) X.A (setFlight (.ref a) X.env.frame) (fun _ s4 => wpAny (model X.prog X.w) X.A (throw (.ref a) : Sem Flow) (SP X pins D) X.xe s4) X.xe { s' with heap := h3 } := by
          rw [hfr0]
          refine HandSPX.setFlight_upZ fl3 fun h4 hh4 up4 => wpAny_throw (out _ _ ?_)
          exact ⟨a, B, sI, pins, σ1, H1, cls, d, rfl, J, nb, (up.trans up3).trans up4, .inr (.inr (hst.symm ▸ hh4)), na, os, ag, w0⟩
        first
          | exact wpAny_bind (wpAny_pure (wpAny_bind fin))
          | exact wpAny_bind fin
      | @cons x c ts b₀ suite np ps hds2 l2 hc hsu r ih =>
        rintro ⟨b, hb1, hyes, hno⟩
        refine wpAny_handleBy_cons (codeAny_handlers_test ?_) (by intro q; cases q)
        have LM := PySem.W.exm_one (M := model X.prog X.w) JL.kIn LT hb1
        have named : ∀ {Q : Value → Shared → Prop} {E : Value → Shared → Prop}, Q c { s' with heap := h3 } → wpAny (model X.prog X.w) (X.A.mark (some (.ref a))) (eval (.Name x np) X.env) Q E { s' with heap := h3 } := fun {Q E} q => by
          obtain ⟨hg, hdbg, hm | ⟨hm, hv, hnn⟩⟩ := hc
          · exact ld_glob (X := X.suite a ((a, oe3) :: (X.pn ++ pins))) SL hg hm q hdbg
          · exact ld_blt (X := X.suite a ((a, oe3) :: (X.pn ++ pins))) SL hg hm hv q hnn hdbg
        refine named (LM.here ?_)
        cases b with
        | false =>
          show wpAny (model X.prog X.w) X.A (handleBy (.ref a) X.env hds2) (SP X pins D) X.xe _
          exact ih (hno rfl)
        | true =>
          refine codeAny_handlers_suite_as (HandSPX.lands_againZ fl3 fun h4 fl4 up4 => ?_)
          have J4 : Inv X pins σ1 H1 { s' with heap := h4 } := J.landed nb fl4.1 ((up.trans up3).trans up4) os ag
          obtain ⟨oe4, vs4, he4, hz4, hd4⟩ := fl4.there
          refine store_ok (X := X.suite a ((a, oe4) :: (X.pn ++ pins))) (v := .ref a) (J4.suite he4 hd4 na nL nF) hN hi nloc rfl (fun s5 S5 => ?_) (.inr hln)
          refine wpAny_mono ((hsu a oe4 cls d (X.pn ++ pins) hz4 ⟨_, hd4⟩).run [] s5 _ H1 _ S5 (hyes rfl a na)) (fun f s6 he6 => ?_) fun _ _ z => z.elim
          have gone : ∀ {σ6 : St} {H6 : Hp} {Q : Shared → Prop}, Inv (X.suite a ((a, oe4) :: (X.pn ++ pins))) [] σ6 H6 s6 → (∀ s7, Inv X pins (σ6.set i none) H6 s7 → Q s7) →
              wpAny (model X.prog X.w) X.A (do bindName X.env n .none; unbindBehindTheSuite X.env n ps) (fun _ s7 => Q s7) X.xe s6 := fun S6 hq => gone_ok (S6.unsuite okX) hN hi hln hq
          cases f with
          | next => exact let ⟨_, _, S6, q6⟩ := he6; gone S6 fun s7 J7 => ⟨_, _, J7, q6⟩
          | brk => exact let ⟨_, _, S6, q6⟩ := he6; gone S6 fun s7 J7 => ⟨_, _, J7, q6⟩
          | cont => exact let ⟨_, _, S6, q6⟩ := he6; gone S6 fun s7 J7 => ⟨_, _, J7, q6⟩
          | ret u => exact let ⟨_, _, _, S6, r6, q6⟩ := he6; gone S6 fun s7 J7 => ⟨_, _, _, J7, r6, q6⟩
    exact each hh ww
  · cases f with
    | next => exact let ⟨σ', H', J', q⟩ := ended; wpAny_execs_nil ⟨σ', H', J'.ofTry okX, q⟩
    | brk => exact let ⟨σ', H', J', q⟩ := ended; ⟨σ', H', J'.ofTry okX, q⟩
    | cont => exact let ⟨σ', H', J', q⟩ := ended; ⟨σ', H', J'.ofTry okX, q⟩
    | ret u => exact let ⟨v, σ', H', J', r, q⟩ := ended; ⟨v, σ', H', J'.ofTry okX, r, q⟩
end
end Yd
namespace Yd
open PySem L2
/-! ### the law's own defs -/
structure MadeC (K : PySem.W.Frag) (mg : Str → Option Value) (x : Str) (C f : Addr) : Prop where
  g : mg x = some (.ref C)
  made : Mk K C f
/-- the first name that stands twice -/
def Twice (ss : List Str) (s : Str) : Prop := ∃ i : Nat, ss[i]? = some s ∧ s ∈ ss.take i ∧ (ss.take i).Nodup
theorem Twice.one {ss : List Str} {s t : Str} (a : Twice ss s) (b : Twice ss t) : s = t := by
  obtain ⟨i, hi, mi, ni⟩ := a
  obtain ⟨j, hj, mj, nj⟩ := b
  have key : ∀ {i j : Nat} {s : Str}, ss[i]? = some s → s ∈ ss.take i → (ss.take j).Nodup → ¬ i < j := fun {i j s} h1 h2 h3 hlt => by
    obtain ⟨k, hk⟩ := List.mem_iff_getElem?.mp h2
    have hki : k < i := by
      have := (List.getElem?_eq_some_iff.mp hk).1
      rw [List.length_take] at this
      omega
    rw [List.getElem?_take_of_lt hki] at hk
    have e1 : (ss.take j)[i]? = some s := by rw [List.getElem?_take_of_lt hlt]; exact h1
    have e2 : (ss.take j)[k]? = some s := by rw [List.getElem?_take_of_lt (by omega)]; exact hk
    exact absurd (nd_ix h3 e1 e2) (by omega)
  have e : i = j := by
    have h1 := key hi mi nj
    have h2 := key hj mj ni
    omega
  subst e
  exact Option.some.inj (hi.symm.trans hj)
theorem Twice.not_nd {ss : List Str} {s : Str} (a : Twice ss s) : ¬ ss.Nodup := fun h => by
  obtain ⟨i, hi, mi, _⟩ := a
  obtain ⟨k, hk⟩ := List.mem_iff_getElem?.mp mi
  have hki : k < i := by
    have := (List.getElem?_eq_some_iff.mp hk).1
    rw [List.length_take] at this
    omega
  rw [List.getElem?_take_of_lt hki] at hk
  exact absurd (nd_ix h hi hk) (by omega)
def spMade (K : PySem.W.Frag) (CR fA fS fF : Addr) : Sp := fun vs H Q E => ∃ (k : Int) (nm : Str) (l : Addr) (ss : List Str), vs = [.int k, .str nm, .ref l] ∧ SqL K H l (ss.map V.str) ∧ ss.length ≤ 1000 ∧ (∀ s ∈ ss, s.length ≤ 100) ∧
  (∀ s, Twice ss s → Raised CR [.str s] fsRepeated H E) ∧
  (ss.Nodup → ∀ a C H', Same H H' → H a = none → KindC K C fA fS fF → KindAt H' a C ss (fun _ _ => false) 0 → Q (.ref a) H')
section
variable {P : Program} {w : World} {K : PySem.W.Frag} {mg : Str → Option Value} {base : Heap}
theorem scMade : FnScope ["_law_k", "_law_name_here", "_law_standings"] ["_law_k", "_law_name_here", "_law_standings"] (defScope sMade) := ⟨rfl, rfl, rfl, by decide +kernel, rfl, by decide +kernel, by decide +kernel⟩
theorem kind_part {H : Hp} {a C dx ds dd : Addr} {nm : Str} {ss : List Str} {es : List Addr} {m : Nat} {R : Str → Str → Bool} (h : H a = some (.ins C dx (fsPart nm ds dd))) (S : StepsAt H ds ss es R m) : KindAt H a C ss R m := by
  have lk : ∀ f : Str, (fsPart nm ds dd).lookup f = if f = "name" then some (.str nm) else if f = "_doors" then some (.ref dd) else if f = "_steps" then some (.ref ds) else none := fun f => by
    unfold fsPart
    rw [lookup_putF, lookup_putF, lookup_putF]
    rfl
  refine ⟨dx, _, ds, es, h, ?_, ?_, ?_, ?_, S⟩
  · rw [lk, if_neg (by decide +kernel), if_neg (by decide +kernel), if_pos rfl]
  · rw [lk, if_neg (by decide +kernel), if_neg (by decide +kernel), if_neg (by decide +kernel)]
  · rw [lk, if_neg (by decide +kernel), if_neg (by decide +kernel), if_neg (by decide +kernel)]
  · rw [lk, if_neg (by decide +kernel), if_neg (by decide +kernel), if_neg (by decide +kernel)]
theorem gro_made {H H' : Hp} {x dx C : Addr} {fs : List (Str × V)} (nx : H x = none) (nd : H dx = none) (g : Gro x (upd (upd H dx (.own x)) x (.ins C dx fs)) H') : Same H H' := fun b o e => by
  have n1 := ne_of_none e nx
  exact g b o (by rw [upd_ne n1, upd_ne (ne_of_none e nd)]; exact e) n1
theorem ok_made {f CR fA fS fF CS C1 C2 C3 i0 i1 i2 i3 : Addr} {fd d0 d1 d2 d3 : FuncData} (F : Fun K "_law_made" "_law_made" sMade f fd)
    (M0 : MadeC K mg "Steps" CS i0) (G0 : FnOk P w K mg base (L2.CX P w) 3 i0 d0 ["self", "standings"] (spStepsInit K CR)) (b0 : Binds K d0 ["self", "standings"] []) (k0 : KindC K CS fA fS fF)
    (M1 : MadeC K mg "Part" C1 i1) (G1 : FnOk P w K mg base (L2.CX P w) 4 i1 d1 ["self", "name", "standings"] (spPartInit K CR)) (b1 : Binds K d1 ["self", "name", "standings"] []) (k1 : KindC K C1 fA fS fF) (p1 : PartC K C1)
    (M2 : MadeC K mg "Single" C2 i2) (G2 : FnOk P w K mg base (L2.CX P w) 5 i2 d2 ["self", "name", "standings"] (spPartInit K CR)) (b2 : Binds K d2 ["self", "name", "standings"] []) (k2 : KindC K C2 fA fS fF) (p2 : PartC K C2)
    (M3 : MadeC K mg "Many" C3 i3) (G3 : FnOk P w K mg base (L2.CX P w) 5 i3 d3 ["self", "name", "standings"] (spPartInit K CR)) (b3 : Binds K d3 ["self", "name", "standings"] []) (k3 : KindC K C3 fA fS fF) (p3 : PartC K C3) :
    FnOk P w K mg base (L2.CX P w) 7 f fd ["_law_k", "_law_name_here", "_law_standings"] (spMade K CR fA fS fF) := by
  refine F.okX scMade (fun vs H Q E h => ?_) (fun cdv A outer s H vs Q E hr h => ?_)
  · obtain ⟨k, nm, l, ss, rfl, _⟩ := h
    rfl
  · obtain ⟨k, nm, l, ss, rfl, hl, hsl, hsh, kR, kN⟩ := h
    have hr4 : Room 4 _ := hr.mono (by decide)
    have hr5 : Room 5 _ := hr.mono (by decide)
    refine ⟨_, pss_cons (ps_if (pt_cmpR op_eq (pv 0) pe_int (nomark _)) (pss_one (ps_ret (pe_make (E := E) M0.made G0 hr4 (by rfl) M0.g b0 .nil (passes_call (takes_of rfl rfl rfl rfl) fun _ _ _ _ h => h) (pa_cons (pv 2) pa_nil)))) pss_nil)
      (pss_cons (ps_if (pt_cmpR op_eq (pv 0) pe_int (nomark _)) (pss_one (ps_ret (pe_make (E := E) M1.made G1 hr5 (by rfl) M1.g b1 .nil (passes_call (takes_of rfl rfl rfl rfl) fun _ _ _ _ h => h) (pa_cons (pv 1) (pa_cons (pv 2) pa_nil))))) pss_nil)
      (pss_cons (ps_if (pt_cmpR op_eq (pv 0) pe_int (nomark _)) (pss_one (ps_ret (pe_make (E := E) M2.made G2 hr (by rfl) M2.g b2 .nil (passes_call (takes_of rfl rfl rfl rfl) fun _ _ _ _ h => h) (pa_cons (pv 1) (pa_cons (pv 2) pa_nil))))) pss_nil)
      (pss_one (ps_ret (pe_make (E := E) M3.made G3 hr (by rfl) M3.g b3 .nil (passes_call (takes_of rfl rfl rfl rfl) fun _ _ _ _ h => h) (pa_cons (pv 1) (pa_cons (pv 2) pa_nil))))))), ?_⟩
    -- a new object: what was there stays
    have sq : ∀ {x dx C : Addr}, H x = none → H dx = none → SqL K (upd (upd H dx (.own x)) x (.ins C dx [])) l (ss.map V.str) := fun {x dx C} nx nd => Same.seq (fun b o e => by rw [upd_ne (ne_of_none e nx), upd_ne (ne_of_none e nd)]; exact e) hl
    have err : ∀ {x dx C : Addr}, H x = none → H dx = none → ∀ (i : Nat) (s : Str), ss[i]? = some s → s ∈ ss.take i → (ss.take i).Nodup → ∀ d H', Gro x (upd (upd H dx (.own x)) x (.ins C dx [])) H' → (upd (upd H dx (.own x)) x (.ins C dx [])) d = none →
        H' d = some (.xd (fsRepeated [.str s])) → E (.ref CR) (some d) H' := fun {x dx C} nx nd i s h1 h2 h3 d H' g hd hx => by
      refine kR s ⟨i, h1, h2, h3⟩ d H' (gro_made nx nd g) ?_ hx
      have n1 : d ≠ x := by rintro rfl; rw [upd_same] at hd; cases hd
      have n2 : d ≠ dx := by rintro rfl; rw [upd_ne n1, upd_same] at hd; cases hd
      rw [upd_ne n1, upd_ne n2] at hd
      exact hd
    have part : ∀ {C : Addr}, KindC K C fA fS fF → PartC K C → ∀ x dx, H x = none → H dx = none → dx ≠ x → spPartInit K CR (.ref x :: ([.str nm, .ref l] ++ [])) (upd (upd H dx (.own x)) x (.ins C dx [])) (fun v H2 => v = .non ∧ Q (.ref x) H2) E :=
      fun {C} kc pc x dx nx nd _ => ⟨x, C, dx, nm, l, ss, rfl, upd_same, pc, sq nx nd, hsl, hsh, err nx nd, fun hnd ds es dd ts H' g e S _ => ⟨rfl, kN hnd x C H' (gro_made nx nd g) nx kc (kind_part e S)⟩⟩
    refine ⟨_, rfl, rfl, _, rfl, ?_⟩
    refine ite2 (fun _ => ?_) (fun _ => ?_)
    · refine ⟨_, rfl, fun x dx nx nd ne => ?_⟩
      refine ⟨x, CS, dx, [], l, ss, rfl, upd_same, Nat.zero_le _, k0.cls, k0.nS, sq nx nd, hsl, hsh, err nx nd, fun hnd ds es H' _ _ g e S => ⟨rfl, kN hnd x CS H' (gro_made nx nd g) nx k0 ⟨dx, _, ds, es, e, rfl, ?_, ?_, ?_, S⟩⟩⟩
      all_goals (rw [lookup_putF, if_neg (by decide +kernel)]; rfl)
    · refine ⟨_, rfl, rfl, _, rfl, ?_⟩
      refine ite2 (fun _ => ⟨_, rfl, _, rfl, part k1 p1⟩) (fun _ => ?_)
      refine ⟨_, rfl, rfl, _, rfl, ?_⟩
      exact ite2 (fun _ => ⟨_, rfl, _, rfl, part k2 p2⟩) (fun _ => ⟨_, rfl, _, rfl, part k3 p3⟩)
end
end Yd
namespace Yd
open PySem L2
/-- an error class as the clauses read it -/
structure CatchC (K : PySem.W.Frag) (C : Addr) : Prop where
  xf : XfC K C
  self : PySem.W.exmOne K (.ref C) (.ref C) = some true
def spRepeated (K : PySem.W.Frag) : Sp := fun vs H Q _ => ∃ (k : Int) (nm : Str) (l : Addr) (ss : List Str), vs = [.int k, .str nm, .ref l] ∧ SqL K H l (ss.map V.str) ∧ ss.length ≤ 1000 ∧ (∀ s ∈ ss, s.length ≤ 100) ∧
  (∀ s, Twice ss s → ∀ q H', Same H H' → H' q = some (.tup [.str "repeated", .str s]) → Q (.ref q) H') ∧ (ss.Nodup → ∀ H', Same H H' → Q .non H')
def spAllowed (K : PySem.W.Frag) (fA fS fF : Addr) : Sp := fun vs H Q _ => ∃ (a C : Addr) (ss : List Str) (R : Str → Str → Bool) (m : Nat) (b c : Str), vs = [.ref a, .str b, .str c] ∧ KindC K C fA fS fF ∧ KindAt H a C ss R m ∧ m < 1000 ∧ b.length ≤ 100 ∧ c.length ≤ 100 ∧
  (b ∉ ss → ∀ q H', Same H H' → H' q = some (.tup [.str "unknown", .str b]) → Q (.ref q) H') ∧ (b ∈ ss → c ∉ ss → ∀ q H', Same H H' → H' q = some (.tup [.str "unknown", .str c]) → Q (.ref q) H') ∧
  (b ∈ ss → c ∈ ss → b = c → ∀ q H', Same H H' → H' q = some (.tup [.str "nostep", .str b, .str c]) → Q (.ref q) H') ∧
  (b ∈ ss → c ∈ ss → b ≠ c → ∀ H', NoD H H' → KindAt H' a C ss (addR R b c) (m + 1) → Q .non H')
def spSteps (K : PySem.W.Frag) (fA fS fF : Addr) : Sp := fun vs H Q _ => ∃ (a C : Addr) (ss : List Str) (R : Str → Str → Bool) (m : Nat) (b : Str), vs = [.ref a, .str b] ∧ KindC K C fA fS fF ∧ KindAt H a C ss R m ∧ ss.length ≤ 1000 ∧ b.length ≤ 100 ∧
  (b ∉ ss → ∀ q H', Same H H' → H' q = some (.lst [.str "unknown", .str b]) → Q (.ref q) H') ∧ (b ∈ ss → ∀ q H', Same H H' → H' q = some (.tup ((ss.filter (R b)).map V.str)) → Q (.ref q) H')
theorem same_new {H : Hp} {q : Addr} {o : HO} (n : H q = none) : Same H (upd H q o) := fun b u e => by rw [upd_ne (ne_of_none e n)]; exact e
section
variable {P : Program} {w : World} {K : PySem.W.Frag} {mg : Str → Option Value} {base : Heap}
theorem scRepeated : FnScope ["_law_k", "_law_name_here", "_law_standings", "e"] ["_law_k", "_law_name_here", "_law_standings"] (defScope sRepeated) := ⟨rfl, rfl, rfl, by decide +kernel, rfl, by decide +kernel, by decide +kernel⟩
theorem ok_repeated {f fM CR fA fS fF : Addr} {fd fdM : FuncData} (F : Fun K "_law_repeated" "_law_repeated" sRepeated f fd) (GM : FnOk P w K mg base (L2.CX P w) 7 fM fdM ["_law_k", "_law_name_here", "_law_standings"] (spMade K CR fA fS fF))
    (gM : mg "_law_made" = some (.ref fM)) (kM : PySem.W.keepIn K (.ref fM) = true) (bM : Binds K fdM ["_law_k", "_law_name_here", "_law_standings"] []) (gR : mg "Repeated" = some (.ref CR)) (T : CatchC K CR) (n0 : PySem.W.findIn K (.ref CR) "name" = some none) :
    FnOk P w K mg base CX0 8 f fd ["_law_k", "_law_name_here", "_law_standings"] (spRepeated K) := by
  refine F.ok scRepeated (fun vs H Q E h => ?_) (fun cdv A outer s H vs Q E hr h => ?_)
  · obtain ⟨k, nm, l, ss, rfl, _⟩ := h
    rfl
  · obtain ⟨k, nm, l, ss, rfl, hl, hsl, hsh, k1, k2⟩ := h
    refine ⟨_, pss_cons (ps_try_as (i := 3) (tb := fun W => tDrop (tCallS (spMade K CR fA fS fF) (WE W) (tCons (tVar 0) (tCons (tVar 1) (tCons (tVar 2) tNil))))) (ts := fun a cls d => tRet (tTup (tCons (tC (.str "repeated")) (tCons (tXf a cls d CR "name" (tVar 3)) tNil))))
        (Wout := fun _ _ _ _ => False) rfl rfl scRepeated.nd rfl rfl ⟨rfl, by decide, Or.inl gR⟩ takes0
        (fun W pn xe tk _ => pss_one (ps_expr (by exact (pe_callS GM hr rfl gM kM bM (fun σ => passAt tk σ) (by exact (pa_cons (pv 0) (pa_cons (pv 1) (pa_cons (pv 2) pa_nil))))))))
        (fun a oe cls d pn hz hf => pss_one (ps_ret (pe_tup (by exact (pa_cons pe_str (pa_cons (pe_xf T.xf n0 hz hf (pv 3)) pa_nil)))))))
      (pss_one (ps_ret pe_non)), ?_⟩
    refine ⟨_, rfl, _, rfl, _, rfl, k, nm, l, ss, rfl, hl, hsl, hsh, fun s hs d H' s5 hd hx => ?_, fun hnd a C H' s5 _ _ _ => k2 hnd H' s5⟩
    refine ⟨true, T.self, fun _ a0 _ => ?_, fun q => Bool.noConfusion q⟩
    refine ⟨_, rfl, rfl, rfl, d, _, _, rfl, hx, rfl, (by show 2 ≤ sizeLine; decide), fun p hp => ?_⟩
    exact k1 s hs p _ (s5.trans (same_new hp)) upd_same
theorem scSteps : FnScope ["_law_part", "_law_standing", "e"] ["_law_part", "_law_standing"] (defScope sSteps) := ⟨rfl, rfl, rfl, by decide +kernel, rfl, by decide +kernel, by decide +kernel⟩
theorem ok_steps {f fA fS fF CU : Addr} {fd fdF : FuncData} (F : Fun K "_law_steps" "_law_steps" sSteps f fd) (GF : FnOk P w K mg base (L2.CX P w) 3 fF fdF ["self", "standing"] (spStepsFrom K CU)) (bF : Binds K fdF ["self", "standing"] [])
    (gU : mg "Unknown" = some (.ref CU)) (T : CatchC K CU) (n0 : PySem.W.findIn K (.ref CU) "name" = some none) :
    FnOk P w K mg base CX0 4 f fd ["_law_part", "_law_standing"] (spSteps K fA fS fF) := by
  refine F.ok scSteps (fun vs H Q E h => ?_) (fun cdv A outer s H vs Q E hr h => ?_)
  · obtain ⟨a, C, ss, R, m, b, rfl, _⟩ := h
    rfl
  · obtain ⟨a, C, ss, R, m, b, rfl, kc, ka, hsl, hb, k1, k2⟩ := h
    obtain ⟨dx, fs, ds, es, ha, l1, l2, l3, l4, S⟩ := id ka
    refine ⟨_, pss_one (ps_try_as (i := 2) (tb := fun W => tRet (tMethE C "steps_from" (spStepsFrom K CU) (WE W) (tVar 0) (tCons (tVar 1) tNil))) (ts := fun a cls d => tRet (tLst (tCons (tC (.str "unknown")) (tCons (tXf a cls d CU "name" (tVar 2)) tNil))))
        (Wout := fun _ _ _ _ => False) rfl rfl scSteps.nd rfl rfl ⟨rfl, by decide, Or.inl gU⟩ takes0
        (fun W pn xe tk _ => pss_one (ps_ret (by exact (pe_methE (pv 0) kc.cls kc.mF GF hr bF (fun σ => passAt tk σ) (by exact (pa_cons (pv 1) pa_nil))))))
        (fun a oe cls d pn hz hf => pss_one (ps_ret (pe_lst (by exact (pa_cons pe_str (pa_cons (pe_xf T.xf n0 hz hf (pv 2)) pa_nil))))))), ?_⟩
    refine ⟨_, rfl, a, dx, fs, rfl, ha, l4, _, rfl, a, C, fA, fS, fF, ss, R, m, b, rfl, kc, ka, hsl, hb, fun hn d H' s5 hd hx => ?_, k2⟩
    refine ⟨true, T.self, fun _ a0 _ => ?_, fun q => Bool.noConfusion q⟩
    refine ⟨_, rfl, rfl, rfl, d, _, _, rfl, hx, rfl, (by show 2 ≤ sizeLine; decide), fun p hp => ?_⟩
    exact k1 hn p _ (s5.trans (same_new hp)) upd_same
theorem scAllowed : FnScope ["_law_part", "_law_before", "_law_after", "e"] ["_law_part", "_law_before", "_law_after"] (defScope sAllowed) := ⟨rfl, rfl, rfl, by decide +kernel, rfl, by decide +kernel, by decide +kernel⟩
theorem ok_allowed {f fA fS fF CU CN : Addr} {fd fdA : FuncData} (F : Fun K "_law_allowed" "_law_allowed" sAllowed f fd) (GA : FnOk P w K mg base (L2.CX P w) 3 fA fdA ["self", "before", "after"] (spAllow K CU CN)) (bA : Binds K fdA ["self", "before", "after"] [])
    (gU : mg "Unknown" = some (.ref CU)) (gN : mg "NoStep" = some (.ref CN)) (TU : CatchC K CU) (TN : CatchC K CN) (u0 : PySem.W.findIn K (.ref CU) "name" = some none) (b0 : PySem.W.findIn K (.ref CN) "before" = some none) (a0 : PySem.W.findIn K (.ref CN) "after" = some none)
    (nu : PySem.W.exmOne K (.ref CN) (.ref CU) = some false) : FnOk P w K mg base CX0 4 f fd ["_law_part", "_law_before", "_law_after"] (spAllowed K fA fS fF) := by
  refine F.ok scAllowed (fun vs H Q E h => ?_) (fun cdv A outer s H vs Q E hr h => ?_)
  · obtain ⟨a, C, ss, R, m, b, c, rfl, _⟩ := h
    rfl
  · obtain ⟨a, C, ss, R, m, b, c, rfl, kc, ka, hm, hb, hc, k1, k2, k3, k4⟩ := h
    obtain ⟨dx, fs, ds, es, ha, l1, l2, l3, l4, S⟩ := id ka
    refine ⟨_, pss_one (ps_try_ases (i := 3) (tb := fun W => tRet (tMethE C "allow" (spAllow K CU CN) (WE W) (tVar 0) (tCons (tVar 1) (tCons (tVar 2) tNil))))
        (l := [(.ref CU, fun a cls d => tRet (tTup (tCons (tC (.str "unknown")) (tCons (tXf a cls d CU "name" (tVar 3)) tNil)))), (.ref CN, fun a cls d => tRet (tTup (tCons (tC (.str "nostep")) (tCons (tXf a cls d CN "before" (tVar 3)) (tCons (tXf a cls d CN "after" (tVar 3)) tNil)))))])
        (Wout := fun _ _ _ _ => False) rfl rfl scAllowed.nd rfl rfl takes0
        (fun W pn xe tk _ => pss_one (ps_ret (by exact (pe_methE (pv 0) kc.cls kc.mA GA hr bA (fun σ => passAt tk σ) (by exact (pa_cons (pv 1) (pa_cons (pv 2) pa_nil)))))))
        (.cons ⟨rfl, by decide, Or.inl gU⟩ (fun a oe cls d pn hz hf => pss_one (ps_ret (pe_tup (by exact (pa_cons pe_str (pa_cons (pe_xf TU.xf u0 hz hf (pv 3)) pa_nil))))))
          (.cons ⟨rfl, by decide, Or.inl gN⟩ (fun a oe cls d pn hz hf => pss_one (ps_ret (pe_tup (by exact (pa_cons pe_str (pa_cons (pe_xf TN.xf b0 hz hf (pv 3)) (pa_cons (pe_xf TN.xf a0 hz hf (pv 3)) pa_nil))))))) .nil))), ?_⟩
    refine ⟨_, rfl, a, dx, fs, rfl, ha, l2, _, rfl, _, rfl, a, C, fA, fS, fF, ss, R, m, b, c, rfl, kc, ka, hm, hb, hc, fun hn d H' s5 hd hx => ?_, fun hb1 hn d H' s5 hd hx => ?_, fun hb1 hc1 hbc d H' s5 hd hx => ?_, k4⟩
    · refine ⟨true, TU.self, fun _ a1 _ => ?_, fun q => Bool.noConfusion q⟩
      refine ⟨_, rfl, rfl, rfl, d, _, _, rfl, hx, rfl, (by show 2 ≤ sizeLine; decide), fun p hp => ?_⟩
      exact k1 hn p _ (s5.trans (same_new hp)) upd_same
    · refine ⟨true, TU.self, fun _ a1 _ => ?_, fun q => Bool.noConfusion q⟩
      refine ⟨_, rfl, rfl, rfl, d, _, _, rfl, hx, rfl, (by show 2 ≤ sizeLine; decide), fun p hp => ?_⟩
      exact k2 hb1 hn p _ (s5.trans (same_new hp)) upd_same
    refine ⟨false, nu, fun q => Bool.noConfusion q, fun _ => ⟨true, TN.self, fun _ a1 _ => ?_, fun q => Bool.noConfusion q⟩⟩
    refine ⟨_, rfl, rfl, rfl, d, _, _, rfl, hx, rfl, _, rfl, rfl, rfl, d, _, _, rfl, hx, rfl, (by show 3 ≤ sizeLine; decide), fun p hp => ?_⟩
    exact k3 hb1 hc1 hbc p _ (s5.trans (same_new hp)) upd_same
end
end Yd
namespace Yd
open PySem L2
/-! ### == and in of data -/
section
variable {X : Cx}
/-- both read as the same data -/
def rEqS (K : PySem.W.Frag) : R2 := fun x y H Q => ∃ d, Dp K H x d ∧ Dp K H y d ∧ d.plain = true ∧ d.depth ≤ 60 ∧ Q (.bl true) H
def rNeS (K : PySem.W.Frag) : R2 := fun x y H Q => ∃ d, Dp K H x d ∧ Dp K H y d ∧ d.plain = true ∧ d.depth ≤ 60 ∧ Q (.bl false) H
theorem op_eqS (hu : X.A.units + 64 < cLine) : OpR X (compareOp .Eq) (rEqS X.K) := by
  intro pins s σ H x y v u Q I rx ry h
  obtain ⟨d, hd, he, pd, dd, q⟩ := h
  obtain ⟨as, r1⟩ := Dp.reads I d x v hd rx
  obtain ⟨bs, r2⟩ := Dp.reads I d y u he ry
  refine SeqAt.eq_plain r1 r2 pd pd (by omega) ⟨.bl _, H, I, rfl, ?_⟩
  rw [SeqAt.eqv_refl_plain d pd]
  exact q
theorem op_neS (hu : X.A.units + 64 < cLine) : OpR X (compareOp .NotEq) (rNeS X.K) := by
  intro pins s σ H x y v u Q I rx ry h
  obtain ⟨d, hd, he, pd, dd, q⟩ := h
  obtain ⟨as, r1⟩ := Dp.reads I d x v hd rx
  obtain ⟨bs, r2⟩ := Dp.reads I d y u he ry
  refine SeqAt.ne_plain r1 r2 pd pd (by omega) ⟨.bl _, H, I, rfl, ?_⟩
  rw [SeqAt.eqv_refl_plain d pd]
  exact q
/-- an item in a list, both with a Lean type -/
def rInY (K : PySem.W.Frag) (α : Type) [DecidableEq α] [PySem.W.Datum α] : R2 := fun x y H Q => ∃ (a : α) (as : List α), Dp K H x (PySem.W.Datum.toD a) ∧ Dp K H y (.list (as.map PySem.W.Datum.toD)) ∧ Q (.bl (decide (a ∈ as))) H
theorem any_toD {α : Type} [DecidableEq α] [PySem.W.Datum α] (a : α) : ∀ as : List α, ((as.map PySem.W.Datum.toD).any fun z => PyData.eqv z (PySem.W.Datum.toD a)) = decide (a ∈ as)
  | [] => by simp
  | b :: bs => by
    rw [List.map_cons, List.any_cons, any_toD a bs, PySem.W.Datum.eqv, ← Bool.decide_or]
    refine decide_eq_decide.mpr ?_
    rw [List.mem_cons]
    exact ⟨fun h => h.imp Eq.symm id, fun h => h.imp Eq.symm id⟩
theorem op_inY {α : Type} [DecidableEq α] [PySem.W.Datum α] (hd : PySem.W.Datum.depth α ≤ 60) (hu : X.A.units + 65 < cLine) : OpR X (compareOp .In) (rInY X.K α) := by
  intro pins s σ H x y v u Q I rx ry h
  obtain ⟨a, as, h1, h2, q⟩ := h
  obtain ⟨_, r1⟩ := Dp.reads I _ x v h1 rx
  obtain ⟨_, r2⟩ := Dp.reads I _ y u h2 ry
  have d1 := PySem.W.Datum.depth_le (α := α) a
  refine SeqAt.in_list_data r2 r1 (PySem.W.plainAll_map as) (PySem.W.Datum.plain a) (by omega) ⟨.bl _, H, I, rfl, ?_⟩
  rw [any_toD]
  exact q
end
theorem dp_strs {K : PySem.W.Frag} {H : Hp} : ∀ ss : List Str, DpAll K H (ss.map V.str) (ss.map PyData.str)
  | [] => .nil
  | s :: ss => .cons (.str s) (dp_strs ss)
theorem plain_strs (ss : List Str) : PyData.plainAll (ss.map PyData.str) = true := PySem.W.plainAll_map (α := Str) ss
theorem depth_strs (ss : List Str) : PyData.depthAll (ss.map PyData.str) ≤ 0 := PySem.W.depthAll_map (α := Str) ss
theorem plain_tup (ss : List Str) : (PyData.tuple (ss.map PyData.str)).plain = true := by simp only [PyData.plain]; exact plain_strs ss
theorem depth_tup (ss : List Str) : (PyData.tuple (ss.map PyData.str)).depth ≤ 60 := by
  have h := depth_strs ss
  simp only [PyData.depth]
  omega
theorem plain_lst (ss : List Str) : (PyData.list (ss.map PyData.str)).plain = true := by simp only [PyData.plain]; exact plain_strs ss
theorem depth_lst (ss : List Str) : (PyData.list (ss.map PyData.str)).depth ≤ 60 := by
  have h := depth_strs ss
  simp only [PyData.depth]
  omega
/-- a tuple of texts -/
theorem dp_tup {K : PySem.W.Frag} {H : Hp} {a : Addr} {ss : List Str} (h : SqT K H a (ss.map V.str)) : Dp K H (.ref a) (.tuple (ss.map PyData.str)) := .tup h (dp_strs ss)
theorem dp_lst {K : PySem.W.Frag} {H : Hp} {a : Addr} {ss : List Str} (h : SqL K H a (ss.map V.str)) : Dp K H (.ref a) (.list (ss.map PyData.str)) := .lst h (dp_strs ss)
/-- a list of pairs of texts -/
def PairsAt (H : Hp) : List V → List (Str × Str) → Prop
  | [], [] => True
  | v :: xs, p :: ps => (∃ t, v = .ref t ∧ H t = some (.tup [.str p.1, .str p.2])) ∧ PairsAt H xs ps
  | _, _ => False
theorem PairsAt.keep {H H' : Hp} (k : ∀ t xs, H t = some (.tup xs) → H' t = some (.tup xs)) : ∀ {xs : List V} {ps : List (Str × Str)}, PairsAt H xs ps → PairsAt H' xs ps
  | [], [], _ => True.intro
  | v :: xs, p :: ps, ⟨⟨t, e, h⟩, r⟩ => ⟨⟨t, e, k _ _ h⟩, PairsAt.keep k r⟩
  | [], _ :: _, h => h.elim
  | _ :: _, [], h => h.elim
theorem PairsAt.snoc {H : Hp} {t : Addr} {p : Str × Str} (e : H t = some (.tup [.str p.1, .str p.2])) : ∀ {xs : List V} {ps : List (Str × Str)}, PairsAt H xs ps → PairsAt H (xs ++ [.ref t]) (ps ++ [p])
  | [], [], _ => ⟨⟨t, rfl, e⟩, True.intro⟩
  | v :: xs, q :: ps, ⟨h, r⟩ => ⟨h, PairsAt.snoc e r⟩
  | [], _ :: _, h => h.elim
  | _ :: _, [], h => h.elim
theorem PairsAt.len {H : Hp} : ∀ {xs : List V} {ps : List (Str × Str)}, PairsAt H xs ps → xs.length = ps.length
  | [], [], _ => rfl
  | v :: xs, q :: ps, ⟨_, r⟩ => by rw [List.length_cons, List.length_cons, PairsAt.len r]
  | [], _ :: _, h => h.elim
  | _ :: _, [], h => h.elim
theorem dp_pair {K : PySem.W.Frag} {H : Hp} {t : Addr} {p : Str × Str} (h : H t = some (.tup [.str p.1, .str p.2])) : Dp K H (.ref t) (PySem.W.Datum.toD p) := .tup (SqT.of h) (.cons (.str _) (.cons (.str _) .nil))
theorem PairsAt.dp {K : PySem.W.Frag} {H : Hp} : ∀ {xs : List V} {ps : List (Str × Str)}, PairsAt H xs ps → DpAll K H xs (ps.map PySem.W.Datum.toD)
  | [], [], _ => .nil
  | v :: xs, q :: ps, ⟨⟨t, e, h⟩, r⟩ => by subst e; exact .cons (dp_pair h) (PairsAt.dp r)
  | [], _ :: _, h => h.elim
  | _ :: _, [], h => h.elim
end Yd
namespace Yd
open PySem L2
def spIsTuple (K : PySem.W.Frag) : Sp := fun vs H Q _ => ∃ (a b : Addr) (ss : List Str), vs = [.ref a, .ref b] ∧ H a = some (.tup (ss.map V.str)) ∧ H b = some (.tup (ss.map V.str)) ∧ Q (.bl true) H
def spDue (K : PySem.W.Frag) : Sp := fun vs H Q _ => ∃ (l : Addr) (b c : Str) (ss : List Str), vs = [.ref l, .str b, .str c] ∧ SqL K H l (ss.map V.str) ∧
  (b ∉ ss → ∀ q H', Same H H' → H' q = some (.tup [.str "unknown", .str b]) → Q (.ref q) H') ∧ (b ∈ ss → c ∉ ss → ∀ q H', Same H H' → H' q = some (.tup [.str "unknown", .str c]) → Q (.ref q) H') ∧
  (b ∈ ss → c ∈ ss → b = c → ∀ q H', Same H H' → H' q = some (.tup [.str "nostep", .str b, .str c]) → Q (.ref q) H') ∧ (b ∈ ss → c ∈ ss → b ≠ c → ∀ H', Same H H' → Q .non H')
theorem inV_strs (s : Str) : ∀ ss : List Str, inV (.str s) (ss.map V.str) = decide (s ∈ ss)
  | [] => rfl
  | t :: ss => by
    have e : inV (.str s) ((t :: ss).map V.str) = (eqV (.str t) (.str s) || inV (.str s) (ss.map V.str)) := rfl
    rw [e, inV_strs s ss]
    by_cases h : t = s
    · subst h
      have h1 : eqV (.str t) (.str t) = true := by simp [eqV]
      rw [h1, decide_eq_true (List.mem_cons_self ..)]
      rfl
    · have h1 : eqV (.str t) (.str s) = false := by simp [eqV, h]
      rw [h1, Bool.false_or]
      exact decide_eq_decide.mpr ⟨fun m => List.mem_cons_of_mem _ m, fun m => (List.mem_cons.mp m).elim (fun q => absurd q.symm h) id⟩
theorem flat_strs : ∀ ss : List Str, (ss.map V.str).all flatV = true
  | [] => rfl
  | t :: ss => by
    show (flatV (.str t) && (ss.map V.str).all flatV) = true
    rw [flat_strs ss]
    rfl
section
variable {P : Program} {w : World} {K : PySem.W.Frag} {mg : Str → Option Value} {base : Heap}
theorem scIsTuple : FnScope ["_law_actual", "_law_expected"] ["_law_actual", "_law_expected"] (defScope sIsTuple) := ⟨rfl, rfl, rfl, by decide +kernel, rfl, by decide +kernel, by decide +kernel⟩
theorem ok_isTuple {f : Addr} {fd : FuncData} (F : Fun K "_law_is_tuple" "_law_is_tuple" sIsTuple f fd) (hI : mg "isinstance" = none) (hT : mg "tuple" = none) : FnOk P w K mg base CX0 1 f fd ["_law_actual", "_law_expected"] (spIsTuple K) := by
  refine F.ok scIsTuple (fun vs H Q E h => ?_) (fun cdv A outer s H vs Q E hr h => ?_)
  · obtain ⟨a, b, ss, rfl, _⟩ := h
    rfl
  · obtain ⟨a, b, ss, rfl, ha, hb, k⟩ := h
    refine ⟨_, pss_one (ps_ret (pe_and (pe_callB call_isi (by rfl) hI (by decide +kernel) (pa_cons (pv 0) (pa_cons (pe_bltn (v := .ty "tuple") (by rfl) hT (by decide +kernel) rfl) pa_nil)))
      (pe_one (pe_cmpR (op_eqS hr.units) (pv 0) (pv 1) (nomark _))))), ?_⟩
    refine ⟨_, rfl, _, _, _, _, true, rfl, .ty _, .base (.tup ha), kit_ty (by decide +kernel), _, rfl, ?_⟩
    refine yes rfl ⟨_, rfl, _, rfl, _, dp_tup (SqT.of ha), dp_tup (SqT.of hb), plain_tup _, depth_tup _, k⟩
theorem scDue : FnScope ["_law_standings", "_law_before", "_law_after", "_law_name_here"] ["_law_standings", "_law_before", "_law_after"] (defScope sDue) := ⟨rfl, rfl, rfl, by decide +kernel, rfl, by decide +kernel, by decide +kernel⟩
theorem ok_due {f : Addr} {fd : FuncData} (F : Fun K "_law_due" "_law_due" sDue f fd) : FnOk P w K mg base CX0 1 f fd ["_law_standings", "_law_before", "_law_after"] (spDue K) := by
  refine F.ok scDue (fun vs H Q E h => ?_) (fun cdv A outer s H vs Q E hr h => ?_)
  · obtain ⟨l, b, c, ss, rfl, _⟩ := h
    rfl
  · obtain ⟨l, b, c, ss, rfl, hl, k1, k2, k3, k4⟩ := h
    refine ⟨_, pss_cons (ps_for PassesOwn.never rfl (pi_list (pe_lst (pa_cons (pv 1) (pa_cons (pv 2) pa_nil)))) (pg_name (i := 3) scDue.nd rfl (Or.inl rfl))
        (pss_one (ps_if (pt_cmpR op_notIn_seq (pv 3) (pv 0) rfl) (pss_one (ps_ret (pe_tup (pa_cons pe_str (pa_cons (pv 3) pa_nil))))) pss_nil)))
      (pss_cons (ps_if (pt_cmpR op_eq (pv 1) (pv 2) (nomark _)) (pss_one (ps_ret (pe_tup (pa_cons pe_str (pa_cons (pv 1) (pa_cons (pv 2) pa_nil)))))) pss_nil)
      (pss_one (ps_ret pe_non))), ?_⟩
    refine ⟨_, rfl, _, rfl, (by show 2 ≤ sizeLine; decide), fun t ht => ?_⟩
    have st : Same H (upd H t (.lst [.str b, .str c])) := same_new ht
    have et : upd H t (.lst [.str b, .str c]) t = some (.lst [.str b, .str c]) := upd_same
    generalize upd H t (.lst [.str b, .str c]) = H1 at st et
    refine ⟨t, rfl, ⟨_, SqL.of et⟩, for_list (K := K) (a := t) (xs := [.str b, .str c]) (fun i σ H' => H' = H1 ∧ (∃ v : Option V, σ = [some (.ref l), some (.str b), some (.str c), v]) ∧ (0 < i → b ∈ ss) ∧ (1 < i → b ∈ ss ∧ c ∈ ss))
      ⟨rfl, ⟨none, rfl⟩, fun h => absurd h (by omega), fun h => absurd h (by omega)⟩ (fun i σ H' _ ⟨e, _⟩ => by rw [e]; exact SqL.of et) ?_ ?_⟩
    · rintro i y σ H' hi ⟨rfl, ⟨v, rfl⟩, h0, h1⟩
      obtain ⟨z, rfl, hr1, hn⟩ : ∃ z : Str, y = .str z ∧ (z ∉ ss → ∀ q H', Same H H' → H' q = some (.tup [.str "unknown", .str z]) → Q (.ref q) H') ∧ (z ∈ ss → (0 < i + 1 → b ∈ ss) ∧ (1 < i + 1 → b ∈ ss ∧ c ∈ ss)) := by
        match i, hi with
        | 0, hi => exact ⟨b, (Option.some.inj hi).symm, k1, fun m => ⟨fun _ => m, fun q => absurd q (by omega)⟩⟩
        | 1, hi => exact ⟨c, (Option.some.inj hi).symm, k2 (h0 (by omega)), fun m => ⟨fun _ => h0 (by omega), fun _ => ⟨h0 (by omega), m⟩⟩⟩
        | i + 2, hi => simp at hi
      refine ⟨_, rfl, _, rfl, l, _, rfl, .inl (Same.seq st hl), rfl, flat_strs ss, _, rfl, ?_⟩
      rw [inV_strs]
      by_cases hz1 : z ∈ ss
      · rw [decide_eq_true hz1]
        exact no rfl ⟨rfl, ⟨_, rfl⟩, hn hz1⟩
      · rw [decide_eq_false hz1]
        exact yes rfl ⟨_, rfl, (by show 2 ≤ sizeLine; decide), fun q hq => hr1 hz1 q _ (st.trans (same_new hq)) upd_same⟩
    · rintro σ H' ⟨rfl, ⟨v, rfl⟩, _, h2⟩
      obtain ⟨mb, mc⟩ := h2 (by show 1 < 2; omega)
      refine ⟨_, rfl, _, rfl, rfl, _, rfl, ?_⟩
      by_cases hbc : b = c
      · exact yes (decide_eq_true (by rw [hbc])) ⟨_, rfl, _, rfl, (by show 3 ≤ sizeLine; decide), fun q hq => k3 mb mc hbc q _ (st.trans (same_new hq)) upd_same⟩
      · exact no (decide_eq_false fun q => hbc (by injection q)) (k4 mb mc hbc _ st)
end
end Yd
namespace Yd
open PySem L2
def spAgrees (K : PySem.W.Frag) (fA fS fF : Addr) : Sp := fun vs H Q _ => ∃ (a C l pl : Addr) (z : Str) (ss : List Str) (R : Str → Str → Bool) (m : Nat) (xs : List V) (ps : List (Str × Str)), vs = [.ref a, .ref l, .ref pl, .str z] ∧ KindC K C fA fS fF ∧ KindAt H a C ss R m ∧
  SqL K H l (ss.map V.str) ∧ H pl = some (.lst xs) ∧ PairsAt H xs ps ∧ (∀ s t, R s t = decide ((s, t) ∈ ps)) ∧ z ∉ ss ∧ ss.length ≤ 1000 ∧ (∀ s ∈ ss, s.length ≤ 100) ∧ z.length ≤ 100 ∧ ∀ H', Same H H' → Q (.bl true) H'
theorem KindAt.keep {H H' : Hp} {a C : Addr} {ss : List Str} {R : Str → Str → Bool} {m : Nat} (h : KindAt H a C ss R m) (s : Same H H') : KindAt H' a C ss R m := by
  obtain ⟨dx, fs, ds, es, ha, l1, l2, l3, l4, S⟩ := h
  exact ⟨dx, fs, ds, es, s _ _ ha, l1, l2, l3, l4, S.keep fun b kvs e => s _ _ e⟩
section
variable {P : Program} {w : World} {K : PySem.W.Frag} {mg : Str → Option Value} {base : Heap}
def nAgrees : List Str := ["_law_part", "_law_standings", "_law_steps_here", "_law_strange", "_law_standing", "_law_after", "_law_due_here"]
theorem scAgrees : FnScope nAgrees ["_law_part", "_law_standings", "_law_steps_here", "_law_strange"] (defScope sAgrees) := ⟨rfl, rfl, rfl, by decide +kernel, rfl, by decide +kernel, by decide +kernel⟩
theorem units65 {A : Around} {k : Nat} (hr : Room k A) : A.units + 65 < cLine := by have := hr.un; omega
theorem get_strs' {ss : List Str} {i : Nat} {x : V} (h : (ss.map V.str)[i]? = some x) : ∃ z, ss[i]? = some z ∧ x = .str z := by
  rw [List.getElem?_map] at h
  cases e : ss[i]? with
  | none => rw [e] at h; cases h
  | some z => rw [e] at h; exact ⟨z, rfl, (Option.some.inj h).symm⟩
theorem ok_agrees {f fA fS fF fI fST : Addr} {fd fdS fdI fdT : FuncData} (F : Fun K "_law_agrees" "_law_agrees" sAgrees f fd) (hT : mg "tuple" = none)
    (GS : FnOk P w K mg base CX0 1 fS fdS ["self"] (spStandings K)) (bS : Binds K fdS ["self"] [])
    (GI : FnOk P w K mg base CX0 1 fI fdI ["_law_actual", "_law_expected"] (spIsTuple K)) (gI : mg "_law_is_tuple" = some (.ref fI)) (kI : PySem.W.keepIn K (.ref fI) = true) (bI : Binds K fdI ["_law_actual", "_law_expected"] [])
    (GT : FnOk P w K mg base CX0 4 fST fdT ["_law_part", "_law_standing"] (spSteps K fA fS fF)) (gT : mg "_law_steps" = some (.ref fST)) (kT : PySem.W.keepIn K (.ref fST) = true) (bT : Binds K fdT ["_law_part", "_law_standing"] []) :
    FnOk P w K mg base CX0 5 f fd ["_law_part", "_law_standings", "_law_steps_here", "_law_strange"] (spAgrees K fA fS fF) := by
  refine F.ok scAgrees (fun vs H Q E h => ?_) (fun cdv A outer s H vs Q E hr h => ?_)
  · obtain ⟨a, C, l, pl, z, ss, R, m, xs, ps, rfl, _⟩ := h
    rfl
  · obtain ⟨a, C, l, pl, z, ss, R, m, xs, ps, rfl, kc, ka, hl, hpl, hps, hR, hz, hsl, hsh, hzl, k⟩ := h
    refine ⟨_, pss_cons (ps_if (pt_not (pt_val (pe_call GI (hr.mono (by decide)) rfl gI kI bI .nil pass0 (pa_cons (pe_meth0 (pv 0) kc.cls kc.mS GS (hr.mono (by decide)) bS .nil pass0) (pa_cons (pe_callTy call_tuple_of (by rfl) hT (by decide +kernel) (pa_cons (pv 1) pa_nil)) pa_nil))))) (pss_one (ps_ret pe_bl)) pss_nil)
      (pss_cons (ps_for PassesOwn.never rfl (pi_list (pv 1)) (pg_name (i := 4) scAgrees.nd rfl (Or.inr rfl))
        (pss_cons (ps_set (i := 6) scAgrees.nd rfl (Or.inl rfl) (pe_callTy call_tuple_of (by rfl) hT (by decide +kernel) (pa_cons (pe_lc (own := [("_law_after", 5)]) (g := gName 5) (tt := tTest (tOp (rInY K (Str × Str)) (tTup (tCons (tVar 4) (tCons (tVar 5) tNil))) (tVar 2))) rfl scAgrees.nd (pi_list (pv 1))
            (blkOk_by (N := nAgrees) (sc := defScope sAgrees) (by decide +kernel)) (fun _ _ _ _ _ => pg_name (i := 5) scAgrees.nd rfl (Or.inl rfl))
            (fun _ _ _ _ _ => pts_one (pt_cmpR (op_inY (by decide) (units65 hr)) (pe_tup (pa_cons (pv 4) (pa_cons (pv 5) pa_nil))) (pv 2) rfl)) (fun _ _ _ _ _ => pv 5)) pa_nil)))
        (pss_one (ps_if (pt_not (pt_val (pe_call GI (hr.mono (by decide)) rfl gI kI bI .nil pass0 (pa_cons (pe_call GT hr rfl gT kT bT .nil pass0 (pa_cons (pv 0) (pa_cons (pv 4) pa_nil))) (pa_cons (pv 6) pa_nil))))) (pss_one (ps_ret pe_bl)) pss_nil))))
      (pss_one (ps_ret (pe_cmpR (op_eqS hr.units) (pe_call GT hr rfl gT kT bT .nil pass0 (pa_cons (pv 0) (pa_cons (pv 3) pa_nil))) (pe_lst (pa_cons pe_str (pa_cons (pv 3) pa_nil))) (nomark _))))), ?_⟩
    obtain ⟨dx, fs, ds, es, ha, l1, l2, l3, l4, S⟩ := id ka
    refine ⟨_, rfl, a, dx, fs, rfl, ha, l3, a, C, fA, fS, fF, ss, R, m, rfl, kc, ka, fun q hq => ?_⟩
    have sq : Same H (upd H q (.tup (ss.map V.str))) := same_new hq
    have eq : upd H q (.tup (ss.map V.str)) q = some (.tup (ss.map V.str)) := upd_same
    generalize upd H q (.tup (ss.map V.str)) = H1 at sq eq
    refine ⟨_, rfl, l, _, rfl, .inl ⟨Same.seq sq hl, fun t ht => ?_⟩⟩
    have st : Same H1 (upd H1 t (.tup (ss.map V.str))) := same_new ht
    have et : upd H1 t (.tup (ss.map V.str)) t = some (.tup (ss.map V.str)) := upd_same
    generalize upd H1 t (.tup (ss.map V.str)) = H2 at st et
    refine ⟨q, t, ss, rfl, st _ _ eq, et, true, rfl, no rfl ?_⟩
    -- for standing in standings
    refine ⟨_, rfl, l, rfl, ⟨_, Same.seq (sq.trans st) hl⟩, for_list (K := K) (a := l) (xs := ss.map V.str) (fun i σ H' => Same H H' ∧ ∃ v4 v5 v6 : Option V, σ = [some (.ref a), some (.ref l), some (.ref pl), some (.str z), v4, v5, v6])
      ⟨sq.trans st, _, _, _, rfl⟩ (fun i σ H' _ ⟨s1, _⟩ => Same.seq s1 hl) ?_ ?_⟩
    · rintro i y σ H' hi ⟨s1, v4, v5, v6, rfl⟩
      obtain ⟨b, hb, rfl⟩ := get_strs' hi
      have mb : b ∈ ss := List.mem_of_getElem? hb
      refine ⟨_, rfl, l, rfl, ⟨_, Same.seq s1 hl⟩, fun D hD => ?_⟩
      refine lc_list (K := K) (a := l) (xs := ss.map V.str) (fun j H2 => Same H' H2 ∧ H2 D = some (.lst (((ss.take j).filter (R b)).map V.str)))
        ⟨same_new hD, upd_same⟩ (fun j H2 _ h => Same.seq (s1.trans h.1) hl) ?_ ?_
      · rintro j y H2 hj ⟨s2, s3⟩
        obtain ⟨c, hc, rfl⟩ := get_strs' hj
        refine ⟨rfl, _, rfl, _, rfl, (by show 2 ≤ sizeLine; decide), fun tp htp => ?_⟩
        have s4 : Same H2 (upd H2 tp (.tup [.str b, .str c])) := same_new htp
        have e4 : upd H2 tp (.tup [.str b, .str c]) tp = some (.tup [.str b, .str c]) := upd_same
        generalize upd H2 tp (.tup [.str b, .str c]) = H3 at s4 e4
        have s5 : Same H H3 := (s1.trans s2).trans s4
        refine ⟨_, rfl, ((b, c) : Str × Str), ps, dp_pair e4, .lst (SqL.of (s5 _ _ hpl)) (PairsAt.dp (hps.keep fun t xs e => s5 _ _ e)), _, rfl, ?_⟩
        by_cases hq : R b c = true
        · have hm : (b, c) ∈ ps := of_decide_eq_true ((hR b c).symm.trans hq)
          have e0 : ∀ i : Decidable ((b, c) ∈ ps), @decide _ i = true := fun i => @decide_eq_true _ i hm
          refine yes (e0 _) ⟨_, rfl, _, s4 _ _ s3, ?_, fun p o e => ?_, ?_⟩
          · refine small1000 (Nat.le_trans ?_ hsl)
            rw [List.length_map]
            exact Nat.le_trans (List.length_filter_le _ _) (by rw [List.length_take]; omega)
          · rw [upd_ne (ne_of_none e hD)]
            exact s4 _ _ (s2 _ _ e)
          · rw [upd_same, filter_more hc, if_pos hq, List.map_append]
            rfl
        · have hq' : R b c = false := by simpa using hq
          have hm : (b, c) ∉ ps := fun m => hq ((hR b c).trans (decide_eq_true m))
          refine no (by rw [decide_eq_false_iff_not]; exact hm) ⟨s2.trans s4, ?_⟩
          rw [filter_more hc, if_neg hq, List.append_nil]
          exact s4 _ _ s3
      · rintro H2 ⟨s2, s3⟩
        rw [List.length_map, List.take_length] at s3
        refine ⟨D, _, rfl, .inl ⟨SqL.of s3, fun tq htq => ?_⟩⟩
        have s4 : Same H2 (upd H2 tq (.tup ((ss.filter (R b)).map V.str))) := same_new htq
        have e4 : upd H2 tq (.tup ((ss.filter (R b)).map V.str)) tq = some (.tup ((ss.filter (R b)).map V.str)) := upd_same
        generalize upd H2 tq (.tup ((ss.filter (R b)).map V.str)) = H3 at s4 e4
        have s5 : Same H H3 := (s1.trans s2).trans s4
        refine ⟨_, rfl, _, rfl, a, C, ss, R, m, b, rfl, kc, ka.keep s5, hsl, hsh b mb, fun hn => absurd mb hn, fun _ p H4 s6 hp => ?_⟩
        refine ⟨_, rfl, p, tq, ss.filter (R b), rfl, hp, s6 _ _ e4, true, rfl, no rfl ⟨s5.trans s6, _, _, _, rfl⟩⟩
    · rintro σ H' ⟨s1, v4, v5, v6, rfl⟩
      refine ⟨_, rfl, _, rfl, a, C, ss, R, m, z, rfl, kc, ka.keep s1, hsl, hzl, fun _ p H4 s6 hp => ?_, fun hm => absurd hm hz⟩
      refine ⟨_, rfl, (by show 2 ≤ sizeLine; decide), fun u hu => ?_⟩
      refine ⟨_, dp_lst (ss := ["unknown", z]) (SqL.of (by rw [upd_ne (ne_of_none hp hu)]; exact hp)), dp_lst (ss := ["unknown", z]) (SqL.of upd_same), plain_lst _, depth_lst _, ?_⟩
      exact k _ ((s1.trans s6).trans (same_new hu))
end
end Yd
namespace Yd
open PySem L2
/-! ### the names of a script are all different -/
def NmK (k : Nat) (z : Str) : Prop := z.length ≤ 100 ∧ ∃ (s : Nat) (A B : List Nat), kSigns[k % 12]? = some s ∧ z.cps.toList = (A ++ s :: B) ++ [48 + k / 12] ∧ (∀ c ∈ A, c ∉ kSigns) ∧ (∀ c ∈ B, c ∉ kSigns)
theorem kSigns_nd : kSigns.Nodup := by decide +kernel
theorem sgn_not : ∀ s ∈ ("mnopqrstuvwxyz0123456789" : Str).cps.toList, s ∉ kSigns := by decide +kernel
theorem digit_k : ∀ q : Fin 6, (toString ((q.val : Nat) : Int) : Str).cps.toList = [48 + q.val] := by decide +kernel
theorem app_cps (a b : Str) : (a ++ b).cps.toList = a.cps.toList ++ b.cps.toList := by show (a.cps ++ b.cps).toList = _; rw [Array.toList_append]
theorem nm_of {k : Nat} {z : Str} (hk : k ≤ 60) (h : NameK (k % 12) z) : NmK k (z ++ (toString ((k / 12 : Nat) : Int) : Str)) := by
  obtain ⟨hl, s, a, b, hs, e, ha, hb⟩ := h
  have hq : k / 12 < 6 := by omega
  have d := digit_k ⟨k / 12, hq⟩
  have dl : (toString ((k / 12 : Nat) : Int) : Str).length = 1 := by
    show (toString ((k / 12 : Nat) : Int) : Str).cps.size = 1
    rw [← Array.length_toList, d]
    rfl
  refine ⟨by rw [len_app, dl]; omega, s, a.cps.toList, b.cps.toList, hs, ?_, fun c hc => sgn_not c (ha c hc), fun c hc => sgn_not c (hb c hc)⟩
  rw [app_cps, d, e, app_cps, app_cps, List.append_assoc a.cps.toList]
  rfl
theorem nm_inj {i j : Nat} {x : Str} (hi : NmK i x) (hj : NmK j x) : i = j := by
  obtain ⟨_, s, A, B, hs, e, ha, hb⟩ := hi
  obtain ⟨_, t, A', B', ht, e', ha', hb'⟩ := hj
  rw [e] at e'
  obtain ⟨e1, e2⟩ := List.append_inj' e' rfl
  have q : i / 12 = j / 12 := by
    injection e2 with e2
    omega
  have fl : ∀ (u : Nat) (C D : List Nat), u ∈ kSigns → (∀ c ∈ C, c ∉ kSigns) → (∀ c ∈ D, c ∉ kSigns) → (C ++ u :: D).filter (fun c => decide (c ∈ kSigns)) = [u] := fun u C D hu hC hD => by
    rw [List.filter_append, List.filter_cons, if_pos (decide_eq_true hu), List.filter_eq_nil_iff.mpr fun c hc => by simpa using hC c hc, List.filter_eq_nil_iff.mpr fun c hc => by simpa using hD c hc]
    rfl
  have f1 := fl s A B (List.mem_of_getElem? hs) ha hb
  have f2 := fl t A' B' (List.mem_of_getElem? ht) ha' hb'
  rw [e1, f2] at f1
  injection f1 with f1
  subst f1
  have r := nd_ix kSigns_nd hs ht
  omega
theorem nm_nodup {ns : List Str} (h : ∀ i s, ns[i]? = some s → NmK i s) : ns.Nodup := by
  refine List.pairwise_iff_getElem.mpr fun i j hi hj hij e => ?_
  have h1 : ns[j]? = some ns[j] := List.getElem?_eq_getElem hj
  have h2 : ns[i]? = some ns[j] := by rw [List.getElem?_eq_getElem hi, e]
  exact absurd (nm_inj (h i _ h2) (h j _ h1)) (by omega)
/-! ### what stands in the heap while the law runs -/
structure LawAt (H : Hp) (p c nl sl pl a C : Addr) (ns ss : List Str) (R : Str → Str → Bool) (m : Nat) (xs : List V) (ps : List (Str × Str)) : Prop where
  pool : Pool H p c
  ns_ : H nl = some (.lst (ns.map V.str))
  ss_ : H sl = some (.lst (ss.map V.str))
  pl_ : H pl = some (.lst xs)
  prs : PairsAt H xs ps
  kind : KindAt H a C ss R m
  n1 : nl ≠ p
  n2 : sl ≠ p
  n3 : pl ≠ p
  n4 : pl ≠ c
  n5 : pl ≠ nl
  n6 : pl ≠ sl
theorem KindAt.keepL {H H' : Hp} {a C : Addr} {ss : List Str} {R : Str → Str → Bool} {m : Nat} (h : KindAt H a C ss R m) (s : ∀ b o, H b = some o → (∀ xs, o ≠ .lst xs) → H' b = some o) : KindAt H' a C ss R m := by
  obtain ⟨dx, fs, ds, es, ha, l1, l2, l3, l4, S⟩ := h
  exact ⟨dx, fs, ds, es, s _ _ ha (fun xs e => by cases e), l1, l2, l3, l4, S.keep fun b kvs e => s _ _ e (fun xs e => by cases e)⟩
section
variable {H H' : Hp} {p c nl sl pl a C : Addr} {ns ss : List Str} {R : Str → Str → Bool} {m : Nat} {xs : List V} {ps : List (Str × Str)}
theorem Pool.noL (h : Pool H p c) (g : Gro p H H') : ∀ b o, H b = some o → (∀ xs, o ≠ .lst xs) → H' b = some o := fun b o e n => by
  obtain ⟨ys, hp, _⟩ := h
  refine g b o e ?_
  rintro rfl
  rw [hp] at e
  exact n ys (Option.some.inj e).symm
theorem LawAt.gro (L : LawAt H p c nl sl pl a C ns ss R m xs ps) (g : Gro p H H') (P : Pool H' p c) : LawAt H' p c nl sl pl a C ns ss R m xs ps :=
  ⟨P, g _ _ L.ns_ L.n1, g _ _ L.ss_ L.n2, g _ _ L.pl_ L.n3, L.prs.keep (fun t ys e => L.pool.noL g _ _ e (fun xs e => by cases e)), L.kind.keepL (L.pool.noL g), L.n1, L.n2, L.n3, L.n4, L.n5, L.n6⟩
theorem LawAt.same (L : LawAt H p c nl sl pl a C ns ss R m xs ps) (s : Same H H') : LawAt H' p c nl sl pl a C ns ss R m xs ps :=
  L.gro (.of_same s) (L.pool.keep (fun o e => s _ _ e) fun o e => s _ _ e)
theorem LawAt.allow {R' : Str → Str → Bool} {m' : Nat} (L : LawAt H p c nl sl pl a C ns ss R m xs ps) (s : NoD H H') (k : KindAt H' a C ss R' m') : LawAt H' p c nl sl pl a C ns ss R' m' xs ps := by
  have nl' : ∀ b ys, H b = some (.lst ys) → H' b = some (.lst ys) := fun b ys e => s _ _ e (fun kvs q => by cases q)
  refine ⟨?_, nl' _ _ L.ns_, nl' _ _ L.ss_, nl' _ _ L.pl_, L.prs.keep (fun t ys e => s _ _ e (fun kvs q => by cases q)), k, L.n1, L.n2, L.n3, L.n4, L.n5, L.n6⟩
  obtain ⟨ys, e, q⟩ := L.pool
  refine ⟨ys, nl' _ _ e, ?_⟩
  rcases q with q | ⟨x, i, cs, e1, e2, e3, q⟩
  · exact .inl q
  · exact .inr ⟨x, i, cs, e1, e2, nl' _ _ e3, q⟩
theorem LawAt.push {t : Addr} {b d : Str} (L : LawAt H p c nl sl pl a C ns ss R m xs ps) (e : H t = some (.tup [.str b, .str d])) : LawAt (upd H pl (.lst (xs ++ [.ref t]))) p c nl sl pl a C ns ss R m (xs ++ [.ref t]) (ps ++ [(b, d)]) := by
  have off : ∀ q o, H q = some o → (∀ ys, o ≠ .lst ys) → upd H pl (.lst (xs ++ [.ref t])) q = some o := fun q o h n => by
    rw [upd_ne]
    · exact h
    · rintro rfl
      rw [L.pl_] at h
      exact n _ (Option.some.inj h).symm
  exact ⟨L.pool.off L.n3 L.n4, by rw [upd_ne L.n5.symm]; exact L.ns_, by rw [upd_ne L.n6.symm]; exact L.ss_, upd_same, PairsAt.snoc (p := (b, d)) (off _ _ e (fun ys q => by cases q)) (L.prs.keep fun q ys h => off _ _ h (fun zs q => by cases q)),
    L.kind.keepL off, L.n1, L.n2, L.n3, L.n4, L.n5, L.n6⟩
end
end Yd
namespace Yd
open PySem L2
def spLaw (K : PySem.W.Frag) : Sp := fun vs H Q _ => ∃ (a : Addr) (ns : List Int), vs = [.ref a] ∧ SqL K H a (ns.map V.int) ∧ ns.length ≤ 63 ∧ ∀ H', Q (.bl true) H'
theorem cut_take (ss : List Str) (n : Nat) : cutV (ss.map V.str) none (some (n : Int)) = (ss.take n).map V.str := by
  unfold cutV
  rw [HT.sIx_none, HT.sIx_nat, List.drop_zero, Nat.sub_zero, List.map_take, List.length_map]
  rcases Nat.le_total n ss.length with h | h
  · rw [Nat.min_eq_left h]
  · rw [Nat.min_eq_right h, List.take_of_length_le (by rw [List.length_map]; exact Nat.le_refl _), List.take_of_length_le (by rw [List.length_map]; exact h)]
theorem cut_drop (ss : List Str) (n : Nat) : cutV (ss.map V.str) (some (n : Int)) none = (ss.drop n).map V.str := by
  unfold cutV
  rw [HT.sIx_none, HT.sIx_nat, List.map_drop, List.length_map]
  rcases Nat.le_total n ss.length with h | h
  · rw [Nat.min_eq_left h, List.take_of_length_le (by rw [List.length_drop, List.length_map]; exact Nat.le_refl _)]
  · rw [Nat.min_eq_right h, List.drop_of_length_le (by rw [List.length_map]; exact Nat.le_refl _), List.drop_of_length_le (by rw [List.length_map]; exact h), List.take_nil]
theorem at_s {ss : List Str} {n : Nat} {s : Str} (h : ss[n]? = some s) {z : Int} (e : z = (n : Int)) : atI (ss.map V.str) z = some (.str s) := at_c (by rw [List.getElem?_map, h]; rfl) e
theorem passF {X : Cx} : Passes (L2.CX X.prog X.w) X (fun _ _ _ => False) := fun _ _ _ _ _ _ _ ⟨_, _, _, _, _, _, _, _, _, _, _, _, h⟩ => h.elim
/-- what is due for a step from b to d -/
def DueV (H : Hp) (v : V) (ss : List Str) (b d : Str) : Prop :=
  (b ∉ ss ∧ ∃ q, v = .ref q ∧ H q = some (.tup [.str "unknown", .str b])) ∨ (b ∈ ss ∧ d ∉ ss ∧ ∃ q, v = .ref q ∧ H q = some (.tup [.str "unknown", .str d])) ∨
  (b ∈ ss ∧ d ∈ ss ∧ b = d ∧ ∃ q, v = .ref q ∧ H q = some (.tup [.str "nostep", .str b, .str d])) ∨ (b ∈ ss ∧ d ∈ ss ∧ b ≠ d ∧ v = .non)
theorem addR_mem {R : Str → Str → Bool} {ps : List (Str × Str)} (h : ∀ s t, R s t = decide ((s, t) ∈ ps)) (b d : Str) : ∀ s t, addR R b d s t = decide ((s, t) ∈ ps ++ [(b, d)]) := fun s t => by
  unfold addR
  rw [h s t, ← Bool.decide_and, ← Bool.decide_or]
  refine decide_eq_decide.mpr ?_
  rw [List.mem_append, List.mem_singleton, Prod.mk.injEq]
theorem wrong_twice {ss : List Str} {tw s0 : Str} {q j : Nat} (hq : q ≤ ss.length) (h59 : q ≤ 59) (hj : j < q) (ht : ss[j]? = some tw) (nd : ss.Nodup) : Twice ((ss.take q ++ [tw] ++ ss.drop q ++ [s0]).take 60) tw := by
  have hl : (ss.take q).length = q := by rw [List.length_take]; omega
  refine ⟨q, ?_, ?_, ?_⟩
  · rw [List.getElem?_take_of_lt (by omega), List.append_assoc, List.append_assoc, List.getElem?_append_right (by omega), hl, Nat.sub_self]
    rfl
  all_goals
    have e : (List.take 60 (ss.take q ++ [tw] ++ ss.drop q ++ [s0])).take q = ss.take q := by
      rw [List.take_take, Nat.min_eq_left (by omega), List.append_assoc, List.append_assoc, List.take_append_of_le_length (by omega), List.take_of_length_le (by omega)]
    rw [e]
  · exact List.mem_of_getElem? (by rw [List.getElem?_take_of_lt hj]; exact ht)
  · exact nd.sublist (List.take_sublist _ _)
theorem sizes {v : Int} (h0 : 0 ≤ v) (h1 : v < 10) : ∃ n : Nat, atI [V.int 2, V.int 1, V.int 3, V.int 4, V.int 5, V.int 6, V.int 7, V.int 8, V.int 9, V.int 10] v = some (.int (n : Int)) ∧ 1 ≤ n ∧ n ≤ 60 := by
  obtain ⟨j, rfl⟩ : ∃ j : Nat, v = (j : Int) := ⟨v.toNat, by omega⟩
  have hj : j < 10 := by omega
  match j, hj with
  | 0, _ => exact ⟨2, at_c rfl rfl, by omega, by omega⟩
  | 1, _ => exact ⟨1, at_c rfl rfl, by omega, by omega⟩
  | 2, _ => exact ⟨3, at_c rfl rfl, by omega, by omega⟩
  | 3, _ => exact ⟨4, at_c rfl rfl, by omega, by omega⟩
  | 4, _ => exact ⟨5, at_c rfl rfl, by omega, by omega⟩
  | 5, _ => exact ⟨6, at_c rfl rfl, by omega, by omega⟩
  | 6, _ => exact ⟨7, at_c rfl rfl, by omega, by omega⟩
  | 7, _ => exact ⟨8, at_c rfl rfl, by omega, by omega⟩
  | 8, _ => exact ⟨9, at_c rfl rfl, by omega, by omega⟩
  | 9, _ => exact ⟨10, at_c rfl rfl, by omega, by omega⟩
  | j + 10, h => omega
theorem small100 {n : Nat} (h : n ≤ 100) : n ≤ sizeLine := Nat.le_trans h (by decide)
section
variable {P : Program} {w : World} {K : PySem.W.Frag} {mg : Str → Option Value} {base : Heap}
def nLaw : List Str := ["_law_script", "_law_pool_here", "_law_base_here", "_law_kind", "_law_size", "_law_names", "_law_k", "_law_standings", "_law_given", "_law_part", "_law_steps_here", "_law_before", "_law_after", "_law_due_here", "_law_at", "_law_twice", "_law_wrong"]
theorem scLaw : FnScope nLaw ["_law_script"] (defScope sLaw) := ⟨rfl, rfl, rfl, by decide +kernel, rfl, by decide +kernel, by decide +kernel⟩
theorem ok_law {f CR fA fS fF fP fT fB fN fM fR fAl fD fG : Addr} {fd dP dT dB dN dM dR dAl dD dG : FuncData} (F : Fun K "law" "law" sLaw f fd) (B : Blt mg) (hL : mg "list" = none) (hSt : mg "str" = none) (hMin : mg "min" = none)
    (TP : Fn K mg "_law_pool" sPool ["_law_script"] fP dP) (TT : Fn K mg "_law_take" sTake ["_law_pool_here", "_law_size"] fT dT) (TB : Fn K mg "_law_base" sBase ["_law_pool_here"] fB dB)
    (TN : Fn K mg "_law_name" sName ["_law_pool_here", "_law_base_here", "_law_k"] fN dN) (TM : Fn K mg "_law_made" sMade ["_law_k", "_law_name_here", "_law_standings"] fM dM) (TR : Fn K mg "_law_repeated" sRepeated ["_law_k", "_law_name_here", "_law_standings"] fR dR)
    (TA : Fn K mg "_law_allowed" sAllowed ["_law_part", "_law_before", "_law_after"] fAl dAl) (TD : Fn K mg "_law_due" sDue ["_law_standings", "_law_before", "_law_after"] fD dD)
    (TG : Fn K mg "_law_agrees" sAgrees ["_law_part", "_law_standings", "_law_steps_here", "_law_strange"] fG dG)
    (GM : FnOk P w K mg base (L2.CX P w) 7 fM dM ["_law_k", "_law_name_here", "_law_standings"] (spMade K CR fA fS fF)) (GR : FnOk P w K mg base CX0 8 fR dR ["_law_k", "_law_name_here", "_law_standings"] (spRepeated K))
    (GA : FnOk P w K mg base CX0 4 fAl dAl ["_law_part", "_law_before", "_law_after"] (spAllowed K fA fS fF)) (GG : FnOk P w K mg base CX0 5 fG dG ["_law_part", "_law_standings", "_law_steps_here", "_law_strange"] (spAgrees K fA fS fF)) :
    FnOk P w K mg base CX0 9 f fd ["_law_script"] (spLaw K) := by
  have GP : FnOk P w K mg base CX0 1 fP dP ["_law_script"] (spPool K) := ok_pool TP.F B
  have GT : FnOk P w K mg base CX0 1 fT dT ["_law_pool_here", "_law_size"] spTake := ok_take TT.F B
  have GB : FnOk P w K mg base CX0 2 fB dB ["_law_pool_here"] (spBase 11) := ok_base TB.F B TT
  have GN : FnOk P w K mg base CX0 2 fN dN ["_law_pool_here", "_law_base_here", "_law_k"] spName := ok_name TN.F B TT
  have GD : FnOk P w K mg base CX0 1 fD dD ["_law_standings", "_law_before", "_law_after"] (spDue K) := ok_due TD.F
  refine F.ok scLaw (fun vs H Q E h => ?_) (fun cdv A outer s H vs Q E hr h => ?_)
  · obtain ⟨a, ns, rfl, _⟩ := h
    rfl
  · obtain ⟨scr, script, rfl, hS, hlen, k⟩ := h
    have r1 : Room 1 _ := hr.mono (by decide)
    have r2 : Room 2 _ := hr.mono (by decide)
    have r4 : Room 4 _ := hr.mono (by decide)
    have r5 : Room 5 _ := hr.mono (by decide)
    have r7 : Room 7 _ := hr.mono (by decide)
    refine ⟨_, pss_cons (ps_set (i := 1) scLaw.nd rfl (Or.inr rfl) (pe_call GP r1 rfl TP.g TP.F.kp TP.b .nil pass0 (pa_cons (pv 0) pa_nil)))
      (pss_cons (ps_set (i := 2) scLaw.nd rfl (Or.inr rfl) (pe_call GB r2 rfl TB.g TB.F.kp TB.b .nil pass0 (pa_cons (pv 1) pa_nil)))
      (pss_cons (ps_set (i := 3) scLaw.nd rfl (Or.inl rfl) (pe_call GT r1 rfl TT.g TT.F.kp TT.b .nil pass0 (pa_cons (pv 1) (pa_cons pe_int pa_nil))))
      (pss_cons (ps_set (i := 4) scLaw.nd rfl (Or.inl rfl) (pe_ix ix_list (pe_lst (pa_cons pe_int (pa_cons pe_int (pa_cons pe_int (pa_cons pe_int (pa_cons pe_int (pa_cons pe_int (pa_cons pe_int (pa_cons pe_int (pa_cons pe_int (pa_cons pe_int pa_nil)))))))))))
          (pe_call GT r1 rfl TT.g TT.F.kp TT.b .nil pass0 (pa_cons (pv 1) (pa_cons pe_int pa_nil))) (fun _ _ => rfl)))
      (C8.pss_cut (ps_if (pt_cmpR op_eq (pe_call GT r1 rfl TT.g TT.F.kp TT.b .nil pass0 (pa_cons (pv 1) (pa_cons pe_int pa_nil))) pe_int (nomark _)) (pss_one (ps_set (i := 4) scLaw.nd rfl (Or.inl rfl) pe_int)) pss_nil)
      (pss_cons (ps_setLc (i := 5) (own := [("_law_k", 6)]) (g := gName 6) (tt := tYes) rfl scLaw.nd rfl rfl (sw_true rfl rfl rfl (by decide +kernel)) (pi_range1 rfl B.range (pa_cons (pe_op op_add (pv 4) pe_int) pa_nil))
          (blkOk_by (N := nLaw) (sc := defScope sLaw) (by decide +kernel)) (fun _ _ _ _ _ => pg_name (i := 6) scLaw.nd rfl (Or.inl rfl)) (fun _ _ _ _ _ => pts_nil)
          (fun _ _ _ _ _ => pe_op op_add_str (pe_call GN r2 rfl TN.g TN.F.kp TN.b .nil pass0 (pa_cons (pv 1) (pa_cons (pv 2) (pa_cons (pe_op op_mod (pe_callTy call_int1 (by rfl) B.int (by decide +kernel) (pa_cons (pv 6) pa_nil)) pe_int) pa_nil))))
            (pe_callTy call_str_int (by rfl) hSt (by decide +kernel) (pa_cons (pe_op op_fdiv (pv 6) pe_int) pa_nil))))
      (pss_cons (ps_set (i := 7) scLaw.nd rfl (Or.inl rfl) (pe_slice sl_list (pv 5) po_none (po_some (pv 4))))
      (pss_cons (ps_set (i := 8) scLaw.nd rfl (Or.inl rfl) (pe_callTy call_list_of (by rfl) hL (by decide +kernel) (pa_cons (pv 7) pa_nil)))
      (pss_cons (ps_set (i := 9) scLaw.nd rfl (Or.inl rfl) (pe_call GM r7 rfl TM.g TM.F.kp TM.b .nil passF (pa_cons (pv 3) (pa_cons (pe_ix ix_list (pv 5) (pv 4) (fun _ _ => rfl)) (pa_cons (pv 8) pa_nil)))))
      (pss_cons (ps_if (pt_cmpR (op_neS hr.units) (pv 8) (pv 7) (nomark _)) (pss_one (ps_ret pe_bl)) pss_nil)
      (pss_cons (ps_expr (pe_bm PySem.F.plainAttrs_list PySem.F.slot_list_append PySem.F.type_list_append mt_append (pv 8) (pa_cons (pe_ix ix_list (pv 5) (pv 4) (fun _ _ => rfl)) pa_nil)))
      (pss_cons (ps_set (i := 10) scLaw.nd rfl (Or.inl rfl) (pe_lst pa_nil))
      (pss_cons (ps_if (pt_not (pt_val (pe_call GG r5 rfl TG.g TG.F.kp TG.b .nil pass0 (pa_cons (pv 9) (pa_cons (pv 7) (pa_cons (pv 10) (pa_cons (pe_ix ix_list (pv 5) (pv 4) (fun _ _ => rfl)) pa_nil))))))) (pss_one (ps_ret pe_bl)) pss_nil)
      (pss_cons (ps_for PassesOwn.never rfl (pi_range1 rfl B.range (pa_cons (pe_op op_add pe_int (pe_call GT r1 rfl TT.g TT.F.kp TT.b .nil pass0 (pa_cons (pv 1) (pa_cons pe_int pa_nil)))) pa_nil)) (pg_name (i := 6) scLaw.nd rfl (Or.inl rfl))
        (pss_cons (ps_set (i := 11) scLaw.nd rfl (Or.inl rfl) (pe_ix ix_list (pv 5) (pe_call GT r1 rfl TT.g TT.F.kp TT.b .nil pass0 (pa_cons (pv 1) (pa_cons (pe_op op_add (pv 4) pe_int) pa_nil))) (fun _ _ => rfl)))
        (pss_cons (ps_set (i := 12) scLaw.nd rfl (Or.inl rfl) (pe_ix ix_list (pv 5) (pe_op op_mod (pe_callTy call_int1 (by rfl) B.int (by decide +kernel) (pa_cons (pe_op op_add pe_int (pe_call GT r1 rfl TT.g TT.F.kp TT.b .nil pass0 (pa_cons (pv 1) (pa_cons (pe_op op_add (pv 4) pe_int) pa_nil)))) pa_nil)) (pe_op op_add (pv 4) pe_int)) (fun _ _ => rfl)))
        (C8.pss_cut (ps_set (i := 13) scLaw.nd rfl (Or.inl rfl) (pe_call GD r1 rfl TD.g TD.F.kp TD.b .nil pass0 (pa_cons (pv 7) (pa_cons (pv 11) (pa_cons (pv 12) pa_nil)))))
        (C8.pss_cut (ps_if (pt_cmpR (op_neS hr.units) (pe_call GA r4 rfl TA.g TA.F.kp TA.b .nil pass0 (pa_cons (pv 9) (pa_cons (pv 11) (pa_cons (pv 12) pa_nil)))) (pv 13) (nomark _)) (pss_one (ps_ret pe_bl)) pss_nil)
        (C8.pss_cut (ps_if (pt_cmp (pc_isN (pv 13))) (pss_one (ps_expr (pe_bm PySem.F.plainAttrs_list PySem.F.slot_list_append PySem.F.type_list_append mt_append (pv 10) (pa_cons (pe_tup (pa_cons (pv 11) (pa_cons (pv 12) pa_nil))) pa_nil)))) pss_nil)
        (pss_one (ps_if (pt_not (pt_val (pe_call GG r5 rfl TG.g TG.F.kp TG.b .nil pass0 (pa_cons (pv 9) (pa_cons (pv 7) (pa_cons (pv 10) (pa_cons (pe_ix ix_list (pv 5) (pv 4) (fun _ _ => rfl)) pa_nil))))))) (pss_one (ps_ret pe_bl)) pss_nil))))))))
      (pss_cons (ps_set (i := 14) scLaw.nd rfl (Or.inl rfl) (pe_op op_add pe_int (pe_call GT r1 rfl TT.g TT.F.kp TT.b .nil pass0 (pa_cons (pv 1) (pa_cons (pe_callB (call_min2 rfl) (by rfl) hMin (by decide +kernel) (pa_cons (pv 4) (pa_cons pe_int pa_nil))) pa_nil)))))
      (pss_cons (ps_set (i := 15) scLaw.nd rfl (Or.inl rfl) (pe_ix ix_list (pv 7) (pe_call GT r1 rfl TT.g TT.F.kp TT.b .nil pass0 (pa_cons (pv 1) (pa_cons (pv 14) pa_nil))) (fun _ _ => rfl)))
      (pss_cons (ps_set (i := 16) scLaw.nd rfl (Or.inl rfl) (pe_op op_cat (pe_op op_cat (pe_op op_cat (pe_slice sl_list (pv 7) po_none (po_some (pv 14))) (pe_lst (pa_cons (pv 15) pa_nil))) (pe_slice sl_list (pv 7) (po_some (pv 14)) po_none)) (pe_lst (pa_cons (pe_ix ix_list (pv 7) pe_int (fun _ _ => rfl)) pa_nil))))
      (pss_cons (ps_if (pt_cmpR (op_neS hr.units) (pe_call GR hr rfl TR.g TR.F.kp TR.b .nil pass0 (pa_cons (pv 3) (pa_cons (pe_ix ix_list (pv 5) (pv 4) (fun _ _ => rfl)) (pa_cons (pe_slice sl_list (pv 16) po_none (po_some pe_int)) pa_nil)))) (pe_tup (pa_cons pe_str (pa_cons (pv 15) pa_nil))) (nomark _)) (pss_one (ps_ret pe_bl)) pss_nil)
      (pss_one (ps_ret (pe_cmp (pc_isN (pe_call GR hr rfl TR.g TR.F.kp TR.b .nil pass0 (pa_cons (pv 3) (pa_cons (pe_ix ix_list (pv 5) (pv 4) (fun _ _ => rfl)) (pa_cons (pv 7) pa_nil))))) rfl)))))))))))))))))))), ?_⟩
    -- the pool, the base of the names, the kind, the size
    refine ⟨_, rfl, scr, script, rfl, hS, hlen, fun p c H1 _ _ _ P1 => ?_⟩
    refine ⟨_, rfl, p, c, rfl, P1, fun b H2 hb hsb _ P2 => ?_⟩
    refine ⟨_, rfl, p, c, 4, rfl, P2, by decide, by decide, fun kd H3 _ _ _ P3 => ?_⟩
    refine ⟨(by show 10 ≤ sizeLine; decide), fun tl ht => ?_⟩
    obtain ⟨ntp, ntc⟩ := P3.ne ht
    refine ⟨_, rfl, p, c, 10, rfl, P3.new ht, by decide, by decide, fun v H4 v0 v1 g4 P4 => ?_⟩
    obtain ⟨sz0, hat, z1, z2⟩ := sizes v0 v1
    refine ⟨tl, _, v, _, rfl, rfl, SqL.of (g4 _ _ upd_same ntp), hat, ?_⟩
    refine ⟨fun σ H' => ∃ n : Nat, 1 ≤ n ∧ n ≤ 60 ∧ Pool H' p c ∧ σ = [some (.ref scr), some (.ref p), some (.str b), some (.int kd), some (.int (n : Int)), none, none, none, none, none, none, none, none, none, none, none, none], ?_, ?_⟩
    · refine ⟨_, rfl, p, c, 8, rfl, P4, by decide, by decide, fun u H5 _ _ _ P5 => ⟨rfl, _, rfl, ?_⟩⟩
      exact ite2 (fun _ => ⟨60, by omega, by omega, P5, rfl⟩) (fun _ => ⟨sz0, z1, z2, P5, rfl⟩)
    rintro σ H5 ⟨n, n1, n2, P5, rfl⟩
    clear P1 P2 P3 P4 g4 hat ht v0 v1
    -- the names
    refine ⟨_, rfl, _, _, rfl, rfl, _, rfl, by omega, by omega, fun D hD => ?_⟩
    obtain ⟨nDp, nDc⟩ := P5.ne hD
    refine lc_range (lo := 0) (n := ((n : Int) + 1).toNat) (fun i H' => Pool H' p c ∧ ∃ ys : List Str, H' D = some (.lst (ys.map V.str)) ∧ ys.length = i ∧ ∀ j s, ys[j]? = some s → NmK j s)
      ⟨P5.new hD, [], upd_same, rfl, fun j s h => by simp at h⟩ ?_ ?_
    · rintro i H' hi ⟨P6, ys, hys, hyl, hnm⟩
      have e1 : ((0 : Int) + (i : Int)) % 12 = ((i % 12 : Nat) : Int) := by omega
      have e2 : ((0 : Int) + (i : Int)) / 12 = ((i / 12 : Nat) : Int) := by omega
      have i60 : i ≤ 60 := by omega
      refine ⟨rfl, _, rfl, _, rfl, _, rfl, .inl ⟨_, rfl, _, _, rfl, rfl, (by show (0 : Int) < 12; decide), p, c, b, i % 12, (by show [V.ref p, V.str b, V.int (((0 : Int) + (i : Int)) % 12)] = _; rw [e1]), P6, by omega, hsb, by omega, fun z H7 hz g7 P7 => ?_⟩⟩
      have h7 : H7 D = some (.lst (ys.map V.str)) := g7 D _ hys nDp
      have nz := nm_of i60 hz
      refine ⟨_, rfl, _, _, rfl, rfl, ⟨by decide, by decide⟩, _, rfl, ?_, z, _, rfl, rfl, ?_, ys.map V.str, h7, small1000 (by rw [List.length_map]; omega), P7.off nDp nDc, ys ++ [z ++ (toString ((i / 12 : Nat) : Int) : Str)], ?_, ?_, fun j s hj => ?_⟩
      · rw [e2]
        exact Nat.lt_of_le_of_lt (Nat.log2_le_self _) (by omega)
      · rw [e2]
        have q := nz.1
        rw [len_app] at q
        exact Nat.le_trans q (by decide)
      · rw [upd_same, e2, List.map_append]
        rfl
      · rw [List.length_append, hyl]
        rfl
      · rcases Nat.lt_or_ge j ys.length with hlt | hge
        · rw [List.getElem?_append_left hlt] at hj
          exact hnm j s hj
        · rw [List.getElem?_append_right hge] at hj
          have h0 : j - ys.length = 0 := by
            have := (List.getElem?_eq_some_iff.mp hj).1
            simp at this
            omega
          rw [h0] at hj
          have ej : j = i := by omega
          subst ej
          cases Option.some.inj hj
          exact nz
    rintro H6 ⟨P6, ns, hns, hnl, hnm⟩
    have hN : ns.length = n + 1 := by omega
    obtain ⟨z, hz⟩ : ∃ z, ns[n]? = some z := ⟨_, List.getElem?_eq_getElem (by omega)⟩
    have hnd : ns.Nodup := nm_nodup hnm
    obtain ⟨ss, hss⟩ : ∃ ss, ss = ns.take n := ⟨_, rfl⟩
    have sl_ : ss.length = n := by rw [hss, List.length_take]; omega
    have snd : ss.Nodup := by rw [hss]; exact hnd.sublist (List.take_sublist _ _)
    have hlen' : ∀ s ∈ ns, s.length ≤ 100 := fun s hs => by
      obtain ⟨j, hj⟩ := List.mem_iff_getElem?.mp hs
      exact (hnm j s hj).1
    have hsl : ∀ s ∈ ss, s.length ≤ 100 := fun s hs => hlen' s (by rw [hss] at hs; exact List.mem_of_mem_take hs)
    have hzl : z.length ≤ 100 := hlen' z (List.mem_of_getElem? hz)
    have zs : z ∉ ss := fun m => by
      rw [hss] at m
      obtain ⟨j, hj⟩ := List.mem_iff_getElem?.mp m
      have jn : j < n := by
        have := (List.getElem?_eq_some_iff.mp hj).1
        rw [List.length_take] at this
        omega
      rw [List.getElem?_take_of_lt jn] at hj
      exact absurd (nd_ix hnd hj hz) (by omega)
    have l1000 : ss.length ≤ 1000 := by omega
    -- standings, given, part
    refine ⟨_, rfl, _, rfl, _, rfl, D, _, rfl, SqL.of hns, fun sl hsl0 => ?_⟩
    rw [cut_take, ← hss]
    obtain ⟨nsp, nsc⟩ := P6.ne hsl0
    have nsD : sl ≠ D := (ne_of_none hns hsl0).symm
    have P7 := P6.new (o := .lst (ss.map V.str)) hsl0
    have d7 : upd H6 sl (.lst (ss.map V.str)) D = some (.lst (ns.map V.str)) := by rw [upd_ne nsD.symm]; exact hns
    have s7 : upd H6 sl (.lst (ss.map V.str)) sl = some (.lst (ss.map V.str)) := upd_same
    generalize upd H6 sl (.lst (ss.map V.str)) = H7 at P7 d7 s7
    refine ⟨_, rfl, sl, _, rfl, .inl (SqL.of s7), fun gl hgl => ?_⟩
    obtain ⟨ngp, ngc⟩ := P7.ne hgl
    have ngD : gl ≠ D := (ne_of_none d7 hgl).symm
    have ngs : gl ≠ sl := (ne_of_none s7 hgl).symm
    have P8 := P7.new (o := .lst (ss.map V.str)) hgl
    have d8 : upd H7 gl (.lst (ss.map V.str)) D = some (.lst (ns.map V.str)) := by rw [upd_ne ngD.symm]; exact d7
    have s8 : upd H7 gl (.lst (ss.map V.str)) sl = some (.lst (ss.map V.str)) := by rw [upd_ne ngs.symm]; exact s7
    have g8 : upd H7 gl (.lst (ss.map V.str)) gl = some (.lst (ss.map V.str)) := upd_same
    generalize upd H7 gl (.lst (ss.map V.str)) = H8 at P8 d8 s8 g8
    refine ⟨_, rfl, _, rfl, _, rfl, D, _, _, _, rfl, rfl, SqL.of d8, at_s hz rfl, _, rfl, kd, z, gl, ss, rfl, SqL.of g8, l1000, hsl, fun s hs => absurd snd hs.not_nd, fun _ a C H9 s9 na kc ka => ?_⟩
    refine ⟨_, rfl, _, rfl, _, dp_lst (SqL.of (s9 _ _ g8)), dp_lst (SqL.of (s9 _ _ s8)), plain_lst _, depth_lst _, _, rfl, no rfl ?_⟩
    refine ⟨_, rfl, .inl ⟨rfl, _, SqL.of (s9 _ _ g8)⟩, _, rfl, _, rfl, D, _, _, _, rfl, rfl, SqL.of (s9 _ _ d8), at_s hz rfl, gl, _, _, rfl, rfl, s9 _ _ g8, small1000 (by rw [List.length_map]; omega), ?_⟩
    have P10 : Pool (upd H9 gl (.lst (ss.map V.str ++ [.str z]))) p c := (P8.keep (fun o e => s9 _ _ e) fun o e => s9 _ _ e).off ngp ngc
    have d10 : upd H9 gl (.lst (ss.map V.str ++ [.str z])) D = some (.lst (ns.map V.str)) := by rw [upd_ne ngD.symm]; exact s9 _ _ d8
    have s10 : upd H9 gl (.lst (ss.map V.str ++ [.str z])) sl = some (.lst (ss.map V.str)) := by rw [upd_ne ngs.symm]; exact s9 _ _ s8
    have k10 : KindAt (upd H9 gl (.lst (ss.map V.str ++ [.str z]))) a C ss (fun _ _ => false) 0 := ka.keepL fun q o e ne => by
      rw [upd_ne]
      · exact e
      · rintro rfl
        rw [s9 _ _ g8] at e
        exact ne _ (Option.some.inj e).symm
    generalize upd H9 gl (.lst (ss.map V.str ++ [.str z])) = H10 at P10 d10 s10 k10
    refine ⟨(by show 0 ≤ sizeLine; decide), fun pl hpl => ?_⟩
    obtain ⟨npp, npc⟩ := P10.ne hpl
    have L : LawAt (upd H10 pl (.lst [])) p c D sl pl a C ns ss (fun _ _ => false) 0 [] [] := (fun q => ⟨P10.new hpl, by rw [upd_ne (ne_of_none d10 hpl)]; exact d10, by rw [upd_ne (ne_of_none s10 hpl)]; exact s10, upd_same, True.intro,
      k10.keep q, nDp, nsp, npp, npc, (ne_of_none d10 hpl).symm, (ne_of_none s10 hpl).symm⟩) (same_new hpl)
    generalize upd H10 pl (.lst []) = H11 at L
    refine ⟨_, rfl, _, rfl, _, rfl, _, rfl, _, rfl, D, _, _, _, rfl, rfl, SqL.of L.ns_, at_s hz rfl, a, C, sl, pl, z, ss, _, 0, [], [], rfl, kc, L.kind, SqL.of L.ss_, L.pl_, True.intro, fun s t => by simp, zs, l1000, hsl, hzl, fun H12 s12 => ⟨true, rfl, no rfl ?_⟩⟩
    have L12 := L.same s12
    have n200 : ((n : Int) + 1).natAbs < 2 ^ 200 := Nat.lt_of_le_of_lt (m := 100) (by omega) (by decide)
    have at_n : ∀ u : Int, 0 ≤ u → u < (n : Int) + 1 → ∃ s, ns[u.toNat]? = some s ∧ s.length ≤ 100 := fun u u0 u1 => by
      have hu : u.toNat < ns.length := by omega
      exact ⟨_, List.getElem?_eq_getElem hu, hlen' _ (List.getElem_mem hu)⟩
    -- the steps, one after the other
    refine ⟨_, rfl, p, c, 13, rfl, L12.pool, by decide, by decide, fun v H13 v0 v1 g13 P13 => ⟨_, _, rfl, rfl, _, rfl, by omega, by omega, for_range (lo := 0) (n := (2 + v).toNat)
      (fun i σ H' => ∃ (R : Str → Str → Bool) (m : Nat) (xs : List V) (ps : List (Str × Str)) (v6 v11 v12 v13 : Option V), LawAt H' p c D sl pl a C ns ss R m xs ps ∧ m ≤ i ∧ ps.length ≤ i ∧ (∀ s t, R s t = decide ((s, t) ∈ ps)) ∧
        σ = [some (.ref scr), some (.ref p), some (.str b), some (.int kd), some (.int (n : Int)), some (.ref D), v6, some (.ref sl), some (.ref gl), some (.ref a), some (.ref pl), v11, v12, v13, none, none, none])
      ⟨_, 0, [], [], _, _, _, _, L12.gro g13 P13, Nat.le_refl _, Nat.le_refl _, fun s t => by simp, rfl⟩ ?_ ?_⟩⟩
    · rintro i σ H' hi ⟨R, m, xs, ps, v6, v11, v12, v13, L, hm, hps, hR, rfl⟩
      have hi15 : i < 15 := by omega
      refine ⟨_, rfl, _, rfl, _, rfl, _, _, rfl, rfl, p, c, _, rfl, L.pool, by omega, n200, fun u H2 u0 u1 g2 P2 => ?_⟩
      obtain ⟨bf, hbf, lbf⟩ := at_n u u0 u1
      have L2 := L.gro g2 P2
      refine ⟨D, _, _, _, rfl, rfl, SqL.of L2.ns_, at_s hbf (by omega), ?_⟩
      refine ⟨_, rfl, _, rfl, _, rfl, _, _, rfl, rfl, p, c, _, rfl, L2.pool, by omega, n200, fun u' H3 u0' u1' g3 P3 => ?_⟩
      have L3 := L2.gro g3 P3
      have m0 : 0 ≤ (1 + u') % ((n : Int) + 1) := Int.emod_nonneg _ (by omega)
      have m1 : (1 + u') % ((n : Int) + 1) < (n : Int) + 1 := Int.emod_lt_of_pos _ (by omega)
      obtain ⟨df, hdf, ldf⟩ := at_n _ m0 m1
      refine ⟨_, _, rfl, rfl, .inl ⟨_, rfl, _, rfl, _, _, rfl, rfl, _, _, rfl, rfl, by omega, D, _, _, _, rfl, rfl, SqL.of L3.ns_, at_s hdf (Int.toNat_of_nonneg m0).symm, ?_⟩⟩
      -- what is due
      refine ⟨fun σ H' => ∃ v : V, DueV H' v ss bf df ∧ LawAt H' p c D sl pl a C ns ss R m xs ps ∧
        σ = [some (.ref scr), some (.ref p), some (.str b), some (.int kd), some (.int (n : Int)), some (.ref D), some (.int (0 + (i : Int))), some (.ref sl), some (.ref gl), some (.ref a), some (.ref pl), some (.str bf), some (.str df), some v, none, none, none], ?_, ?_⟩
      · exact ⟨_, rfl, _, rfl, _, rfl, sl, bf, df, ss, rfl, SqL.of L3.ss_, fun hn q H4 s4 hq => ⟨_, .inl ⟨hn, q, rfl, hq⟩, L3.same s4, rfl⟩, fun h1 hn q H4 s4 hq => ⟨_, .inr (.inl ⟨h1, hn, q, rfl, hq⟩), L3.same s4, rfl⟩,
          fun h1 h2 e q H4 s4 hq => ⟨_, .inr (.inr (.inl ⟨h1, h2, e, q, rfl, hq⟩)), L3.same s4, rfl⟩, fun h1 h2 e H4 s4 => ⟨_, .inr (.inr (.inr ⟨h1, h2, e, rfl⟩)), L3.same s4, rfl⟩⟩
      rintro σ H4 ⟨vd, hv, L4, rfl⟩
      -- what the object answers
      refine ⟨fun σ H' => ∃ (R' : Str → Str → Bool) (m' : Nat), LawAt H' p c D sl pl a C ns ss R' m' xs ps ∧ m' ≤ i + 1 ∧ (((∃ q, vd = .ref q) ∧ ∀ s t, R' s t = R s t) ∨ (vd = .non ∧ R' = addR R bf df)) ∧
        σ = [some (.ref scr), some (.ref p), some (.str b), some (.int kd), some (.int (n : Int)), some (.ref D), some (.int (0 + (i : Int))), some (.ref sl), some (.ref gl), some (.ref a), some (.ref pl), some (.str bf), some (.str df), some vd, none, none, none], ?_, ?_⟩
      · refine ⟨_, rfl, _, rfl, _, rfl, a, C, ss, R, m, bf, df, rfl, kc, L4.kind, by omega, lbf, ldf, ?_⟩
        have same : ∀ {q0 q : Addr} {H5 : Hp} {ts : List Str}, vd = .ref q0 → H4 q0 = some (.tup (ts.map V.str)) → Same H4 H5 → H5 q = some (.tup (ts.map V.str)) → Dp K H5 (.ref q) (.tuple (ts.map PyData.str)) ∧ Dp K H5 vd (.tuple (ts.map PyData.str)) :=
          fun {q0 q H5 ts} e h0 s5 hq => by subst e; exact ⟨dp_tup (SqT.of hq), dp_tup (SqT.of (s5 _ _ h0))⟩
        rcases hv with ⟨h1, q0, e0, h0⟩ | ⟨h1, h2, q0, e0, h0⟩ | ⟨h1, h2, h3, q0, e0, h0⟩ | ⟨h1, h2, h3, e0⟩
        · refine ⟨fun _ q H5 s5 hq => ?_, fun h => absurd h h1, fun h => absurd h h1, fun h => absurd h h1⟩
          obtain ⟨a1, a2⟩ := same (ts := ["unknown", bf]) e0 h0 s5 hq
          exact ⟨_, rfl, _, a1, a2, plain_tup _, depth_tup _, _, rfl, no rfl ⟨R, m, L4.same s5, by omega, .inl ⟨⟨q0, e0⟩, fun _ _ => rfl⟩, rfl⟩⟩
        · refine ⟨fun h => absurd h1 h, fun _ _ q H5 s5 hq => ?_, fun _ h => absurd h h2, fun _ h => absurd h h2⟩
          obtain ⟨a1, a2⟩ := same (ts := ["unknown", df]) e0 h0 s5 hq
          exact ⟨_, rfl, _, a1, a2, plain_tup _, depth_tup _, _, rfl, no rfl ⟨R, m, L4.same s5, by omega, .inl ⟨⟨q0, e0⟩, fun _ _ => rfl⟩, rfl⟩⟩
        · refine ⟨fun h => absurd h1 h, fun _ h => absurd h2 h, fun _ _ _ q H5 s5 hq => ?_, fun _ _ h => absurd h3 h⟩
          obtain ⟨a1, a2⟩ := same (ts := ["nostep", bf, df]) e0 h0 s5 hq
          exact ⟨_, rfl, _, a1, a2, plain_tup _, depth_tup _, _, rfl, no rfl ⟨R, m, L4.same s5, by omega, .inl ⟨⟨q0, e0⟩, fun _ _ => rfl⟩, rfl⟩⟩
        · refine ⟨fun h => absurd h1 h, fun _ h => absurd h2 h, fun _ _ h => absurd h h3, fun _ _ _ H5 s5 k5 => ?_⟩
          subst e0
          exact ⟨_, rfl, _, .non, .non, rfl, by decide, _, rfl, no rfl ⟨_, m + 1, L4.allow s5 k5, by omega, .inr ⟨rfl, rfl⟩, rfl⟩⟩
      rintro σ H5 ⟨R', m', L5, hm', hv', rfl⟩
      -- a step that is allowed now is noted
      refine ⟨fun σ H' => ∃ (R' : Str → Str → Bool) (m' : Nat) (xs' : List V) (ps' : List (Str × Str)), LawAt H' p c D sl pl a C ns ss R' m' xs' ps' ∧ m' ≤ i + 1 ∧ ps'.length ≤ i + 1 ∧ (∀ s t, R' s t = decide ((s, t) ∈ ps')) ∧
        σ = [some (.ref scr), some (.ref p), some (.str b), some (.int kd), some (.int (n : Int)), some (.ref D), some (.int (0 + (i : Int))), some (.ref sl), some (.ref gl), some (.ref a), some (.ref pl), some (.str bf), some (.str df), some vd, none, none, none], ?_, ?_⟩
      · refine ⟨_, rfl, _, rfl, ?_⟩
        rcases hv' with ⟨⟨q, rfl⟩, hRR⟩ | ⟨rfl, rfl⟩
        · exact no (decide_eq_false fun z => by cases z) ⟨R', m', xs, ps, L5, hm', by omega, fun s t => (hRR s t).trans (hR s t), rfl⟩
        · refine yes (decide_eq_true rfl) ⟨_, rfl, .inl ⟨rfl, _, SqL.of L5.pl_⟩, _, rfl, _, rfl, (by show 2 ≤ sizeLine; decide), fun t ht => ?_⟩
          have L6 := (L5.same (same_new (o := .tup [.str bf, .str df]) ht)).push (b := bf) (d := df) upd_same
          have hx : xs.length = ps.length := L5.prs.len
          exact ⟨pl, _, _, rfl, rfl, (L5.same (same_new ht)).pl_, small1000 (by omega), _, m', _, _, L6, hm', by rw [List.length_append]; show ps.length + 1 ≤ i + 1; omega, addR_mem hR bf df, rfl⟩
      rintro σ H6 ⟨R2, m2, xs2, ps2, L6, hm2, hps2, hR2, rfl⟩
      exact ⟨_, rfl, _, rfl, _, rfl, _, rfl, _, rfl, D, _, _, _, rfl, rfl, SqL.of L6.ns_, at_s hz rfl, a, C, sl, pl, z, ss, _, m2, xs2, ps2, rfl, kc, L6.kind, SqL.of L6.ss_, L6.pl_, L6.prs, hR2, zs, l1000, hsl, hzl,
        fun H7 s7 => ⟨true, rfl, no rfl ⟨R2, m2, xs2, ps2, _, _, _, _, L6.same s7, hm2, hps2, hR2, rfl⟩⟩⟩
    rintro σ H14 ⟨R, m, xs, ps, v6, v11, v12, v13, L, _, _, _, rfl⟩
    -- the list in which a standing is put in a second time
    refine ⟨_, rfl, _, rfl, _, _, rfl, p, c, _, rfl, L.pool, by split <;> omega, by split <;> exact Nat.lt_of_le_of_lt (m := 100) (by omega) (by decide), fun u H15 u0 u1 g15 P15 => ⟨_, _, rfl, rfl, ?_⟩⟩
    have u59 : u < 59 ∧ u < (n : Int) := by split at u1 <;> omega
    obtain ⟨q, hq⟩ : ∃ q : Nat, 1 + u = (q : Int) := ⟨(1 + u).toNat, by omega⟩
    have L15 := L.gro g15 P15
    refine ⟨_, rfl, _, rfl, _, rfl, p, c, _, rfl, L15.pool, by omega, Nat.lt_of_le_of_lt (m := 100) (by omega) (by decide), fun t H16 t0 t1 g16 P16 => ?_⟩
    have L16 := L15.gro g16 P16
    obtain ⟨tw, htw⟩ : ∃ tw, ss[t.toNat]? = some tw := ⟨_, List.getElem?_eq_getElem (by omega)⟩
    obtain ⟨s0, hs0⟩ : ∃ s0, ss[0]? = some s0 := ⟨_, List.getElem?_eq_getElem (by omega)⟩
    refine ⟨sl, _, t, _, rfl, rfl, SqL.of L16.ss_, at_s htw (by omega), ?_⟩
    clear L L15 P15 P16 g15 g16
    refine ⟨_, rfl, _, rfl, (q : Int), congrArg V.int hq, sl, _, rfl, SqL.of L16.ss_, fun p1 h1 => ?_⟩
    rw [cut_take]
    have L17 := L16.same (same_new (o := .lst ((ss.take q).map V.str)) h1)
    have e1 : upd H16 p1 (.lst ((ss.take q).map V.str)) p1 = some (.lst ((ss.take q).map V.str)) := upd_same
    generalize upd H16 p1 (.lst ((ss.take q).map V.str)) = H17 at L17 e1
    refine ⟨_, rfl, (by show 1 ≤ sizeLine; decide), fun p2 h2 => ?_⟩
    refine ⟨p1, p2, _, _, rfl, rfl, same_new h2 _ _ e1, upd_same, small100 (by simp; omega), fun p3 h3 => ?_⟩
    have s3 : Same H17 (upd (upd H17 p2 (.lst [.str tw])) p3 (.lst ((ss.take q).map V.str ++ [.str tw]))) := (same_new h2).trans (same_new h3)
    have L18 := L17.same s3
    have e3 : upd (upd H17 p2 (.lst [.str tw])) p3 (.lst ((ss.take q).map V.str ++ [.str tw])) p3 = some (.lst ((ss.take q).map V.str ++ [.str tw])) := upd_same
    generalize upd (upd H17 p2 (.lst [.str tw])) p3 (.lst ((ss.take q).map V.str ++ [.str tw])) = H18 at L18 e3 s3
    refine ⟨_, rfl, _, rfl, (q : Int), congrArg V.int hq, sl, _, rfl, SqL.of L18.ss_, fun p4 h4 => ?_⟩
    rw [cut_drop]
    refine ⟨p3, p4, _, _, rfl, rfl, same_new h4 _ _ e3, upd_same, small100 (by simp; omega), fun p5 h5 => ?_⟩
    have s5 : Same H18 (upd (upd H18 p4 (.lst ((ss.drop q).map V.str))) p5 (.lst (((ss.take q).map V.str ++ [.str tw]) ++ (ss.drop q).map V.str))) := (same_new h4).trans (same_new h5)
    have L19 := L18.same s5
    have e5 : upd (upd H18 p4 (.lst ((ss.drop q).map V.str))) p5 (.lst (((ss.take q).map V.str ++ [.str tw]) ++ (ss.drop q).map V.str)) p5 = some (.lst (((ss.take q).map V.str ++ [.str tw]) ++ (ss.drop q).map V.str)) := upd_same
    generalize upd (upd H18 p4 (.lst ((ss.drop q).map V.str))) p5 (.lst (((ss.take q).map V.str ++ [.str tw]) ++ (ss.drop q).map V.str)) = H19 at L19 e5 s5
    refine ⟨_, rfl, sl, _, _, _, rfl, rfl, SqL.of L19.ss_, at_s hs0 rfl, (by show 1 ≤ sizeLine; decide), fun p6 h6 => ?_⟩
    refine ⟨p5, p6, _, _, rfl, rfl, same_new h6 _ _ e5, upd_same, small100 (by simp; omega), fun p7 h7 => ?_⟩
    have ew : ((ss.take q).map V.str ++ [.str tw]) ++ (ss.drop q).map V.str ++ [V.str s0] = (ss.take q ++ [tw] ++ ss.drop q ++ [s0]).map V.str := by simp only [List.map_append, List.map_cons, List.map_nil]
    rw [ew]
    have htt := wrong_twice (s0 := s0) (q := q) (j := t.toNat) (by omega) (by omega) (by omega) htw snd
    have hwl : ∀ s ∈ ss.take q ++ [tw] ++ ss.drop q ++ [s0], s.length ≤ 100 := fun s hs => by
      have m1 : tw ∈ ss := List.mem_of_getElem? htw
      have m2 : s0 ∈ ss := List.mem_of_getElem? hs0
      refine hsl s ?_
      rcases List.mem_append.mp hs with hs | hs
      · rcases List.mem_append.mp hs with hs | hs
        · rcases List.mem_append.mp hs with hs | hs
          · exact List.mem_of_mem_take hs
          · rw [List.mem_singleton.mp hs]; exact m1
        · exact List.mem_of_mem_drop hs
      · rw [List.mem_singleton.mp hs]; exact m2
    generalize ss.take q ++ [tw] ++ ss.drop q ++ [s0] = wr at htt hwl
    have s7 : Same H19 (upd (upd H19 p6 (.lst [.str s0])) p7 (.lst (wr.map V.str))) := (same_new h6).trans (same_new h7)
    have L20 := L19.same s7
    have e7 : upd (upd H19 p6 (.lst [.str s0])) p7 (.lst (wr.map V.str)) p7 = some (.lst (wr.map V.str)) := upd_same
    generalize upd (upd H19 p6 (.lst [.str s0])) p7 (.lst (wr.map V.str)) = H20 at L20 e7 s7
    refine ⟨_, rfl, _, rfl, _, rfl, D, _, _, _, rfl, rfl, SqL.of L20.ns_, at_s hz rfl, _, rfl, ((60 : Nat) : Int), rfl, p7, _, rfl, SqL.of e7, fun p8 h8 => ?_⟩
    rw [cut_take]
    have L21 := L20.same (same_new (o := .lst ((wr.take 60).map V.str)) h8)
    refine ⟨kd, z, p8, wr.take 60, rfl, SqL.of upd_same, by rw [List.length_take]; omega, fun s hs => hwl s (List.mem_of_mem_take hs), fun s hs r H22 s22 hr' => ?_, fun nd => absurd nd htt.not_nd⟩
    have es := hs.one htt
    subst es
    refine ⟨_, rfl, (by show 2 ≤ sizeLine; decide), fun r2 hr2 => ?_⟩
    have L22 := (L21.same s22).same (same_new (o := .tup [.str "repeated", .str s]) hr2)
    refine ⟨_, dp_tup (ss := ["repeated", s]) (SqT.of (same_new hr2 _ _ hr')), dp_tup (ss := ["repeated", s]) (SqT.of upd_same), plain_tup _, depth_tup _, _, rfl, no rfl ?_⟩
    refine ⟨_, rfl, _, rfl, _, rfl, D, _, _, _, rfl, rfl, SqL.of L22.ns_, at_s hz rfl, _, rfl, kd, z, sl, ss, rfl, SqL.of L22.ss_, l1000, hsl, fun s hs => absurd snd hs.not_nd, fun _ H23 _ => ?_⟩
    show Q (.bl (decide (V.non = V.non))) H23
    rw [decide_eq_true rfl]
    exact k _
end
end Yd
namespace Yd
open PySem L2
/-- which errors «except S» names -/
theorem exm_is {K : PySem.W.Frag} {S : Addr} {cls : Value} {b : Bool} (h1 : PySem.W.subIn K (.ref S) (.type "BaseException") = some true) (h2 : PySem.W.isClsIn K S = true) (h3 : PySem.W.typeIn K (.ref S) = some (.type "type")) (h4 : PySem.W.subIn K cls (.ref S) = some b) : PySem.W.exmOne K cls (.ref S) = some b := by
  have a1 : (PySem.W.subIn K (.ref S) (.type "BaseException") == some true) = true := by rw [h1]; rfl
  have h5 : (PySem.W.clsIn K S).isSome = true := h2
  have a2 : ((PySem.W.clsIn K S).isSome && PySem.W.typeIn K (.ref S) == some (.type "type")) = true := by rw [h5, h3]; rfl
  unfold PySem.W.exmOne
  rw [if_pos a1]
  exact (if_pos a2).trans h4
end Yd
namespace Yd
open PySem L2
/-! ### what the top has written -/
theorem all_mk {P : Program} {w : World} {K : PySem.W.Frag} {h : Heap} {mg : Str → Option Value} {fa : Addr} (X : K.In h) (G : h.Ns mainGlobals mg) (hfa : mg "law" = some (.ref fa))
    {ER fR ccR cdaR : Addr} {nmR qR : Str} {NR : Addr} {bsR bmR : List Value} {snR : List Str} {subR : List Value} {abR : Bool} {colR : Option Bool} {ddR : Option Addr} {m0R m1R m2R m3R m5R : Option Value} {odR anR : Option Addr} {slR : Array (Option Value)} {ocR kVR dcR pmR ctR : Value} {cclR : Value} {cddR : Option Addr} {vsR : Array Value} {ccsR : Array (Option Value)} {fileR : Str} {tfR : Nat} {clR : Value} {cldR : Option Addr} {cslR : Array (Option Value)} {cdDR : ClassData} {EU fU ccU cdaU : Addr} {nmU qU : Str} {NU : Addr} {bsU bmU : List Value} {snU : List Str} {subU : List Value} {abU : Bool} {colU : Option Bool} {ddU : Option Addr} {m0U m1U m2U m3U m5U : Option Value} {odU anU : Option Addr} {slU : Array (Option Value)} {ocU kVU dcU pmU ctU : Value} {cclU : Value} {cddU : Option Addr} {vsU : Array Value} {ccsU : Array (Option Value)} {fileU : Str} {tfU : Nat} {clU : Value} {cldU : Option Addr} {cslU : Array (Option Value)} {cdDU : ClassData} {EN fN ccN cdaN : Addr} {nmN qN : Str} {NN : Addr} {bsN bmN : List Value} {snN : List Str} {subN : List Value} {abN : Bool} {colN : Option Bool} {ddN : Option Addr} {m0N m1N m2N m3N m5N : Option Value} {odN anN : Option Addr} {slN : Array (Option Value)} {ocN kVN dcN pmN ctN : Value} {cclN : Value} {cddN : Option Addr} {vsN : Array Value} {ccsN : Array (Option Value)} {fileN : Str} {tfN : Nat} {clN : Value} {cldN : Option Addr} {cslN : Array (Option Value)} {cdDN : ClassData} {CS : Addr} {CD : Addr} {CP : Addr} {CI : Addr} {CM : Addr} {fSI : Addr} {odSI anSI : Option Addr} {slSI : Array (Option Value)} {ocSI kVSI dcSI pmSI cdSI ctSI : Value} {fSt : Addr} {odSt anSt : Option Addr} {slSt : Array (Option Value)} {ocSt kVSt dcSt pmSt cdSt ctSt : Value} {fAl : Addr} {odAl anAl : Option Addr} {slAl : Array (Option Value)} {ocAl kVAl dcAl pmAl cdAl ctAl : Value} {fFr : Addr} {odFr anFr : Option Addr} {slFr : Array (Option Value)} {ocFr kVFr dcFr pmFr cdFr ctFr : Value} {fDI : Addr} {odDI anDI : Option Addr} {slDI : Array (Option Value)} {ocDI kVDI dcDI pmDI cdDI ctDI : Value} {fPI : Addr} {odPI anPI : Option Addr} {slPI : Array (Option Value)} {ocPI kVPI dcPI pmPI cdPI ctPI : Value} {fII : Addr} {odII anII : Option Addr} {slII : Array (Option Value)} {ocII kVII dcII pmII cdII ctII : Value} {fMI : Addr} {odMI anMI : Option Addr} {slMI : Array (Option Value)} {ocMI kVMI dcMI pmMI cdMI ctMI : Value} {fpool : Addr} {odpool anpool : Option Addr} {slpool : Array (Option Value)} {ocpool kVpool dcpool pmpool cdpool ctpool : Value} {ftake : Addr} {odtake antake : Option Addr} {sltake : Array (Option Value)} {octake kVtake dctake pmtake cdtake cttake : Value} {fbase : Addr} {odbase anbase : Option Addr} {slbase : Array (Option Value)} {ocbase kVbase dcbase pmbase cdbase ctbase : Value} {fname : Addr} {odname anname : Option Addr} {slname : Array (Option Value)} {ocname kVname dcname pmname cdname ctname : Value} {fist : Addr} {odist anist : Option Addr} {slist : Array (Option Value)} {ocist kVist dcist pmist cdist ctist : Value} {fmade : Addr} {odmade anmade : Option Addr} {slmade : Array (Option Value)} {ocmade kVmade dcmade pmmade cdmade ctmade : Value} {frep : Addr} {odrep anrep : Option Addr} {slrep : Array (Option Value)} {ocrep kVrep dcrep pmrep cdrep ctrep : Value} {fall : Addr} {odall anall : Option Addr} {slall : Array (Option Value)} {ocall kVall dcall pmall cdall ctall : Value} {fstp : Addr} {odstp anstp : Option Addr} {slstp : Array (Option Value)} {ocstp kVstp dcstp pmstp cdstp ctstp : Value} {fdue : Addr} {oddue andue : Option Addr} {sldue : Array (Option Value)} {ocdue kVdue dcdue pmdue cddue ctdue : Value} {fagr : Addr} {odagr anagr : Option Addr} {slagr : Array (Option Value)} {ocagr kVagr dcagr pmagr cdagr ctagr : Value} {flaw : Addr} {odlaw anlaw : Option Addr} {sllaw : Array (Option Value)} {oclaw kVlaw dclaw pmlaw cdlaw ctlaw : Value}
    (z0 : PySem.W.nsIn K mainGlobals "len" = some none)
    (z1 : PySem.W.nsIn K mainGlobals "int" = some none)
    (z2 : PySem.W.nsIn K mainGlobals "range" = some none)
    (z3 : PySem.W.nsIn K mainGlobals "tuple" = some none)
    (z4 : PySem.W.nsIn K mainGlobals "list" = some none)
    (z5 : PySem.W.nsIn K mainGlobals "str" = some none)
    (z6 : PySem.W.nsIn K mainGlobals "min" = some none)
    (z7 : PySem.W.nsIn K mainGlobals "isinstance" = some none)
    (aR : PySem.W.nsIn K mainGlobals "Repeated" = some (some (.ref ER)))
    (xR : K.lookup ER = some (excClassObj nmR qR ER NR bsR bmR true snR subR abR colR ddR m0R m1R m2R m3R m5R "ValueError.__new__"))
    (rvR : HandSPX.refsVE bmR = true)
    (saR : PySem.W.findIn K (.ref ER) "__setattr__" = some (some (.builtin "object.__setattr__")))
    (gaR : PySem.W.findIn K (.ref ER) "__getattribute__" = some (some (.builtin "BaseException.__getattribute__")))
    (ggR : PySem.W.findIn K (.ref ER) "__getattr__" = some none)
    (n0R : PySem.W.findIn K (.ref ER) "name" = some none)
    (eR : PySem.W.subIn K (.ref ER) (.type "BaseException") = some true)
    (tR : PySem.W.typeIn K (.ref ER) = some (.type "type"))
    (kCR : PySem.W.keepIn K (.ref ER) = true)
    (hCR : PySem.W.hasDictIn K ER = true)
    (iCR : PySem.W.isClsIn K ER = true)
    (sCR : PySem.W.subIn K (.ref ER) (.ref ER) = some true)
    (aiR : PySem.W.findIn K (.ref ER) "__init__" = some (some (.ref fR)))
    (tiR : PySem.W.typeIn K (.ref fR) = some (.type "function"))
    (lR : K.lookup fR = some ⟨ocR, odR, .func (PySem.W.fnX "__init__" "Repeated.__init__" (defArgs sRepeatedInit) (defBody sRepeatedInit) (defScope sRepeatedInit) [("__class__", ccR)] .none kVR dcR pmR anR (.ref cdaR) ctR), slR⟩)
    (cR : PySem.W.codeIn K (.ref cdaR) "Repeated.__init__" = true)
    (lcR : K.lookup cdaR = some ⟨cclR, cddR, .fields vsR, ccsR⟩)
    (hvR : vsR[2]? = some (.str fileR tfR))
    (hfR : (P.main.file == fileR) = true)
    (ceR : K.lookup ccR = some ⟨clR, cldR, .cell (some (.ref ER)), cslR⟩)
    (cdR : PySem.W.clsIn K ER = some cdDR)
    (ovR : PySem.W.ks_superIn K ER ER "__init__" = some (some (.builtin "ValueError.__init__")))
    (svR : PySem.W.subIn K (.ref ER) (.type "ValueError") = some true)
    (mrR : PySem.W.mroIn K ER (.ref ER) = some true)
    (z8 : PySem.W.nsIn K mainGlobals "super" = some none)
    (top : (P.main.scope.names.lookup ("super" : Str)).isSome = false)
    (any : PySem.W.nsIn K cStatics "thirdparty.any" = some none)
    (aU : PySem.W.nsIn K mainGlobals "Unknown" = some (some (.ref EU)))
    (xU : K.lookup EU = some (excClassObj nmU qU EU NU bsU bmU true snU subU abU colU ddU m0U m1U m2U m3U m5U "ValueError.__new__"))
    (rvU : HandSPX.refsVE bmU = true)
    (saU : PySem.W.findIn K (.ref EU) "__setattr__" = some (some (.builtin "object.__setattr__")))
    (gaU : PySem.W.findIn K (.ref EU) "__getattribute__" = some (some (.builtin "BaseException.__getattribute__")))
    (ggU : PySem.W.findIn K (.ref EU) "__getattr__" = some none)
    (n0U : PySem.W.findIn K (.ref EU) "name" = some none)
    (eU : PySem.W.subIn K (.ref EU) (.type "BaseException") = some true)
    (tU : PySem.W.typeIn K (.ref EU) = some (.type "type"))
    (kCU : PySem.W.keepIn K (.ref EU) = true)
    (hCU : PySem.W.hasDictIn K EU = true)
    (iCU : PySem.W.isClsIn K EU = true)
    (sCU : PySem.W.subIn K (.ref EU) (.ref EU) = some true)
    (aiU : PySem.W.findIn K (.ref EU) "__init__" = some (some (.ref fU)))
    (tiU : PySem.W.typeIn K (.ref fU) = some (.type "function"))
    (lU : K.lookup fU = some ⟨ocU, odU, .func (PySem.W.fnX "__init__" "Unknown.__init__" (defArgs sUnknownInit) (defBody sUnknownInit) (defScope sUnknownInit) [("__class__", ccU)] .none kVU dcU pmU anU (.ref cdaU) ctU), slU⟩)
    (cU : PySem.W.codeIn K (.ref cdaU) "Unknown.__init__" = true)
    (lcU : K.lookup cdaU = some ⟨cclU, cddU, .fields vsU, ccsU⟩)
    (hvU : vsU[2]? = some (.str fileU tfU))
    (hfU : (P.main.file == fileU) = true)
    (ceU : K.lookup ccU = some ⟨clU, cldU, .cell (some (.ref EU)), cslU⟩)
    (cdU : PySem.W.clsIn K EU = some cdDU)
    (ovU : PySem.W.ks_superIn K EU EU "__init__" = some (some (.builtin "ValueError.__init__")))
    (svU : PySem.W.subIn K (.ref EU) (.type "ValueError") = some true)
    (mrU : PySem.W.mroIn K EU (.ref EU) = some true)
    (aN : PySem.W.nsIn K mainGlobals "NoStep" = some (some (.ref EN)))
    (xN : K.lookup EN = some (excClassObj nmN qN EN NN bsN bmN true snN subN abN colN ddN m0N m1N m2N m3N m5N "ValueError.__new__"))
    (rvN : HandSPX.refsVE bmN = true)
    (saN : PySem.W.findIn K (.ref EN) "__setattr__" = some (some (.builtin "object.__setattr__")))
    (gaN : PySem.W.findIn K (.ref EN) "__getattribute__" = some (some (.builtin "BaseException.__getattribute__")))
    (ggN : PySem.W.findIn K (.ref EN) "__getattr__" = some none)
    (n0N : PySem.W.findIn K (.ref EN) "before" = some none)
    (n1N : PySem.W.findIn K (.ref EN) "after" = some none)
    (eN : PySem.W.subIn K (.ref EN) (.type "BaseException") = some true)
    (tN : PySem.W.typeIn K (.ref EN) = some (.type "type"))
    (kCN : PySem.W.keepIn K (.ref EN) = true)
    (hCN : PySem.W.hasDictIn K EN = true)
    (iCN : PySem.W.isClsIn K EN = true)
    (sCN : PySem.W.subIn K (.ref EN) (.ref EN) = some true)
    (aiN : PySem.W.findIn K (.ref EN) "__init__" = some (some (.ref fN)))
    (tiN : PySem.W.typeIn K (.ref fN) = some (.type "function"))
    (lN : K.lookup fN = some ⟨ocN, odN, .func (PySem.W.fnX "__init__" "NoStep.__init__" (defArgs sNoStepInit) (defBody sNoStepInit) (defScope sNoStepInit) [("__class__", ccN)] .none kVN dcN pmN anN (.ref cdaN) ctN), slN⟩)
    (cN : PySem.W.codeIn K (.ref cdaN) "NoStep.__init__" = true)
    (lcN : K.lookup cdaN = some ⟨cclN, cddN, .fields vsN, ccsN⟩)
    (hvN : vsN[2]? = some (.str fileN tfN))
    (hfN : (P.main.file == fileN) = true)
    (ceN : K.lookup ccN = some ⟨clN, cldN, .cell (some (.ref EN)), cslN⟩)
    (cdN : PySem.W.clsIn K EN = some cdDN)
    (ovN : PySem.W.ks_superIn K EN EN "__init__" = some (some (.builtin "ValueError.__init__")))
    (svN : PySem.W.subIn K (.ref EN) (.type "ValueError") = some true)
    (mrN : PySem.W.mroIn K EN (.ref EN) = some true)
    (nu : PySem.W.subIn K (.ref EN) (.ref EU) = some false)
    (aCS : PySem.W.nsIn K mainGlobals "Steps" = some (some (.ref CS)))
    (pgCS : PySem.W.plainGet K CS Str.empty = true)
    (hdCS : PySem.W.hasDictIn K CS = true)
    (poCS : PySem.W.plainOver K CS = true)
    (saCS : PySem.W.findIn K (.ref CS) "__setattr__" = some (some (.builtin "object.__setattr__")))
    (mkCS : PySem.W.makesIn K CS = true)
    (kcCS : PySem.W.keepIn K (.ref CS) = true)
    (aCD : PySem.W.nsIn K mainGlobals "Doors" = some (some (.ref CD)))
    (pgCD : PySem.W.plainGet K CD Str.empty = true)
    (hdCD : PySem.W.hasDictIn K CD = true)
    (poCD : PySem.W.plainOver K CD = true)
    (saCD : PySem.W.findIn K (.ref CD) "__setattr__" = some (some (.builtin "object.__setattr__")))
    (mkCD : PySem.W.makesIn K CD = true)
    (kcCD : PySem.W.keepIn K (.ref CD) = true)
    (aCP : PySem.W.nsIn K mainGlobals "Part" = some (some (.ref CP)))
    (pgCP : PySem.W.plainGet K CP Str.empty = true)
    (hdCP : PySem.W.hasDictIn K CP = true)
    (poCP : PySem.W.plainOver K CP = true)
    (saCP : PySem.W.findIn K (.ref CP) "__setattr__" = some (some (.builtin "object.__setattr__")))
    (mkCP : PySem.W.makesIn K CP = true)
    (kcCP : PySem.W.keepIn K (.ref CP) = true)
    (aCI : PySem.W.nsIn K mainGlobals "Single" = some (some (.ref CI)))
    (pgCI : PySem.W.plainGet K CI Str.empty = true)
    (hdCI : PySem.W.hasDictIn K CI = true)
    (poCI : PySem.W.plainOver K CI = true)
    (saCI : PySem.W.findIn K (.ref CI) "__setattr__" = some (some (.builtin "object.__setattr__")))
    (mkCI : PySem.W.makesIn K CI = true)
    (kcCI : PySem.W.keepIn K (.ref CI) = true)
    (aCM : PySem.W.nsIn K mainGlobals "Many" = some (some (.ref CM)))
    (pgCM : PySem.W.plainGet K CM Str.empty = true)
    (hdCM : PySem.W.hasDictIn K CM = true)
    (poCM : PySem.W.plainOver K CM = true)
    (saCM : PySem.W.findIn K (.ref CM) "__setattr__" = some (some (.builtin "object.__setattr__")))
    (mkCM : PySem.W.makesIn K CM = true)
    (kcCM : PySem.W.keepIn K (.ref CM) = true)
    (lSI : K.lookup fSI = some ⟨ocSI, odSI, .func (PySem.W.fnOf "__init__" "Steps.__init__" (defArgs sStepsInit) (defBody sStepsInit) (defScope sStepsInit) .none kVSI dcSI pmSI anSI cdSI ctSI), slSI⟩)
    (cSI : PySem.W.codeIn K cdSI "Steps.__init__" = true)
    (kSI : PySem.W.keepIn K (.ref fSI) = true)
    (iSI : PySem.W.isFn K (.ref fSI) = true)
    (lSt : K.lookup fSt = some ⟨ocSt, odSt, .func (PySem.W.fnOf "standings" "Steps.standings" (defArgs sStepsStandings) (defBody sStepsStandings) (defScope sStepsStandings) .none kVSt dcSt pmSt anSt cdSt ctSt), slSt⟩)
    (cSt : PySem.W.codeIn K cdSt "Steps.standings" = true)
    (kSt : PySem.W.keepIn K (.ref fSt) = true)
    (iSt : PySem.W.isFn K (.ref fSt) = true)
    (lAl : K.lookup fAl = some ⟨ocAl, odAl, .func (PySem.W.fnOf "allow" "Steps.allow" (defArgs sStepsAllow) (defBody sStepsAllow) (defScope sStepsAllow) .none kVAl dcAl pmAl anAl cdAl ctAl), slAl⟩)
    (cAl : PySem.W.codeIn K cdAl "Steps.allow" = true)
    (kAl : PySem.W.keepIn K (.ref fAl) = true)
    (iAl : PySem.W.isFn K (.ref fAl) = true)
    (lFr : K.lookup fFr = some ⟨ocFr, odFr, .func (PySem.W.fnOf "steps_from" "Steps.steps_from" (defArgs sStepsStepsFrom) (defBody sStepsStepsFrom) (defScope sStepsStepsFrom) .none kVFr dcFr pmFr anFr cdFr ctFr), slFr⟩)
    (cFr : PySem.W.codeIn K cdFr "Steps.steps_from" = true)
    (kFr : PySem.W.keepIn K (.ref fFr) = true)
    (iFr : PySem.W.isFn K (.ref fFr) = true)
    (lDI : K.lookup fDI = some ⟨ocDI, odDI, .func (PySem.W.fnOf "__init__" "Doors.__init__" (defArgs sDoorsInit) (defBody sDoorsInit) (defScope sDoorsInit) .none kVDI dcDI pmDI anDI cdDI ctDI), slDI⟩)
    (cDI : PySem.W.codeIn K cdDI "Doors.__init__" = true)
    (kDI : PySem.W.keepIn K (.ref fDI) = true)
    (iDI : PySem.W.isFn K (.ref fDI) = true)
    (lPI : K.lookup fPI = some ⟨ocPI, odPI, .func (PySem.W.fnOf "__init__" "Part.__init__" (defArgs sPartInit) (defBody sPartInit) (defScope sPartInit) .none kVPI dcPI pmPI anPI cdPI ctPI), slPI⟩)
    (cPI : PySem.W.codeIn K cdPI "Part.__init__" = true)
    (kPI : PySem.W.keepIn K (.ref fPI) = true)
    (iPI : PySem.W.isFn K (.ref fPI) = true)
    (lII : K.lookup fII = some ⟨ocII, odII, .func (PySem.W.fnOf "__init__" "Single.__init__" (defArgs sSingleInit) (defBody sSingleInit) (defScope sSingleInit) .none kVII dcII pmII anII cdII ctII), slII⟩)
    (cII : PySem.W.codeIn K cdII "Single.__init__" = true)
    (kII : PySem.W.keepIn K (.ref fII) = true)
    (iII : PySem.W.isFn K (.ref fII) = true)
    (lMI : K.lookup fMI = some ⟨ocMI, odMI, .func (PySem.W.fnOf "__init__" "Many.__init__" (defArgs sManyInit) (defBody sManyInit) (defScope sManyInit) .none kVMI dcMI pmMI anMI cdMI ctMI), slMI⟩)
    (cMI : PySem.W.codeIn K cdMI "Many.__init__" = true)
    (kMI : PySem.W.keepIn K (.ref fMI) = true)
    (iMI : PySem.W.isFn K (.ref fMI) = true)
    (nsCS : PySem.W.findIn K (.ref CS) "_steps" = some none)
    (m_CS_Al : PySem.W.findIn K (.ref CS) "allow" = some (some (.ref fAl)))
    (m_CS_St : PySem.W.findIn K (.ref CS) "standings" = some (some (.ref fSt)))
    (m_CS_Fr : PySem.W.findIn K (.ref CS) "steps_from" = some (some (.ref fFr)))
    (inCS : PySem.W.findIn K (.ref CS) "__init__" = some (some (.ref fSI)))
    (nsCP : PySem.W.findIn K (.ref CP) "_steps" = some none)
    (m_CP_Al : PySem.W.findIn K (.ref CP) "allow" = some (some (.ref fAl)))
    (m_CP_St : PySem.W.findIn K (.ref CP) "standings" = some (some (.ref fSt)))
    (m_CP_Fr : PySem.W.findIn K (.ref CP) "steps_from" = some (some (.ref fFr)))
    (inCP : PySem.W.findIn K (.ref CP) "__init__" = some (some (.ref fPI)))
    (nsCI : PySem.W.findIn K (.ref CI) "_steps" = some none)
    (m_CI_Al : PySem.W.findIn K (.ref CI) "allow" = some (some (.ref fAl)))
    (m_CI_St : PySem.W.findIn K (.ref CI) "standings" = some (some (.ref fSt)))
    (m_CI_Fr : PySem.W.findIn K (.ref CI) "steps_from" = some (some (.ref fFr)))
    (inCI : PySem.W.findIn K (.ref CI) "__init__" = some (some (.ref fII)))
    (nsCM : PySem.W.findIn K (.ref CM) "_steps" = some none)
    (m_CM_Al : PySem.W.findIn K (.ref CM) "allow" = some (some (.ref fAl)))
    (m_CM_St : PySem.W.findIn K (.ref CM) "standings" = some (some (.ref fSt)))
    (m_CM_Fr : PySem.W.findIn K (.ref CM) "steps_from" = some (some (.ref fFr)))
    (inCM : PySem.W.findIn K (.ref CM) "__init__" = some (some (.ref fMI)))
    (ndCP : PySem.W.findIn K (.ref CP) "_doors" = some none)
    (nnCP : PySem.W.findIn K (.ref CP) "name" = some none)
    (ndCI : PySem.W.findIn K (.ref CI) "_doors" = some none)
    (nnCI : PySem.W.findIn K (.ref CI) "name" = some none)
    (ndCM : PySem.W.findIn K (.ref CM) "_doors" = some none)
    (nnCM : PySem.W.findIn K (.ref CM) "name" = some none)
    (rdCS : PySem.W.readsIn K CS (.type "type") = true)
    (gtCS : PySem.W.specialIn K (.ref CS) "__getattribute__" = some (some (.builtin "type.__getattribute__")))
    (fcqS : PySem.W.findCls K (.ref CS) (.type "type") "__init__" = some (.val (.ref fSI)))
    (rdCD : PySem.W.readsIn K CD (.type "type") = true)
    (gtCD : PySem.W.specialIn K (.ref CD) "__getattribute__" = some (some (.builtin "type.__getattribute__")))
    (fcqD : PySem.W.findCls K (.ref CD) (.type "type") "__init__" = some (.val (.ref fDI)))
    (rdCP : PySem.W.readsIn K CP (.type "type") = true)
    (gtCP : PySem.W.specialIn K (.ref CP) "__getattribute__" = some (some (.builtin "type.__getattribute__")))
    (fcqP : PySem.W.findCls K (.ref CP) (.type "type") "__init__" = some (.val (.ref fPI)))
    (lpool : K.lookup fpool = some ⟨ocpool, odpool, .func (PySem.W.fnOf "_law_pool" "_law_pool" (defArgs sPool) (defBody sPool) (defScope sPool) .none kVpool dcpool pmpool anpool cdpool ctpool), slpool⟩)
    (cpool : PySem.W.codeIn K cdpool "_law_pool" = true)
    (kpool : PySem.W.keepIn K (.ref fpool) = true)
    (apool : PySem.W.nsIn K mainGlobals "_law_pool" = some (some (.ref fpool)))
    (ltake : K.lookup ftake = some ⟨octake, odtake, .func (PySem.W.fnOf "_law_take" "_law_take" (defArgs sTake) (defBody sTake) (defScope sTake) .none kVtake dctake pmtake antake cdtake cttake), sltake⟩)
    (ctake : PySem.W.codeIn K cdtake "_law_take" = true)
    (ktake : PySem.W.keepIn K (.ref ftake) = true)
    (atake : PySem.W.nsIn K mainGlobals "_law_take" = some (some (.ref ftake)))
    (lbase : K.lookup fbase = some ⟨ocbase, odbase, .func (PySem.W.fnOf "_law_base" "_law_base" (defArgs sBase) (defBody sBase) (defScope sBase) .none kVbase dcbase pmbase anbase cdbase ctbase), slbase⟩)
    (cbase : PySem.W.codeIn K cdbase "_law_base" = true)
    (kbase : PySem.W.keepIn K (.ref fbase) = true)
    (abase : PySem.W.nsIn K mainGlobals "_law_base" = some (some (.ref fbase)))
    (lname : K.lookup fname = some ⟨ocname, odname, .func (PySem.W.fnOf "_law_name" "_law_name" (defArgs sName) (defBody sName) (defScope sName) .none kVname dcname pmname anname cdname ctname), slname⟩)
    (cname : PySem.W.codeIn K cdname "_law_name" = true)
    (kname : PySem.W.keepIn K (.ref fname) = true)
    (aname : PySem.W.nsIn K mainGlobals "_law_name" = some (some (.ref fname)))
    (list : K.lookup fist = some ⟨ocist, odist, .func (PySem.W.fnOf "_law_is_tuple" "_law_is_tuple" (defArgs sIsTuple) (defBody sIsTuple) (defScope sIsTuple) .none kVist dcist pmist anist cdist ctist), slist⟩)
    (cist : PySem.W.codeIn K cdist "_law_is_tuple" = true)
    (kist : PySem.W.keepIn K (.ref fist) = true)
    (aist : PySem.W.nsIn K mainGlobals "_law_is_tuple" = some (some (.ref fist)))
    (lmade : K.lookup fmade = some ⟨ocmade, odmade, .func (PySem.W.fnOf "_law_made" "_law_made" (defArgs sMade) (defBody sMade) (defScope sMade) .none kVmade dcmade pmmade anmade cdmade ctmade), slmade⟩)
    (cmade : PySem.W.codeIn K cdmade "_law_made" = true)
    (kmade : PySem.W.keepIn K (.ref fmade) = true)
    (amade : PySem.W.nsIn K mainGlobals "_law_made" = some (some (.ref fmade)))
    (lrep : K.lookup frep = some ⟨ocrep, odrep, .func (PySem.W.fnOf "_law_repeated" "_law_repeated" (defArgs sRepeated) (defBody sRepeated) (defScope sRepeated) .none kVrep dcrep pmrep anrep cdrep ctrep), slrep⟩)
    (crep : PySem.W.codeIn K cdrep "_law_repeated" = true)
    (krep : PySem.W.keepIn K (.ref frep) = true)
    (arep : PySem.W.nsIn K mainGlobals "_law_repeated" = some (some (.ref frep)))
    (lall : K.lookup fall = some ⟨ocall, odall, .func (PySem.W.fnOf "_law_allowed" "_law_allowed" (defArgs sAllowed) (defBody sAllowed) (defScope sAllowed) .none kVall dcall pmall anall cdall ctall), slall⟩)
    (call : PySem.W.codeIn K cdall "_law_allowed" = true)
    (kall : PySem.W.keepIn K (.ref fall) = true)
    (aall : PySem.W.nsIn K mainGlobals "_law_allowed" = some (some (.ref fall)))
    (lstp : K.lookup fstp = some ⟨ocstp, odstp, .func (PySem.W.fnOf "_law_steps" "_law_steps" (defArgs sSteps) (defBody sSteps) (defScope sSteps) .none kVstp dcstp pmstp anstp cdstp ctstp), slstp⟩)
    (cstp : PySem.W.codeIn K cdstp "_law_steps" = true)
    (kstp : PySem.W.keepIn K (.ref fstp) = true)
    (astp : PySem.W.nsIn K mainGlobals "_law_steps" = some (some (.ref fstp)))
    (ldue : K.lookup fdue = some ⟨ocdue, oddue, .func (PySem.W.fnOf "_law_due" "_law_due" (defArgs sDue) (defBody sDue) (defScope sDue) .none kVdue dcdue pmdue andue cddue ctdue), sldue⟩)
    (cdue : PySem.W.codeIn K cddue "_law_due" = true)
    (kdue : PySem.W.keepIn K (.ref fdue) = true)
    (adue : PySem.W.nsIn K mainGlobals "_law_due" = some (some (.ref fdue)))
    (lagr : K.lookup fagr = some ⟨ocagr, odagr, .func (PySem.W.fnOf "_law_agrees" "_law_agrees" (defArgs sAgrees) (defBody sAgrees) (defScope sAgrees) .none kVagr dcagr pmagr anagr cdagr ctagr), slagr⟩)
    (cagr : PySem.W.codeIn K cdagr "_law_agrees" = true)
    (kagr : PySem.W.keepIn K (.ref fagr) = true)
    (aagr : PySem.W.nsIn K mainGlobals "_law_agrees" = some (some (.ref fagr)))
    (llaw : K.lookup flaw = some ⟨oclaw, odlaw, .func (PySem.W.fnOf "law" "law" (defArgs sLaw) (defBody sLaw) (defScope sLaw) .none kVlaw dclaw pmlaw anlaw cdlaw ctlaw), sllaw⟩)
    (claw : PySem.W.codeIn K cdlaw "law" = true)
    (klaw : PySem.W.keepIn K (.ref flaw) = true)
    (alaw : PySem.W.nsIn K mainGlobals "law" = some (some (.ref flaw))) :
    ∃ fd : FuncData, (∀ (s : Shared) (v : Value), BindsTo s fd ⟨[v], []⟩ [("_law_script", v)]) ∧ ∀ base : Heap, K.In base → base.Ns mainGlobals mg → FnOk P w K mg base CX0 9 fa fd ["_law_script"] (spLaw K) := by
  have e := hfa.symm.trans (PySem.W.mg_of X G alaw)
  cases e
  have oR : OexC K ER := ⟨⟨_, _, _, _, _, _, _, _, _, _, _, _, _, _, _, xR, rvR⟩, saR, eR, tR, kCR⟩
  have FR : SupFn P K mg "__init__" "Repeated.__init__" sRepeatedInit fR ER ccR _ := ⟨⟨_, _, _, _, _, _, _, _, _, _, _, _, _, _, _, rfl, lR, cR, lcR, hvR, hfR⟩, ⟨_, _, _, ceR⟩, ⟨_, cdR⟩, (PySem.W.mg_none_of X G z8), top, any⟩
  have sR : SupC K ER ER := ⟨oR, ovR, svR, mrR⟩
  have bR : ∀ K : PySem.W.Frag, Binds K (PySem.W.fnX "__init__" "Repeated.__init__" (defArgs sRepeatedInit) (defBody sRepeatedInit) (defScope sRepeatedInit) [("__class__", ccR)] .none kVR dcR pmR anR (.ref cdaR) ctR) ["self", "name"] [] := fun _ s us _ hl => match us, hl with | [_, _], _ => .of_eq rfl
  have OR : ∀ base : Heap, ErrOk P w K mg base "Repeated" ER 1 okRepeated fsRepeated := fun base => ⟨(PySem.W.mg_of X G aR), oR, ⟨_, _, _, aiR, tiR, ok_RepeatedInit FR sR n0R, bR K⟩⟩
  have TR : CatchC K ER := ⟨⟨gaR, ggR, eR, hCR⟩, exm_is eR iCR tR sCR⟩
  have oU : OexC K EU := ⟨⟨_, _, _, _, _, _, _, _, _, _, _, _, _, _, _, xU, rvU⟩, saU, eU, tU, kCU⟩
  have FU : SupFn P K mg "__init__" "Unknown.__init__" sUnknownInit fU EU ccU _ := ⟨⟨_, _, _, _, _, _, _, _, _, _, _, _, _, _, _, rfl, lU, cU, lcU, hvU, hfU⟩, ⟨_, _, _, ceU⟩, ⟨_, cdU⟩, (PySem.W.mg_none_of X G z8), top, any⟩
  have sU : SupC K EU EU := ⟨oU, ovU, svU, mrU⟩
  have bU : ∀ K : PySem.W.Frag, Binds K (PySem.W.fnX "__init__" "Unknown.__init__" (defArgs sUnknownInit) (defBody sUnknownInit) (defScope sUnknownInit) [("__class__", ccU)] .none kVU dcU pmU anU (.ref cdaU) ctU) ["self", "name"] [] := fun _ s us _ hl => match us, hl with | [_, _], _ => .of_eq rfl
  have OU : ∀ base : Heap, ErrOk P w K mg base "Unknown" EU 1 okUnknown fsUnknown := fun base => ⟨(PySem.W.mg_of X G aU), oU, ⟨_, _, _, aiU, tiU, ok_UnknownInit FU sU n0U, bU K⟩⟩
  have TU : CatchC K EU := ⟨⟨gaU, ggU, eU, hCU⟩, exm_is eU iCU tU sCU⟩
  have oN : OexC K EN := ⟨⟨_, _, _, _, _, _, _, _, _, _, _, _, _, _, _, xN, rvN⟩, saN, eN, tN, kCN⟩
  have FN : SupFn P K mg "__init__" "NoStep.__init__" sNoStepInit fN EN ccN _ := ⟨⟨_, _, _, _, _, _, _, _, _, _, _, _, _, _, _, rfl, lN, cN, lcN, hvN, hfN⟩, ⟨_, _, _, ceN⟩, ⟨_, cdN⟩, (PySem.W.mg_none_of X G z8), top, any⟩
  have sN : SupC K EN EN := ⟨oN, ovN, svN, mrN⟩
  have bN : ∀ K : PySem.W.Frag, Binds K (PySem.W.fnX "__init__" "NoStep.__init__" (defArgs sNoStepInit) (defBody sNoStepInit) (defScope sNoStepInit) [("__class__", ccN)] .none kVN dcN pmN anN (.ref cdaN) ctN) ["self", "before", "after"] [] := fun _ s us _ hl => match us, hl with | [_, _, _], _ => .of_eq rfl
  have ON : ∀ base : Heap, ErrOk P w K mg base "NoStep" EN 2 okNoStep fsNoStep := fun base => ⟨(PySem.W.mg_of X G aN), oN, ⟨_, _, _, aiN, tiN, ok_NoStepInit FN sN n0N n1N, bN K⟩⟩
  have TN : CatchC K EN := ⟨⟨gaN, ggN, eN, hCN⟩, exm_is eN iCN tN sCN⟩
  have clCS : Cls K CS := ⟨pgCS, hdCS, poCS, saCS⟩
  have gCS : mg "Steps" = some (.ref CS) := (PySem.W.mg_of X G aCS)
  have clCD : Cls K CD := ⟨pgCD, hdCD, poCD, saCD⟩
  have gCD : mg "Doors" = some (.ref CD) := (PySem.W.mg_of X G aCD)
  have clCP : Cls K CP := ⟨pgCP, hdCP, poCP, saCP⟩
  have gCP : mg "Part" = some (.ref CP) := (PySem.W.mg_of X G aCP)
  have clCI : Cls K CI := ⟨pgCI, hdCI, poCI, saCI⟩
  have gCI : mg "Single" = some (.ref CI) := (PySem.W.mg_of X G aCI)
  have clCM : Cls K CM := ⟨pgCM, hdCM, poCM, saCM⟩
  have gCM : mg "Many" = some (.ref CM) := (PySem.W.mg_of X G aCM)
  have FSI := fun_mk (st := sStepsInit) lSI cSI kSI
  have bSI := FSI.binds (ps := ["self", "standings"]) fun _ _ _ _ _ _ us hl => match us, hl with | [_, _], _ => rfl
  have FSt := fun_mk (st := sStepsStandings) lSt cSt kSt
  have bSt := FSt.binds (ps := ["self"]) fun _ _ _ _ _ _ us hl => match us, hl with | [_], _ => rfl
  have FAl := fun_mk (st := sStepsAllow) lAl cAl kAl
  have bAl := FAl.binds (ps := ["self", "before", "after"]) fun _ _ _ _ _ _ us hl => match us, hl with | [_, _, _], _ => rfl
  have FFr := fun_mk (st := sStepsStepsFrom) lFr cFr kFr
  have bFr := FFr.binds (ps := ["self", "standing"]) fun _ _ _ _ _ _ us hl => match us, hl with | [_, _], _ => rfl
  have FDI := fun_mk (st := sDoorsInit) lDI cDI kDI
  have bDI := FDI.binds (ps := ["self", "standings"]) fun _ _ _ _ _ _ us hl => match us, hl with | [_, _], _ => rfl
  have FPI := fun_mk (st := sPartInit) lPI cPI kPI
  have bPI := FPI.binds (ps := ["self", "name", "standings"]) fun _ _ _ _ _ _ us hl => match us, hl with | [_, _, _], _ => rfl
  have FII := fun_mk (st := sSingleInit) lII cII kII
  have bII := FII.binds (ps := ["self", "name", "standings"]) fun _ _ _ _ _ _ us hl => match us, hl with | [_, _, _], _ => rfl
  have FMI := fun_mk (st := sManyInit) lMI cMI kMI
  have bMI := FMI.binds (ps := ["self", "name", "standings"]) fun _ _ _ _ _ _ us hl => match us, hl with | [_, _, _], _ => rfl
  have kkCS : KindC K CS fAl fSt fFr := ⟨clCS, nsCS, ⟨m_CS_Al, iAl, kAl⟩, ⟨m_CS_St, iSt, kSt⟩, ⟨m_CS_Fr, iFr, kFr⟩⟩
  have mmCS : MadeC K mg "Steps" CS fSI := ⟨gCS, mkCS, inCS, iSI, kcCS⟩
  have kkCP : KindC K CP fAl fSt fFr := ⟨clCP, nsCP, ⟨m_CP_Al, iAl, kAl⟩, ⟨m_CP_St, iSt, kSt⟩, ⟨m_CP_Fr, iFr, kFr⟩⟩
  have mmCP : MadeC K mg "Part" CP fPI := ⟨gCP, mkCP, inCP, iPI, kcCP⟩
  have kkCI : KindC K CI fAl fSt fFr := ⟨clCI, nsCI, ⟨m_CI_Al, iAl, kAl⟩, ⟨m_CI_St, iSt, kSt⟩, ⟨m_CI_Fr, iFr, kFr⟩⟩
  have mmCI : MadeC K mg "Single" CI fII := ⟨gCI, mkCI, inCI, iII, kcCI⟩
  have kkCM : KindC K CM fAl fSt fFr := ⟨clCM, nsCM, ⟨m_CM_Al, iAl, kAl⟩, ⟨m_CM_St, iSt, kSt⟩, ⟨m_CM_Fr, iFr, kFr⟩⟩
  have mmCM : MadeC K mg "Many" CM fMI := ⟨gCM, mkCM, inCM, iMI, kcCM⟩
  have ppCP : PartC K CP := ⟨clCP, nsCP, ndCP, nnCP⟩
  have ppCI : PartC K CI := ⟨clCI, nsCI, ndCI, nnCI⟩
  have ppCM : PartC K CM := ⟨clCM, nsCM, ndCM, nnCM⟩
  have qS : ClsFn K mg "Steps" CS "__init__" fSI := ⟨gCS, _, ⟨rdCS, gtCS⟩, fcqS⟩
  have qD : ClsFn K mg "Doors" CD "__init__" fDI := ⟨gCD, _, ⟨rdCD, gtCD⟩, fcqD⟩
  have qP : ClsFn K mg "Part" CP "__init__" fPI := ⟨gCP, _, ⟨rdCP, gtCP⟩, fcqP⟩
  have Fpool := fun_mk (st := sPool) lpool cpool kpool
  have bpool := Fpool.binds (ps := ["_law_script"]) fun _ _ _ _ _ _ us hl => match us, hl with | [_], _ => rfl
  have Qpool : Fn K mg "_law_pool" sPool ["_law_script"] fpool _ := ⟨Fpool, (PySem.W.mg_of X G apool), bpool⟩
  have Ftake := fun_mk (st := sTake) ltake ctake ktake
  have btake := Ftake.binds (ps := ["_law_pool_here", "_law_size"]) fun _ _ _ _ _ _ us hl => match us, hl with | [_, _], _ => rfl
  have Qtake : Fn K mg "_law_take" sTake ["_law_pool_here", "_law_size"] ftake _ := ⟨Ftake, (PySem.W.mg_of X G atake), btake⟩
  have Fbase := fun_mk (st := sBase) lbase cbase kbase
  have bbase := Fbase.binds (ps := ["_law_pool_here"]) fun _ _ _ _ _ _ us hl => match us, hl with | [_], _ => rfl
  have Qbase : Fn K mg "_law_base" sBase ["_law_pool_here"] fbase _ := ⟨Fbase, (PySem.W.mg_of X G abase), bbase⟩
  have Fname := fun_mk (st := sName) lname cname kname
  have bname := Fname.binds (ps := ["_law_pool_here", "_law_base_here", "_law_k"]) fun _ _ _ _ _ _ us hl => match us, hl with | [_, _, _], _ => rfl
  have Qname : Fn K mg "_law_name" sName ["_law_pool_here", "_law_base_here", "_law_k"] fname _ := ⟨Fname, (PySem.W.mg_of X G aname), bname⟩
  have Fist := fun_mk (st := sIsTuple) list cist kist
  have bist := Fist.binds (ps := ["_law_actual", "_law_expected"]) fun _ _ _ _ _ _ us hl => match us, hl with | [_, _], _ => rfl
  have Qist : Fn K mg "_law_is_tuple" sIsTuple ["_law_actual", "_law_expected"] fist _ := ⟨Fist, (PySem.W.mg_of X G aist), bist⟩
  have Fmade := fun_mk (st := sMade) lmade cmade kmade
  have bmade := Fmade.binds (ps := ["_law_k", "_law_name_here", "_law_standings"]) fun _ _ _ _ _ _ us hl => match us, hl with | [_, _, _], _ => rfl
  have Qmade : Fn K mg "_law_made" sMade ["_law_k", "_law_name_here", "_law_standings"] fmade _ := ⟨Fmade, (PySem.W.mg_of X G amade), bmade⟩
  have Frep := fun_mk (st := sRepeated) lrep crep krep
  have brep := Frep.binds (ps := ["_law_k", "_law_name_here", "_law_standings"]) fun _ _ _ _ _ _ us hl => match us, hl with | [_, _, _], _ => rfl
  have Qrep : Fn K mg "_law_repeated" sRepeated ["_law_k", "_law_name_here", "_law_standings"] frep _ := ⟨Frep, (PySem.W.mg_of X G arep), brep⟩
  have Fall := fun_mk (st := sAllowed) lall call kall
  have ball := Fall.binds (ps := ["_law_part", "_law_before", "_law_after"]) fun _ _ _ _ _ _ us hl => match us, hl with | [_, _, _], _ => rfl
  have Qall : Fn K mg "_law_allowed" sAllowed ["_law_part", "_law_before", "_law_after"] fall _ := ⟨Fall, (PySem.W.mg_of X G aall), ball⟩
  have Fstp := fun_mk (st := sSteps) lstp cstp kstp
  have bstp := Fstp.binds (ps := ["_law_part", "_law_standing"]) fun _ _ _ _ _ _ us hl => match us, hl with | [_, _], _ => rfl
  have Qstp : Fn K mg "_law_steps" sSteps ["_law_part", "_law_standing"] fstp _ := ⟨Fstp, (PySem.W.mg_of X G astp), bstp⟩
  have Fdue := fun_mk (st := sDue) ldue cdue kdue
  have bdue := Fdue.binds (ps := ["_law_standings", "_law_before", "_law_after"]) fun _ _ _ _ _ _ us hl => match us, hl with | [_, _, _], _ => rfl
  have Qdue : Fn K mg "_law_due" sDue ["_law_standings", "_law_before", "_law_after"] fdue _ := ⟨Fdue, (PySem.W.mg_of X G adue), bdue⟩
  have Fagr := fun_mk (st := sAgrees) lagr cagr kagr
  have bagr := Fagr.binds (ps := ["_law_part", "_law_standings", "_law_steps_here", "_law_strange"]) fun _ _ _ _ _ _ us hl => match us, hl with | [_, _, _, _], _ => rfl
  have Qagr : Fn K mg "_law_agrees" sAgrees ["_law_part", "_law_standings", "_law_steps_here", "_law_strange"] fagr _ := ⟨Fagr, (PySem.W.mg_of X G aagr), bagr⟩
  have Flaw := fun_mk (st := sLaw) llaw claw klaw
  have blaw := Flaw.binds (ps := ["_law_script"]) fun _ _ _ _ _ _ us hl => match us, hl with | [_], _ => rfl
  exact ⟨PySem.W.fnOf "law" "law" (defArgs sLaw) (defBody sLaw) (defScope sLaw) .none kVlaw dclaw pmlaw anlaw cdlaw ctlaw, fun s v => .of_eq rfl, fun base _ _ => by
    have GS := ok_stepsInit (P := P) (w := w) (base := base) FSI (OR base)
    have GP := ok_partInit (P := P) (w := w) (base := base) FPI (OR base) FSI bSI qS FDI bDI qD
    have GI := ok_singleInit (P := P) (w := w) (base := base) FII GP kPI bPI qP
    have GMa := ok_manyInit (P := P) (w := w) (base := base) FMI GP kPI bPI qP
    have GM := ok_made (P := P) (w := w) (base := base) Fmade mmCS GS bSI kkCS mmCP GP bPI kkCP ppCP mmCI GI bII kkCI ppCI mmCM GMa bMI kkCM ppCM
    have GR := ok_repeated (P := P) (w := w) (base := base) Frep GM Qmade.g kmade bmade (OR base).g TR n0R
    have GA := ok_allowed (P := P) (w := w) (base := base) (fA := fAl) (fS := fSt) (fF := fFr) Fall (ok_allow FAl (OU base) (ON base)) bAl (OU base).g (ON base).g TU TN n0U n0N n1N (exm_is eU iCU tU nu)
    have GT := ok_steps (P := P) (w := w) (base := base) (fA := fAl) (fS := fSt) (fF := fFr) Fstp (ok_stepsFrom FFr (OU base) (PySem.W.mg_none_of X G z3)) bFr (OU base).g TU n0U
    have GG := ok_agrees (P := P) (w := w) (base := base) Fagr (PySem.W.mg_none_of X G z3) (ok_standings FSt (PySem.W.mg_none_of X G z3)) bSt (ok_isTuple Fist (PySem.W.mg_none_of X G z7) (PySem.W.mg_none_of X G z3)) Qist.g kist bist GT Qstp.g kstp bstp
    exact ok_law Flaw ⟨(PySem.W.mg_none_of X G z0), (PySem.W.mg_none_of X G z1), (PySem.W.mg_none_of X G z2)⟩ (PySem.W.mg_none_of X G z4) (PySem.W.mg_none_of X G z5) (PySem.W.mg_none_of X G z6) Qpool Qtake Qbase Qname Qmade Qrep Qall Qdue Qagr GM GR GA GG⟩
theorem walk {l : PySem.W.OpenLaw} {q : Program} {loose : List Str} {XP : (Str → Option Value) → Heap → Prop} {YP : World → Heap → Prop} {d : DefRec} {K : Params → PySem.W.Frag} (hn : l.most = some 63) (hdf : d.params.defaults = [])
    (hY : ∀ (w : World) (h : Heap), YP w h → (K w.params).In h)
    (F : ∀ (w : World) (mg : Str → Option Value) (fa : Addr) (h : Heap), (K w.params).In h → h.Ns mainGlobals mg → mg d.name = some (.ref fa) →
      ∃ fd : FuncData, (∀ (s : Shared) (u : Value), BindsTo s fd ⟨[u], []⟩ [("_law_script", u)]) ∧ ∀ base : Heap, (K w.params).In base → base.Ns mainGlobals mg → FnOk l.prog w (K w.params) mg base CX0 9 fa fd ["_law_script"] (spLaw (K w.params))) :
    PySem.W.WalkO q loose XP YP l.row.toRowW d [] (fun f vs => PySem.call f vs) :=
  L2.walk_of (n := 63) (k := 9) (x := "_law_script") (CX := fun _ => CX0) (sp := fun w => spLaw (K w.params)) hn (by decide) hdf ⟨rfl, by decide, by decide⟩ hY F (fun _ _ a ns hl _ hS => ⟨a, ns, rfl, hS, hl, fun _ => rfl⟩) fun _ _ _ _ _ z => z
end Yd
--END
open PySem PySem.W PyProof.Rows
set_option maxRecDepth 100000 in
set_option maxHeartbeats 0 in
theorem PySem.Challenge.cw_soundyard_k06_steps_of_a_kind_holds : PySem.Challenge.rw_soundyard_k06_steps_of_a_kind.Holds := by
  w_on; o_law; k_head; (case hw => w_witness2)
  k_fill
  refine Yd.walk (l := PySem.Challenge.rw_soundyard_k06_steps_of_a_kind) rfl rfl (fun w h Y => PySem.W.kIn_of Y) ?F
  case F =>
    intro w mg fa h KX G hmg
    refine' Yd.all_mk KX G hmg ?z0 ?z1 ?z2 ?z3 ?z4 ?z5 ?z6 ?z7 ?aR ?xR ?rvR ?saR ?gaR ?ggR ?n0R ?eR ?tR ?kCR ?hCR ?iCR ?sCR ?aiR ?tiR ?lR ?cR ?lcR ?hvR ?hfR ?ceR ?cdR ?ovR ?svR ?mrR ?z8 ?top ?any ?aU ?xU ?rvU ?saU ?gaU ?ggU ?n0U ?eU ?tU ?kCU ?hCU ?iCU ?sCU ?aiU ?tiU ?lU ?cU ?lcU ?hvU ?hfU ?ceU ?cdU ?ovU ?svU ?mrU ?aN ?xN ?rvN ?saN ?gaN ?ggN ?n0N ?n1N ?eN ?tN ?kCN ?hCN ?iCN ?sCN ?aiN ?tiN ?lN ?cN ?lcN ?hvN ?hfN ?ceN ?cdN ?ovN ?svN ?mrN ?nu ?aCS ?pgCS ?hdCS ?poCS ?saCS ?mkCS ?kcCS ?aCD ?pgCD ?hdCD ?poCD ?saCD ?mkCD ?kcCD ?aCP ?pgCP ?hdCP ?poCP ?saCP ?mkCP ?kcCP ?aCI ?pgCI ?hdCI ?poCI ?saCI ?mkCI ?kcCI ?aCM ?pgCM ?hdCM ?poCM ?saCM ?mkCM ?kcCM ?lSI ?cSI ?kSI ?iSI ?lSt ?cSt ?kSt ?iSt ?lAl ?cAl ?kAl ?iAl ?lFr ?cFr ?kFr ?iFr ?lDI ?cDI ?kDI ?iDI ?lPI ?cPI ?kPI ?iPI ?lII ?cII ?kII ?iII ?lMI ?cMI ?kMI ?iMI ?nsCS ?m_CS_Al ?m_CS_St ?m_CS_Fr ?inCS ?nsCP ?m_CP_Al ?m_CP_St ?m_CP_Fr ?inCP ?nsCI ?m_CI_Al ?m_CI_St ?m_CI_Fr ?inCI ?nsCM ?m_CM_Al ?m_CM_St ?m_CM_Fr ?inCM ?ndCP ?nnCP ?ndCI ?nnCI ?ndCM ?nnCM ?rdCS ?gtCS ?fcqS ?rdCD ?gtCD ?fcqD ?rdCP ?gtCP ?fcqP ?lpool ?cpool ?kpool ?apool ?ltake ?ctake ?ktake ?atake ?lbase ?cbase ?kbase ?abase ?lname ?cname ?kname ?aname ?list ?cist ?kist ?aist ?lmade ?cmade ?kmade ?amade ?lrep ?crep ?krep ?arep ?lall ?call ?kall ?aall ?lstp ?cstp ?kstp ?astp ?ldue ?cdue ?kdue ?adue ?lagr ?cagr ?kagr ?aagr ?llaw ?claw ?klaw ?alaw
    (case z0 => k_is)
    (case z1 => k_is)
    (case z2 => k_is)
    (case z3 => k_is)
    (case z4 => k_is)
    (case z5 => k_is)
    (case z6 => k_is)
    (case z7 => k_is)
    (case aR => k_is)
    (case z8 => k_is)
    (case aU => k_is)
    (case aN => k_is)
    (case aCS => k_is)
    (case aCD => k_is)
    (case aCP => k_is)
    (case aCI => k_is)
    (case aCM => k_is)
    (case apool => k_is)
    (case atake => k_is)
    (case abase => k_is)
    (case aname => k_is)
    (case aist => k_is)
    (case amade => k_is)
    (case arep => k_is)
    (case aall => k_is)
    (case astp => k_is)
    (case adue => k_is)
    (case aagr => k_is)
    (case alaw => k_is)
    (case saR => k_is)
    (case gaR => k_is)
    (case ggR => k_is)
    (case n0R => k_is)
    (case aiR => k_is)
    (case saU => k_is)
    (case gaU => k_is)
    (case ggU => k_is)
    (case n0U => k_is)
    (case aiU => k_is)
    (case saN => k_is)
    (case gaN => k_is)
    (case ggN => k_is)
    (case n0N => k_is)
    (case n1N => k_is)
    (case aiN => k_is)
    (case saCS => k_is)
    (case saCD => k_is)
    (case saCP => k_is)
    (case saCI => k_is)
    (case saCM => k_is)
    (case nsCS => k_is)
    (case m_CS_Al => k_is)
    (case m_CS_St => k_is)
    (case m_CS_Fr => k_is)
    (case inCS => k_is)
    (case nsCP => k_is)
    (case m_CP_Al => k_is)
    (case m_CP_St => k_is)
    (case m_CP_Fr => k_is)
    (case inCP => k_is)
    (case nsCI => k_is)
    (case m_CI_Al => k_is)
    (case m_CI_St => k_is)
    (case m_CI_Fr => k_is)
    (case inCI => k_is)
    (case nsCM => k_is)
    (case m_CM_Al => k_is)
    (case m_CM_St => k_is)
    (case m_CM_Fr => k_is)
    (case inCM => k_is)
    (case ndCP => k_is)
    (case nnCP => k_is)
    (case ndCI => k_is)
    (case nnCI => k_is)
    (case ndCM => k_is)
    (case nnCM => k_is)
    (case fcqS => k_is)
    (case fcqD => k_is)
    (case fcqP => k_is)
    (case xR => k_is)
    (case rvR => decide +kernel)
    (case eR => k_is)
    (case tR => k_is)
    (case kCR => k_is)
    (case hCR => k_is)
    (case iCR => k_is)
    (case sCR => first | rfl | k_is)
    (case tiR => k_is)
    (case lR => k_is)
    (case cR => k_is)
    (case lcR => k_is)
    (case hvR => exact rfl)
    (case hfR => first | exact rfl | decide +kernel)
    (case ceR => k_is)
    (case cdR => k_is)
    (case ovR => first | ks_is | k_is)
    (case svR => k_is)
    (case mrR => k_is)
    (case top => first | exact rfl | decide +kernel)
    (case any => k_is)
    (case xU => k_is)
    (case rvU => decide +kernel)
    (case eU => k_is)
    (case tU => k_is)
    (case kCU => k_is)
    (case hCU => k_is)
    (case iCU => k_is)
    (case sCU => first | rfl | k_is)
    (case tiU => k_is)
    (case lU => k_is)
    (case cU => k_is)
    (case lcU => k_is)
    (case hvU => exact rfl)
    (case hfU => first | exact rfl | decide +kernel)
    (case ceU => k_is)
    (case cdU => k_is)
    (case ovU => first | ks_is | k_is)
    (case svU => k_is)
    (case mrU => k_is)
    (case xN => k_is)
    (case rvN => decide +kernel)
    (case eN => k_is)
    (case tN => k_is)
    (case kCN => k_is)
    (case hCN => k_is)
    (case iCN => k_is)
    (case sCN => first | rfl | k_is)
    (case tiN => k_is)
    (case lN => k_is)
    (case cN => k_is)
    (case lcN => k_is)
    (case hvN => exact rfl)
    (case hfN => first | exact rfl | decide +kernel)
    (case ceN => k_is)
    (case cdN => k_is)
    (case ovN => first | ks_is | k_is)
    (case svN => k_is)
    (case mrN => k_is)
    (case nu => first | rfl | k_is)
    (case pgCS => k_is)
    (case hdCS => k_is)
    (case poCS => k_is)
    (case mkCS => k_is)
    (case kcCS => k_is)
    (case pgCD => k_is)
    (case hdCD => k_is)
    (case poCD => k_is)
    (case mkCD => k_is)
    (case kcCD => k_is)
    (case pgCP => k_is)
    (case hdCP => k_is)
    (case poCP => k_is)
    (case mkCP => k_is)
    (case kcCP => k_is)
    (case pgCI => k_is)
    (case hdCI => k_is)
    (case poCI => k_is)
    (case mkCI => k_is)
    (case kcCI => k_is)
    (case pgCM => k_is)
    (case hdCM => k_is)
    (case poCM => k_is)
    (case mkCM => k_is)
    (case kcCM => k_is)
    (case lSI => k_is)
    (case cSI => k_is)
    (case kSI => k_is)
    (case iSI => k_is)
    (case lSt => k_is)
    (case cSt => k_is)
    (case kSt => k_is)
    (case iSt => k_is)
    (case lAl => k_is)
    (case cAl => k_is)
    (case kAl => k_is)
    (case iAl => k_is)
    (case lFr => k_is)
    (case cFr => k_is)
    (case kFr => k_is)
    (case iFr => k_is)
    (case lDI => k_is)
    (case cDI => k_is)
    (case kDI => k_is)
    (case iDI => k_is)
    (case lPI => k_is)
    (case cPI => k_is)
    (case kPI => k_is)
    (case iPI => k_is)
    (case lII => k_is)
    (case cII => k_is)
    (case kII => k_is)
    (case iII => k_is)
    (case lMI => k_is)
    (case cMI => k_is)
    (case kMI => k_is)
    (case iMI => k_is)
    (case rdCS => k_is)
    (case gtCS => k_is)
    (case rdCD => k_is)
    (case gtCD => k_is)
    (case rdCP => k_is)
    (case gtCP => k_is)
    (case lpool => k_is)
    (case cpool => k_is)
    (case kpool => k_is)
    (case ltake => k_is)
    (case ctake => k_is)
    (case ktake => k_is)
    (case lbase => k_is)
    (case cbase => k_is)
    (case kbase => k_is)
    (case lname => k_is)
    (case cname => k_is)
    (case kname => k_is)
    (case list => k_is)
    (case cist => k_is)
    (case kist => k_is)
    (case lmade => k_is)
    (case cmade => k_is)
    (case kmade => k_is)
    (case lrep => k_is)
    (case crep => k_is)
    (case krep => k_is)
    (case lall => k_is)
    (case call => k_is)
    (case kall => k_is)
    (case lstp => k_is)
    (case cstp => k_is)
    (case kstp => k_is)
    (case ldue => k_is)
    (case cdue => k_is)
    (case kdue => k_is)
    (case lagr => k_is)
    (case cagr => k_is)
    (case kagr => k_is)
    (case llaw => k_is)
    (case claw => k_is)
    (case klaw => k_is)
