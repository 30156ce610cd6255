import PyProof.Rows.All
import Wide.All
import OpenK.AllK
import Wide.FinOn
import HandS.ForMost
import HandS.Wide
import KE.KExcSuper
import HandS.ForSpec
import HandS.ExcInit
import HandS.ExcField
import HandS.TryMany
import HandS.FStr
import HandS.DictComp
import HandS.Conv
import HandS.ClsMeth
import HandS.Nested
import KE.Datum
import HandS.IsInst
import HandS.Codes
import HandS.IterVal
import KE.KOwnIter
import KE.KOpsOwn
import OpenK.KMeth
import OpenK.KOps
import PySem.Challenge.RW_soundyard_k08_rows_and_twins
set_option Elab.async false
set_option linter.all false
set_option maxRecDepth 100000
set_option maxHeartbeats 4000000
namespace Yd
open PySem L2
/-! ### the text by places -/
def topS (i : Nat) : Stmt := PySem.Challenge.pw_soundyard_k08_rows_and_twins.main.body.getD i (.Pass ⟨0, 0, 0, 0⟩)
abbrev sRepeatedInit : Stmt := inClass (topS 2) 0
abbrev sUnknownInit : Stmt := inClass (topS 3) 0
abbrev sNoStepInit : Stmt := inClass (topS 4) 0
abbrev sDistinct : Stmt := topS 6
abbrev sStepsInit : Stmt := inClass (topS 7) 0
abbrev sStepsStandings : Stmt := inClass (topS 7) 1
abbrev sStepsAllow : Stmt := inClass (topS 7) 2
abbrev sStepsStepsFrom : Stmt := inClass (topS 7) 3
abbrev sDoorsInit : Stmt := inClass (topS 8) 0
abbrev sDoorsIter : Stmt := inClass (topS 8) 1
abbrev sDoorsGet : Stmt := inClass (topS 8) 2
abbrev sDoorsPut : Stmt := inClass (topS 8) 3
abbrev sDoorsNeeds : Stmt := inClass (topS 8) 4
abbrev sDoorsGives : Stmt := inClass (topS 8) 5
abbrev sPartInit : Stmt := inClass (topS 9) 0
abbrev sPartRow : Stmt := inClass (topS 9) 1
abbrev sPartFollow : Stmt := inClass (topS 9) 2
abbrev sSingleInit : Stmt := inClass (topS 10) 0
abbrev sSingleRow : Stmt := inClass (topS 10) 1
abbrev sSingleTwin : Stmt := inClass (topS 10) 2
abbrev sManyInit : Stmt := inClass (topS 11) 0
abbrev sManyRow : Stmt := inClass (topS 11) 1
abbrev sManyTwin : Stmt := inClass (topS 11) 2
abbrev sPool : Stmt := topS 13
abbrev sTake : Stmt := topS 14
abbrev sBase : Stmt := topS 15
abbrev sName : Stmt := topS 16
abbrev sSome : Stmt := topS 17
abbrev sTold : Stmt := topS 18
abbrev sFilled : Stmt := topS 19
abbrev sApart : Stmt := topS 20
abbrev sLaw : Stmt := topS 21
end Yd
namespace Yd
open PySem L2
/-! ### tests whose answer is known -/
theorem yes {b : Bool} {A B : Prop} (e : b = true) (h : A) : if b = true then A else B := by subst e; exact (if_pos rfl).mpr h
theorem no {b : Bool} {A B : Prop} (e : b = false) (h : B) : if b = true then A else B := by subst e; exact (if_neg Bool.false_ne_true).mpr h
/-! ### the drawing of a script: the pool, a draw, the base of the names, a name -/
/-- what holds of the list of the pool at p (its cells, if it has some, at c) -/
def PoolL (H : Hp) (p c : Addr) (xs : List V) : Prop :=
  (c = p ∧ ∃ n : Int, xs = [.int n]) ∨ ∃ (x i : Int) (cs : List Int), xs = [.int x, .int i, .ref c] ∧ c ≠ p ∧ H c = some (.lst (cs.map V.int)) ∧ 0 < cs.length ∧ cs.length ≤ 63 ∧ (∀ z ∈ cs, 0 ≤ z ∧ z < 65537) ∧ 0 ≤ x ∧ x < 65537
def Pool (H : Hp) (p c : Addr) : Prop := ∃ xs, H p = some (.lst xs) ∧ PoolL H p c xs
theorem Pool.two {H : Hp} {p c : Addr} (h : Pool H p c) : (∃ o, H p = some o) ∧ ∃ o, H c = some o := by
  obtain ⟨xs, e, q⟩ := h
  refine ⟨⟨_, e⟩, ?_⟩
  rcases q with ⟨rfl, _⟩ | ⟨x, i, cs, _, _, e3, _⟩
  · exact ⟨_, e⟩
  · exact ⟨_, e3⟩
theorem Pool.ne {H : Hp} {p c q : Addr} (h : Pool H p c) (n : H q = none) : q ≠ p ∧ q ≠ c := by
  obtain ⟨⟨o, e⟩, u, e'⟩ := h.two
  exact ⟨(ne_of_none e n).symm, (ne_of_none e' n).symm⟩
theorem Pool.keep {H H' : Hp} {p c : Addr} (h : Pool H p c) (hp : ∀ o, H p = some o → H' p = some o) (hc : ∀ o, H c = some o → H' c = some o) : Pool H' p c := by
  obtain ⟨xs, e, q⟩ := h
  refine ⟨xs, hp _ e, ?_⟩
  rcases q with q | ⟨x, i, cs, e1, e2, e3, q⟩
  · exact .inl q
  · exact .inr ⟨x, i, cs, e1, e2, hc _ e3, q⟩
/-- all but p is as it was, and there may be more -/
def Gro (p : Addr) (H H' : Hp) : Prop := ∀ b o, H b = some o → b ≠ p → H' b = some o
theorem Gro.rfl' {p : Addr} {H : Hp} : Gro p H H := fun _ _ e _ => e
theorem Gro.trans {p : Addr} {H H1 H2 : Hp} (a : Gro p H H1) (b : Gro p H1 H2) : Gro p H H2 := fun q o e n => b q o (a q o e n) n
theorem Gro.new {p q : Addr} {H : Hp} {o : HO} (n : H q = none) : Gro p H (upd H q o) := fun b u e _ => by rw [upd_ne (ne_of_none e n)]; exact e
theorem Gro.own {p : Addr} {H : Hp} {o : HO} : Gro p H (upd H p o) := fun b u e n => by rw [upd_ne n]; exact e
theorem Gro.of_same {p : Addr} {H H' : Hp} (s : Same H H') : Gro p H H' := fun b o e _ => s b o e
theorem Gro.free {p q : Addr} {H H' : Hp} (g : Gro p H H') (n : H' q = none) (hq : q ≠ p) : H q = none := by
  cases e : H q with
  | none => rfl
  | some o => rw [g q o e hq] at n; cases n
theorem Pool.off {H : Hp} {p c q : Addr} {o : HO} (h : Pool H p c) (n1 : q ≠ p) (n2 : q ≠ c) : Pool (upd H q o) p c :=
  h.keep (fun u e => by rw [upd_ne n1.symm]; exact e) fun u e => by rw [upd_ne n2.symm]; exact e
theorem Pool.new {p c q : Addr} {H : Hp} {o : HO} (h : Pool H p c) (n : H q = none) : Pool (upd H q o) p c :=
  h.keep (fun u e => by rw [upd_ne (ne_of_none e n)]; exact e) fun u e => by rw [upd_ne (ne_of_none e n)]; exact e

def spPool (K : PySem.W.Frag) : Sp := fun vs H Q _ => ∃ (a : Addr) (ns : List Int), vs = [.ref a] ∧ SqL K H a (ns.map V.int) ∧ ns.length ≤ 63 ∧
  ∀ p c H', Same H H' → H p = none → (c = p ∨ H c = none) → Pool H' p c → Q (.ref p) H'
def spTake : Sp := fun vs H Q _ => ∃ (p c : Addr) (n : Int), vs = [.ref p, .int n] ∧ Pool H p c ∧ 0 < n ∧ n.natAbs < 2 ^ 200 ∧
  ∀ v H', 0 ≤ v → v < n → Gro p H H' → Pool H' p c → Q (.int v) H'
/-- the signs of a base -/
def Sgn (z : Str) : Prop := ∀ s ∈ z.cps.toList, s ∈ ("mnopqrstuvwxyz0123456789" : Str).cps.toList
def spBase (m : Nat) : Sp := fun vs H Q _ => ∃ (p c : Addr), vs = [.ref p] ∧ Pool H p c ∧
  ∀ z H', z.length < m → Sgn z → Gro p H H' → Pool H' p c → Q (.str z) H'
def kSigns : List Nat := ("afkdibglejch" : Str).cps.toList
/-- the name number k: its sign between two texts of the base's signs -/
def NameK (k : Nat) (z : Str) : Prop := z.length ≤ 12 ∧ ∃ (s : Nat) (a b : Str), kSigns[k]? = some s ∧ z = a ++ (⟨#[s]⟩ : Str) ++ b ∧ Sgn a ∧ Sgn b
def spName : Sp := fun vs H Q _ => ∃ (p c : Addr) (b : Str) (k : Nat), vs = [.ref p, .str b, .int k] ∧ Pool H p c ∧ b.length ≤ 11 ∧ Sgn b ∧ k < 12 ∧
  ∀ z H', NameK k z → Gro p H H' → Pool H' p c → Q (.str z) H'

/-- the built-ins that the drawing reads -/
structure Blt (mg : Str → Option Value) : Prop where
  len : mg "len" = none
  int : mg "int" = none
  range : mg "range" = none

section
variable {P : Program} {w : World} {K : PySem.W.Frag} {mg : Str → Option Value} {base : Heap}
theorem get_map {ns : List Int} {i : Nat} {x : V} (h : (ns.map V.int)[i]? = some x) : ∃ z, ns[i]? = some z ∧ x = .int z := by
  rw [List.getElem?_map] at h
  cases e : ns[i]? with
  | none => rw [e] at h; cases h
  | some z => rw [e] at h; exact ⟨z, rfl, (Option.some.inj h).symm⟩
def nPool : List Str := ["_law_script", "_law_cell"]
theorem scPool : FnScope nPool ["_law_script"] (defScope sPool) := ⟨rfl, rfl, rfl, by decide +kernel, rfl, by decide +kernel, by decide +kernel⟩
theorem ok_pool {f : Addr} {fd : FuncData} (F : Fun K "_law_pool" "_law_pool" sPool f fd) (B : Blt mg) : FnOk P w K mg base CX0 1 f fd ["_law_script"] (spPool K) := by
  refine F.ok scPool (fun vs H Q E h => ?_) (fun cdv A outer s H vs Q E hr h => ?_)
  · obtain ⟨a, ns, rfl, _⟩ := h
    rfl
  · obtain ⟨a, ns, rfl, hS, hlen, k⟩ := h
    refine ⟨_, pss_cons (ps_if (pt_cmpR op_eq (pe_callB call_len_seq (by rfl) B.len PySem.boot_len (pa_cons (pv 0) pa_nil)) pe_int (nomark _)) (pss_one (ps_ret (pe_lst (pa_cons pe_int pa_nil)))) pss_nil)
      (pss_cons (ps_if (pt_cmpR op_ge (pe_ix ix_list (pv 0) pe_int (fun _ _ => rfl)) (pe_op op_pow pe_int pe_int) (nomark _))
        (pss_one (ps_ret (pe_lst (pa_cons (pe_op op_sub (pe_ix ix_list (pv 0) pe_int (fun _ _ => rfl)) (pe_op op_pow pe_int pe_int)) pa_nil)))) pss_nil)
      (pss_one (ps_ret (pe_lst (pa_cons pe_int (pa_cons pe_int (pa_cons
        (pe_lc (own := [("_law_cell", 1)]) (g := gName 1) (tt := tYes) rfl scPool.nd (pi_list (pv 0)) (blkOk_by (N := nPool) (sc := defScope sPool) (by decide +kernel))
          (fun _ _ _ _ _ => pg_name (i := 1) scPool.nd rfl (Or.inl rfl)) (fun _ _ _ _ _ => pts_nil)
          (fun _ _ _ _ _ => pe_op op_mod (pe_callTy call_int1 (by rfl) B.int (by decide +kernel) (pa_cons (pv 1) pa_nil)) pe_int)) pa_nil))))))), ?_⟩
    refine ⟨_, rfl, a, _, rfl, .inl hS, rfl, _, rfl, ?_⟩
    rw [List.length_map]
    by_cases h0 : ns.length = 0
    · have e : decide (V.int (ns.length : Int) = V.int 0) = true := decide_eq_true (by rw [h0]; rfl)
      rw [e]
      refine iteT ⟨(by show 1 ≤ sizeLine; decide), fun p hp => ?_⟩
      exact k p p _ (fun b o q => by rw [upd_ne (ne_of_none q hp)]; exact q) hp (.inl rfl) ⟨_, upd_same, .inl ⟨rfl, 0, rfl⟩⟩
    · have e : decide (V.int (ns.length : Int) = V.int 0) = false := decide_eq_false (fun q => h0 (by injection q with q; omega))
      rw [e]
      refine iteF ?_
      obtain ⟨n0, hn0⟩ : ∃ n0, ns[0]? = some n0 := ⟨ns[0], List.getElem?_eq_getElem (by omega)⟩
      have at0 : atI (ns.map V.int) 0 = some (V.int n0) := atI_nat (j := 0) (by rw [List.getElem?_map, hn0]; rfl)
      refine ⟨_, rfl, a, _, 0, _, rfl, rfl, hS, at0, 10, 18, rfl, rfl, ⟨by decide, by decide, by decide⟩, _, _, rfl, rfl, _, rfl, ?_⟩
      refine ite2 (fun _ => ?_) (fun _ => ?_)
      · refine ⟨_, rfl, a, _, 0, _, rfl, rfl, hS, at0, 10, 18, rfl, rfl, ⟨by decide, by decide, by decide⟩, _, _, rfl, rfl, (by show 1 ≤ sizeLine; decide), fun p hp => ?_⟩
        exact k p p _ (fun b o q => by rw [upd_ne (ne_of_none q hp)]; exact q) hp (.inl rfl) ⟨_, upd_same, .inl ⟨rfl, _, rfl⟩⟩
      · refine ⟨_, rfl, a, rfl, ⟨_, hS⟩, fun D hD => ?_⟩
        refine lc_list (K := K) (a := a) (xs := ns.map V.int) (fun i H' => Same H H' ∧ ∃ cs : List Int, H' D = some (.lst (cs.map V.int)) ∧ cs.length = i ∧ ∀ z ∈ cs, 0 ≤ z ∧ z < 65537)
          ⟨fun b o q => by rw [upd_ne (ne_of_none q hD)]; exact q, [], upd_same, rfl, fun z hz => nomatch hz⟩ (fun i H' _ ⟨s5, _⟩ => s5.seq hS) ?_ ?_
        · rintro i x H' hi ⟨s5, cs, hcs, hcl, hb⟩
          obtain ⟨z, hz, rfl⟩ := get_map hi
          have hil : i < ns.length := (List.getElem?_eq_some_iff.mp hz).1
          refine ⟨rfl, _, rfl, .inl ⟨z, rfl, z, 65537, rfl, rfl, (by show (0 : Int) < 65537; decide), cs.map V.int, hcs, small1000 (by rw [List.length_map]; omega), ?_⟩⟩
          refine ⟨fun b o q => ?_, cs ++ [z % 65537], ?_, by rw [List.length_append, hcl]; rfl, fun y hy => ?_⟩
          · have nb : b ≠ D := ne_of_none q hD
            rw [upd_ne nb]
            exact s5 b o q
          · rw [upd_same, List.map_append]
            rfl
          · rcases List.mem_append.mp hy with hy | hy
            · exact hb y hy
            · rw [List.mem_singleton.mp hy]
              exact ⟨Int.emod_nonneg _ (by decide), Int.emod_lt_of_pos _ (by decide)⟩
        · rintro H' ⟨s5, cs, hcs, hcl, hb⟩
          rw [List.length_map] at hcl
          refine ⟨(by show 3 ≤ sizeLine; decide), fun p hp => ?_⟩
          have npD : D ≠ p := ne_of_none hcs hp
          refine k p D _ (fun b o q => ?_) (s5.free hp) (.inr hD) ⟨_, upd_same, .inr ⟨1, 0, cs, rfl, npD, by rw [upd_ne npD]; exact hcs, by omega, by omega, hb, by decide, by decide⟩⟩
          rw [upd_ne (ne_of_none (s5 b o q) hp)]
          exact s5 b o q
end
end Yd
namespace Yd
open PySem L2
section
variable {P : Program} {w : World} {K : PySem.W.Frag} {mg : Str → Option Value} {base : Heap}
theorem scTake : FnScope ["_law_pool_here", "_law_size", "_law_value", "_law_cells"] ["_law_pool_here", "_law_size"] (defScope sTake) := ⟨rfl, rfl, rfl, by decide +kernel, rfl, by decide +kernel, by decide +kernel⟩
theorem at_c {α : Type} {xs : List α} {j : Nat} {v : α} (h : xs[j]? = some v) {z : Int} (e : z = (j : Int)) : atI xs z = some v := by rw [e]; exact atI_nat h
theorem ixN_c {n j : Nat} (h : j < n) {z : Int} (e : z = (j : Int)) : ixN n z = some j := by
  subst e
  unfold ixN
  rw [if_pos (by omega), if_pos (by omega), Int.toNat_natCast]
theorem len_one {xs : List V} {n : Int} (h : xs = [.int n]) : xs.length = 1 := by rw [h]; rfl
/-- what is left of a draw -/
theorem drawn {n v : Int} (h : 0 < n) : 0 ≤ v % n ∧ v % n < n := ⟨Int.emod_nonneg _ (by omega), Int.emod_lt_of_pos _ h⟩
theorem pow7 {x : Int} (h0 : 0 ≤ x) (h1 : x < 65537) : CPow x 7 := by
  refine ⟨by decide, by decide, ?_⟩
  have e : (65537 : Nat) < 2 ^ 64 := by decide
  omega
theorem ok_take {f : Addr} {fd : FuncData} (F : Fun K "_law_take" "_law_take" sTake f fd) (B : Blt mg) : FnOk P w K mg base CX0 1 f fd ["_law_pool_here", "_law_size"] spTake := by
  refine F.ok scTake (fun vs H Q E h => ?_) (fun cdv A outer s H vs Q E hr h => ?_)
  · obtain ⟨p, c, n, rfl, _⟩ := h
    rfl
  · obtain ⟨p, c, n, rfl, ⟨xs, hp, hx⟩, hn, hb, k⟩ := h
    refine ⟨_, pss_cons (ps_if (pt_cmpR op_eq (pe_callB call_len_seq (by rfl) B.len PySem.boot_len (pa_cons (pv 0) pa_nil)) pe_int (nomark _))
        (pss_cons (ps_set (i := 2) scTake.nd rfl (Or.inl rfl) (pe_op op_mod (pe_callTy call_int1 (by rfl) B.int (by decide +kernel) (pa_cons (pe_ix ix_list (pv 0) pe_int (fun _ _ => rfl)) pa_nil)) (pv 1)))
        (pss_cons (ps_asg (pe_op op_fdivW (pe_ix ix_list (pv 0) pe_int (fun _ _ => rfl)) (pv 1)) (pg_sub (pv 0) pe_int set_list))
        (pss_one (ps_ret (pv 2))))) pss_nil)
      (pss_cons (ps_set (i := 3) scTake.nd rfl (Or.inl rfl) (pe_ix ix_list (pv 0) pe_int (fun _ _ => rfl)))
      (pss_cons (ps_asg (pe_op op_mod (pe_callTy call_int1 (by rfl) B.int (by decide +kernel) (pa_cons (pe_op op_add (pe_op op_add (pe_op op_mul (pe_ix ix_list (pv 0) pe_int (fun _ _ => rfl)) pe_int)
          (pe_ix ix_list (pv 3) (pe_op op_mod (pe_callTy call_int1 (by rfl) B.int (by decide +kernel) (pa_cons (pe_ix ix_list (pv 0) pe_int (fun _ _ => rfl)) pa_nil)) (pe_callB call_len_seq (by rfl) B.len PySem.boot_len (pa_cons (pv 3) pa_nil))) (fun _ _ => rfl))) pe_int) pa_nil)) pe_int)
          (pg_sub (pv 0) pe_int set_list))
      (pss_cons (ps_asg (pe_op op_add (pe_ix ix_list (pv 0) pe_int (fun _ _ => rfl)) pe_int) (pg_sub (pv 0) pe_int set_list))
      (pss_cons (ps_if (pt_cmpR op_gt (pv 1) pe_int (nomark _))
        (pss_one (ps_ret (pe_op op_mod (pe_callTy call_int1 (by rfl) B.int (by decide +kernel) (pa_cons (pe_op op_pow (pe_ix ix_list (pv 0) pe_int (fun _ _ => rfl)) pe_int) pa_nil)) (pv 1)))) pss_nil)
      (pss_one (ps_ret (pe_op op_mod (pe_callTy call_int1 (by rfl) B.int (by decide +kernel) (pa_cons (pe_ix ix_list (pv 0) pe_int (fun _ _ => rfl)) pa_nil)) (pv 1)))))))), ?_⟩
    rcases hx with ⟨hcc, m, rfl⟩ | ⟨x, i, cs, rfl, hcp, hc, hl0, hl1, hcs, hx0, hx1⟩
    · refine ⟨_, rfl, p, _, rfl, .inl (SqL.of hp), rfl, _, rfl, ?_⟩
      refine yes (by rfl) ?_
      have a0 : atI [V.int m] 0 = some (V.int m) := at_c (j := 0) rfl rfl
      refine ⟨_, rfl, p, _, 0, _, rfl, rfl, SqL.of hp, a0, .inl ⟨m, rfl, _, rfl, m, n, rfl, rfl, hn, ?_⟩⟩
      refine ⟨_, rfl, p, _, 0, _, rfl, rfl, SqL.of hp, a0, _, rfl, m, n, rfl, rfl, wide_div hn hb (by decide) (by decide), ?_⟩
      refine ⟨_, rfl, p, _, 0, 0, rfl, rfl, hp, ixN_c (by show 0 < 1; omega) rfl, ?_⟩
      refine ⟨_, rfl, ?_⟩
      exact k _ _ (drawn hn).1 (drawn hn).2 .own ⟨_, upd_same, .inl ⟨hcc, _, rfl⟩⟩
    · refine ⟨_, rfl, p, _, rfl, .inl (SqL.of hp), rfl, _, rfl, ?_⟩
      refine no (by rfl) ?_
      have hn0 : 0 < ((cs.map V.int).length : Int) := by rw [List.length_map]; omega
      obtain ⟨z, hz⟩ : ∃ z, atI (cs.map V.int) (i % ((cs.map V.int).length : Int)) = some (V.int z) := by
        have d := drawn (v := i) hn0
        obtain ⟨j, ej⟩ : ∃ j : Nat, i % ((cs.map V.int).length : Int) = (j : Int) := ⟨(i % ((cs.map V.int).length : Int)).toNat, by omega⟩
        have hj : j < cs.length := by rw [List.length_map] at d ej; omega
        exact ⟨cs[j], at_c (j := j) (by rw [List.getElem?_map, List.getElem?_eq_getElem hj]; rfl) ej⟩
      refine ⟨_, rfl, p, _, 2, _, rfl, rfl, SqL.of hp, at_c (j := 2) rfl rfl, ?_⟩
      refine ⟨_, rfl, p, _, 0, _, rfl, rfl, SqL.of hp, at_c (j := 0) rfl rfl, x, 75, rfl, rfl, .inl ⟨by omega, by omega⟩, ?_⟩
      refine ⟨_, rfl, _, rfl, p, _, 1, _, rfl, rfl, SqL.of hp, at_c (j := 1) rfl rfl, .inl ⟨i, rfl, ?_⟩⟩
      refine ⟨_, rfl, c, _, rfl, .inl (SqL.of hc), i, _, rfl, rfl, hn0, ?_⟩
      refine ⟨c, _, _, _, rfl, rfl, SqL.of hc, hz, _, _, rfl, rfl, _, 74, rfl, rfl, .inl ⟨_, rfl, _, 65537, rfl, rfl, (by show (0 : Int) < 65537; decide), ?_⟩⟩
      refine ⟨_, rfl, p, _, 0, 0, rfl, rfl, hp, ixN_c (by show 0 < 3; omega) rfl, ?_⟩
      have d2 := drawn (n := 65537) (v := x * 75 + z + 74) (by decide)
      refine ⟨_, rfl, p, _, 1, _, rfl, rfl, SqL.of upd_same, at_c (j := 1) rfl rfl, _, 1, rfl, rfl, ?_⟩
      refine ⟨_, rfl, p, _, 1, 1, rfl, rfl, upd_same, ixN_c (by show 1 < 3; omega) rfl, ?_⟩
      rw [upd_upd]
      have hP : Pool (upd H p (.lst [V.int ((x * 75 + z + 74) % 65537), V.int (i + 1), V.ref c])) p c :=
        ⟨_, upd_same, .inr ⟨_, _, cs, rfl, hcp, by rw [upd_ne hcp]; exact hc, hl0, hl1, hcs, d2.1, d2.2⟩⟩
      refine ⟨_, rfl, n, 60000, rfl, rfl, _, rfl, ?_⟩
      refine ite2 (fun _ => ?_) (fun _ => ?_)
      · refine ⟨_, rfl, p, _, 0, _, rfl, rfl, SqL.of upd_same, at_c (j := 0) rfl rfl, _, 7, rfl, rfl, pow7 d2.1 d2.2, .inl ⟨_, rfl, _, rfl, _, n, rfl, rfl, hn, ?_⟩⟩
        exact k _ _ (drawn hn).1 (drawn hn).2 .own hP
      · refine ⟨_, rfl, p, _, 0, _, rfl, rfl, SqL.of upd_same, at_c (j := 0) rfl rfl, .inl ⟨_, rfl, _, rfl, _, n, rfl, rfl, hn, ?_⟩⟩
        exact k _ _ (drawn hn).1 (drawn hn).2 .own hP
end
end Yd
namespace Yd
open PySem L2
/-! ### the base and the names -/
theorem Sgn.nil : Sgn "" := fun s h => by have e : ("" : Str).cps.toList = [] := by decide +kernel
                                          rw [e] at h; cases h
theorem Sgn.app {a b : Str} (x : Sgn a) (y : Sgn b) : Sgn (a ++ b) := fun s h => by
  have e : (a ++ b).cps.toList = a.cps.toList ++ b.cps.toList := by show (a.cps ++ b.cps).toList = _; rw [Array.toList_append]
  rw [e] at h
  exact (List.mem_append.mp h).elim (x s) (y s)
theorem Sgn.cut {z : Str} (x : Sgn z) (lo hi : Option Int) : Sgn (cutS z lo hi) := fun s h => by
  have h : s ∈ ((z.cps.toList.drop (HT.sIx z.length 0 lo)).take (HT.sIx z.length z.length hi - HT.sIx z.length 0 lo)) := by simpa [cutS] using h
  exact x s (List.mem_of_mem_drop (List.mem_of_mem_take h))
theorem Sgn.one {c : Nat} (h : c ∈ ("mnopqrstuvwxyz0123456789" : Str).cps.toList) : Sgn ⟨#[c]⟩ := fun s hs => by
  have e : s = c := by simpa using hs
  rw [e]; exact h
theorem len_app (a b : Str) : (a ++ b).length = a.length + b.length := by show (a.cps ++ b.cps).size = _; rw [Array.size_append]; rfl
theorem join_ok : ∀ ys : List Str, (∀ y ∈ ys, Sgn y ∧ y.length = 1) → Sgn (Txt.join "" ys) ∧ (Txt.join "" ys).length = ys.length
  | [], _ => ⟨Sgn.nil, by decide +kernel⟩
  | [y], h => h y (List.mem_singleton.mpr rfl)
  | y :: z :: r, h => by
    have ih := join_ok (z :: r) fun q hq => h q (List.mem_cons_of_mem _ hq)
    have h0 := h y (List.mem_cons_self ..)
    have e0 : ("" : Str).length = 0 := by decide +kernel
    have e : Txt.join "" (y :: z :: r) = y ++ "" ++ Txt.join "" (z :: r) := by
      show Builtin.Str.glued "" (y :: z :: r) = y ++ "" ++ Builtin.Str.glued "" (z :: r)
      rw [StrLaws.glued_eq_join, StrLaws.glued_eq_join]
      rfl
    rw [e]
    refine ⟨(h0.1.app Sgn.nil).app ih.1, ?_⟩
    rw [len_app, len_app, ih.2, h0.2, e0, List.length_cons (a := y)]
    omega
theorem sum_ones : ∀ {ys : List Str}, (∀ y ∈ ys, Sgn y ∧ y.length = 1) → (ys.map (·.length)).sum = ys.length
  | [], _ => rfl
  | y :: r, h => by
    have ih := sum_ones (ys := r) fun q hq => h q (List.mem_cons_of_mem _ hq)
    rw [List.map_cons, List.sum_cons, ih, (h y (List.mem_cons_self ..)).2, List.length_cons]
    omega
structure Fn (K : PySem.W.Frag) (mg : Str → Option Value) (x : Str) (st : Stmt) (ps : List Str) (f : Addr) (fd : FuncData) : Prop where
  F : Fun K x x st f fd
  g : mg x = some (.ref f)
  b : Binds K fd ps []
section
variable {P : Program} {w : World} {K : PySem.W.Frag} {mg : Str → Option Value} {base : Heap}
def nBase : List Str := ["_law_pool_here", "_law_signs", "_law_k"]
theorem scBase : FnScope nBase ["_law_pool_here"] (defScope sBase) := ⟨rfl, rfl, rfl, by decide +kernel, rfl, by decide +kernel, by decide +kernel⟩
theorem sgn_at {v : Int} (h0 : 0 ≤ v) (h1 : v < 24) : ∃ c, atI ("mnopqrstuvwxyz0123456789" : Str).cps.toList v = some c ∧ c ∈ ("mnopqrstuvwxyz0123456789" : Str).cps.toList := by
  have hl : ("mnopqrstuvwxyz0123456789" : Str).cps.toList.length = 24 := by decide +kernel
  have hj : v.toNat < ("mnopqrstuvwxyz0123456789" : Str).cps.toList.length := by omega
  exact ⟨_, at_c (j := v.toNat) (z := v) (List.getElem?_eq_getElem hj) (by omega), List.getElem_mem hj⟩
theorem ok_base {f fT : Addr} {fd fdT : FuncData} (F : Fun K "_law_base" "_law_base" sBase f fd) (B : Blt mg) (T : Fn K mg "_law_take" sTake ["_law_pool_here", "_law_size"] fT fdT) : FnOk P w K mg base CX0 2 f fd ["_law_pool_here"] (spBase 12) := by
  have GT : FnOk P w K mg base CX0 1 fT fdT ["_law_pool_here", "_law_size"] spTake := ok_take T.F B
  refine F.ok scBase (fun vs H Q E h => ?_) (fun cdv A outer s H vs Q E hr h => ?_)
  · obtain ⟨p, c, rfl, _⟩ := h
    rfl
  · obtain ⟨p, c, rfl, hP, k⟩ := h
    refine ⟨_, pss_cons (ps_set (i := 1) scBase.nd rfl (Or.inr rfl) pe_str)
      (pss_one (ps_ret (pe_join pe_str (pe_lc (own := [("_law_k", 2)]) (g := gName 2) (tt := tYes) rfl scBase.nd
        (pi_range1 rfl B.range (pa_cons (pe_call GT hr rfl T.g T.F.kp T.b .nil pass0 (pa_cons (pv 0) (pa_cons pe_int pa_nil))) pa_nil))
        (blkOk_by (N := nBase) (sc := defScope sBase) (by decide +kernel))
        (fun _ _ _ _ _ => pg_name (i := 2) scBase.nd rfl (Or.inl rfl)) (fun _ _ _ _ _ => pts_nil)
        (fun _ _ _ _ _ => pe_ix ix_str (pv 1) (pe_call GT hr rfl T.g T.F.kp T.b .nil pass0 (pa_cons (pv 0) (pa_cons pe_int pa_nil))) (fun _ _ => rfl)))))), ?_⟩
    refine ⟨⟨_, rfl⟩, _, rfl, p, c, 12, rfl, hP, by decide, by decide, fun n H1 n0 n1 g1 P1 => ⟨n, rfl, by omega, by omega, fun D hD => ?_⟩⟩
    obtain ⟨nDp, nDc⟩ := P1.ne hD
    refine lc_range (lo := 0) (n := n.toNat) (fun i H' => Gro p H H' ∧ Pool H' p c ∧ ∃ ys : List Str, H' D = some (.lst (ys.map V.str)) ∧ ys.length = i ∧ ∀ y ∈ ys, Sgn y ∧ y.length = 1)
      ⟨g1.trans (.new hD), P1.new hD, [], upd_same, rfl, fun y hy => nomatch hy⟩ ?_ ?_
    · rintro i H' hi ⟨g5, P5, ys, hys, hyl, hb⟩
      refine ⟨rfl, _, rfl, _, rfl, p, c, 24, rfl, P5, by decide, by decide, fun v H6 v0 v1 g6 P6 => ?_⟩
      obtain ⟨ch, hch, hm⟩ := sgn_at v0 v1
      have h6 : H6 D = some (.lst (ys.map V.str)) := g6 D _ hys nDp
      refine ⟨_, v, ch, rfl, rfl, (by decide +kernel), hch, ys.map V.str, h6, small1000 (by rw [List.length_map]; omega), ?_⟩
      refine ⟨fun b o q hb' => ?_, P6.off nDp nDc, ys ++ [⟨#[ch]⟩], ?_, by rw [List.length_append, hyl]; rfl, fun y hy => ?_⟩
      · rw [upd_ne (ne_of_none (g1 b o q hb') hD)]
        exact g6 b o (g5 b o q hb') hb'
      · rw [upd_same, List.map_append]
        rfl
      · rcases List.mem_append.mp hy with hy | hy
        · exact hb y hy
        · rw [List.mem_singleton.mp hy]
          exact ⟨Sgn.one hm, rfl⟩
    · rintro H' ⟨g5, P5, ys, hys, hyl, hb⟩
      have j := join_ok ys hb
      refine ⟨_, D, ys, rfl, rfl, .inl (SqL.of hys), ?_, ?_⟩
      · have e0 : ("" : Str).length = 0 := by decide +kernel
        rw [sum_ones hb, e0]
        omega
      · exact k _ _ (by rw [j.2]; omega) j.1 g5 P5
def nName : List Str := ["_law_pool_here", "_law_base_here", "_law_k", "_law_text", "_law_at"]
theorem scName : FnScope nName ["_law_pool_here", "_law_base_here", "_law_k"] (defScope sName) := ⟨rfl, rfl, rfl, by decide +kernel, rfl, by decide +kernel, by decide +kernel⟩
theorem small16 {n : Nat} (h : n ≤ 16) : n ≤ sizeLine := Nat.le_trans h (by decide)
theorem ok_name {f fT : Addr} {fd fdT : FuncData} (F : Fun K "_law_name" "_law_name" sName f fd) (B : Blt mg) (T : Fn K mg "_law_take" sTake ["_law_pool_here", "_law_size"] fT fdT) : FnOk P w K mg base CX0 2 f fd ["_law_pool_here", "_law_base_here", "_law_k"] spName := by
  have GT : FnOk P w K mg base CX0 1 fT fdT ["_law_pool_here", "_law_size"] spTake := ok_take T.F B
  refine F.ok scName (fun vs H Q E h => ?_) (fun cdv A outer s H vs Q E hr h => ?_)
  · obtain ⟨p, c, b, k, rfl, _⟩ := h
    rfl
  · obtain ⟨p, c, b, kk, rfl, hP, hb, hsb, hk, k⟩ := h
    refine ⟨_, pss_cons (ps_set (i := 3) scName.nd rfl (Or.inl rfl) (pe_slice sl_str (pv 1) po_none (po_some (pe_call GT hr rfl T.g T.F.kp T.b .nil pass0 (pa_cons (pv 0) (pa_cons (pe_op op_add (pe_callB call_len_str (by rfl) B.len PySem.boot_len (pa_cons (pv 1) pa_nil)) pe_int) pa_nil))))))
      (pss_cons (ps_set (i := 4) scName.nd rfl (Or.inl rfl) (pe_call GT hr rfl T.g T.F.kp T.b .nil pass0 (pa_cons (pv 0) (pa_cons (pe_op op_add (pe_callB call_len_str (by rfl) B.len PySem.boot_len (pa_cons (pv 3) pa_nil)) pe_int) pa_nil))))
      (pss_one (ps_ret (pe_op op_add_str (pe_op op_add_str (pe_slice sl_str (pv 3) po_none (po_some (pv 4))) (pe_ix ix_str pe_str (pv 2) (fun _ _ => rfl))) (pe_slice sl_str (pv 3) (po_some (pv 4)) po_none))))), ?_⟩
    have n20 : ∀ n : Nat, n ≤ 11 → ((n : Int) + 1).natAbs < 2 ^ 200 := fun n h => Nat.lt_of_le_of_lt (m := 12) (by omega) (by decide)
    refine ⟨_, rfl, _, rfl, _, rfl, b, rfl, small16 (by omega), _, 1, rfl, rfl, p, c, _, rfl, hP, by omega, n20 _ hb, fun v H1 v0 v1 g1 P1 => ⟨v, rfl, b, rfl, small16 (by omega), ?_⟩⟩
    generalize hz : cutS b none (some v) = z
    have hzl : z.length ≤ 11 := by rw [← hz]; exact Nat.le_trans (cutS_length _ _ _) hb
    have hzs : Sgn z := by rw [← hz]; exact hsb.cut _ _
    refine ⟨_, rfl, _, rfl, z, rfl, small16 (by omega), _, 1, rfl, rfl, p, c, _, rfl, P1, by omega, n20 _ hzl, fun u H2 u0 u1 g2 P2 => ?_⟩
    obtain ⟨sg, hsg⟩ : ∃ sg, ("afkdibglejch" : Str).cps.toList[kk]? = some sg := ⟨_, List.getElem?_eq_getElem (by have : ("afkdibglejch" : Str).cps.toList.length = 12 := by decide +kernel
                                                                                                                  omega)⟩
    have l1 := cutS_length z none (some u)
    have l2 := cutS_length z (some u) none
    have lt : (cutS z none (some u)).length + (cutS z (some u) none).length ≤ z.length := by
      obtain ⟨j, rfl⟩ : ∃ j : Nat, u = (j : Int) := ⟨u.toNat, by omega⟩
      have e1 : ∀ lo hi, (cutS z lo hi).length = min (HT.sIx z.length z.length hi - HT.sIx z.length 0 lo) (z.length - HT.sIx z.length 0 lo) := fun lo hi => by
        show (((z.cps.toList.drop (HT.sIx z.length 0 lo)).take (HT.sIx z.length z.length hi - HT.sIx z.length 0 lo)).toArray).size = _
        rw [List.size_toArray, List.length_take, List.length_drop, Array.length_toList]
        rfl
      simp only [e1, HT.sIx_none, HT.sIx_nat]
      omega
    have o1 : (⟨#[sg]⟩ : Str).length = 1 := rfl
    refine ⟨_, rfl, _, rfl, u, rfl, z, rfl, small16 (by omega), _, rfl, _, kk, sg, rfl, rfl, (by decide +kernel), at_c (j := kk) hsg rfl, _, _, rfl, rfl, small16 (by omega), ?_⟩
    refine ⟨_, rfl, _, rfl, u, rfl, z, rfl, small16 (by omega), _, _, rfl, rfl, small16 (by rw [len_app]; omega), ?_⟩
    exact k _ _ ⟨by rw [len_app, len_app]; omega, sg, _, _, hsg, rfl, hzs.cut _ _, hzs.cut _ _⟩ (g1.trans g2) P2
end
end Yd
namespace Yd
open PySem L2
/-! ### a def that begins with super().__init__(text): how the errors of the program are made -/
/-- such a def as it stands behind the top: D its class, cc the cell that holds D -/
structure SupFn (P : Program) (K : PySem.W.Frag) (mg : Str → Option Value) (x qual : Str) (st : Stmt) (f D cc : Addr) (fd : FuncData) : Prop where
  fn : ∃ (oc : Value) (od : Option Addr) (kV doc pm : Value) (an : Option Addr) (cda : Addr) (ct : Value) (osl : Array (Option Value)) (ccl : Value) (cdd : Option Addr) (vs : Array Value) (ccs : Array (Option Value)) (file : Str) (tf : Tok),
    fd = PySem.W.fnX x qual (defArgs st) (defBody st) (defScope st) [("__class__", cc)] .none kV doc pm an (.ref cda) ct ∧ K.lookup f = some ⟨oc, od, .func fd, osl⟩ ∧ PySem.W.codeIn K (.ref cda) qual = true ∧
    K.lookup cda = some ⟨ccl, cdd, .fields vs, ccs⟩ ∧ vs[2]? = some (.str file tf) ∧ ((P.main.file : Str) == file) = true
  cell : ∃ (cl : Value) (cld : Option Addr) (csl : Array (Option Value)), K.lookup cc = some ⟨cl, cld, .cell (some (.ref D)), csl⟩
  cd : ∃ cdD, PySem.W.clsIn K D = some cdD
  sup : mg "super" = none
  top : (P.main.scope.names.lookup ("super" : Str)).isSome = false
  any : PySem.W.nsIn K PySem.cStatics "thirdparty.any" = some none
/-- the class at C of the object, seen from a def of the class at D -/
structure SupC (K : PySem.W.Frag) (C D : Addr) : Prop where
  ox : OexC K C
  over : PySem.W.ks_superIn K C D "__init__" = some (some (.builtin "ValueError.__init__"))
  sub : PySem.W.subIn K (.ref C) (.type "ValueError") = some true
  mro : PySem.W.mroIn K C (.ref D) = some true
section
open PySem.W PySem.Calls
variable {X : Cx} {pins : List (Addr × Obj)} {σ : St} {H : Hp} {s : Shared} {a C D f cc cda : Addr} {E : Value → Shared → Prop}
theorem inst_exo {hh : Heap} {t1 : Addr} (h : hh.get? a = some (PySem.HandSPX.excO C t1)) : InstAt hh a (PySem.HandSPX.excO C t1) C none := ⟨h, rfl, rfl, trivial⟩
/-- super(), ahead of its attribute -/
theorem sup_base {qual : Str} {scope : Scope} {L : Addr} {fd : FuncData} {of oc : Obj} {ar : Arg} {vs : Array Value} {file : Str} {tf : Tok} {body : List Stmt} {p0 p1 : Pos} {attr : Str} {whole : Sem Value} {ox : Obj} {odx : Option Obj} {ocl : Obj}
    (I : Inv X pins σ H s) (hE : X.env = envX qual scope L f (.ref cda) [("__class__", cc)]) (hks : scope.names.lookup ("super" : Str) = some .globalImplicit) (hkc : scope.names.lookup ("__class__" : Str) = some .free)
    (hat : (attr == ("__class__" : Str)) = false) (hf : X.K.lookup f = some of) (hfd : of.data = .func fd) (hp : (fd.params.posonlyargs ++ fd.params.args).head? = some ar) (hself : X.N[0]? = some ar.arg) (hloc : scope.names.lookup ar.arg = some .local)
    (hv : σ[0]? = some (some (.ref a))) (hco : X.K.lookup cda = some oc) (hoc : oc.data = .fields vs) (hvs : vs[2]? = some (.str file tf)) (hfile : ((X.prog.main.file : Str) == file) = true)
    (htop : (X.prog.main.scope.names.lookup ("super" : Str)).isSome = false) (hmg : X.mg "super" = none) (hcell : X.K.lookup cc = some ocl) (hcd : ocl.data = .cell (some (.ref D))) (hD : ∃ cdD, clsIn X.K D = some cdD)
    (J : InstAt s.heap a ox C odx) (hm : mroIn X.K C (.ref D) = some true) :
    PySem.wpAt (model X.prog X.w) X.A (.func body X.env) (attributeBase (.Call (.Name "super" p0) [] [] p1) attr X.env whole)
      (fun v s' => ∃ so, v = .ref so ∧ s'.heap.get? so = some (ks_superObj D a C) ∧ (∀ b o, s.heap.get? b = some o → s'.heap.get? b = some o) ∧ Inv X pins σ H s') E s := by
  have KI := I.kIn
  have hkind : scope.kind = .function := by have z := I.ok.kind; rw [hE] at z; exact z
  have hglob : X.env.globals = mainGlobals := I.ok.glob
  obtain ⟨mb, hb1, hb2⟩ := I.mod.blt
  have hbl : s.heap.Ns builtinsNs mb := hb1.keeps I.bk
  have hgl : s.heap.Ns mainGlobals X.mg := I.mod.glob.keeps I.bk
  obtain ⟨m, hns, hlk⟩ := id I.loc
  have vis : Vis X.env.scope ar.arg := by rw [hE]; exact .inl hloc
  obtain ⟨u, hru, hlook⟩ := hlk 0 ar.arg (.ref a) hself hv vis
  have hu : u = Value.ref a := hru
  subst hu
  have hma : m ar.arg = some (.ref a) := by
    rcases hlook with ⟨_, z⟩ | ⟨k, _⟩
    · exact z
    · rw [hE] at k
      have k' : scope.names.lookup ar.arg = some .cell ∨ scope.names.lookup ar.arg = some .free := k
      rw [hloc] at k'
      rcases k' with k' | k' <;> cases k'
  obtain ⟨cdD, hcdD⟩ := hD
  obtain ⟨oD, hD1, hD2⟩ : ∃ oD, s.heap.get? D = some oD ∧ oD.data = .cls cdD := by
    unfold clsIn at hcdD
    split at hcdD
    · rename_i q1 q2 q3 q4 hq
      cases hcdD
      exact ⟨_, KI _ _ hq, rfl⟩
    · cases hcdD
  have hlocals : X.env.locals = L := by rw [hE]
  rw [hlocals] at hns
  have hK : ∀ {b o}, X.K.lookup b = some o → s.heap.get? b = some o := fun {b o} e => KI b o e
  have keep : ∀ h', (∀ b o, s.heap.get? b = some o → h'.get? b = some o) → Inv X pins σ H { s with heap := h' } := fun h' k => I.kept (t' := s.toks) k
  rw [hE]
  obtain ⟨hh, g, d, t, os⟩ := s
  refine ks_wpAt_super_base (env := envX qual scope L f (.ref cda) [("__class__", cc)]) hks hkc hat rfl (hK hf) hfd hp rfl (hK hco) hoc hvs hfile htop ?_
  refine ks_loadName_global hkind hks (loadGlobal_builtin (env := envX qual scope L f (.ref cda) [("__class__", cc)]) hgl hmg hbl ((hb2 _ (by decide +kernel)).trans (by decide +kernel)) ⟨rfl, ?_⟩)
  refine wpAny_loadName_free hkind hkc rfl ⟨_, hK hcell, hcd⟩ ?_
  refine wpAny_loadName_local hkind hloc hns hma ?_
  refine ks_wpAny_isType_cls hD1 hD2 ⟨rfl, ?_⟩
  refine ks_wpAny_call_super hD1 hD2 J.at_ J.cls (fun c e => ?_) (looks_mroIn KI hm) fun h' e k => ⟨_, rfl, e, k, keep h' k⟩
  have z := J.no
  unfold notCls at z
  rw [e] at z
  exact Bool.noConfusion z
end
end Yd
namespace Yd
open PySem L2
section
open PySem.W PySem.Calls
variable {X : Cx} {pins : List (Addr × Obj)} {σ : St} {H : Hp} {s : Shared} {a C D f cc cda u : Addr} {E : Value → Shared → Prop}
/-- a record of ours is pinned -/
theorem pin_new (I : Inv X pins σ H s) {o : Obj} (hu : s.heap.get? u = some o) (hn : H u = none) (hL : u ≠ X.env.locals) (hf : u ∉ X.fs) (hd : ∀ v, o.data ≠ .cell v) : Inv X ((u, o) :: pins) σ H s :=
  I.pins_of fun p hp => by
    rcases List.mem_cons.mp hp with rfl | hp
    · exact ⟨hu, hn, hL, hf, hd⟩
    · exact I.pin p (List.mem_append_right _ hp)
theorem pin_off {o : Obj} (I : Inv X ((u, o) :: pins) σ H s) : Inv X pins σ H s := I.pins_of fun p hp => I.pin p (List.mem_append_right _ (List.mem_cons_of_mem _ hp))
theorem mw_nocell {i : String} {x : Addr} : ∀ v, (kxs_mw i x).data ≠ .cell v := fun _ z => by cases z
/-- the bound ValueError.__init__ runs -/
theorem mw_run {us : List Value} {Q : Value → Shared → Prop} (T : OexC X.K C) (I : Inv X pins σ H s) (e : H a = some (exo a C none)) (hu : s.heap.get? u = some (kxs_mw "ValueError.__init__" a)) (hl : us.length ≤ sizeLine)
    (h : ∀ s', Inv X pins σ H s' → Q .none s') : wpAny (model X.prog X.w) X.A (call (.ref u) us) Q E s := by
  obtain ⟨nm, q, N, bs, bm, sn, sub, ab, col, dd, k0, k1, k2, k3, k5, hC, hbm⟩ := T.cls
  obtain ⟨t1, ho⟩ := exo_at I.hok e
  obtain ⟨hp, g, d, t, os⟩ := s
  have hTy : ∀ n : String, n = "method-wrapper" → (Value.type n == Value.type "method" || Value.type n == Value.type "builtin_function_or_method" || Value.type n == Value.type "method-wrapper") = true := fun n hn => by subst hn; decide
  refine wpAny_call (codeAny_of_tree (?_ : wpAny _ X.A.in1 (callAny (.ref u) ⟨us, []⟩) _ _ _))
  simp only [callAny]
  refine wpAny_bind (wpAny_load hu ?_)
  simp only [kxs_mw, hTy "method-wrapper" rfl, if_true]
  refine KFB.if_so (by decide) (wpAny_bind (check_bound_init F.excBase_ValueError.toExcCallFacts (I.kIn _ _ hC) ho rfl (wpAny_bind (wpAny_pure (wpAny_pure ?_)))))
  refine ⟨plainId_quiet F.excBase_ValueError.init.plain _, codeAny_builtin F.excBase_ValueError.initEntry ?_⟩
  refine exc_init_tree (cls := .ref C) (t0 := t1) (dv := none) (c2 := .none) (c3 := .none) (b4 := .bool false) ho hl fun h' k hx _ => ?_
  have same : upd H a (exo a C none) = H := funext fun b => by
    by_cases hb : b = a
    · rw [hb, upd_same, e]
    · exact upd_ne hb
  have J := I.write (t' := t) (x := a) (e := a) (o := exo a C none) (by rw [e]; exact True.intro) (.inl rfl) k ⟨_, hx⟩ (exo_ok hx)
  rw [same] at J
  exact h _ J
end
end Yd
namespace Yd
open PySem L2
section
open PySem.W PySem.Calls
variable {X : Cx} {pins : List (Addr × Obj)} {σ : St} {H : Hp} {s : Shared} {a C D f cc cda u : Addr} {E : Value → Shared → Prop}
/-- super().__init__(e), the whole statement, where the def's own code runs -/
theorem sup_stmt {qual : Str} {scope : Scope} {L : Addr} {fd : FuncData} {of oc : Obj} {ar : Arg} {vs : Array Value} {file : Str} {tf : Tok} {body : List Stmt} {p0 p1 p2 p3 p4 : Pos} {ocl : Obj} {e : Expr} {te : TE} {Q : Hp → Prop} {pl : Sem Bool}
    (I : Inv X pins σ H s) (hE : X.env = envX qual scope L f (.ref cda) [("__class__", cc)]) (hks : scope.names.lookup ("super" : Str) = some .globalImplicit) (hkc : scope.names.lookup ("__class__" : Str) = some .free)
    (hf : X.K.lookup f = some of) (hfd : of.data = .func fd) (hp : (fd.params.posonlyargs ++ fd.params.args).head? = some ar) (hself : X.N[0]? = some ar.arg) (hloc : scope.names.lookup ar.arg = some .local)
    (hv : σ[0]? = some (some (.ref a))) (hco : X.K.lookup cda = some oc) (hoc : oc.data = .fields vs) (hvs : vs[2]? = some (.str file tf)) (hfile : ((X.prog.main.file : Str) == file) = true)
    (htop : (X.prog.main.scope.names.lookup ("super" : Str)).isSome = false) (hmg : X.mg "super" = none) (hcell : X.K.lookup cc = some ocl) (hcd : ocl.data = .cell (some (.ref D))) (hD : ∃ cdD, clsIn X.K D = some cdD)
    (hany : nsIn X.K cStatics "thirdparty.any" = some none) (S : SupC X.K C D) (he : PE X e te) (ha : H a = some (exo a C none)) (hq : te σ H fun _ H1 => H1 a = some (exo a C none) ∧ Q H1)
    (hi : interactive X.env = false := by rfl) (hsw : swapsWith (.Call (.Attribute (.Call (.Name "super" p0) [] [] p1) "__init__" p2) [e] [] p3) none p4.line X.env = pure false := by rfl)
    (hst : starEach [e] X.env = (false, eval e X.env) :: starEach [] X.env := by rfl)
    (hc : eval (.Call (.Attribute (.Call (.Name "super" p0) [] [] p1) "__init__" p2) [e] [] p3) X.env = (do
      let ov ← attributeBase (.Call (.Name "super" p0) [] [] p1) "__init__" X.env (eval (.Call (.Name "super" p0) [] [] p1) X.env)
      standAt p2.atName
      let (f, first) ← holding [ov] (getMethod ov "__init__" pl)
      callWith p3 f first (backTo p3 (starEach [e] X.env)) []) := by rfl) :
    PySem.wpAt (model X.prog X.w) X.A (.func body X.env) (exec (.Expr (.Call (.Attribute (.Call (.Name "super" p0) [] [] p1) "__init__" p2) [e] [] p3) p4) X.env)
      (fun fl s' => fl = .next ∧ ∃ H', Inv X pins σ H' s' ∧ Q H') X.xe s := by
  obtain ⟨t1, ho⟩ := exo_at I.hok ha
  refine ks_wpAt_Expr_any ?_ hi hsw
  refine ks_wpAt_MethodCall ?_ hc
  · refine ks_wpAt_mono (sup_base I hE hks hkc (by decide) hf hfd hp hself hloc hv hco hoc hvs hfile htop hmg hcell hcd hD (inst_exo ho) S.mro) (fun v s1 hh => ?_) fun _ _ z => z
    obtain ⟨so, rfl, hso, k1, I1⟩ := hh
    obtain ⟨t2, ho1⟩ := exo_at I1.hok ha
    have KI := I1.kIn
    have hcls : ∃ cd, clsIn X.K C = some cd ∧ alongIn X.K "__init__" ((cd.mro.dropWhile (· != .ref D)).drop 1) = some (some (.builtin "ValueError.__init__")) := by
      have z := S.over
      unfold ks_superIn at z
      cases q : clsIn X.K C with
      | none => rw [q] at z; cases z
      | some cd => rw [q] at z; exact ⟨cd, rfl, z⟩
    obtain ⟨cd, hcdC, hal⟩ := hcls
    have hI : Looks (model X.prog X.w) s1.heap (isInstance (.ref a) (.type "ValueError")) true := (inst_exo ho1).type.andThen (looks_subIn KI S.sub)
    have hmro : Looks (model X.prog X.w) s1.heap (mroOf (.ref C)) cd.mro := fun A' Q' E' s' k q => wpAny_bind ((looks_clsIn KI hcdC) A' _ E' s' k (wpAny_pure q))
    have hne : a ≠ C := ks_ne KI (inst_exo ho1) hcdC
    obtain ⟨hp1, g, d, t, os⟩ := s1
    refine kxs_getMethod kxs_ValueError hso (looks_opaque KI hany) hmro rfl KI hal hI hne (by decide) ?_
    -- the bound method is a new record
    have hnew : H hp1.objs.size = none := I1.hok.fresh (Nat.le_refl _)
    have I2 : Inv X pins σ H ⟨hp1.push (kxs_mw "ValueError.__init__" a), g, d, t + 1, os⟩ := I1.kept (t' := t + 1) fun b o q => Heap.get?_push_of_some _ q
    have hL : hp1.objs.size ≠ X.env.locals := (Nat.ne_of_lt I1.lt).symm
    have I3 := pin_new (o := kxs_mw "ValueError.__init__" a) I2 (Heap.get?_push_at rfl rfl) hnew hL (I1.nofs (Nat.le_refl _)) mw_nocell
    have hplain : ((false, eval e X.env) :: backTo p3 (starEach [] X.env)).any (·.1) = false := by rfl
    rw [hst]
    refine kxs_callWith (i := "ValueError.__init__") (x := a) hplain (evalArgs_plain ?_)
    refine spliced_cons (thn (he.run _ _ σ H _ I3 hq) fun v s2 ⟨x, H2, I4, _, ha2, q2⟩ => ?_)
    refine spliced_nil ⟨(I4.pin _ (List.mem_append_right _ (List.mem_cons_self ..))).1, ?_⟩
    exact mw_run S.ox I4 ha2 (I4.pin _ (List.mem_append_right _ (List.mem_cons_self ..))).1 (by show 1 ≤ sizeLine; decide) fun s' J => ⟨rfl, H2, pin_off J, q2⟩
/-- the names of such a def: the parameters, then __class__ -/
structure SupScope (N ps : List Str) (sc : Scope) : Prop where
  ns : NdefX.NScope N ps ["__class__"] sc
  sup : sc.names.lookup ("super" : Str) = some .globalImplicit
/-- THE RULE for a def that begins so: its text, and what is behind it -/
theorem fn_sup {P : Program} {w : World} {K : Frag} {mg : Str → Option Value} {base : Heap} {CX : CXT} {x qual : Str} {st : Stmt} {fd : FuncData} {N ps : List Str} {k : Nat} {sp : Sp} {ar : Arg} {e : Expr} {rest : List Stmt} {p0 p1 p2 p3 p4 : Pos} {pl : Sem Bool}
    (F : SupFn P K mg x qual st f D cc fd) (S : SupScope N ps (defScope st)) (hp : ((defArgs st).posonlyargs ++ (defArgs st).args).head? = some ar) (hself : N[0]? = some ar.arg) (hloc : (defScope st).names.lookup ar.arg = some .local)
    (hb : defBody st = .Expr (.Call (.Attribute (.Call (.Name "super" p0) [] [] p1) "__init__" p2) [e] [] p3) p4 :: rest) (len : ∀ vs H Q E, sp vs H Q E → vs.length = ps.length)
    (hsw : ∀ env : Env, env.scope = defScope st → swapsWith (.Call (.Attribute (.Call (.Name "super" p0) [] [] p1) "__init__" p2) [e] [] p3) none p4.line env = pure false)
    (hst : ∀ env, starEach [e] env = (false, eval e env) :: starEach [] env)
    (hc : ∀ env, eval (.Call (.Attribute (.Call (.Name "super" p0) [] [] p1) "__init__" p2) [e] [] p3) env = (do
      let ov ← attributeBase (.Call (.Name "super" p0) [] [] p1) "__init__" env (eval (.Call (.Name "super" p0) [] [] p1) env)
      standAt p2.atName
      let (f, first) ← holding [ov] (getMethod ov "__init__" pl)
      callWith p3 f first (backTo p3 (starEach [e] env)) []))
    (hbody : ∀ (Fn : NdefX.NF) (A : Around) (outer : List Env) (s : Shared) (H : Hp) (vs : List V) (Q : VK) (E : XK), Fn.scope = defScope st → Fn.cl = [(("__class__" : Str), cc)] → Room k (A.deeper (NdefX.envF Fn f s.heap.objs.size)) → sp vs H Q E →
      ∃ te t a C, PE (NdefX.ncx CX P w K mg base N Fn f A outer s H E) e te ∧ PSs (NdefX.ncx CX P w K mg base N Fn f A outer s H E) rest t ∧ vs[0]? = some (.ref a) ∧ SupC K C D ∧ H a = some (exo a C none) ∧
        te (NdefX.startF N vs [some (.ref D)]) H fun _ H1 => H1 a = some (exo a C none) ∧ t { nx := fun _ H' => Q .non H', rt := Q } (NdefX.startF N vs [some (.ref D)]) H1) :
    FnOk P w K mg base CX (k + 1) f fd ps sp := by
  obtain ⟨oc, od, kV, doc, pm, an, cda, ct, osl, ccl, cdd, vsC, ccs, file, tf, rfl, lk, hcd, lkC, hvs, hfile⟩ := F.fn
  obtain ⟨cl, cld, csl, lkc⟩ := F.cell
  refine ⟨len, fun A outer s H args us vs Q E hr e0 hb' r hsp => ?_⟩
  have hl := len _ _ _ _ hsp
  have inK : ∀ {b o}, K.lookup b = some o → s.heap.get? b = some o ∧ H b = none := fun {b o} z => e0.bs b o (e0.mod.kin b o z)
  have KX : K.In s.heap := fun b o z => (inK z).1
  have lim : s.heap.NoLimit := e0.mod.nolimit.keeps fun b o z => (e0.bs b o z).1
  refine ks_codeAny_call_defAt (fd := fnX x qual (defArgs st) (defBody st) (defScope st) [("__class__", cc)] .none kV doc pm an (.ref cda) ct) (body := defBody st) (binds := ps.zip us) hr.depth (inK lk).1 rfl lim (codeRec_of KX hcd) rfl hb' S.ns.nocell
    (fun y hy => S.ns.par _ (List.of_mem_zip hy).1) (fun h₁ hns kp => ?_) S.ns.co S.ns.gen S.ns.kind
  let Fn : NdefX.NF := ⟨x, qual, defArgs st, defBody st, defScope st, [(("__class__" : Str), cc)], cda⟩
  have C1 : NdefX.CellsAt Fn.cl ["__class__"] [some (.ref D)] s.heap H := by
    have one : ∀ y c, List.lookup y [(("__class__" : Str), cc)] = some c → y = "__class__" ∧ c = cc := fun y c z => by
      by_cases hy : y = "__class__"
      · subst hy
        refine ⟨rfl, ?_⟩
        simp [List.lookup] at z
        exact z.symm
      · have q : (y == ("__class__" : Str)) = false := by simpa using hy
        simp [List.lookup, q] at z
    refine ⟨rfl, fun y c z => ?_, fun y z c h1 h2 => (one y c h1).1.trans (one z c h2).1.symm, fun i y hy => ?_⟩
    · obtain ⟨_, rfl⟩ := one y c z
      exact ⟨(inK lkc).2, _, _, (inK lkc).1, rfl⟩
    · match i, hy with
      | 0, hy =>
        have ey : ("__class__" : Str) = y := Option.some.inj hy
        subst ey
        refine ⟨cc, by show List.lookup _ [(("__class__" : Str), cc)] = _; simp [List.lookup], fun v hv => ?_⟩
        have ev : V.ref D = v := Option.some.inj (Option.some.inj hv)
        subst ev
        exact ⟨_, rfl, _, (inK lkc).1, rfl⟩
      | i + 1, hy => simp at hy
  have I : Inv (NdefX.ncx CX P w K mg base N Fn f A outer s H E) [] (NdefX.startF N vs [some (.ref D)]) H { s with heap := h₁, toks := s.toks + (ps.zip us).length } := NdefX.inv_startN S.ns hr.hd e0 hl r C1 hns kp
  obtain ⟨te, t, a, C, pe, pss, hv0, hS, ha, hq⟩ := hbody Fn A outer s H vs Q E rfl rfl (hr.deeper _) hsp
  have hσ : (NdefX.startF N vs [some (.ref D)])[0]? = some (some (.ref a)) := by
    unfold NdefX.startF
    have h0 : 0 < vs.length := (List.getElem?_eq_some_iff.mp hv0).1
    rw [List.getElem?_append_left (by rw [List.length_map]; exact h0), List.getElem?_map, hv0]
    rfl
  rw [hb]
  refine ks_wpAt_execs_cons (ks_wpAt_mono (sup_stmt (X := NdefX.ncx CX P w K mg base N Fn f A outer s H E) (qual := qual) (scope := defScope st) (L := s.heap.objs.size) I rfl S.sup (S.ns.frk _ (List.mem_singleton.mpr rfl)) lk rfl hp hself hloc hσ lkC rfl hvs hfile F.top F.sup lkc rfl F.cd F.any hS pe ha hq
    (by unfold interactive; rw [show (NdefX.ncx CX P w K mg base N Fn f A outer s H E).env.scope.kind = .function from S.ns.kind]; rfl) (hsw _ rfl) (hst _) (hc _)) (fun fl s' hh => ?_) fun _ _ z => z)
  obtain ⟨rfl, H1, I1, q1⟩ := hh
  refine wpAt_of_wpAny (wpAny_mono (pss.run [] s' _ H1 _ I1 q1) (fun fl s2 hs => ?_) fun _ _ z => z)
  have fin : ∀ {σ' : L2.St} {H' : Hp} {v : V} {u : Value}, Inv (NdefX.ncx CX P w K mg base N Fn f A outer s H E) [] σ' H' s2 → RelV v u → Q v H' → CE outer P w H s Q u s2 :=
    fun {σ' H' v u} J rv q => ⟨v, H', J.os, J.bare, J.base, J.hok, rv, q⟩
  cases fl with
  | ret u =>
    obtain ⟨v, σ', H', J, rv, q⟩ := hs
    exact fin J rv q
  | next =>
    obtain ⟨σ', H', J, q⟩ := hs
    exact fin (v := V.non) (u := Value.none) J rfl q
  | brk =>
    obtain ⟨_, _, _, q⟩ := hs
    exact q.elim
  | cont =>
    obtain ⟨_, _, _, q⟩ := hs
    exact q.elim
end
end Yd
namespace Yd
open PySem L2
/-! ### the errors: a text, then the fields -/
/-- a part of a text that is short -/
def Short (σ : St) (H : Hp) (t : TE) : Prop := ∃ y : Str, y.length ≤ 100 ∧ ∀ Q : VK, Q (.str y) H → t σ H Q
theorem short_c {σ : St} {H : Hp} {x : Str} (h : x.length ≤ 100 := by decide +kernel) : Short σ H (tC (.str x)) := ⟨x, h, fun _ q => q⟩
theorem short_v {σ : St} {H : Hp} {i : Nat} {x : Str} (e : σ[i]? = some (some (.str x))) (h : x.length ≤ 100) : Short σ H (tFmt (tVar i)) :=
  ⟨x, h, fun _ q => ⟨_, e, .inl ⟨x, rfl, Nat.le_trans h (by decide), q⟩⟩⟩
theorem js_short {σ : St} {H : Hp} {Q : Str → Hp → Prop} (hq : ∀ out, Q out H) : ∀ (ts : List TE) (acc : Str), (∀ t ∈ ts, Short σ H t) → acc.length + 100 * ts.length ≤ 10000 → tJs ts acc σ H Q
  | [], acc, _, _ => hq acc
  | t :: ts, acc, h, hl => by
    obtain ⟨y, hy, ht⟩ := h t (List.mem_cons_self ..)
    rw [List.length_cons] at hl
    have e : (acc ++ y).length = acc.length + y.length := len_app acc y
    refine ht _ ⟨y, rfl, ?_, js_short hq ts (acc ++ y) (fun u hu => h u (List.mem_cons_of_mem _ hu)) (by omega)⟩
    exact Nat.le_trans (show (acc ++ y).length ≤ 10000 by omega) (by decide)
/-- what an error's __init__ promises: fs, the fields, the last one stored first -/
def spErr (C : Addr) (n : Nat) (ok : List V → Prop) (fs : List V → List (Str × V)) : Sp := fun vs H Q _ => ∃ (a : Addr) (us : List V), vs = .ref a :: us ∧ us.length = n ∧ ok us ∧ H a = some (exo a C none) ∧
  ∀ d H', H d = none → d ≠ a → H' a = some (exo a C (some d)) → H' d = some (exd d (fs us)) → (∀ b, b ≠ a → b ≠ d → H' b = H b) → Q .non H'
def isTxt (v : V) : Prop := ∃ x : Str, v = .str x ∧ x.length ≤ 100
end Yd
namespace Yd
open PySem L2
section
variable {P : Program} {w : World} {K : PySem.W.Frag} {mg : Str → Option Value} {base : Heap} {CX : CXT}
theorem scRepeatedInit : SupScope ["self", "name", "__class__"] ["self", "name"] (defScope sRepeatedInit) := ⟨NdefX.nscope_by (by decide +kernel), rfl⟩
def fsRepeated : List V → List (Str × V)
  | [v0] => [("name", v0)]
  | _ => []
def okRepeated : List V → Prop
  | [v0] => isTxt v0
  | _ => False
theorem ok_RepeatedInit {f D cc : Addr} {fd : FuncData} (F : SupFn P K mg "__init__" "Repeated.__init__" sRepeatedInit f D cc fd) (S : SupC K D D) (n0 : PySem.W.findIn K (.ref D) "name" = some none) : FnOk P w K mg base CX 1 f fd ["self", "name"] (spErr D 1 okRepeated fsRepeated) := by
  refine fn_sup F scRepeatedInit rfl rfl rfl rfl (fun vs H Q E h => ?_) (fun _ _ => rfl) (fun _ => rfl) (fun _ => rfl) (fun Fn A outer s H vs Q E hsc hcl hr h => ?_)
  · obtain ⟨a, us, rfl, hl, _⟩ := h
    rw [List.length_cons, hl]
    rfl
  · obtain ⟨a, us, rfl, hl, ok, ha, k⟩ := h
    obtain ⟨nm, ql, pr, bd, scp, cl, cdx⟩ := Fn
    simp only at hsc hcl
    subst hsc hcl
    match us, hl, ok, k with
    | [v0], _, ⟨x0, e0, l0⟩, k =>
      subst e0
      refine ⟨_, _, a, D, pe_joined (PJ.cons pe_str (PJ.cons (pe_fmt (pv 1)) (PJ.cons pe_str PJ.nil))), (pss_one (ps_ost (pv 0) (pv 1))), rfl, S, ha, ?_⟩
      refine js_short (fun out => ?_) _ _ (fun t ht => ?_) (by decide)
      rotate_left
      · simp only [List.mem_cons, List.not_mem_nil, or_false] at ht
        rcases ht with rfl | rfl | rfl
        · exact short_c
        · exact short_v rfl l0
        · exact short_c
      refine ⟨ha, ?_⟩
      refine ⟨_, rfl, _, rfl, a, D, rfl, S.ox, n0, .inl ⟨ha, fun dx hd hda => ?_⟩⟩
      refine k dx _ hd hda upd_same (by rw [upd_ne hda]; exact upd_same) fun b hb1 hb2 => ?_
      rw [upd_ne hb1, upd_ne hb2]
theorem scUnknownInit : SupScope ["self", "name", "__class__"] ["self", "name"] (defScope sUnknownInit) := ⟨NdefX.nscope_by (by decide +kernel), rfl⟩
def fsUnknown : List V → List (Str × V)
  | [v0] => [("name", v0)]
  | _ => []
def okUnknown : List V → Prop
  | [v0] => isTxt v0
  | _ => False
theorem ok_UnknownInit {f D cc : Addr} {fd : FuncData} (F : SupFn P K mg "__init__" "Unknown.__init__" sUnknownInit f D cc fd) (S : SupC K D D) (n0 : PySem.W.findIn K (.ref D) "name" = some none) : FnOk P w K mg base CX 1 f fd ["self", "name"] (spErr D 1 okUnknown fsUnknown) := by
  refine fn_sup F scUnknownInit rfl rfl rfl rfl (fun vs H Q E h => ?_) (fun _ _ => rfl) (fun _ => rfl) (fun _ => rfl) (fun Fn A outer s H vs Q E hsc hcl hr h => ?_)
  · obtain ⟨a, us, rfl, hl, _⟩ := h
    rw [List.length_cons, hl]
    rfl
  · obtain ⟨a, us, rfl, hl, ok, ha, k⟩ := h
    obtain ⟨nm, ql, pr, bd, scp, cl, cdx⟩ := Fn
    simp only at hsc hcl
    subst hsc hcl
    match us, hl, ok, k with
    | [v0], _, ⟨x0, e0, l0⟩, k =>
      subst e0
      refine ⟨_, _, a, D, pe_joined (PJ.cons pe_str (PJ.cons (pe_fmt (pv 1)) (PJ.cons pe_str PJ.nil))), (pss_one (ps_ost (pv 0) (pv 1))), rfl, S, ha, ?_⟩
      refine js_short (fun out => ?_) _ _ (fun t ht => ?_) (by decide)
      rotate_left
      · simp only [List.mem_cons, List.not_mem_nil, or_false] at ht
        rcases ht with rfl | rfl | rfl
        · exact short_c
        · exact short_v rfl l0
        · exact short_c
      refine ⟨ha, ?_⟩
      refine ⟨_, rfl, _, rfl, a, D, rfl, S.ox, n0, .inl ⟨ha, fun dx hd hda => ?_⟩⟩
      refine k dx _ hd hda upd_same (by rw [upd_ne hda]; exact upd_same) fun b hb1 hb2 => ?_
      rw [upd_ne hb1, upd_ne hb2]
theorem scNoStepInit : SupScope ["self", "before", "after", "__class__"] ["self", "before", "after"] (defScope sNoStepInit) := ⟨NdefX.nscope_by (by decide +kernel), rfl⟩
def fsNoStep : List V → List (Str × V)
  | [v0, v1] => [("after", v1), ("before", v0)]
  | _ => []
def okNoStep : List V → Prop
  | [v0, v1] => isTxt v0 ∧ isTxt v1
  | _ => False
theorem ok_NoStepInit {f D cc : Addr} {fd : FuncData} (F : SupFn P K mg "__init__" "NoStep.__init__" sNoStepInit f D cc fd) (S : SupC K D D) (n0 : PySem.W.findIn K (.ref D) "before" = some none) (n1 : PySem.W.findIn K (.ref D) "after" = some none) : FnOk P w K mg base CX 1 f fd ["self", "before", "after"] (spErr D 2 okNoStep fsNoStep) := by
  refine fn_sup F scNoStepInit rfl rfl rfl rfl (fun vs H Q E h => ?_) (fun _ _ => rfl) (fun _ => rfl) (fun _ => rfl) (fun Fn A outer s H vs Q E hsc hcl hr h => ?_)
  · obtain ⟨a, us, rfl, hl, _⟩ := h
    rw [List.length_cons, hl]
    rfl
  · obtain ⟨a, us, rfl, hl, ok, ha, k⟩ := h
    obtain ⟨nm, ql, pr, bd, scp, cl, cdx⟩ := Fn
    simp only at hsc hcl
    subst hsc hcl
    match us, hl, ok, k with
    | [v0, v1], _, ⟨⟨x0, e0, l0⟩, ⟨x1, e1, l1⟩⟩, k =>
      subst e0
      subst e1
      refine ⟨_, _, a, D, pe_joined (PJ.cons pe_str (PJ.cons (pe_fmt (pv 1)) (PJ.cons pe_str (PJ.cons (pe_fmt (pv 2)) PJ.nil)))), (pss_cons (ps_ost (pv 0) (pv 1)) (pss_one (ps_ost (pv 0) (pv 2)))), rfl, S, ha, ?_⟩
      refine js_short (fun out => ?_) _ _ (fun t ht => ?_) (by decide)
      rotate_left
      · simp only [List.mem_cons, List.not_mem_nil, or_false] at ht
        rcases ht with rfl | rfl | rfl | rfl
        · exact short_c
        · exact short_v rfl l0
        · exact short_c
        · exact short_v rfl l1
      refine ⟨ha, ?_⟩
      refine ⟨_, rfl, _, rfl, a, D, rfl, S.ox, n0, .inl ⟨ha, fun dx hd hda => ?_⟩⟩
      refine ⟨_, rfl, _, rfl, a, D, rfl, S.ox, n1, .inr ⟨dx, [("before", .str x0)], ?_, ?_, (by show 1 ≤ 900; decide), ?_⟩⟩
      · exact upd_same
      · rw [upd_ne hda]; exact upd_same
      refine k dx _ hd hda (by simp only [upd_ne (Ne.symm hda), upd_same]) upd_same fun b hb1 hb2 => ?_
      simp only [upd_ne hb1, upd_ne hb2]
end
end Yd
namespace Yd
open PySem L2
/-! ### tuple(d) of a dict: its keys -/
section
open PySem.W PySem.Calls PyProof.Rows
variable {prog : Program} {w : World} {A : Around} {E : Value → Shared → Prop} {s : Shared} {T : String} {r d : Addr} {n : Nat} {P : Nat → Value → Prop} {OK : Heap → Prop}
/-- what is collected of such a thing -/
theorem collect_src {Q : List Value → Shared → Prop} (Z : KdlSrc prog w T r d n P OK) (hh : A.handled = none) (hok : OK s.heap) (hn : n ≤ sizeLine)
    (hQ : ∀ (h' : Heap) (tk : Nat) (acc : Array Value), (∀ b o, s.heap.get? b = some o → h'.get? b = some o) → ItemsOf P acc n → Q acc.toList { s with heap := h', toks := tk }) :
    wpAny (model prog w) A (collect (.ref r)) Q E s := by
  have new : (s.heap.push { cls := .type "list", data := .seq ([] : List Value).toArray }).get? s.heap.objs.size = some { cls := .type "list", data := .seq #[] 0 } := Heap.get?_push_size _ rfl
  have up : ∀ b o, s.heap.get? b = some o → (s.heap.push { cls := .type "list", data := .seq ([] : List Value).toArray }).get? b = some o := fun b o e => Heap.get?_push_of_some _ e
  have lt := Z.there _ hok
  unfold collect
  refine wpAny_bind (wpAny_runValue (codeAny_builtin F.entry_proto_collect ?_))
  rw [Around.under_plainId F.plain_proto_collect _]
  refine wpAny_bind (m := newList []) (wpAny_newObj_type (wpAny_pure ⟨plainId_quiet F.plain_list_iadd _, codeAny_builtin F.entry_list_iadd ?_⟩))
  rw [Around.under_plainId F.plain_list_iadd _]
  refine wpAny_mono (kdl_extend (A := A) (s := { s with heap := s.heap.push { cls := .type "list", data := .seq ([] : List Value).toArray } })
    (R := fun rr s' => rr = .ok (.ret (.ref s.heap.objs.size)) ∧ ∃ (h' : Heap) (tk : Nat) (acc : Array Value) (c' : Nat), s' = { s with heap := h', toks := tk } ∧ (∀ b o, s.heap.get? b = some o → h'.get? b = some o) ∧
      h'.get? s.heap.objs.size = some { cls := .type "list", dict := none, data := .seq acc c', slots := #[] } ∧ ItemsOf P acc n)
    Z hh (Z.keep _ _ hok fun b _ o e => up b o e) s.heap.objs.size (Nat.ne_of_gt lt.1) (Nat.ne_of_gt lt.2) (.ref s.heap.objs.size) 0 new
    (fun h' tk acc c' k e hi => ⟨rfl, h', tk, acc, c', rfl, fun b o q => k b o (Nat.ne_of_lt (Heap.lt_size q)) (up b o q), e, hi⟩) hn) (fun fin s' z => ?_) fun e s' z => absurd z.1 (by simp)
  have done : ∀ {rr : Result} {s2 : Shared}, (rr = .ok (.ret (.ref s.heap.objs.size)) ∧ ∃ (h' : Heap) (tk : Nat) (acc : Array Value) (c' : Nat), s2 = { s with heap := h', toks := tk } ∧ (∀ b o, s.heap.get? b = some o → h'.get? b = some o) ∧
      h'.get? s.heap.objs.size = some { cls := .type "list", dict := none, data := .seq acc c', slots := #[] } ∧ ItemsOf P acc n) → ∃ h' tk acc c', rr = .ok (.ret (.ref s.heap.objs.size)) ∧ s2 = { s with heap := h', toks := tk } ∧
      h'.get? s.heap.objs.size = some { cls := .type "list", dict := none, data := .seq acc c', slots := #[] } ∧ Q acc.toList { s with heap := h', toks := tk } := fun ⟨e1, h', tk, acc, c', e2, k, e3, hi⟩ => ⟨h', tk, acc, c', e1, e2, e3, hQ h' tk acc k hi⟩
  cases fin with
  | done f =>
    obtain ⟨h', tk, acc, c', e, rfl, hS, q⟩ := done z
    cases e
    exact wpAny_bind (m := load s.heap.objs.size) (wpAny_load hS (wpAny_pure q))
  | again c2 =>
    refine ⟨z.1, codeAny_mono z.2 fun rr s'' y => ?_⟩
    obtain ⟨h', tk, acc, c', rfl, rfl, hS, q⟩ := done y
    exact wpAny_bind (m := load s.heap.objs.size) (wpAny_load hS (wpAny_pure q))
theorem tuple_src {Q : Value → Shared → Prop} (Z : KdlSrc prog w T r d n P OK) (hh : A.handled = none) (hok : OK s.heap) (hn : n ≤ sizeLine)
    (hQ : ∀ (h' : Heap) (tk : Nat) (acc : Array Value), (∀ b o, s.heap.get? b = some o → h'.get? b = some o) → ItemsOf P acc n → Q (.ref h'.objs.size) { s with heap := h'.push { cls := .type "tuple", data := .seq acc }, toks := tk }) :
    wpAny (model prog w) A (call (.type "tuple") [.ref r]) Q E s := by
  refine callType_codes (Q₁ := fun obj s₁ => s₁.TypeIs obj "tuple" ∧ Q obj s₁) F.called_tuple (F.typeCall_tuple_1 _) F.entry_object_init ?_ fun obj s₁ h₁ =>
    ⟨h₁.1, F.args_object_init_2 obj _, object_init_meets F.called_tuple.init.lookup F.called_tuple.made (by decide) prog w A.in1 _ s₁ ⟨h₁.1, rfl, h₁.2⟩⟩
  refine codeAny_of_tree (wpAny_bind (wpAny_of_eq (F.newCall_tuple_1 _) (wpAny_pure ⟨plainId_quiet F.plain_tuple_new _, codeAny_builtin F.entry_tuple_new ?_⟩)))
  rw [Around.under_plainId F.plain_tuple_new _]
  have f1 := sub_tuple_self
  have f2 := init_tuple_lookup
  have f3 := madeHere_tuple
  have f4 := Z.type s hok
  have f5 := Z.notTuple
  have f6 := Z.notList
  have hz : A.in1.in1.handled = none := hh
  wp_walk using wpAny_typeOf f4, collect_src (A := A.in1.in1) Z hz hok hn
  intro h' tk acc hk hacc
  have sz : acc.toList.toArray.size ≤ sizeLine := by rw [Array.toArray_toList, hacc.1]; exact hn
  have back : acc.toList.toArray = acc := by simp
  refine wpAny_bind (m := Builtin.Tuple.tupleExact acc.toList.toArray) ?_
  unfold Builtin.Tuple.tupleExact
  refine wpAny_newObj_type ?k1 ?k2
  case k2 => exact sz
  refine wpAny_pure ?_
  rw [back]
  exact ⟨⟨_, Heap.get?_push_size _ rfl, rfl⟩, hQ h' tk acc hk hacc⟩
end
section
open PySem.W PySem.Calls PyProof.Rows
variable {X : Cx}
/-- tuple(d), d with keys that are ints and texts -/
theorem call_tupleD (hc : X.calm = true) : CallR X (.type "tuple") (fun xs H Q => ∃ (a : Addr) (kvs : List (Key × V)), xs = [.ref a] ∧ Rd H a (.dK kvs) ∧ ∀ p, H p = none → Q (.ref p) (upd H p (.tup (kvs.map fun kv => kV kv.1)))) := by
  rintro pins s σ H xs us Q I r ⟨a, kvs, rfl, hd, q⟩
  obtain ⟨u, rfl, rx⟩ := vals1 r
  cases rx
  obtain ⟨z, lo, vs, rel, dd⟩ := dk_rd I.hok hd
  obtain ⟨ep, hat⟩ := dd.dictAt
  have ek : (kvs.map fun kv => kV kv.1) = vs.map fun p => kV p.1 := by
    have e := congrArg (List.map kV) rel.keys
    rw [List.map_map, List.map_map] at e
    exact e
  have hlen : vs.length ≤ sizeLine := by rw [← rel.length]; exact z
  refine tuple_src (kdl_dict (knd := mixKind X.prog X.w) (kvs := vs) (ep := ep) lo) (I.ok.hd hc) hat hlen fun h' tk acc hk hacc => ?_
  have hv : Vals (vs.map fun p => kV p.1) acc.toList := keys_at (by rw [Array.length_toList]; exact hacc.1) fun j v e => hacc.2 j v (by rw [← Array.getElem?_toList]; exact e)
  have I1 : Inv X pins σ H { s with heap := h', toks := tk } := I.kept hk
  refine ⟨.ref h'.objs.size, upd H h'.objs.size (.tup (kvs.map fun kv => kV kv.1)), I1.laid (t' := tk) (fun b o e => Heap.get?_push_of_some _ e) (Nat.le_refl _) ?_, rfl, q _ (I1.hok.fresh (Nat.le_refl _))⟩
  refine ⟨by rw [List.length_map]; exact z, acc.toList, by rw [ek]; exact hv, ?_⟩
  have e : acc = acc.toList.toArray := by simp
  rw [e]
  exact IsTup.new _ _
end
end Yd
namespace Yd
open PySem L2
/-! ### a def read off its class: C.m(..) -/
section
open PySem.W
variable {X : Cx} {CX : CXT} {k : Nat} {f C : Addr} {mc : Value} {fd : FuncData} {ps : List Str} {sp : Sp} {dvs : List V} {ds : List Value} {E : XK} {m : Str} {pos apos : Pos} {e o : Expr} {es : List Expr} {ta : TE} {t : TA} {pl : Sem Bool}
def tCfun (C : Addr) (sp : Sp) (dvs : List V) (E : XK) (ta : TE) (t : TA) : TE := fun σ H Q => ta σ H fun x H1 => x = .ref C ∧ t σ H1 fun vs H2 => sp (vs ++ dvs) H2 Q E
theorem pe_cfun (he : PE X o ta) (r : ClX.CRead X.K C mc) (c : findCls X.K (.ref C) mc m = some (.val (.ref f))) (F : FnOk X.prog X.w X.K X.mg X.base CX k f fd ps sp) (hr : Room k X.A) (hk : keepIn X.K (.ref f) = true) (hb : Binds X.K fd ps ds) (hd : Vals dvs ds) (hx : Passes CX X E)
    (ha : PA X (e :: es) t) (hst : starEach (e :: es) X.env = (false, eval e X.env) :: starEach es X.env := by rfl) (hpl : (backTo pos (starEach es X.env)).any (·.1) = false := by rfl)
    (ht : eval (.Call (.Attribute o m apos) (e :: es) [] pos) X.env = (do
      let ov ← eval o X.env
      standAt apos.atName
      let (f, first) ← holding [ov] (getMethod ov m pl)
      callWith pos f first (backTo pos (starEach (e :: es) X.env)) (backToKw pos (keywordEach [] X.env))) := by rfl) :
    PE X (.Call (.Attribute o m apos) (e :: es) [] pos) (tCfun C sp dvs E ta t) := by
  refine ⟨fun pins s σ H Q I h => methodCall_KW (thn (he.run pins s σ H _ I h) fun u s1 ⟨x, H1, I1, rx, ex, q⟩ => ?_) ht⟩
  subst ex
  obtain rfl : u = Value.ref C := rx
  refine method_cls I1.kIn r.ga (cls_value I1.kIn r.rd c rfl ?_)
  have I2 := I1.tok (s1.toks + 1)
  exact callWith_K (first := []) (h₀ := X.base) I.ok.mod.kin hk (thn (ha.run pos pins _ σ H1 _ I2 q) fun us s2 ⟨vs, H2, I3, rv, q2⟩ => ⟨I3.kIn, run_fn F hr hb hd hx I3 rv q2⟩) hst hpl
end
/-! ### o.m(..) within a try -/
section
variable {X : Cx} {CX : CXT} {k : Nat} {f C : Addr} {fd : FuncData} {ps : List Str} {sp : Sp} {E : St → XK} {m : Str} {pos apos : Pos} {e o : Expr} {es : List Expr} {ta : TE} {t : TA} {pl : Sem Bool}
def tMethE (C : Addr) (m : Str) (sp : Sp) (E : St → XK) (ta : TE) (t : TA) : TE := fun σ H Q => ta σ H fun x H1 => ∃ a dx fs, x = .ref a ∧ H1 a = some (.ins C dx fs) ∧ fs.lookup m = none ∧ t σ H1 fun vs H2 => sp (x :: vs) H2 Q (E σ)
theorem pe_methE (he : PE X o ta) (c : Cls X.K C) (hm : Meth X.K C m f) (F : FnOk X.prog X.w X.K X.mg X.base CX k f fd ps sp) (hr : Room k X.A) (hb : Binds X.K fd ps []) (hx : ∀ σ, PassesAt CX X σ (E σ)) (ha : PA X (e :: es) t)
    (hst : starEach (e :: es) X.env = (false, eval e X.env) :: starEach es X.env := by rfl) (hpl : (backTo pos (starEach es X.env)).any (·.1) = false := by rfl)
    (ht : eval (.Call (.Attribute o m apos) (e :: es) [] pos) X.env = (do
      let ov ← eval o X.env
      standAt apos.atName
      let (f, first) ← holding [ov] (getMethod ov m pl)
      callWith pos f first (backTo pos (starEach (e :: es) X.env)) (backToKw pos (keywordEach [] X.env))) := by rfl) :
    PE X (.Call (.Attribute o m apos) (e :: es) [] pos) (tMethE C m sp E ta t) := by
  refine ⟨fun pins s σ H Q I h => PySem.W.methodCall_KW (thn (he.run pins s σ H _ I h) fun u s1 ⟨x, H1, I1, rx, a, dx, fs, ex, ea, l, q⟩ => ?_) ht⟩
  subst ex
  obtain rfl : u = Value.ref a := rx
  refine getmeth_ok I1 ea c hm l ?_
  exact PySem.W.callWith_K (first := [.ref a]) (h₀ := X.base) I.ok.mod.kin hm.kp (thn (ha.run pos pins s1 σ H1 _ I1 q) fun us s2 ⟨vs, H2, I2, r, q2⟩ => ⟨I2.kIn, run_fnS (us := .ref a :: us) (vs := .ref a :: vs) F hr hb (hx σ) I2 (.cons rfl r) q2⟩) hst hpl
end
end Yd
namespace Yd
open PySem L2
/-! ### the errors as they are raised; the steps of a kind in the heap -/
/-- an error class as the top has made it, with what its __init__ promises -/
structure ErrOk (P : Program) (w : World) (K : PySem.W.Frag) (mg : Str → Option Value) (base : Heap) (x : Str) (C : Addr) (n : Nat) (ok : List V → Prop) (fs : List V → List (Str × V)) : Prop where
  g : mg x = some (.ref C)
  ox : OexC K C
  ini : ∃ fI fd ps, PySem.W.findIn K (.ref C) "__init__" = some (some (.ref fI)) ∧ PySem.W.typeIn K (.ref fI) = some (.type "function") ∧ FnOk P w K mg base CX0 1 fI fd ps (spErr C n ok fs) ∧ Binds K fd ps []
/-- what a raised error asks: its class, its fields, its own new dict -/
def Raised (C : Addr) (us : List V) (fs : List V → List (Str × V)) (H : Hp) (E : XK) : Prop := ∀ d H', Same H H' → H d = none → H' d = some (.xd (fs us)) → E (.ref C) (some d) H'
section
variable {X : Cx} {x : Str} {C : Addr} {n : Nat} {ok : List V → Prop} {fs : List V → List (Str × V)} {e : Expr} {es : List Expr} {ta : TA} {p pos : Pos}
theorem pmk_err (O : ErrOk X.prog X.w X.K X.mg X.base x C n ok fs) (hr : Room 2 X.A) (hg : Gl X x) (ha : PA X (e :: es) ta)
    (hdb : (x == ("__debug__" : Str)) = false := by decide) (he : starEach (e :: es) X.env = (false, eval e X.env) :: starEach es X.env := by rfl) (hpl : (backTo pos (starEach es X.env)).any (·.1) = false := by rfl) :
    PMk X (.Call (.Name x p) (e :: es) [] pos) (tMkO C (spErr C n ok fs) [] ta) := by
  obtain ⟨fI, fd, ps, i1, i2, F, b⟩ := O.ini
  exact pmk_oex O.ox i1 i2 F hr b .nil pass0 hg O.g ha hdb he hpl
/-- the reading of a raise, answered -/
theorem err_read {us : List V} {H1 : Hp} {Q : XK} (hl : us.length = n) (hn : n ≤ 1000) (hok : ok us) (hR : Raised C us fs H1 Q) : us.length ≤ 1000 ∧ ∀ a, H1 a = none → spErr C n ok fs (.ref a :: (us ++ [])) (upd H1 a (exo a C none))
      (fun v H2 => v = .non ∧ ∃ (d : Addr) (gs : List (Str × V)), H2 a = some (exo a C (some d)) ∧ H2 d = some (exd d gs) ∧ H1 d = none ∧ Q (.ref C) (some d) (upd (del H2 a) d (.xd gs))) (fun _ _ _ => False) := by
  refine ⟨by omega, fun a ha => ⟨a, us, by rw [List.append_nil], hl, hok, upd_same, fun d H' hd hda h1 h2 h3 => ?_⟩⟩
  have hd1 : H1 d = none := by rw [upd_ne hda] at hd; exact hd
  refine ⟨rfl, d, fs us, h1, h2, hd1, hR d _ (fun b o q => ?_) hd1 upd_same⟩
  have nb : b ≠ a := ne_of_none q ha
  have nd : b ≠ d := ne_of_none q hd1
  rw [upd_ne nd, del_ne nb, h3 b nb nd, upd_ne nb]
  exact q
end

/-! ### dicts from texts to addresses -/
def dP (ss : List Str) (es : List Addr) : List (Key × V) := (ss.zip es).map fun p => (Sum.inr p.1, V.ref p.2)
theorem dP_nil {es : List Addr} : dP [] es = [] := rfl
theorem dP_cons {s : Str} {ss : List Str} {e : Addr} {es : List Addr} : dP (s :: ss) (e :: es) = (Sum.inr s, V.ref e) :: dP ss es := rfl
theorem dP_none : ∀ {ss : List Str} {es : List Addr} {s : Str}, s ∉ ss → valV (dP ss es) (Sum.inr s : Key) = none
  | [], _, _, _ => rfl
  | _ :: _, [], _, _ => rfl
  | a :: r, e :: es, s, h => by
    have h1 : ¬ (Sum.inr a : Key) = Sum.inr s := fun z => h (by injection z with z; rw [z]; exact List.mem_cons_self ..)
    rw [dP_cons, valV_neg h1]
    exact dP_none fun m => h (List.mem_cons_of_mem _ m)
theorem dP_some : ∀ {ss : List Str} {es : List Addr} {i : Nat} {s : Str} {e : Addr}, ss.Nodup → ss[i]? = some s → es[i]? = some e → valV (dP ss es) (Sum.inr s : Key) = some (.ref e)
  | [], _, _, _, _, _, h, _ => by simp at h
  | _ :: _, [], _, _, _, _, _, h => by simp at h
  | a :: r, b :: es, 0, s, e, _, h1, h2 => by
    simp at h1 h2
    subst h1 h2
    exact valV_pos rfl
  | a :: r, b :: es, i + 1, s, e, nd, h1, h2 => by
    have hm : s ∈ r := List.mem_of_getElem? (by simpa using h1)
    have n1 : ¬ (Sum.inr a : Key) = Sum.inr s := fun z => (List.nodup_cons.mp nd).1 (by injection z with z; rw [z]; exact hm)
    rw [dP_cons, valV_neg n1]
    exact dP_some (i := i) (List.nodup_cons.mp nd).2 (by simpa using h1) (by simpa using h2)
theorem dP_snoc {s : Str} {e : Addr} : ∀ {ss : List Str} {es : List Addr}, ss.length = es.length → dP (ss ++ [s]) (es ++ [e]) = dP ss es ++ [(Sum.inr s, V.ref e)]
  | [], [], _ => rfl
  | [], _ :: _, h => by simp at h
  | _ :: _, [], h => by simp at h
  | a :: r, b :: es, h => by
    show (Sum.inr a, V.ref b) :: dP (r ++ [s]) (es ++ [e]) = _
    rw [dP_snoc (by simpa using h)]
    rfl
theorem dP_len : ∀ {ss : List Str} {es : List Addr}, ss.length = es.length → (dP ss es).length = ss.length
  | [], [], _ => rfl
  | [], _ :: _, h => by simp at h
  | _ :: _, [], h => by simp at h
  | a :: r, b :: es, h => by rw [dP_cons, List.length_cons, List.length_cons, dP_len (by simpa using h)]
theorem dP_is {ss : List Str} {es : List Addr} {s : Str} (nd : ss.Nodup) (hl : ss.length = es.length) : (valV (dP ss es) (Sum.inr s : Key)).isSome = decide (s ∈ ss) := by
  by_cases h : s ∈ ss
  · obtain ⟨i, hi⟩ := List.mem_iff_getElem?.mp h
    have hj : i < es.length := by rw [← hl]; exact (List.getElem?_eq_some_iff.mp hi).1
    rw [dP_some nd hi (List.getElem?_eq_getElem hj), decide_eq_true h]
    rfl
  · rw [dP_none h, decide_eq_false h]
    rfl
theorem dP_key {ss : List Str} {es : List Addr} {i : Nat} {k : Key} {v : V} (hl : ss.length = es.length) (h : (dP ss es)[i]? = some (k, v)) : ∃ s e, ss[i]? = some s ∧ es[i]? = some e ∧ k = Sum.inr s ∧ v = .ref e := by
  have hi : i < ss.length := by rw [← dP_len hl]; exact (List.getElem?_eq_some_iff.mp h).1
  have hj : i < es.length := by omega
  unfold dP at h
  have ez : (ss.zip es)[i]? = some (ss[i], es[i]) := List.getElem?_zip_eq_some.mpr ⟨List.getElem?_eq_getElem hi, List.getElem?_eq_getElem hj⟩
  rw [List.getElem?_map, ez] at h
  have h := Option.some.inj h
  injection h with h1 h2
  exact ⟨_, _, List.getElem?_eq_getElem hi, List.getElem?_eq_getElem hj, h1.symm, h2.symm⟩
theorem dP_keys {ss : List Str} {es : List Addr} (hl : ss.length = es.length) : ((dP ss es).map fun kv => kV kv.1) = ss.map V.str := by
  unfold dP
  rw [List.map_map]
  have e : ((fun kv : Key × V => kV kv.1) ∘ fun p : Str × Addr => ((Sum.inr p.1 : Key), V.ref p.2)) = V.str ∘ Prod.fst := rfl
  rw [e, ← List.map_map, List.map_fst_zip (by omega)]

/-- the steps of a kind: at ds the dict of its standings ss, at es the dicts of the standings to which R leads, at most m in each -/
structure StepsAt (H : Hp) (ds : Addr) (ss : List Str) (es : List Addr) (R : Str → Str → Bool) (m : Nat) : Prop where
  d : H ds = some (.dK (dP ss es))
  len : ss.length = es.length
  nd : ss.Nodup
  ed : es.Nodup
  no : ds ∉ es
  at_ : ∀ (i : Nat) (e : Addr) (s : Str), es[i]? = some e → ss[i]? = some s → ∃ kvs : List (Key × V), H e = some (.dK kvs) ∧ kvs.length ≤ m ∧ ∀ t : Str, (valV kvs (Sum.inr t)).isSome = R s t
theorem StepsAt.keep {H H' : Hp} {ds : Addr} {ss : List Str} {es : List Addr} {R : Str → Str → Bool} {m : Nat} (S : StepsAt H ds ss es R m) (k : ∀ b kvs, H b = some (.dK kvs) → H' b = some (.dK kvs)) : StepsAt H' ds ss es R m :=
  ⟨k _ _ S.d, S.len, S.nd, S.ed, S.no, fun i e s h1 h2 => let ⟨kvs, h, r⟩ := S.at_ i e s h1 h2; ⟨kvs, k _ _ h, r⟩⟩
/-- an object of the class at C with these steps -/
def KindAt (H : Hp) (a C : Addr) (ss : List Str) (R : Str → Str → Bool) (m : Nat) : Prop := ∃ dx fs ds es, H a = some (.ins C dx fs) ∧ fs.lookup ("_steps" : Str) = some (.ref ds) ∧ fs.lookup ("allow" : Str) = none ∧ fs.lookup ("standings" : Str) = none ∧ fs.lookup ("steps_from" : Str) = none ∧ StepsAt H ds ss es R m
/-- nothing that isn't a dict has changed -/
def NoD (H H' : Hp) : Prop := ∀ b o, H b = some o → (∀ kvs, o ≠ .dK kvs) → H' b = some o
/-- what a class of kinds must have -/
structure KindC (K : PySem.W.Frag) (C fA fS fF : Addr) : Prop where
  cls : Cls K C
  nS : NoAttr K C "_steps"
  mA : Meth K C "allow" fA
  mS : Meth K C "standings" fS
  mF : Meth K C "steps_from" fF
end Yd
namespace Yd
open PySem L2
/-! ### a list or a tuple of texts -/
/-- the same over a tuple -/
theorem dc_tup {K : PySem.W.Frag} {a : Addr} {xs : List V} {g : TG} {tt : TT} {tk tv : TE} {vs : List Nat} {σ : St} {H1 : Hp} {D : Addr} {Qd : Hp → Prop} (Pv : Nat → Hp → Prop) (h0 : Pv 0 (upd H1 D (.dK []))) (hl : ∀ i H, i ≤ xs.length → Pv i H → SqT K H a xs)
    (hs : ∀ i x H, xs[i]? = some x → Pv i H → g x (wipe σ vs) H fun σ2 H2 => wipe σ2 vs = wipe σ vs ∧ tt σ2 H2 fun b H3 =>
      if b = true then tk σ2 H3 fun y H4 => tv σ2 H4 fun z H5 => ∃ kvs k, y = kV k ∧ H5 D = some (.dK kvs) ∧ kvs.length < sizeLine ∧ Pv (i + 1) (upd H5 D (.dK (putK kvs k z))) else Pv (i + 1) H3) (hd : ∀ H, Pv xs.length H → Qd H) :
    ∃ W : Nat → Nat → Hp → Prop, (∃ m, W 0 m (upd H1 D (.dK []))) ∧ ∀ i m H, W i m H →
      ((Itt K a).stop i H ∧ Qd H) ∨ ((Itt K a).go i H ∧ ∃ Nx : Hp → Prop, (∀ H', Nx H' → ∃ m', m' < m ∧ W (i + 1) m' H') ∧ ∀ x H', (Itt K a).yld i H x H' → g x (wipe σ vs) H' fun σ2 H2 => wipe σ2 vs = wipe σ vs ∧ tt σ2 H2 fun b H3 =>
        if b = true then tk σ2 H3 fun y H4 => tv σ2 H4 fun z H5 => ∃ kvs k, y = kV k ∧ H5 D = some (.dK kvs) ∧ kvs.length < sizeLine ∧ Nx (upd H5 D (.dK (putK kvs k z))) else Nx H3) := by
  refine ⟨fun i m H => m = xs.length - i ∧ i ≤ xs.length ∧ Pv i H, ⟨_, rfl, Nat.zero_le _, h0⟩, fun i m H ⟨em, hi, p⟩ => ?_⟩
  subst em
  have q := hl i H hi p
  by_cases hlt : i < xs.length
  · exact .inr ⟨⟨xs, xs[i], q, List.getElem?_eq_getElem hlt⟩, Pv (i + 1), fun _ p' => ⟨xs.length - (i + 1), by omega, rfl, hlt, p'⟩, fun x H' ⟨e, y⟩ => by subst e; exact hs i x _ (y xs q) p⟩
  · have e : i = xs.length := by omega
    subst e
    exact .inl ⟨⟨xs, q, Nat.le_refl _⟩, hd H p⟩
/-- a list or a tuple of texts -/
def TxS (K : PySem.W.Frag) (H : Hp) (a : Addr) (ss : List Str) : Prop := SqL K H a (ss.map V.str) ∨ SqT K H a (ss.map V.str)
theorem Same.seqT {K : PySem.W.Frag} {H H' : Hp} {a : Addr} {xs : List V} (s : Same H H') (h : SqT K H a xs) : SqT K H' a xs := by
  rcases h with (h | ⟨o, h⟩) | h
  · exact .inl (.inl (s _ _ h))
  · exact .inl (.inr ⟨o, s _ _ h⟩)
  · exact .inr h
theorem TxS.keep {K : PySem.W.Frag} {H H' : Hp} {a : Addr} {ss : List Str} (h : TxS K H a ss) (s : Same H H') : TxS K H' a ss := h.imp (fun h => Same.seq s h) fun h => Yd.Same.seqT s h
end Yd
namespace Yd
open PySem L2
/-! ### the class Steps -/
def spStepsInit (K : PySem.W.Frag) (CR : Addr) : Sp := fun vs H Q E => ∃ (a C dx : Addr) (fs : List (Str × V)) (l : Addr) (ss : List Str), vs = [.ref a, .ref l] ∧ H a = some (.ins C dx fs) ∧ fs.length ≤ 900 ∧ Cls K C ∧ NoAttr K C "_steps" ∧
  TxS K H l ss ∧ ss.length ≤ 1000 ∧ (∀ s ∈ ss, s.length ≤ 100) ∧
  (∀ (i : Nat) (s : Str), ss[i]? = some s → s ∈ ss.take i → (ss.take i).Nodup → ∀ d H', Gro a H H' → H d = none → H' d = some (.xd (fsRepeated [.str s])) → E (.ref CR) (some d) H') ∧
  (ss.Nodup → ∀ ds es H', H ds = none → (∀ e ∈ es, H e = none) → Gro a H H' → H' a = some (.ins C dx (putF "_steps" (.ref ds) fs)) → StepsAt H' ds ss es (fun _ _ => false) 0 → Q .non H')
section
variable {P : Program} {w : World} {K : PySem.W.Frag} {mg : Str → Option Value} {base : Heap}
theorem take_more {α : Type} {l : List α} {i : Nat} {x : α} (h : l[i]? = some x) : l.take (i + 1) = l.take i ++ [x] := by
  rw [List.take_add_one, h]
  rfl
theorem get_strs {ns : List Str} {i : Nat} {x : V} (h : (ns.map V.str)[i]? = some x) : ∃ z, ns[i]? = some z ∧ x = .str z := by
  rw [List.getElem?_map] at h
  cases e : ns[i]? with
  | none => rw [e] at h; cases h
  | some z => rw [e] at h; exact ⟨z, rfl, (Option.some.inj h).symm⟩
theorem scStepsInit : FnScope ["self", "standings", "standing"] ["self", "standings"] (defScope sStepsInit) := ⟨rfl, rfl, rfl, by decide +kernel, rfl, by decide +kernel, by decide +kernel⟩
theorem ok_stepsInit {f CR : Addr} {fd : FuncData} (F : Fun K "__init__" "Steps.__init__" sStepsInit f fd) (O : ErrOk P w K mg base "Repeated" CR 1 okRepeated fsRepeated) :
    FnOk P w K mg base (L2.CX P w) 3 f fd ["self", "standings"] (spStepsInit K CR) := by
  refine F.okX scStepsInit (fun vs H Q E h => ?_) (fun cdv A outer s H vs Q E hr h => ?_)
  · obtain ⟨a, C, dx, fs, l, ss, rfl, _⟩ := h
    rfl
  · obtain ⟨a, C, dx, fs, l, ss, rfl, ha, hfs, cls, nS, hl, hsl, hsh, kR, kN⟩ := h
    have hu := hu_of hr
    rcases hl with hl | hl
    · refine ⟨_, pss_cons (ps_fld (pv 0) pe_dnewK rfl)
        (pss_one (ps_for (passes_of rfl) rfl (pi_list (pv 1)) (pg_name (i := 2) scStepsInit.nd rfl (Or.inl rfl))
          (pss_cons (ps_if (pt_cmp (pc_din hu (pv 2) (pe_fld (pv 0) rfl))) (pss_one (ps_raise rfl (takes_of rfl rfl rfl rfl) (pmk_err O hr rfl (pa_cons (pv 2) pa_nil)))) pss_nil)
          (pss_one (ps_dput hu (pe_fld (pv 0) rfl) (pv 2) pe_dnewK rfl))))), ?_⟩
      -- self._steps = {}
      intro ds hds
      have nad : a ≠ ds := ne_of_none ha hds
      refine ⟨_, rfl, a, C, dx, fs, rfl, (by rw [upd_ne nad]; exact ha), cls, nS, by omega, ?_⟩
      generalize hH1 : upd (upd H ds (.dK [])) a (.ins C dx (putF "_steps" (.ref ds) fs)) = H1
      have g1 : Gro a H H1 := fun b o q n => by rw [← hH1, upd_ne n, upd_ne (ne_of_none q hds)]; exact q
      have e1 : H1 a = some (.ins C dx (putF "_steps" (.ref ds) fs)) := by rw [← hH1, upd_same]
      have d1 : H1 ds = some (.dK []) := by rw [← hH1, upd_ne nad.symm, upd_same]
      have hla : ∀ H' : Hp, Gro a H H' → SqL K H' l (ss.map V.str) := fun H' g => by
        rcases hl with (h | ⟨o, h⟩) | h
        · exact .inl (.inl (g _ _ h (ne_of h ha (by intro z; cases z))))
        · exact .inl (.inr ⟨o, g _ _ h (ne_of h ha (by intro z; cases z))⟩)
        · exact .inr h
      have lk : (putF "_steps" (.ref ds) fs).lookup ("_steps" : Str) = some (V.ref ds) := by rw [lookup_putF, if_pos rfl]
      refine ⟨_, rfl, l, rfl, ⟨_, hla _ g1⟩, for_list (K := K) (a := l) (xs := ss.map V.str)
        (fun i σ H' => ∃ (v : Option V) (es : List Addr), σ = [some (.ref a), some (.ref l), v] ∧ Gro a H H' ∧ H' a = some (.ins C dx (putF "_steps" (.ref ds) fs)) ∧ (∀ e ∈ es, H e = none) ∧ StepsAt H' ds (ss.take i) es (fun _ _ => false) 0)
        ⟨none, [], rfl, g1, e1, (fun e h => nomatch h), ⟨d1, rfl, List.nodup_nil, List.nodup_nil, (fun h => nomatch h), fun i e s h => by simp at h⟩⟩
        (fun i σ H' _ ⟨_, _, _, g, _⟩ => hla _ g) ?_ ?_⟩
      · rintro i y σ H' hi ⟨v, es, rfl, g, ea, hes, S⟩
        obtain ⟨z, hz, rfl⟩ := get_strs hi
        have hzl := hsh z (List.mem_of_getElem? hz)
        refine ⟨_, rfl, _, rfl, a, C, dx, _, _, rfl, ea, cls, nS, lk, ds, _, rfl, DGet.k (k := Sum.inr z) S.d, _, rfl, ?_⟩
        rw [dP_is S.nd S.len]
        refine ite2 (fun hm => ?_) (fun hm => ?_)
        · have hm := of_decide_eq_true hm
          refine ⟨_, rfl, err_read rfl (by decide) ⟨z, rfl, hzl⟩ fun d H2 s2 hd hx => ?_⟩
          exact kR i z hz hm S.nd d H2 (fun b o q n => s2 _ _ (g b o q n)) (by
            by_cases q : d = a
            · rw [q, ea] at hd; cases hd
            · exact g.free hd q) hx
        · have hm : z ∉ ss.take i := fun q => hm (decide_eq_true q)
          -- self._steps[standing] = {}
          intro e he
          have nea : a ≠ e := ne_of_none ea he
          have ned : ds ≠ e := ne_of_none S.d he
          refine ⟨_, rfl, a, C, dx, _, _, rfl, (by rw [upd_ne nea]; exact ea), cls, nS, lk, _, rfl, ds, _, rfl, DPut.k (k := Sum.inr z) (by rw [upd_ne ned]; exact S.d) (small1000 (by rw [dP_len S.len, List.length_take]; omega)), ?_⟩
          refine ⟨_, es ++ [e], rfl, fun b o q n => ?_, ?_, fun c hc => ?_, ?_⟩
          · have nb : b ≠ ds := by rintro rfl; rw [hds] at q; cases q
            rw [upd_ne nb, upd_ne (ne_of_none (g b o q n) he)]
            exact g b o q n
          · rw [upd_ne nad, upd_ne nea]; exact ea
          · rcases List.mem_append.mp hc with hc | hc
            · exact hes c hc
            · rw [List.mem_singleton.mp hc]
              exact g.free he nea.symm
          · have fresh : ∀ c ∈ es, c ≠ e := fun c hc => by
              obtain ⟨j, hj⟩ := List.mem_iff_getElem?.mp hc
              have hjl : j < (ss.take i).length := by rw [S.len]; exact (List.getElem?_eq_some_iff.mp hj).1
              obtain ⟨kvs, h, _⟩ := S.at_ j c _ hj (List.getElem?_eq_getElem hjl)
              exact ne_of_none h he
            refine ⟨?_, by rw [take_more hz, List.length_append, List.length_append, S.len]; rfl, ?_, ?_, ?_, ?_⟩
            · rw [upd_same, take_more hz, dP_snoc S.len, putK_new _ (dP_none hm)]
            · rw [take_more hz]; exact nd_snoc S.nd hm
            · exact nd_snoc S.ed fun m => fresh e m rfl
            · intro m
              rcases List.mem_append.mp m with m | m
              · exact S.no m
              · exact ned (List.mem_singleton.mp m)
            · intro j c q h1 h2
              by_cases hj : j < es.length
              · rw [List.getElem?_append_left hj] at h1
                have h2' : (ss.take i)[j]? = some q := by
                  rw [take_more hz, List.getElem?_append_left (by rw [S.len]; exact hj)] at h2
                  exact h2
                obtain ⟨kvs, h, r⟩ := S.at_ j c q h1 h2'
                have hc := List.mem_of_getElem? h1
                exact ⟨kvs, by rw [upd_ne (show c ≠ ds from fun q => S.no (by rw [← q]; exact hc)), upd_ne (fresh c hc)]; exact h, r⟩
              · rw [List.getElem?_append_right (by omega)] at h1
                have hj0 : j - es.length = 0 := by
                  have := (List.getElem?_eq_some_iff.mp h1).1
                  simp at this
                  omega
                rw [hj0] at h1
                have hc : e = c := Option.some.inj h1
                subst hc
                exact ⟨[], by rw [upd_ne ned.symm, upd_same], by simp, fun t => rfl⟩
      · rintro σ H' ⟨v, es, rfl, g, ea, hes, S⟩
        rw [List.length_map, List.take_length] at S
        exact kN S.nd ds es H' hds hes g ea S
    · refine ⟨_, pss_cons (ps_fld (pv 0) pe_dnewK rfl)
        (pss_one (ps_for (passes_of rfl) rfl (pi_tup (pv 1)) (pg_name (i := 2) scStepsInit.nd rfl (Or.inl rfl))
          (pss_cons (ps_if (pt_cmp (pc_din hu (pv 2) (pe_fld (pv 0) rfl))) (pss_one (ps_raise rfl (takes_of rfl rfl rfl rfl) (pmk_err O hr rfl (pa_cons (pv 2) pa_nil)))) pss_nil)
          (pss_one (ps_dput hu (pe_fld (pv 0) rfl) (pv 2) pe_dnewK rfl))))), ?_⟩
      -- self._steps = {}
      intro ds hds
      have nad : a ≠ ds := ne_of_none ha hds
      refine ⟨_, rfl, a, C, dx, fs, rfl, (by rw [upd_ne nad]; exact ha), cls, nS, by omega, ?_⟩
      generalize hH1 : upd (upd H ds (.dK [])) a (.ins C dx (putF "_steps" (.ref ds) fs)) = H1
      have g1 : Gro a H H1 := fun b o q n => by rw [← hH1, upd_ne n, upd_ne (ne_of_none q hds)]; exact q
      have e1 : H1 a = some (.ins C dx (putF "_steps" (.ref ds) fs)) := by rw [← hH1, upd_same]
      have d1 : H1 ds = some (.dK []) := by rw [← hH1, upd_ne nad.symm, upd_same]
      have hla : ∀ H' : Hp, Gro a H H' → SqT K H' l (ss.map V.str) := fun H' g => by
        rcases hl with (h | ⟨o, h⟩) | h
        · exact .inl (.inl (g _ _ h (ne_of h ha (by intro z; cases z))))
        · exact .inl (.inr ⟨o, g _ _ h (ne_of h ha (by intro z; cases z))⟩)
        · exact .inr h
      have lk : (putF "_steps" (.ref ds) fs).lookup ("_steps" : Str) = some (V.ref ds) := by rw [lookup_putF, if_pos rfl]
      refine ⟨_, rfl, l, rfl, ⟨_, hla _ g1⟩, for_tup (K := K) (a := l) (xs := ss.map V.str)
        (fun i σ H' => ∃ (v : Option V) (es : List Addr), σ = [some (.ref a), some (.ref l), v] ∧ Gro a H H' ∧ H' a = some (.ins C dx (putF "_steps" (.ref ds) fs)) ∧ (∀ e ∈ es, H e = none) ∧ StepsAt H' ds (ss.take i) es (fun _ _ => false) 0)
        ⟨none, [], rfl, g1, e1, (fun e h => nomatch h), ⟨d1, rfl, List.nodup_nil, List.nodup_nil, (fun h => nomatch h), fun i e s h => by simp at h⟩⟩
        (fun i σ H' _ ⟨_, _, _, g, _⟩ => hla _ g) ?_ ?_⟩
      · rintro i y σ H' hi ⟨v, es, rfl, g, ea, hes, S⟩
        obtain ⟨z, hz, rfl⟩ := get_strs hi
        have hzl := hsh z (List.mem_of_getElem? hz)
        refine ⟨_, rfl, _, rfl, a, C, dx, _, _, rfl, ea, cls, nS, lk, ds, _, rfl, DGet.k (k := Sum.inr z) S.d, _, rfl, ?_⟩
        rw [dP_is S.nd S.len]
        refine ite2 (fun hm => ?_) (fun hm => ?_)
        · have hm := of_decide_eq_true hm
          refine ⟨_, rfl, err_read rfl (by decide) ⟨z, rfl, hzl⟩ fun d H2 s2 hd hx => ?_⟩
          exact kR i z hz hm S.nd d H2 (fun b o q n => s2 _ _ (g b o q n)) (by
            by_cases q : d = a
            · rw [q, ea] at hd; cases hd
            · exact g.free hd q) hx
        · have hm : z ∉ ss.take i := fun q => hm (decide_eq_true q)
          -- self._steps[standing] = {}
          intro e he
          have nea : a ≠ e := ne_of_none ea he
          have ned : ds ≠ e := ne_of_none S.d he
          refine ⟨_, rfl, a, C, dx, _, _, rfl, (by rw [upd_ne nea]; exact ea), cls, nS, lk, _, rfl, ds, _, rfl, DPut.k (k := Sum.inr z) (by rw [upd_ne ned]; exact S.d) (small1000 (by rw [dP_len S.len, List.length_take]; omega)), ?_⟩
          refine ⟨_, es ++ [e], rfl, fun b o q n => ?_, ?_, fun c hc => ?_, ?_⟩
          · have nb : b ≠ ds := by rintro rfl; rw [hds] at q; cases q
            rw [upd_ne nb, upd_ne (ne_of_none (g b o q n) he)]
            exact g b o q n
          · rw [upd_ne nad, upd_ne nea]; exact ea
          · rcases List.mem_append.mp hc with hc | hc
            · exact hes c hc
            · rw [List.mem_singleton.mp hc]
              exact g.free he nea.symm
          · have fresh : ∀ c ∈ es, c ≠ e := fun c hc => by
              obtain ⟨j, hj⟩ := List.mem_iff_getElem?.mp hc
              have hjl : j < (ss.take i).length := by rw [S.len]; exact (List.getElem?_eq_some_iff.mp hj).1
              obtain ⟨kvs, h, _⟩ := S.at_ j c _ hj (List.getElem?_eq_getElem hjl)
              exact ne_of_none h he
            refine ⟨?_, by rw [take_more hz, List.length_append, List.length_append, S.len]; rfl, ?_, ?_, ?_, ?_⟩
            · rw [upd_same, take_more hz, dP_snoc S.len, putK_new _ (dP_none hm)]
            · rw [take_more hz]; exact nd_snoc S.nd hm
            · exact nd_snoc S.ed fun m => fresh e m rfl
            · intro m
              rcases List.mem_append.mp m with m | m
              · exact S.no m
              · exact ned (List.mem_singleton.mp m)
            · intro j c q h1 h2
              by_cases hj : j < es.length
              · rw [List.getElem?_append_left hj] at h1
                have h2' : (ss.take i)[j]? = some q := by
                  rw [take_more hz, List.getElem?_append_left (by rw [S.len]; exact hj)] at h2
                  exact h2
                obtain ⟨kvs, h, r⟩ := S.at_ j c q h1 h2'
                have hc := List.mem_of_getElem? h1
                exact ⟨kvs, by rw [upd_ne (show c ≠ ds from fun q => S.no (by rw [← q]; exact hc)), upd_ne (fresh c hc)]; exact h, r⟩
              · rw [List.getElem?_append_right (by omega)] at h1
                have hj0 : j - es.length = 0 := by
                  have := (List.getElem?_eq_some_iff.mp h1).1
                  simp at this
                  omega
                rw [hj0] at h1
                have hc : e = c := Option.some.inj h1
                subst hc
                exact ⟨[], by rw [upd_ne ned.symm, upd_same], by simp, fun t => rfl⟩
      · rintro σ H' ⟨v, es, rfl, g, ea, hes, S⟩
        rw [List.length_map, List.take_length] at S
        exact kN S.nd ds es H' hds hes g ea S
end
end Yd
namespace Yd
open PySem L2
def addR (R : Str → Str → Bool) (b c : Str) : Str → Str → Bool := fun s t => R s t || (decide (s = b) && decide (t = c))
def spStandings (K : PySem.W.Frag) : Sp := fun vs H Q _ => ∃ (a C fA fS fF : Addr) (ss : List Str) (R : Str → Str → Bool) (m : Nat), vs = [.ref a] ∧ KindC K C fA fS fF ∧ KindAt H a C ss R m ∧
  ∀ q, H q = none → Q (.ref q) (upd H q (.tup (ss.map V.str)))
def spAllow (K : PySem.W.Frag) (CU CN : Addr) : Sp := fun vs H Q E => ∃ (a C dx : Addr) (fs : List (Str × V)) (ds : Addr) (es : List Addr) (ss : List Str) (R : Str → Str → Bool) (m : Nat) (b c : Str), vs = [.ref a, .str b, .str c] ∧ Cls K C ∧ NoAttr K C "_steps" ∧
  H a = some (.ins C dx fs) ∧ fs.lookup ("_steps" : Str) = some (.ref ds) ∧ StepsAt H ds ss es R m ∧ m < 1000 ∧ b.length ≤ 100 ∧ c.length ≤ 100 ∧
  (b ∉ ss → Raised CU [.str b] fsUnknown H E) ∧ (b ∈ ss → c ∉ ss → Raised CU [.str c] fsUnknown H E) ∧ (b ∈ ss → c ∈ ss → b = c → Raised CN [.str b, .str c] fsNoStep H E) ∧
  (b ∈ ss → c ∈ ss → b ≠ c → ∀ e H', e ∈ es → Gro e H H' → StepsAt H' ds ss es (addR R b c) (m + 1) → Q .non H')
def spStepsFrom (K : PySem.W.Frag) (CU : Addr) : Sp := fun vs H Q E => ∃ (a C fA fS fF : Addr) (ss : List Str) (R : Str → Str → Bool) (m : Nat) (b : Str), vs = [.ref a, .str b] ∧ KindC K C fA fS fF ∧ KindAt H a C ss R m ∧ ss.length ≤ 1000 ∧ b.length ≤ 100 ∧
  (b ∉ ss → Raised CU [.str b] fsUnknown H E) ∧ (b ∈ ss → ∀ q H', Same H H' → H' q = some (.tup ((ss.filter (R b)).map V.str)) → Q (.ref q) H')
theorem Raised.of {C : Addr} {us : List V} {fs : List V → List (Str × V)} {H H1 : Hp} {E : XK} (h : Raised C us fs H E) (s : Same H H1) : Raised C us fs H1 E := fun d H' s' n x => h d H' (s.trans s') (s.free n) x
section
variable {P : Program} {w : World} {K : PySem.W.Frag} {mg : Str → Option Value} {base : Heap}
theorem scStandings : FnScope ["self"] ["self"] (defScope sStepsStandings) := ⟨rfl, rfl, rfl, by decide +kernel, rfl, by decide +kernel, by decide +kernel⟩
theorem ok_standings {f : Addr} {fd : FuncData} (F : Fun K "standings" "Steps.standings" sStepsStandings f fd) (hT : mg "tuple" = none) : FnOk P w K mg base CX0 1 f fd ["self"] (spStandings K) := by
  refine F.ok scStandings (fun vs H Q E h => ?_) (fun cdv A outer s H vs Q E hr h => ?_)
  · obtain ⟨a, C, fA, fS, fF, ss, R, m, rfl, _⟩ := h
    rfl
  · obtain ⟨a, C, fA, fS, fF, ss, R, m, rfl, kc, ⟨dx, fs, ds, es, ha, l1, l2, l3, l4, S⟩, k⟩ := h
    refine ⟨_, pss_one (ps_ret (pe_callTy (call_tupleD rfl) (by rfl) hT (by decide +kernel) (pa_cons (pe_fld (pv 0) rfl) pa_nil))), ?_⟩
    refine ⟨_, rfl, a, C, dx, fs, _, rfl, ha, kc.cls, kc.nS, l1, ds, _, rfl, .of S.d, fun q hq => ?_⟩
    rw [dP_keys S.len]
    exact k q hq
theorem scAllow : FnScope ["self", "before", "after", "standing"] ["self", "before", "after"] (defScope sStepsAllow) := ⟨rfl, rfl, rfl, by decide +kernel, rfl, by decide +kernel, by decide +kernel⟩
theorem ok_allow {f CU CN : Addr} {fd : FuncData} (F : Fun K "allow" "Steps.allow" sStepsAllow f fd) (OU : ErrOk P w K mg base "Unknown" CU 1 okUnknown fsUnknown) (ON : ErrOk P w K mg base "NoStep" CN 2 okNoStep fsNoStep) :
    FnOk P w K mg base (L2.CX P w) 3 f fd ["self", "before", "after"] (spAllow K CU CN) := by
  refine F.okX scAllow (fun vs H Q E h => ?_) (fun cdv A outer s H vs Q E hr h => ?_)
  · obtain ⟨a, C, dx, fs, ds, es, ss, R, m, b, c, rfl, _⟩ := h
    rfl
  · obtain ⟨a, C, dx, fs, ds, es, ss, R, m, b, c, rfl, kcls, knS, ha, l1, S, hm, hb, hc, k1, k2, k3, k4⟩ := h
    have hu := hu_of hr
    refine ⟨_, pss_cons (ps_for (passes_of rfl) rfl (pi_tup (pe_tup (pa_cons (pv 1) (pa_cons (pv 2) pa_nil)))) (pg_name (i := 3) scAllow.nd rfl (Or.inl rfl))
        (pss_one (ps_if (pt_cmp (pc_dnotin hu (pv 3) (pe_fld (pv 0) rfl))) (pss_one (ps_raise rfl (takes_of rfl rfl rfl rfl) (pmk_err OU hr rfl (pa_cons (pv 3) pa_nil)))) pss_nil)))
      (pss_cons (ps_if (pt_cmpR op_eq (pv 1) (pv 2) (nomark _)) (pss_one (ps_raise rfl (takes_of rfl rfl rfl rfl) (pmk_err ON hr rfl (pa_cons (pv 1) (pa_cons (pv 2) pa_nil))))) pss_nil)
      (pss_one (ps_dput hu (pe_dget hu (pe_fld (pv 0) rfl) (pv 1) (fun _ _ => rfl)) (pv 2) pe_bl rfl))), ?_⟩
    -- for standing in (before, after)
    refine ⟨_, rfl, _, rfl, (by show 2 ≤ sizeLine; decide), fun t ht => ?_⟩
    have st : Same H (upd H t (.tup [.str b, .str c])) := fun q o e => by rw [upd_ne (ne_of_none e ht)]; exact e
    have et : upd H t (.tup [.str b, .str c]) t = some (.tup [.str b, .str c]) := upd_same
    generalize upd H t (.tup [.str b, .str c]) = H1 at st et
    refine ⟨t, rfl, ⟨_, SqT.of et⟩, for_tup (K := K) (a := t) (xs := [.str b, .str c]) (fun i σ H' => H' = H1 ∧ (∃ v : Option V, σ = [some (.ref a), some (.str b), some (.str c), v]) ∧ (0 < i → b ∈ ss) ∧ (1 < i → b ∈ ss ∧ c ∈ ss))
      ⟨rfl, ⟨none, rfl⟩, fun h => absurd h (by omega), fun h => absurd h (by omega)⟩ (fun i σ H' _ ⟨e, _⟩ => by rw [e]; exact SqT.of et) ?_ ?_⟩
    · rintro i y σ H' hi ⟨rfl, ⟨v, rfl⟩, h0, h1⟩
      have S1 := S.keep fun q kvs e => st q _ e
      obtain ⟨z, rfl, hr1, hn, hz⟩ : ∃ z : Str, y = .str z ∧ (z ∉ ss → Raised CU [.str z] fsUnknown H E) ∧ (z ∈ ss → (0 < i + 1 → b ∈ ss) ∧ (1 < i + 1 → b ∈ ss ∧ c ∈ ss)) ∧ z.length ≤ 100 := by
        match i, hi with
        | 0, hi => exact ⟨b, (Option.some.inj hi).symm, k1, fun m => ⟨fun _ => m, fun q => absurd q (by omega)⟩, hb⟩
        | 1, hi => exact ⟨c, (Option.some.inj hi).symm, k2 (h0 (by omega)), fun m => ⟨fun _ => h0 (by omega), fun _ => ⟨h0 (by omega), m⟩⟩, hc⟩
        | i + 2, hi => simp at hi
      refine ⟨_, rfl, _, rfl, a, C, dx, fs, _, rfl, st _ _ ha, kcls, knS, l1, ds, _, rfl, DGet.k (k := Sum.inr z) S1.d, _, rfl, ?_⟩
      rw [dP_is S1.nd S1.len]
      by_cases hz1 : z ∈ ss
      · rw [decide_eq_true hz1]
        exact no rfl ⟨rfl, ⟨_, rfl⟩, hn hz1⟩
      · rw [decide_eq_false hz1]
        exact yes rfl ⟨_, rfl, err_read rfl (by decide) ⟨z, rfl, hz⟩ ((hr1 hz1).of st)⟩
    · rintro σ H' ⟨rfl, ⟨v, rfl⟩, _, h2⟩
      obtain ⟨mb, mc⟩ := h2 (by show 1 < 2; omega)
      have S1 := S.keep fun q kvs e => st q _ e
      refine ⟨_, rfl, _, rfl, rfl, _, rfl, ?_⟩
      by_cases hbc : b = c
      · refine yes (decide_eq_true (by rw [hbc])) ⟨_, rfl, _, rfl, err_read rfl (by decide) ⟨⟨b, rfl, hb⟩, ⟨c, rfl, hc⟩⟩ ((k3 mb mc hbc).of st)⟩
      · refine no (decide_eq_false fun q => hbc (by injection q)) ?_
        obtain ⟨i, hi⟩ := List.mem_iff_getElem?.mp mb
        have hil : i < es.length := by rw [← S.len]; exact (List.getElem?_eq_some_iff.mp hi).1
        obtain ⟨e, he⟩ : ∃ e, es[i]? = some e := ⟨_, List.getElem?_eq_getElem hil⟩
        obtain ⟨kvs, hk, hkl, hkr⟩ := S1.at_ i e b he hi
        have nde : ds ≠ e := fun q => S.no (by rw [q]; exact List.mem_of_getElem? he)
        refine ⟨_, rfl, a, C, dx, fs, _, rfl, st _ _ ha, kcls, knS, l1, _, rfl, ds, .ref e, rfl, ?_, _, rfl, e, _, rfl, DPut.k (k := Sum.inr c) hk (small1000 (by omega)), ?_⟩
        · have q := DGet.k (k := Sum.inr b) S1.d
          rw [dP_some S1.nd hi he] at q
          exact q
        · refine k4 mb mc hbc e _ (List.mem_of_getElem? he) (fun q o h1 n => by rw [upd_ne n]; exact st _ _ h1) ?_
          · refine ⟨by rw [upd_ne nde]; exact S1.d, S1.len, S1.nd, S1.ed, S1.no, fun j c' s' q1 q2 => ?_⟩
            by_cases hj : j = i
            · subst hj
              have e1 : c' = e := Option.some.inj (q1.symm.trans he)
              have e2 : s' = b := Option.some.inj (q2.symm.trans hi)
              subst e1 e2
              refine ⟨_, upd_same, Nat.le_trans (length_putK _ _ _) (by omega), fun t' => ?_⟩
              rw [valV_put]
              show _ = (R s' t' || (decide (s' = s') && decide (t' = c)))
              by_cases ht : t' = c
              · subst ht
                rw [if_pos rfl]
                simp
              · have nk : ¬ (Sum.inr t' : Key) = Sum.inr c := fun z => ht (by injection z)
                rw [if_neg nk, hkr t', decide_eq_false ht]
                simp
            · have nc : c' ≠ e := fun q => hj (nd_ix S1.ed q1 (by rw [q]; exact he))
              have ns : s' ≠ b := fun q => hj (nd_ix S1.nd q2 (by rw [q]; exact hi))
              obtain ⟨kv2, g1, g2, g3⟩ := S1.at_ j c' s' q1 q2
              refine ⟨kv2, by rw [upd_ne nc]; exact g1, by omega, fun t' => ?_⟩
              rw [g3 t']
              show R s' t' = (R s' t' || (decide (s' = b) && decide (t' = c)))
              rw [decide_eq_false ns]
              simp
end
end Yd
namespace Yd
open PySem L2
/-! ### a comprehension over a locked dict's keys -/
theorem lc_keys {d : Addr} {o : Obj} {kvs : List (Key × V)} {g : TG} {tt : TT} {te : TE} {vs : List Nat} {σ : St} {H1 : Hp} {D : Addr} {Qd : Hp → Prop} (Pv : Nat → Hp → Prop) (h0 : Pv 0 (upd H1 D (.lst []))) (hl : ∀ i H, i ≤ kvs.length → Pv i H → H d = some (.frz o (.dK kvs)))
    (hs : ∀ i k v H, kvs[i]? = some (k, v) → Pv i H → g (kV k) (wipe σ vs) H fun σ2 H2 => wipe σ2 vs = wipe σ vs ∧ tt σ2 H2 fun b H3 =>
      if b = true then te σ2 H3 fun y H4 => ∃ acc, H4 D = some (.lst acc) ∧ acc.length < sizeLine ∧ Pv (i + 1) (upd H4 D (.lst (acc ++ [y]))) else Pv (i + 1) H3) (hd : ∀ H, Pv kvs.length H → Qd H) :
    ∃ W : Nat → Nat → Hp → Prop, (∃ m, W 0 m (upd H1 D (.lst []))) ∧ ∀ i m H, W i m H →
      ((Itk d o kvs).stop i H ∧ Qd H) ∨ ((Itk d o kvs).go i H ∧ ∃ Nx : Hp → Prop, (∀ H', Nx H' → ∃ m', m' < m ∧ W (i + 1) m' H') ∧ ∀ x H', (Itk d o kvs).yld i H x H' → g x (wipe σ vs) H' fun σ2 H2 => wipe σ2 vs = wipe σ vs ∧ tt σ2 H2 fun b H3 =>
        if b = true then te σ2 H3 fun y H4 => ∃ acc, H4 D = some (.lst acc) ∧ acc.length < sizeLine ∧ Nx (upd H4 D (.lst (acc ++ [y]))) else Nx H3) := by
  refine ⟨fun i m H => m = kvs.length - i ∧ i ≤ kvs.length ∧ Pv i H, ⟨_, rfl, Nat.zero_le _, h0⟩, fun i m H ⟨em, hi, p⟩ => ?_⟩
  subst em
  have hf := hl i H hi p
  by_cases hlt : i < kvs.length
  · refine .inr ⟨⟨hf, hlt⟩, Pv (i + 1), fun H' p' => ⟨kvs.length - (i + 1), by omega, rfl, hlt, p'⟩, ?_⟩
    rintro x H' ⟨rfl, k, v, hkv, rfl⟩
    exact hs i k v _ hkv p
  · have e : i = kvs.length := by omega
    subst e
    exact .inl ⟨⟨hf, Nat.le_refl _⟩, hd H p⟩
section
variable {P : Program} {w : World} {K : PySem.W.Frag} {mg : Str → Option Value} {base : Heap}
def nStepsFrom : List Str := ["self", "standing", "after"]
theorem scStepsFrom : FnScope nStepsFrom ["self", "standing"] (defScope sStepsStepsFrom) := ⟨rfl, rfl, rfl, by decide +kernel, rfl, by decide +kernel, by decide +kernel⟩
theorem filter_more {l : List Str} {i : Nat} {x : Str} {p : Str → Bool} (h : l[i]? = some x) : (l.take (i + 1)).filter p = (l.take i).filter p ++ (if p x = true then [x] else []) := by
  rw [take_more h, List.filter_append]
  congr 1
  by_cases q : p x = true
  · rw [if_pos q, List.filter_cons, if_pos q]; rfl
  · rw [if_neg q, List.filter_cons, if_neg q]; rfl
theorem ok_stepsFrom {f CU : Addr} {fd : FuncData} (F : Fun K "steps_from" "Steps.steps_from" sStepsStepsFrom f fd) (OU : ErrOk P w K mg base "Unknown" CU 1 okUnknown fsUnknown) (hT : mg "tuple" = none) :
    FnOk P w K mg base (L2.CX P w) 3 f fd ["self", "standing"] (spStepsFrom K CU) := by
  refine F.okX scStepsFrom (fun vs H Q E h => ?_) (fun cdv A outer s H vs Q E hr h => ?_)
  · obtain ⟨a, C, fA, fS, fF, ss, R, m, b, rfl, _⟩ := h
    rfl
  · obtain ⟨a, C, fA, fS, fF, ss, R, m, b, rfl, kc, ⟨dx, fs, ds, es, ha, l1, l2, l3, l4, S⟩, hsl, hb, k1, k2⟩ := h
    have hu := hu_of hr
    refine ⟨_, pss_cons (ps_if (pt_cmp (pc_dnotin hu (pv 1) (pe_fld (pv 0) rfl))) (pss_one (ps_raise rfl (takes_of rfl rfl rfl rfl) (pmk_err OU hr rfl (pa_cons (pv 1) pa_nil)))) pss_nil)
      (pss_one (ps_ret (pe_callTy call_tuple_of (by rfl) hT (by decide +kernel) (pa_cons (pe_lock (pe_lc (own := [("after", 2)]) (g := gName 2) (tt := tB (tDIn (tVar 2) (tDGet (tFld K (tVar 0) "_steps") (tVar 1)))) rfl scStepsFrom.nd (pi_keys (pe_fld (pv 0) rfl))
        (blkOk_by (N := nStepsFrom) (sc := defScope sStepsStepsFrom) (by decide +kernel)) (fun _ _ _ _ _ => pg_name (i := 2) scStepsFrom.nd rfl (Or.inl rfl))
        (fun _ _ _ _ _ => pts_one (pt_cmp (pc_din hu (pv 2) (pe_dget hu (pe_fld (pv 0) rfl) (pv 1) (fun _ _ => rfl))))) (fun _ _ _ _ _ => pv 2))) pa_nil)))), ?_⟩
    refine ⟨_, rfl, _, rfl, a, C, dx, fs, _, rfl, ha, kc.cls, kc.nS, l1, ds, _, rfl, DGet.k (k := Sum.inr b) S.d, _, rfl, ?_⟩
    rw [dP_is S.nd S.len]
    by_cases hbs : b ∈ ss
    · rw [decide_eq_true hbs]
      refine no rfl ?_
      obtain ⟨i, hi⟩ := List.mem_iff_getElem?.mp hbs
      have hil : i < es.length := by rw [← S.len]; exact (List.getElem?_eq_some_iff.mp hi).1
      obtain ⟨e, he⟩ : ∃ e, es[i]? = some e := ⟨_, List.getElem?_eq_getElem hil⟩
      obtain ⟨kvs, hk, hkl, hkr⟩ := S.at_ i e b he hi
      have nde : ds ≠ e := fun q => S.no (by rw [q]; exact List.mem_of_getElem? he)
      have nad : a ≠ ds := ne_of ha S.d (by intro z; cases z)
      refine ⟨ds, _, S.d, True.intro, fun od => ?_⟩
      refine ⟨_, rfl, a, C, dx, fs, _, rfl, (by rw [upd_ne nad]; exact ha), kc.cls, kc.nS, l1, ds, od, rfl, .inl ⟨_, upd_same, fun D hD => ?_⟩⟩
      have nDs : ds ≠ D := fun q => by rw [← q, upd_same] at hD; cases hD
      have hD0 : H D = none := by rw [upd_ne nDs.symm] at hD; exact hD
      -- what the comprehension keeps
      refine lc_keys (fun j H' => (∀ q o, H q = some o → q ≠ ds → H' q = some o) ∧ H' ds = some (.frz od (.dK (dP ss es))) ∧ H' D = some (.lst (((ss.take j).filter (R b)).map V.str)))
        ⟨fun q o h1 h2 => by rw [upd_ne (ne_of_none h1 hD0), upd_ne h2]; exact h1, by rw [upd_ne nDs, upd_same], upd_same⟩ (fun j H' _ h => h.2.1) ?_ ?_
      · rintro j k v H' hkv ⟨s1, s2, s3⟩
        obtain ⟨z, ez, hz, _, rfl, rfl⟩ := dP_key S.len hkv
        have dg : DGet H' ds (.str b) (some (.ref e)) := .inl ⟨_, Sum.inr b, .inr ⟨od, s2⟩, rfl, (dP_some S.nd hi he).symm⟩
        refine ⟨rfl, _, rfl, _, rfl, a, C, dx, fs, _, rfl, s1 _ _ ha nad, kc.cls, kc.nS, l1, _, rfl, ds, _, rfl, dg, e, _, rfl, DGet.k (k := Sum.inr z) (s1 _ _ hk nde.symm), _, rfl, ?_⟩
        rw [hkr z]
        by_cases hR : R b z = true
        · refine yes hR ⟨_, rfl, _, s3, ?_, fun q o h1 h2 => ?_, by rw [upd_ne nDs]; exact s2, ?_⟩
          · refine small1000 (Nat.le_trans ?_ hsl)
            rw [List.length_map]
            exact Nat.le_trans (List.length_filter_le _ _) (by rw [List.length_take]; omega)
          · rw [upd_ne (ne_of_none h1 hD0)]; exact s1 q o h1 h2
          · rw [upd_same, filter_more hz, if_pos hR, List.map_append]
            rfl
        · have hR' : R b z = false := by simpa using hR
          refine no hR' ⟨s1, s2, ?_⟩
          rw [filter_more hz, if_neg hR, List.append_nil]
          exact s3
      · rintro H' ⟨s1, s2, s3⟩
        rw [dP_len S.len, List.take_length] at s3
        refine ⟨s2, D, _, rfl, .inl ⟨SqL.of (by rw [upd_ne nDs.symm]; exact s3), fun q hq => ?_⟩⟩
        refine k2 hbs q _ (fun p o h1 => ?_) upd_same
        have hpq : p ≠ q := by
          rintro rfl
          by_cases hp : p = ds
          · rw [hp, upd_same] at hq; cases hq
          · rw [upd_ne hp, s1 p o h1 hp] at hq; cases hq
        rw [upd_ne hpq]
        by_cases hp : p = ds
        · subst hp
          rw [upd_same, ← h1, S.d]
        · rw [upd_ne hp]
          exact s1 p o h1 hp
    · rw [decide_eq_false hbs]
      exact yes rfl ⟨_, rfl, err_read rfl (by decide) ⟨b, rfl, hb⟩ (k1 hbs)⟩
end
end Yd
namespace Yd
open PySem L2
/-! ### a dict comprehension over a list -/
theorem dc_list {K : PySem.W.Frag} {a : Addr} {xs : List V} {g : TG} {tt : TT} {tk tv : TE} {vs : List Nat} {σ : St} {H1 : Hp} {D : Addr} {Qd : Hp → Prop} (Pv : Nat → Hp → Prop) (h0 : Pv 0 (upd H1 D (.dK []))) (hl : ∀ i H, i ≤ xs.length → Pv i H → SqL K H a xs)
    (hs : ∀ i x H, xs[i]? = some x → Pv i H → g x (wipe σ vs) H fun σ2 H2 => wipe σ2 vs = wipe σ vs ∧ tt σ2 H2 fun b H3 =>
      if b = true then tk σ2 H3 fun y H4 => tv σ2 H4 fun z H5 => ∃ kvs k, y = kV k ∧ H5 D = some (.dK kvs) ∧ kvs.length < sizeLine ∧ Pv (i + 1) (upd H5 D (.dK (putK kvs k z))) else Pv (i + 1) H3) (hd : ∀ H, Pv xs.length H → Qd H) :
    ∃ W : Nat → Nat → Hp → Prop, (∃ m, W 0 m (upd H1 D (.dK []))) ∧ ∀ i m H, W i m H →
      ((Itl K a).stop i H ∧ Qd H) ∨ ((Itl K a).go i H ∧ ∃ Nx : Hp → Prop, (∀ H', Nx H' → ∃ m', m' < m ∧ W (i + 1) m' H') ∧ ∀ x H', (Itl K a).yld i H x H' → g x (wipe σ vs) H' fun σ2 H2 => wipe σ2 vs = wipe σ vs ∧ tt σ2 H2 fun b H3 =>
        if b = true then tk σ2 H3 fun y H4 => tv σ2 H4 fun z H5 => ∃ kvs k, y = kV k ∧ H5 D = some (.dK kvs) ∧ kvs.length < sizeLine ∧ Nx (upd H5 D (.dK (putK kvs k z))) else Nx H3) := by
  refine ⟨fun i m H => m = xs.length - i ∧ i ≤ xs.length ∧ Pv i H, ⟨_, rfl, Nat.zero_le _, h0⟩, fun i m H ⟨em, hi, p⟩ => ?_⟩
  subst em
  have q := hl i H hi p
  by_cases hlt : i < xs.length
  · refine .inr ⟨⟨xs, xs[i], q, by simp [hlt]⟩, Pv (i + 1), fun H' p' => ⟨xs.length - (i + 1), by omega, rfl, hlt, p'⟩, fun x H' y => ?_⟩
    obtain ⟨e, y⟩ := y
    subst e
    exact hs i x _ (y xs q) p
  · have e : i = xs.length := by omega
    subst e
    exact .inl ⟨⟨xs, q, by simp⟩, hd H p⟩
/-! ### the class Doors: its dict of doors -/
/-- at dd the dict of the doors of the standings ss: at ts the pairs, ng what they need and give -/
structure DoorsAt (H : Hp) (dd : Addr) (ss : List Str) (ts : List Addr) (ng : List (List Str × List Str)) : Prop where
  d : H dd = some (.dK (dP ss ts))
  len : ss.length = ts.length
  nd : ss.Nodup
  ln : ng.length = ss.length
  at_ : ∀ (i : Nat) (t : Addr) (p : List Str × List Str), ts[i]? = some t → ng[i]? = some p → ∃ n g, H t = some (.tup [.ref n, .ref g]) ∧ H n = some (.tup (p.1.map V.str)) ∧ H g = some (.tup (p.2.map V.str))
def spDoorsInit (K : PySem.W.Frag) : Sp := fun vs H Q _ => ∃ (a C dx : Addr) (fs : List (Str × V)) (l : Addr) (ss : List Str), vs = [.ref a, .ref l] ∧ H a = some (.ins C dx fs) ∧ fs.length ≤ 900 ∧ Cls K C ∧ NoAttr K C "_doors" ∧
  TxS K H l ss ∧ ss.length ≤ 1000 ∧ ss.Nodup ∧
  (∀ dd ts H', H dd = none → Gro a H H' → H' a = some (.ins C dx (putF "_doors" (.ref dd) fs)) → DoorsAt H' dd ss ts (ss.map fun _ => ([], [])) → Q .non H')
section
variable {P : Program} {w : World} {K : PySem.W.Frag} {mg : Str → Option Value} {base : Heap}
def nDoorsInit : List Str := ["self", "standings", "standing"]
theorem scDoorsInit : FnScope nDoorsInit ["self", "standings"] (defScope sDoorsInit) := ⟨rfl, rfl, rfl, by decide +kernel, rfl, by decide +kernel, by decide +kernel⟩
theorem ok_doorsInit {f : Addr} {fd : FuncData} (F : Fun K "__init__" "Doors.__init__" sDoorsInit f fd) : FnOk P w K mg base CX0 1 f fd ["self", "standings"] (spDoorsInit K) := by
  refine F.ok scDoorsInit (fun vs H Q E h => ?_) (fun cdv A outer s H vs Q E hr h => ?_)
  · obtain ⟨a, C, dx, fs, l, ss, rfl, _⟩ := h
    rfl
  · obtain ⟨a, C, dx, fs, l, ss, rfl, ha, hfs, cls, nD, hl, hsl, hnd, k⟩ := h
    rcases hl with hl | hl
    · refine ⟨_, pss_one (ps_fld (pv 0) (pe_dc (own := [("standing", 2)]) (g := gName 2) (tt := tYes) rfl scDoorsInit.nd (pi_list (pv 1)) (blkOk_by (N := nDoorsInit) (sc := defScope sDoorsInit) (by decide +kernel))
        (fun _ _ _ _ _ => pg_name (i := 2) scDoorsInit.nd rfl (Or.inl rfl)) (fun _ _ _ _ _ => pts_nil) (fun _ _ _ _ _ => pv 2) (fun _ _ _ _ _ => pe_tup (pa_cons (pe_tup pa_nil) (pa_cons (pe_tup pa_nil) pa_nil)))) rfl), ?_⟩
      refine ⟨_, rfl, l, rfl, ⟨_, hl⟩, fun D hD => ?_⟩
      have naD : a ≠ D := ne_of_none ha hD
      have grow : ∀ H' : Hp, Same H H' → SqL K H' l (ss.map V.str) := fun H' g => g.seq hl
      refine dc_list (K := K) (a := l) (xs := ss.map V.str) (fun i H' => Same H H' ∧ ∃ ts : List Addr, DoorsAt H' D (ss.take i) ts ((ss.take i).map fun _ => ([], [])))
        ⟨fun b o q => by rw [upd_ne (ne_of_none q hD)]; exact q, [], ⟨by rw [upd_same]; rfl, rfl, List.nodup_nil, rfl, fun i t p h => by simp at h⟩⟩ (fun i H' _ h => grow H' h.1) ?_ ?_
      · rintro i x H' hi ⟨s5, ts, S⟩
        obtain ⟨z, hz, rfl⟩ := get_strs hi
        have hm : z ∉ ss.take i := fun q => by
          obtain ⟨j, hj⟩ := List.mem_iff_getElem?.mp q
          have hji : j < i := by
            have := (List.getElem?_eq_some_iff.mp hj).1
            rw [List.length_take] at this
            omega
          rw [List.getElem?_take_of_lt hji] at hj
          exact absurd (nd_ix hnd hj hz) (by omega)
        refine ⟨rfl, _, rfl, (by show 0 ≤ sizeLine; omega), fun n hn => ⟨(by show 0 ≤ sizeLine; omega), fun g hg => ⟨(by show 2 ≤ sizeLine; decide), fun t ht => ?_⟩⟩⟩
        have n1 : D ≠ n := ne_of_none S.d hn
        have n2 : D ≠ g := ne_of_none (by rw [upd_ne n1]; exact S.d) hg
        have n3 : D ≠ t := ne_of_none (by rw [upd_ne n2, upd_ne n1]; exact S.d) ht
        have n4 : n ≠ g := ne_of_none upd_same hg
        have n5 : n ≠ t := ne_of_none (by rw [upd_ne n4, upd_same]) ht
        have n6 : g ≠ t := ne_of_none upd_same ht
        have old : ∀ b o, H' b = some o → b ≠ n ∧ b ≠ g ∧ b ≠ t := fun b o q => by
          have m1 := ne_of_none q hn
          have m2 : b ≠ g := ne_of_none (by rw [upd_ne m1]; exact q) hg
          exact ⟨m1, m2, ne_of_none (by rw [upd_ne m2, upd_ne m1]; exact q) ht⟩
        refine ⟨dP (ss.take i) ts, Sum.inr z, rfl, by rw [upd_ne n3, upd_ne n2, upd_ne n1]; exact S.d, small1000 (by rw [dP_len S.len, List.length_take]; omega), ?_⟩
        refine ⟨fun b o q => ?_, ts ++ [t], ⟨?_, by rw [take_more hz, List.length_append, List.length_append, S.len]; rfl, by rw [take_more hz]; exact nd_snoc S.nd hm, by rw [List.length_map], fun j c p h1 h2 => ?_⟩⟩
        · have q5 := s5 b o q
          obtain ⟨m1, m2, m3⟩ := old b o q5
          rw [upd_ne (ne_of_none q hD), upd_ne m3, upd_ne m2, upd_ne m1]
          exact q5
        · rw [upd_same, take_more hz, dP_snoc S.len, putK_new _ (dP_none hm)]
        · by_cases hj : j < ts.length
          · rw [List.getElem?_append_left hj] at h1
            have h2' : ((ss.take i).map fun _ => (([], []) : List Str × List Str))[j]? = some p := by
              rw [take_more hz, List.map_append, List.getElem?_append_left (by rw [List.length_map, S.len]; exact hj)] at h2
              exact h2
            obtain ⟨n', g', q1, q2, q3⟩ := S.at_ j c p h1 h2'
            have up : ∀ b o, H' b = some o → b ≠ D → upd (upd (upd (upd H' n (.tup [])) g (.tup [])) t (.tup [.ref n, .ref g])) D (.dK (putK (dP (ss.take i) ts) (Sum.inr z) (.ref t))) b = some o := fun b o q nb => by
              obtain ⟨m1, m2, m3⟩ := old b o q
              rw [upd_ne nb, upd_ne m3, upd_ne m2, upd_ne m1]
              exact q
            exact ⟨n', g', up _ _ q1 (ne_of q1 S.d (by intro z; cases z)), up _ _ q2 (ne_of q2 S.d (by intro z; cases z)), up _ _ q3 (ne_of q3 S.d (by intro z; cases z))⟩
          · rw [List.getElem?_append_right (by omega)] at h1
            have hj0 : j - ts.length = 0 := by
              have := (List.getElem?_eq_some_iff.mp h1).1
              simp at this
              omega
            rw [hj0] at h1
            have hc : t = c := Option.some.inj h1
            subst hc
            have hp : p = ([], []) := by
              obtain ⟨u, hu, e⟩ := List.mem_map.mp (List.mem_of_getElem? h2)
              exact e.symm
            subst hp
            exact ⟨n, g, by rw [upd_ne n3.symm, upd_same], by rw [upd_ne n1.symm, upd_ne n5, upd_ne n4, upd_same]; rfl, by rw [upd_ne n2.symm, upd_ne n6, upd_same]; rfl⟩
      · rintro H' ⟨s5, ts, S⟩
        rw [List.length_map, List.take_length] at S
        refine ⟨_, rfl, a, C, dx, fs, rfl, s5 _ _ ha, cls, nD, by omega, ?_⟩
        refine k D ts _ hD (fun b o q n => by rw [upd_ne n]; exact s5 b o q) upd_same ⟨by rw [upd_ne naD.symm]; exact S.d, S.len, S.nd, S.ln, fun i t p h1 h2 => ?_⟩
        obtain ⟨n, g, q1, q2, q3⟩ := S.at_ i t p h1 h2
        have na : ∀ b xs, H' b = some (.tup xs) → b ≠ a := fun b xs q => ne_of q (s5 _ _ ha) (by intro z; cases z)
        exact ⟨n, g, by rw [upd_ne (na _ _ q1)]; exact q1, by rw [upd_ne (na _ _ q2)]; exact q2, by rw [upd_ne (na _ _ q3)]; exact q3⟩
    · refine ⟨_, pss_one (ps_fld (pv 0) (pe_dc (own := [("standing", 2)]) (g := gName 2) (tt := tYes) rfl scDoorsInit.nd (pi_tup (pv 1)) (blkOk_by (N := nDoorsInit) (sc := defScope sDoorsInit) (by decide +kernel))
        (fun _ _ _ _ _ => pg_name (i := 2) scDoorsInit.nd rfl (Or.inl rfl)) (fun _ _ _ _ _ => pts_nil) (fun _ _ _ _ _ => pv 2) (fun _ _ _ _ _ => pe_tup (pa_cons (pe_tup pa_nil) (pa_cons (pe_tup pa_nil) pa_nil)))) rfl), ?_⟩
      refine ⟨_, rfl, l, rfl, ⟨_, hl⟩, fun D hD => ?_⟩
      have naD : a ≠ D := ne_of_none ha hD
      have grow : ∀ H' : Hp, Same H H' → SqT K H' l (ss.map V.str) := fun H' g => Yd.Same.seqT g hl
      refine dc_tup (K := K) (a := l) (xs := ss.map V.str) (fun i H' => Same H H' ∧ ∃ ts : List Addr, DoorsAt H' D (ss.take i) ts ((ss.take i).map fun _ => ([], [])))
        ⟨fun b o q => by rw [upd_ne (ne_of_none q hD)]; exact q, [], ⟨by rw [upd_same]; rfl, rfl, List.nodup_nil, rfl, fun i t p h => by simp at h⟩⟩ (fun i H' _ h => grow H' h.1) ?_ ?_
      · rintro i x H' hi ⟨s5, ts, S⟩
        obtain ⟨z, hz, rfl⟩ := get_strs hi
        have hm : z ∉ ss.take i := fun q => by
          obtain ⟨j, hj⟩ := List.mem_iff_getElem?.mp q
          have hji : j < i := by
            have := (List.getElem?_eq_some_iff.mp hj).1
            rw [List.length_take] at this
            omega
          rw [List.getElem?_take_of_lt hji] at hj
          exact absurd (nd_ix hnd hj hz) (by omega)
        refine ⟨rfl, _, rfl, (by show 0 ≤ sizeLine; omega), fun n hn => ⟨(by show 0 ≤ sizeLine; omega), fun g hg => ⟨(by show 2 ≤ sizeLine; decide), fun t ht => ?_⟩⟩⟩
        have n1 : D ≠ n := ne_of_none S.d hn
        have n2 : D ≠ g := ne_of_none (by rw [upd_ne n1]; exact S.d) hg
        have n3 : D ≠ t := ne_of_none (by rw [upd_ne n2, upd_ne n1]; exact S.d) ht
        have n4 : n ≠ g := ne_of_none upd_same hg
        have n5 : n ≠ t := ne_of_none (by rw [upd_ne n4, upd_same]) ht
        have n6 : g ≠ t := ne_of_none upd_same ht
        have old : ∀ b o, H' b = some o → b ≠ n ∧ b ≠ g ∧ b ≠ t := fun b o q => by
          have m1 := ne_of_none q hn
          have m2 : b ≠ g := ne_of_none (by rw [upd_ne m1]; exact q) hg
          exact ⟨m1, m2, ne_of_none (by rw [upd_ne m2, upd_ne m1]; exact q) ht⟩
        refine ⟨dP (ss.take i) ts, Sum.inr z, rfl, by rw [upd_ne n3, upd_ne n2, upd_ne n1]; exact S.d, small1000 (by rw [dP_len S.len, List.length_take]; omega), ?_⟩
        refine ⟨fun b o q => ?_, ts ++ [t], ⟨?_, by rw [take_more hz, List.length_append, List.length_append, S.len]; rfl, by rw [take_more hz]; exact nd_snoc S.nd hm, by rw [List.length_map], fun j c p h1 h2 => ?_⟩⟩
        · have q5 := s5 b o q
          obtain ⟨m1, m2, m3⟩ := old b o q5
          rw [upd_ne (ne_of_none q hD), upd_ne m3, upd_ne m2, upd_ne m1]
          exact q5
        · rw [upd_same, take_more hz, dP_snoc S.len, putK_new _ (dP_none hm)]
        · by_cases hj : j < ts.length
          · rw [List.getElem?_append_left hj] at h1
            have h2' : ((ss.take i).map fun _ => (([], []) : List Str × List Str))[j]? = some p := by
              rw [take_more hz, List.map_append, List.getElem?_append_left (by rw [List.length_map, S.len]; exact hj)] at h2
              exact h2
            obtain ⟨n', g', q1, q2, q3⟩ := S.at_ j c p h1 h2'
            have up : ∀ b o, H' b = some o → b ≠ D → upd (upd (upd (upd H' n (.tup [])) g (.tup [])) t (.tup [.ref n, .ref g])) D (.dK (putK (dP (ss.take i) ts) (Sum.inr z) (.ref t))) b = some o := fun b o q nb => by
              obtain ⟨m1, m2, m3⟩ := old b o q
              rw [upd_ne nb, upd_ne m3, upd_ne m2, upd_ne m1]
              exact q
            exact ⟨n', g', up _ _ q1 (ne_of q1 S.d (by intro z; cases z)), up _ _ q2 (ne_of q2 S.d (by intro z; cases z)), up _ _ q3 (ne_of q3 S.d (by intro z; cases z))⟩
          · rw [List.getElem?_append_right (by omega)] at h1
            have hj0 : j - ts.length = 0 := by
              have := (List.getElem?_eq_some_iff.mp h1).1
              simp at this
              omega
            rw [hj0] at h1
            have hc : t = c := Option.some.inj h1
            subst hc
            have hp : p = ([], []) := by
              obtain ⟨u, hu, e⟩ := List.mem_map.mp (List.mem_of_getElem? h2)
              exact e.symm
            subst hp
            exact ⟨n, g, by rw [upd_ne n3.symm, upd_same], by rw [upd_ne n1.symm, upd_ne n5, upd_ne n4, upd_same]; rfl, by rw [upd_ne n2.symm, upd_ne n6, upd_same]; rfl⟩
      · rintro H' ⟨s5, ts, S⟩
        rw [List.length_map, List.take_length] at S
        refine ⟨_, rfl, a, C, dx, fs, rfl, s5 _ _ ha, cls, nD, by omega, ?_⟩
        refine k D ts _ hD (fun b o q n => by rw [upd_ne n]; exact s5 b o q) upd_same ⟨by rw [upd_ne naD.symm]; exact S.d, S.len, S.nd, S.ln, fun i t p h1 h2 => ?_⟩
        obtain ⟨n, g, q1, q2, q3⟩ := S.at_ i t p h1 h2
        have na : ∀ b xs, H' b = some (.tup xs) → b ≠ a := fun b xs q => ne_of q (s5 _ _ ha) (by intro z; cases z)
        exact ⟨n, g, by rw [upd_ne (na _ _ q1)]; exact q1, by rw [upd_ne (na _ _ q2)]; exact q2, by rw [upd_ne (na _ _ q3)]; exact q3⟩
end
end Yd
namespace Yd
open PySem L2
/-! ### Part, Single, Many: how they are made -/
/-- the def m of the class named x, read off that class -/
structure ClsFn (K : PySem.W.Frag) (mg : Str → Option Value) (x : Str) (C : Addr) (m : Str) (f : Addr) : Prop where
  g : mg x = some (.ref C)
  r : ∃ mc, ClX.CRead K C mc ∧ PySem.W.findCls K (.ref C) mc m = some (.val (.ref f))
/-- a part's attributes -/
def fsPart (nm : Str) (ds dd : Addr) : List (Str × V) := putF "name" (.str nm) (putF "_doors" (.ref dd) (putF "_steps" (.ref ds) []))
structure PartC (K : PySem.W.Frag) (C : Addr) : Prop where
  cls : Cls K C
  nS : NoAttr K C "_steps"
  nD : NoAttr K C "_doors"
  nN : NoAttr K C "name"
def spPartInit (K : PySem.W.Frag) (CR : Addr) : Sp := fun vs H Q E => ∃ (a C dx : Addr) (nm : Str) (l : Addr) (ss : List Str), vs = [.ref a, .str nm, .ref l] ∧ H a = some (.ins C dx []) ∧ PartC K C ∧
  TxS K H l ss ∧ ss.length ≤ 1000 ∧ (∀ s ∈ ss, s.length ≤ 100) ∧
  (∀ (i : Nat) (s : Str), ss[i]? = some s → s ∈ ss.take i → (ss.take i).Nodup → ∀ d H', Gro a H H' → H d = none → H' d = some (.xd (fsRepeated [.str s])) → E (.ref CR) (some d) H') ∧
  (ss.Nodup → ∀ (ds : Addr) (es : List Addr) (dd : Addr) (ts : List Addr) (H' : Hp), H ds = none → (∀ e ∈ es, H e = none) → H dd = none → Gro a H H' → H' a = some (.ins C dx (fsPart nm ds dd)) → StepsAt H' ds ss es (fun _ _ => false) 0 → DoorsAt H' dd ss ts (ss.map fun _ => ([], [])) → Q .non H')
theorem nodup_take {ss : List Str} (h : ¬ ∃ (i : Nat) (s : Str), ss[i]? = some s ∧ s ∈ ss.take i ∧ (ss.take i).Nodup) : ss.Nodup := by
  have all : ∀ i, i ≤ ss.length → (ss.take i).Nodup := by
    intro i
    induction i with
    | zero => intro _; exact List.nodup_nil
    | succ i ih =>
      intro hi
      have e : ss[i]? = some ss[i] := List.getElem?_eq_getElem (by omega)
      rw [take_more e]
      exact nd_snoc (ih (by omega)) fun m => h ⟨i, _, e, m, ih (by omega)⟩
  have q := all ss.length (Nat.le_refl _)
  rwa [List.take_length] at q
/-- a def that hands on the call of another one: its own end is None -/
theorem part_non {K : PySem.W.Frag} {CR : Addr} {vs : List V} {H : Hp} {Q : VK} {E : XK} (h : spPartInit K CR vs H Q E) : spPartInit K CR vs H (fun _ H' => Q .non H') E := by
  obtain ⟨a, C, dx, nm, l, ss, h1, h2, h3, h4, h5, h6, h7, h8⟩ := h
  exact ⟨a, C, dx, nm, l, ss, h1, h2, h3, h4, h5, h6, h7, h8⟩
section
variable {P : Program} {w : World} {K : PySem.W.Frag} {mg : Str → Option Value} {base : Heap}
theorem scPartInit : FnScope ["self", "name", "standings"] ["self", "name", "standings"] (defScope sPartInit) := ⟨rfl, rfl, rfl, by decide +kernel, rfl, by decide +kernel, by decide +kernel⟩
theorem ok_partInit {f CR CS CD fS fD : Addr} {fd fdS fdD : FuncData} (F : Fun K "__init__" "Part.__init__" sPartInit f fd) (O : ErrOk P w K mg base "Repeated" CR 1 okRepeated fsRepeated)
    (FS : Fun K "__init__" "Steps.__init__" sStepsInit fS fdS) (bS : Binds K fdS ["self", "standings"] []) (cS : ClsFn K mg "Steps" CS "__init__" fS)
    (FD : Fun K "__init__" "Doors.__init__" sDoorsInit fD fdD) (bD : Binds K fdD ["self", "standings"] []) (cD : ClsFn K mg "Doors" CD "__init__" fD) :
    FnOk P w K mg base (L2.CX P w) 4 f fd ["self", "name", "standings"] (spPartInit K CR) := by
  obtain ⟨gS, mcS, rS, vS⟩ := cS
  obtain ⟨gD, mcD, rD, vD⟩ := cD
  have GS : FnOk P w K mg base (L2.CX P w) 3 fS fdS ["self", "standings"] (spStepsInit K CR) := ok_stepsInit FS O
  have GD : FnOk P w K mg base CX0 1 fD fdD ["self", "standings"] (spDoorsInit K) := ok_doorsInit FD
  refine F.okX scPartInit (fun vs H Q E h => ?_) (fun cdv A outer s H vs Q E hr h => ?_)
  · obtain ⟨a, C, dx, nm, l, ss, rfl, _⟩ := h
    rfl
  · obtain ⟨a, C, dx, nm, l, ss, rfl, ha, pc, hl, hsl, hsh, kR, kN⟩ := h
    have hr1 : Room 1 _ := hr.mono (by decide)
    refine ⟨_, pss_cons (ps_expr (pe_cfun (E := E) (pe_glob (v := .ref CS) (by rfl) gS rfl) rS vS GS hr FS.kp bS .nil (passes_call (takes_of rfl rfl rfl rfl) fun _ _ _ _ h => h) (pa_cons (pv 0) (pa_cons (pv 2) pa_nil))))
      (pss_cons (ps_expr (pe_cfun (pe_glob (v := .ref CD) (by rfl) gD rfl) rD vD GD hr1 FD.kp bD .nil pass0 (pa_cons (pv 0) (pa_cons (pv 2) pa_nil))))
      (pss_one (ps_fld (pv 0) (pv 1) rfl))), ?_⟩
    have sq : ∀ H' : Hp, Gro a H H' → TxS K H' l ss := fun H' g => by
      rcases hl with ((h | ⟨o, h⟩) | h) | ((h | ⟨o, h⟩) | h)
      · exact .inl (.inl (.inl (g _ _ h (ne_of h ha (by intro z; cases z)))))
      · exact .inl (.inl (.inr ⟨o, g _ _ h (ne_of h ha (by intro z; cases z))⟩))
      · exact .inl (.inr h)
      · exact .inr (.inl (.inl (g _ _ h (ne_of h ha (by intro z; cases z)))))
      · exact .inr (.inl (.inr ⟨o, g _ _ h (ne_of h ha (by intro z; cases z))⟩))
      · exact .inr (.inr h)
    refine ⟨rfl, _, rfl, _, rfl, a, C, dx, [], l, ss, rfl, ha, Nat.zero_le _, pc.cls, pc.nS, hl, hsl, hsh, kR, fun nd ds es H1 hds hes g1 e1 S1 => ?_⟩
    have l0 : (putF "_steps" (V.ref ds) []).length ≤ 1 := length_putF _ _ _
    have l1 : (putF "_steps" (V.ref ds) []).length ≤ 900 := Nat.le_trans l0 (by decide)
    have l2 : ∀ dd, (putF "_doors" (V.ref dd) (putF "_steps" (V.ref ds) [])).length < 1000 := fun dd => by
      have q := length_putF "_doors" (V.ref dd) (putF "_steps" (V.ref ds) [])
      omega
    refine ⟨rfl, _, rfl, _, rfl, a, C, dx, _, l, ss, rfl, e1, l1, pc.cls, pc.nD, sq H1 g1, hsl, nd, fun dd ts H2 hdd g2 e2 D2 => ?_⟩
    refine ⟨_, rfl, _, rfl, a, C, dx, _, rfl, e2, pc.cls, pc.nN, l2 dd, ?_⟩
    refine kN nd ds es dd ts _ hds hes (g1.free hdd (by rintro rfl; rw [e1] at hdd; cases hdd)) ((g1.trans g2).trans .own) upd_same (S1.keep fun b kvs q => ?_) ⟨?_, D2.len, D2.nd, D2.ln, fun i t p h1 h2 => ?_⟩
    · have nb : b ≠ a := ne_of q e1 (by intro z; cases z)
      rw [upd_ne nb]
      exact g2 b _ q nb
    · rw [upd_ne (ne_of D2.d e2 (by intro z; cases z))]; exact D2.d
    · obtain ⟨n, g, q1, q2, q3⟩ := D2.at_ i t p h1 h2
      have na : ∀ b xs, H2 b = some (.tup xs) → b ≠ a := fun b xs q => ne_of q e2 (by intro z; cases z)
      exact ⟨n, g, by rw [upd_ne (na _ _ q1)]; exact q1, by rw [upd_ne (na _ _ q2)]; exact q2, by rw [upd_ne (na _ _ q3)]; exact q3⟩
theorem scSingleInit : FnScope ["self", "name", "standings"] ["self", "name", "standings"] (defScope sSingleInit) := ⟨rfl, rfl, rfl, by decide +kernel, rfl, by decide +kernel, by decide +kernel⟩
theorem ok_singleInit {f CR CP fP : Addr} {fd fdP : FuncData} (F : Fun K "__init__" "Single.__init__" sSingleInit f fd) (GP : FnOk P w K mg base (L2.CX P w) 4 fP fdP ["self", "name", "standings"] (spPartInit K CR)) (kP : PySem.W.keepIn K (.ref fP) = true)
    (bP : Binds K fdP ["self", "name", "standings"] []) (cP : ClsFn K mg "Part" CP "__init__" fP) : FnOk P w K mg base (L2.CX P w) 5 f fd ["self", "name", "standings"] (spPartInit K CR) := by
  obtain ⟨gP, mcP, rP, vP⟩ := cP
  refine F.okX scSingleInit (fun vs H Q E h => GP.len vs H Q E h) (fun cdv A outer s H vs Q E hr h => ?_)
  have h0 := h
  obtain ⟨a, C, dx, nm, l, ss, rfl, _⟩ := h0
  exact ⟨_, pss_one (ps_expr (pe_cfun (E := E) (pe_glob (v := .ref CP) (by rfl) gP rfl) rP vP GP hr kP bP .nil (passes_call (takes_of rfl rfl rfl rfl) fun _ _ _ _ h => h) (pa_cons (pv 0) (pa_cons (pv 1) (pa_cons (pv 2) pa_nil))))),
    rfl, _, rfl, _, rfl, _, rfl, part_non h⟩
theorem scManyInit : FnScope ["self", "name", "standings"] ["self", "name", "standings"] (defScope sManyInit) := ⟨rfl, rfl, rfl, by decide +kernel, rfl, by decide +kernel, by decide +kernel⟩
theorem ok_manyInit {f CR CP fP : Addr} {fd fdP : FuncData} (F : Fun K "__init__" "Many.__init__" sManyInit f fd) (GP : FnOk P w K mg base (L2.CX P w) 4 fP fdP ["self", "name", "standings"] (spPartInit K CR)) (kP : PySem.W.keepIn K (.ref fP) = true)
    (bP : Binds K fdP ["self", "name", "standings"] []) (cP : ClsFn K mg "Part" CP "__init__" fP) : FnOk P w K mg base (L2.CX P w) 5 f fd ["self", "name", "standings"] (spPartInit K CR) := by
  obtain ⟨gP, mcP, rP, vP⟩ := cP
  refine F.okX scManyInit (fun vs H Q E h => GP.len vs H Q E h) (fun cdv A outer s H vs Q E hr h => ?_)
  have h0 := h
  obtain ⟨a, C, dx, nm, l, ss, rfl, _⟩ := h0
  exact ⟨_, pss_one (ps_expr (pe_cfun (E := E) (pe_glob (v := .ref CP) (by rfl) gP rfl) rP vP GP hr kP bP .nil (passes_call (takes_of rfl rfl rfl rfl) fun _ _ _ _ h => h) (pa_cons (pv 0) (pa_cons (pv 1) (pa_cons (pv 2) pa_nil))))),
    rfl, _, rfl, _, rfl, _, rfl, part_non h⟩
end
end Yd
namespace Yd
open PySem L2
/-! ### an own __iter__ that gives a dict's iterator -/
/-- an iterator over the keys of the locked dict at d, at its start -/
def KIo (d it : Addr) (od : Obj) (n : Nat) : HO := .ext fun h => ∃ es ep, od.data = .dict es ep ∧ h.IsKeyIter it d 0 n ep
/-- the locked dict at d has n keys -/
def Keyed (H : Hp) (d : Addr) (od : Obj) (n : Nat) : Prop := (∃ kvs, H d = some (.frz od (.dK kvs)) ∧ n = kvs.length) ∨ ∃ kvs, H d = some (.frz od (.dT kvs)) ∧ n = kvs.length
/-- a def whose promise may speak of the size of the heap at its entry -/
structure FnN (P : Program) (w : World) (K : PySem.W.Frag) (mg : Str → Option Value) (base : Heap) (k : Nat) (f : Addr) (fd : FuncData) (ps : List Str) (sp : Nat → Sp) : Prop where
  len : ∀ n vs H Q E, sp n vs H Q E → vs.length = ps.length
  run : ∀ (A : Around) (out : List Env) (s : Shared) (H : Hp) (args : Args) (us : List Value) (vs : List V) (Q : VK) (E : XK), Room k A → Env0 P w K mg base A out s H → BindsTo s fd args (ps.zip us) → Vals vs us → sp s.heap.objs.size vs H Q E →
    codeAny (model P w) A (.call (.ref f) args) (CR CX0 out P w H s Q E) s
section
variable {P : Program} {w : World} {K : PySem.W.Frag} {mg : Str → Option Value} {base : Heap}
theorem fun_N {x qual : Str} {st : Stmt} {f : Addr} {fd : FuncData} {N ps : List Str} {k : Nat} {sp : Nat → Sp} (F : Fun K x qual st f fd) (S : FnScope N ps (defScope st)) (len : ∀ n vs H Q E, sp n vs H Q E → vs.length = ps.length)
    (body : ∀ (cdv : Value) (A : Around) (out : List Env) (s : Shared) (H : Hp) (vs : List V) (Q : VK) (E : XK), Room k (A.deeper (PyProof.Rows.envOfC qual (defScope st) s.heap.objs.size f cdv)) → sp s.heap.objs.size vs H Q E →
      ∃ t, PSs (cxOf CX0 P w K mg base N qual (defScope st) f cdv A out s H E) (defBody st) t ∧ t { nx := fun _ H' => Q .non H', rt := Q } (start N vs) H) : FnN P w K mg base (k + 1) f fd ps sp := by
  obtain ⟨oc, od, kV, doc, pm, an, cdv, ct, osl, rfl, lk, hcd⟩ := F.ex
  refine ⟨len, fun A out s H args us vs Q E hr e0 hb r hsp => ?_⟩
  have KX : K.In s.heap := e0.mod.kin.keeps fun b o e => (e0.bs b o e).1
  refine codeAny_call_function hr.depth (KX _ _ lk) rfl S.co S.gen rfl (PySem.W.codeRec_of KX hcd) (hb _ _ _ _ (wpAny_newFunctionEnv_cells S.kind (fun ⟨y, v⟩ hy => ?_) fun env he s1 x => ?_))
  · rcases S.par y (List.of_mem_zip hy).1 with q | q
    · exact Or.inl q
    · exact Or.inr ⟨q, PySem.W.cellsFrom_some _ _ _ (Or.inl q)⟩
  subst he
  obtain ⟨t, ht, hq⟩ := body cdv A out s H vs Q E (hr.deeper _) hsp
  refine ⟨(e0.mod.nolimit.keeps fun b o e => (e0.bs b o e).1).keeps x.toInCall.keep, codeAny_func (wpAny_mono (ht.run [] s1 (start N vs) H _ (inv_start S hr.hd e0 (len _ _ _ _ _ hsp) r x) hq) (fun fl s' hs => ?_) fun _ _ z => z)⟩
  match fl, hs with
  | .ret u, ⟨v, σ', H', J, rv, q⟩ => exact ⟨v, H', J.os, J.bare, J.base, J.hok, rv, q⟩
  | .next, ⟨σ', H', J, q⟩ => exact ⟨V.non, H', J.os, J.bare, J.base, J.hok, rfl, q⟩
  | .brk, ⟨_, _, _, q⟩ => exact q.elim
  | .cont, ⟨_, _, _, q⟩ => exact q.elim
end
section
open PySem.W
variable {X : Cx}
theorem kio_ok {P : Program} {w : World} {H : Hp} {h : Heap} {d it n ep : Nat} {od : Obj} {es : Array DictEntry} (hd : od.data = .dict es ep) (st : h.IsKeyIter it d 0 n ep) : ObjOk P w H h it (KIo d it od n) :=
  ⟨⟨es, ep, hd, st⟩, (let ⟨o, ho, _⟩ := st; ⟨o, ho⟩), fun _ _ ⟨e1, p1, a1, a2⟩ k => ⟨e1, p1, a1, a2.at k⟩⟩
/-- iter(d), d locked: a young iterator -/
theorem call_iterK : CallR X (.builtin "iter") (fun xs H Q => ∃ d od n, xs = [.ref d] ∧ Keyed H d od n ∧ ∀ it, H it = none → X.s_0.heap.objs.size ≤ it → Q (.ref it) (upd H it (KIo d it od n))) := by
  intro pins s σ H xs us Q I r h
  obtain ⟨d, od, n, rfl, hk, q⟩ := h
  obtain ⟨u, rfl, ru⟩ := vals1 r
  cases ru
  obtain ⟨hs, hgd, hx, es, ep, hdt, hsz⟩ : (d == sysModules) = false ∧ s.heap.get? d = some od ∧ od.ExactDict ∧ ∃ es ep, od.data = .dict es ep ∧ es.size = n := by
    rcases hk with ⟨kvs, hd, rfl⟩ | ⟨kvs, hd, rfl⟩
    · obtain ⟨hs, hgd, hx, es, ep, vs, hdt, hsz, kv, hm⟩ := I.frzK hd
      exact ⟨hs, hgd, hx, es, ep, hdt, by rw [hsz, Paired.length kv]⟩
    · obtain ⟨hs, hgd, hx, es, ep, hdt, hsz, _⟩ := I.frzT hd
      exact ⟨hs, hgd, hx, es, ep, hdt, hsz⟩
  refine Calls.call_function_entry (by decide +kernel) (by decide +kernel) kdk_entry_iter (kdk_args_iter _) ?_
  unfold Builtin.«iter»
  refine wpAny_bind (m := someArgs "iter" 1 2 _) (wpAny_of_eq (a := [.ref d]) (by first | rfl | kernel_rfl!) (wpAny_bind (m := pyIter (.ref d)) (iter_keys hs hgd hx hdt ?_)))
  refine wpAny_pure ⟨_, rfl, ?_⟩
  have st : (s.heap.push { cls := .type "dict_keyiterator", data := .fields #[.ref d, .int 0 0, .int es.size 0, .int ep 0] }).IsKeyIter s.heap.objs.size d 0 n ep := ⟨_, Heap.get?_push_size _ rfl, rfl, by rw [hsz]; rfl⟩
  exact ⟨.ref s.heap.objs.size, _, I.laid (t' := s.toks) (fun b ob e => Heap.get?_push_of_some _ e) (Nat.le_refl _) (kio_ok hdt st), rfl, q _ (I.hok.fresh (Nat.le_refl _)) I.sz⟩
/-- for x in o, o an instance whose class has such an __iter__ -/
def iOwn (sp : Nat → Sp) (C : Addr) (te : TE) : TI := fun σ H R => te σ H fun x H1 => ∃ a dx fs, x = .ref a ∧ H1 a = some (.ins C dx fs) ∧ ∀ n, sp n [.ref a] H1 (fun v H2 => ∃ it d od m, v = .ref it ∧ n ≤ it ∧ H2 it = some (KIo d it od m) ∧
  ((∃ kvs, H2 d = some (.frz od (.dK kvs)) ∧ m = kvs.length ∧ R (Itk d od kvs) (ItX.dropH H2 it)) ∨ ∃ kvs, H2 d = some (.frz od (.dT kvs)) ∧ m = kvs.length ∧ R (Itkt d od kvs) (ItX.dropH H2 it))) (fun _ _ _ => False)
theorem pi_own {C f : Addr} {fd : FuncData} {k : Nat} {sp : Nat → Sp} {tg e : Expr} {te : TE} (he : PE X e te) (hi : findIn X.K (.ref C) "__iter__" = some (some (.ref f))) (hf : isFn X.K (.ref f) = true) (F : FnN X.prog X.w X.K X.mg X.base k f fd ["self"] sp) (hr : Room k X.A)
    (hb : Binds X.K fd ["self"] []) : PI X tg e (iOwn sp C te) := by
  refine ⟨fun pins s σ H R I h => thn (he.run pins s σ H _ I h) fun u s1 ⟨x, H1, I1, rx, a, dx, fs, ex, ha, q⟩ => ?_⟩
  subst ex
  obtain rfl : u = Value.ref a := rx
  obtain ⟨m, hF⟩ := I1.fr
  obtain ⟨mA, O, _⟩ := ins_get I1.hok ha
  obtain ⟨oa, J, _⟩ := O.look
  have b1 := hb s1 [.ref a] I1.kIn rfl
  refine owit_iter hF I1.ok.mod.kin J hi hf (wpAny_call (codeAny_mono (F.run X.A X.stack s1 H1 ⟨[.ref a], []⟩ [.ref a] [.ref a] _ (fun _ _ _ => False) hr I1.env0 b1 (.cons rfl .nil) (q s1.heap.objs.size)) fun r s' hq => ?_))
  match r, hq with
  | .ok (.ret u), hq =>
    obtain ⟨v, H2, I2, rv, it, d, od, n, rfl, hn, e2, hR⟩ := I1.after hq
    obtain rfl : u = Value.ref it := rv
    have young : X.s_0.heap.objs.size ≤ it := Nat.le_trans I1.sz hn
    obtain ⟨⟨es, ep, hd, st⟩, _⟩ := (show ObjOk X.prog X.w H2 s'.heap it (KIo d it od n) from I2.hok it _ e2)
    have hT : s'.TypeIs (.ref it) "dict_keyiterator" := let ⟨o, ho, hc, _⟩ := st; ⟨o, ho, hc⟩
    have e2' := e2
    unfold KIo at e2'
    refine wpAny_specialOf hT PySem.F.slot_dict_keyiterator_next.lookup ?_
    rcases hR with ⟨kvs, ed, rfl, hR⟩ | ⟨kvs, ed, rfl, hR⟩
    · exact ⟨it, [it], _, _, _, rfl, ItX.inv_drop I2 e2', turn_keys it hd, st, fun b hb => by rw [List.mem_singleton.mp hb]; exact ItX.inv_fp I2 e2 young, hR⟩
    · exact ⟨it, [it], _, _, _, rfl, ItX.inv_drop I2 e2', turn_keysT it hd, st, fun b hb => by rw [List.mem_singleton.mp hb]; exact ItX.inv_fp I2 e2 young, hR⟩
end
end Yd
namespace Yd
open PySem L2
/-! ### own __getitem__ and __setitem__ -/
section
open PySem.W
theorem deeper1 {P : Program} {w : World} {K : Frag} {mg : Str → Option Value} {base : Heap} {A : Around} {out : List Env} {s : Shared} {H : Hp} (e : Env0 P w K mg base A out s H) : Env0 P w K mg base A.in1 out s H :=
  ⟨by exact e.frames, e.mod, e.bs, e.bsz, e.funs, e.frf, e.hok, e.bare⟩
theorem at_all {CX : CXT} {X : Cx} {E : XK} (h : Passes CX X E) : ∀ σ : St, PassesAt CX X σ E := fun σ pins H s e s' I c => h pins σ H s e s' I c
variable {X : Cx} {CX : CXT} {k : Nat} {f C : Addr} {fd : FuncData} {ps : List Str} {sp : Sp} {E : St → XK} {pos : Pos} {o i : Expr} {to ti : TE}
/-- a call of a def one level down -/
theorem run_in1 {pins : List (Addr × Obj)} {σ : St} {H : Hp} {s : Shared} {Q : VK} {us : List Value} {vs : List V} (F : FnOk X.prog X.w X.K X.mg X.base CX k f fd ps sp) (hr : Room (k + 1) X.A) (hb : Binds X.K fd ps []) (hx : PassesAt CX X σ (E σ))
    (I : Inv X pins σ H s) (r : Vals vs us) (h : sp vs H Q (E σ)) : wpAny (model X.prog X.w) X.A.in1 (call (.ref f) us) (EP X pins σ Q) X.xe s := by
  have hl : (us ++ []).length = ps.length := by rw [List.append_nil, ← r.length]; exact F.len _ _ _ _ h
  have b := hb s us I.kIn hl
  rw [List.append_nil] at b
  refine wpAny_call (codeAny_mono (F.run X.A.in1 X.stack s H ⟨us, []⟩ us vs Q (E σ) hr.in1 (deeper1 I.env0) b r h) fun r s' hq => ?_)
  match r, hq with
  | .error e, hq => exact hx pins H s e s' I hq
  | .ok (.ret u), hq => exact I.after hq
/-- an own class whose items are read by a def of its own -/
structure ItemC (K : Frag) (C : Addr) (m : Str) (f : Addr) : Prop where
  at_ : findIn K (.ref C) m = some (some (.ref f))
  fn : isFn K (.ref f) = true
  fi : fnIn K f = true
  noq : noSeq K C = true
def tSubO (C : Addr) (sp : Sp) (E : St → XK) (to ti : TE) : TE := fun σ H Q => to σ H fun x H1 => ti σ H1 fun y H2 => ∃ a dx fs, x = .ref a ∧ H2 a = some (.ins C dx fs) ∧ sp [x, y] H2 Q (E σ)
theorem pe_subO (ho : PE X o to) (hi : PE X i ti) (c : ItemC X.K C "__getitem__" f) (F : FnOk X.prog X.w X.K X.mg X.base CX k f fd ps sp) (hr : Room (k + 1) X.A) (hb : Binds X.K fd ps []) (hx : ∀ σ, PassesAt CX X σ (E σ))
    (hsl : ∀ x i', subscripted i true (.ref x) i' = runValue (.builtin "lifetime.subscript" ⟨[.ref x, i'], []⟩) := by intro _ _; with_unfolding_all rfl) : PE X (.Subscript o i pos) (tSubO C sp E to ti) := by
  refine ⟨fun pins s σ H Q I h => PyProof.Rows.Subscript_ (binT (R := fun x y H2 => ∃ a dx fs, x = V.ref a ∧ H2 a = some (.ins C dx fs) ∧ sp [x, y] H2 Q (E σ)) ho hi I h fun v u s2 x y H2 I2 rx ry hq => ?_)⟩
  obtain ⟨a, dx, fs, rfl, ha, q⟩ := hq
  obtain rfl : v = Value.ref a := rx
  obtain ⟨m, hF⟩ := I2.fr
  obtain ⟨mA, O, _⟩ := ins_get I2.hok ha
  obtain ⟨oa, J, _⟩ := O.look
  exact sub_K hF I2.ok.mod.kin J c.at_ c.fi c.fn (run_in1 F hr hb (hx σ) I2 (Paired.cons (a := V.ref a) rfl (.cons ry .nil)) q) (hsl a u)
def gSubO (C : Addr) (sp : Sp) (E : St → XK) (to ti : TE) : TG := fun v σ H Q => to σ H fun x H1 => ti σ H1 fun y H2 => ∃ a dx fs, x = .ref a ∧ H2 a = some (.ins C dx fs) ∧ sp [x, y, v] H2 (fun _ H3 => Q σ H3) (E σ)
theorem pg_subO (ho : PE X o to) (hi : PE X i ti) (c : ItemC X.K C "__setitem__" f) (F : FnOk X.prog X.w X.K X.mg X.base CX k f fd ps sp) (hr : Room k X.A) (hb : Binds X.K fd ps []) (hx : ∀ σ, PassesAt CX X σ (E σ))
    (ha : ∀ v, assign (.Subscript o i pos) X.env v = (do
      let ov ← holding [v] (eval o X.env)
      let iv ← holding [v, ov] (eval i X.env)
      standAt pos
      holding [v, ov, iv] (setItem ov iv v)
      release [v, ov, iv] []) := by intro _; rfl) : PG X (.Subscript o i pos) (gSubO C sp E to ti) := by
  refine ⟨fun pins s σ H v u Q I r h => ?_⟩
  rw [ha]
  refine wpAny_bind (wpAny_holding (thn (ho.run pins s σ H _ I h) fun ov s1 ⟨x, H1, I1, r1, q1⟩ => wpAny_bind (wpAny_holding (thn (hi.run pins s1 σ H1 _ I1 q1) fun iv s2 ⟨y, H2, I2, r2, a, dx, fs, ex, e2, q2⟩ => ?_))))
  subst ex
  obtain rfl : ov = Value.ref a := r1
  obtain ⟨m, hF⟩ := I2.fr
  obtain ⟨mA, O, _⟩ := ins_get I2.hok e2
  obtain ⟨oa, J, _⟩ := O.look
  refine wpAny_bind (wpAny_standAt (wpAny_bind (wpAny_holding (ksp_setItem hF I2.ok.mod.kin J c.noq c.at_ c.fn (thn (run_fnS F hr hb (hx σ) I2 (Paired.cons (a := V.ref a) rfl (.cons r2 (.cons r .nil))) q2) fun _ s3 ⟨_, H3, I3, _, q3⟩ => wpAny_release ⟨σ, H3, I3, q3⟩)))))
end
end Yd
namespace Yd
open PySem L2
/-! ### == and in of data -/
section
variable {X : Cx}
/-- both read as the same data -/
def rEqS (K : PySem.W.Frag) : R2 := fun x y H Q => ∃ d, Dp K H x d ∧ Dp K H y d ∧ d.plain = true ∧ d.depth ≤ 60 ∧ Q (.bl true) H
def rNeS (K : PySem.W.Frag) : R2 := fun x y H Q => ∃ d, Dp K H x d ∧ Dp K H y d ∧ d.plain = true ∧ d.depth ≤ 60 ∧ Q (.bl false) H
theorem op_eqS (hu : X.A.units + 64 < cLine) : OpR X (compareOp .Eq) (rEqS X.K) := by
  intro pins s σ H x y v u Q I rx ry h
  obtain ⟨d, hd, he, pd, dd, q⟩ := h
  obtain ⟨as, r1⟩ := Dp.reads I d x v hd rx
  obtain ⟨bs, r2⟩ := Dp.reads I d y u he ry
  refine SeqAt.eq_plain r1 r2 pd pd (by omega) ⟨.bl _, H, I, rfl, ?_⟩
  rw [SeqAt.eqv_refl_plain d pd]
  exact q
theorem op_neS (hu : X.A.units + 64 < cLine) : OpR X (compareOp .NotEq) (rNeS X.K) := by
  intro pins s σ H x y v u Q I rx ry h
  obtain ⟨d, hd, he, pd, dd, q⟩ := h
  obtain ⟨as, r1⟩ := Dp.reads I d x v hd rx
  obtain ⟨bs, r2⟩ := Dp.reads I d y u he ry
  refine SeqAt.ne_plain r1 r2 pd pd (by omega) ⟨.bl _, H, I, rfl, ?_⟩
  rw [SeqAt.eqv_refl_plain d pd]
  exact q
/-- an item in a list, both with a Lean type -/
def rInY (K : PySem.W.Frag) (α : Type) [DecidableEq α] [PySem.W.Datum α] : R2 := fun x y H Q => ∃ (a : α) (as : List α), Dp K H x (PySem.W.Datum.toD a) ∧ Dp K H y (.list (as.map PySem.W.Datum.toD)) ∧ Q (.bl (decide (a ∈ as))) H
theorem any_toD {α : Type} [DecidableEq α] [PySem.W.Datum α] (a : α) : ∀ as : List α, ((as.map PySem.W.Datum.toD).any fun z => PyData.eqv z (PySem.W.Datum.toD a)) = decide (a ∈ as)
  | [] => by simp
  | b :: bs => by
    rw [List.map_cons, List.any_cons, any_toD a bs, PySem.W.Datum.eqv, ← Bool.decide_or]
    refine decide_eq_decide.mpr ?_
    rw [List.mem_cons]
    exact ⟨fun h => h.imp Eq.symm id, fun h => h.imp Eq.symm id⟩
theorem op_inY {α : Type} [DecidableEq α] [PySem.W.Datum α] (hd : PySem.W.Datum.depth α ≤ 60) (hu : X.A.units + 65 < cLine) : OpR X (compareOp .In) (rInY X.K α) := by
  intro pins s σ H x y v u Q I rx ry h
  obtain ⟨a, as, h1, h2, q⟩ := h
  obtain ⟨_, r1⟩ := Dp.reads I _ x v h1 rx
  obtain ⟨_, r2⟩ := Dp.reads I _ y u h2 ry
  have d1 := PySem.W.Datum.depth_le (α := α) a
  refine SeqAt.in_list_data r2 r1 (PySem.W.plainAll_map as) (PySem.W.Datum.plain a) (by omega) ⟨.bl _, H, I, rfl, ?_⟩
  rw [any_toD]
  exact q
end
theorem dp_strs {K : PySem.W.Frag} {H : Hp} : ∀ ss : List Str, DpAll K H (ss.map V.str) (ss.map PyData.str)
  | [] => .nil
  | s :: ss => .cons (.str s) (dp_strs ss)
theorem plain_strs (ss : List Str) : PyData.plainAll (ss.map PyData.str) = true := PySem.W.plainAll_map (α := Str) ss
theorem depth_strs (ss : List Str) : PyData.depthAll (ss.map PyData.str) ≤ 0 := PySem.W.depthAll_map (α := Str) ss
theorem plain_tup (ss : List Str) : (PyData.tuple (ss.map PyData.str)).plain = true := by simp only [PyData.plain]; exact plain_strs ss
theorem depth_tup (ss : List Str) : (PyData.tuple (ss.map PyData.str)).depth ≤ 60 := by
  have h := depth_strs ss
  simp only [PyData.depth]
  omega
theorem plain_lst (ss : List Str) : (PyData.list (ss.map PyData.str)).plain = true := by simp only [PyData.plain]; exact plain_strs ss
theorem depth_lst (ss : List Str) : (PyData.list (ss.map PyData.str)).depth ≤ 60 := by
  have h := depth_strs ss
  simp only [PyData.depth]
  omega
/-- a tuple of texts -/
theorem dp_tup {K : PySem.W.Frag} {H : Hp} {a : Addr} {ss : List Str} (h : SqT K H a (ss.map V.str)) : Dp K H (.ref a) (.tuple (ss.map PyData.str)) := .tup h (dp_strs ss)
theorem dp_lst {K : PySem.W.Frag} {H : Hp} {a : Addr} {ss : List Str} (h : SqL K H a (ss.map V.str)) : Dp K H (.ref a) (.list (ss.map PyData.str)) := .lst h (dp_strs ss)
/-- a list of pairs of texts -/
def PairsAt (H : Hp) : List V → List (Str × Str) → Prop
  | [], [] => True
  | v :: xs, p :: ps => (∃ t, v = .ref t ∧ H t = some (.tup [.str p.1, .str p.2])) ∧ PairsAt H xs ps
  | _, _ => False
theorem PairsAt.keep {H H' : Hp} (k : ∀ t xs, H t = some (.tup xs) → H' t = some (.tup xs)) : ∀ {xs : List V} {ps : List (Str × Str)}, PairsAt H xs ps → PairsAt H' xs ps
  | [], [], _ => True.intro
  | v :: xs, p :: ps, ⟨⟨t, e, h⟩, r⟩ => ⟨⟨t, e, k _ _ h⟩, PairsAt.keep k r⟩
  | [], _ :: _, h => h.elim
  | _ :: _, [], h => h.elim
theorem PairsAt.snoc {H : Hp} {t : Addr} {p : Str × Str} (e : H t = some (.tup [.str p.1, .str p.2])) : ∀ {xs : List V} {ps : List (Str × Str)}, PairsAt H xs ps → PairsAt H (xs ++ [.ref t]) (ps ++ [p])
  | [], [], _ => ⟨⟨t, rfl, e⟩, True.intro⟩
  | v :: xs, q :: ps, ⟨h, r⟩ => ⟨h, PairsAt.snoc e r⟩
  | [], _ :: _, h => h.elim
  | _ :: _, [], h => h.elim
theorem PairsAt.len {H : Hp} : ∀ {xs : List V} {ps : List (Str × Str)}, PairsAt H xs ps → xs.length = ps.length
  | [], [], _ => rfl
  | v :: xs, q :: ps, ⟨_, r⟩ => by rw [List.length_cons, List.length_cons, PairsAt.len r]
  | [], _ :: _, h => h.elim
  | _ :: _, [], h => h.elim
theorem dp_pair {K : PySem.W.Frag} {H : Hp} {t : Addr} {p : Str × Str} (h : H t = some (.tup [.str p.1, .str p.2])) : Dp K H (.ref t) (PySem.W.Datum.toD p) := .tup (SqT.of h) (.cons (.str _) (.cons (.str _) .nil))
theorem PairsAt.dp {K : PySem.W.Frag} {H : Hp} : ∀ {xs : List V} {ps : List (Str × Str)}, PairsAt H xs ps → DpAll K H xs (ps.map PySem.W.Datum.toD)
  | [], [], _ => .nil
  | v :: xs, q :: ps, ⟨⟨t, e, h⟩, r⟩ => by subst e; exact .cons (dp_pair h) (PairsAt.dp r)
  | [], _ :: _, h => h.elim
  | _ :: _, [], h => h.elim
end Yd
namespace Yd
open PySem L2
/-! ### each name once, in the order of the first occurrences -/
def addOnce (acc : List Str) (s : Str) : List Str := if s ∈ acc then acc else acc ++ [s]
def onceS (ss : List Str) : List Str := ss.foldl addOnce []
theorem once_more {ss : List Str} {i : Nat} {s : Str} (h : ss[i]? = some s) : onceS (ss.take (i + 1)) = addOnce (onceS (ss.take i)) s := by
  unfold onceS
  rw [take_more h, List.foldl_append]
  rfl
theorem add_nd {acc : List Str} {s : Str} (h : acc.Nodup) : (addOnce acc s).Nodup := by
  unfold addOnce
  by_cases m : s ∈ acc
  · rw [if_pos m]; exact h
  · rw [if_neg m]; exact nd_snoc h m
theorem once_nd (ss : List Str) : (onceS ss).Nodup := by
  unfold onceS
  suffices q : ∀ (l acc : List Str), acc.Nodup → (l.foldl addOnce acc).Nodup from q ss [] List.nodup_nil
  intro l
  induction l with
  | nil => intro acc h; exact h
  | cons s l ih => intro acc h; exact ih _ (add_nd h)
theorem once_len (ss : List Str) : (onceS ss).length ≤ ss.length := by
  unfold onceS
  suffices q : ∀ (l acc : List Str), (l.foldl addOnce acc).length ≤ acc.length + l.length by
    have := q ss []
    rw [List.length_nil, Nat.zero_add] at this
    exact this
  intro l
  induction l with
  | nil => intro acc; exact Nat.le_refl _
  | cons s l ih =>
    intro acc
    have h1 := ih (addOnce acc s)
    have h2 : (addOnce acc s).length ≤ acc.length + 1 := by
      unfold addOnce
      split
      · omega
      · rw [List.length_append]; exact Nat.le_refl _
    rw [List.foldl_cons, List.length_cons]
    omega
/-- a dict whose keys are these texts, each with True -/
def trueD (ss : List Str) : List (Key × V) := ss.map fun s => (Sum.inr s, V.bl true)
theorem trueD_val (s : Str) : ∀ ss : List Str, valV (trueD ss) (Sum.inr s : Key) = if s ∈ ss then some (.bl true) else none
  | [] => by simp [trueD, valV_nil]
  | t :: ss => by
    have e : trueD (t :: ss) = (Sum.inr t, V.bl true) :: trueD ss := rfl
    rw [e]
    by_cases h : t = s
    · subst h
      rw [valV_pos rfl, if_pos (List.mem_cons_self ..)]
    · rw [valV_neg (fun z => h (by injection z)), trueD_val s ss]
      by_cases m : s ∈ ss
      · rw [if_pos m, if_pos (List.mem_cons_of_mem _ m)]
      · rw [if_neg m, if_neg fun q => (List.mem_cons.mp q).elim (fun z => h z.symm) m]
theorem trueD_put (acc : List Str) (s : Str) : putK (trueD acc) (Sum.inr s : Key) (.bl true) = trueD (addOnce acc s) := by
  unfold addOnce
  by_cases m : s ∈ acc
  · rw [if_pos m]
    unfold putK
    have a : ((trueD acc).any fun kv => decide (kv.1 = (Sum.inr s : Key))) = true := by
      rw [valV_any, trueD_val, if_pos m]
      rfl
    rw [if_pos a]
    have e : ∀ kv ∈ trueD acc, (if kv.1 = (Sum.inr s : Key) then (kv.1, V.bl true) else kv) = kv := fun kv hk => by
      obtain ⟨t, _, rfl⟩ := List.mem_map.mp hk
      split <;> rfl
    rw [List.map_congr_left e, List.map_id']
  · rw [if_neg m, putK_new _ (by rw [trueD_val, if_neg m])]
    unfold trueD
    rw [List.map_append]
    rfl
theorem trueD_keys (ss : List Str) : ((trueD ss).map fun kv => kV kv.1) = ss.map V.str := by
  unfold trueD
  rw [List.map_map]
  rfl
def spDistinct (K : PySem.W.Frag) : Sp := fun vs H Q _ => ∃ (a : Addr) (ss : List Str), vs = [.ref a] ∧ TxS K H a ss ∧ ss.length ≤ 1000 ∧ ∀ q H', Same H H' → H q = none → H' q = some (.tup ((onceS ss).map V.str)) → Q (.ref q) H'
section
variable {P : Program} {w : World} {K : PySem.W.Frag} {mg : Str → Option Value} {base : Heap}
theorem get_strs2 {ns : List Str} {i : Nat} {x : V} (h : (ns.map V.str)[i]? = some x) : ∃ z, ns[i]? = some z ∧ x = .str z := by
  rw [List.getElem?_map] at h
  cases e : ns[i]? with
  | none => rw [e] at h; cases h
  | some z => rw [e] at h; exact ⟨z, rfl, (Option.some.inj h).symm⟩
def nDistinct : List Str := ["names", "name"]
theorem scDistinct : FnScope nDistinct ["names"] (defScope sDistinct) := ⟨rfl, rfl, rfl, by decide +kernel, rfl, by decide +kernel, by decide +kernel⟩
theorem ok_distinct {f : Addr} {fd : FuncData} (F : Fun K "distinct" "distinct" sDistinct f fd) (hT : mg "tuple" = none) : FnOk P w K mg base CX0 1 f fd ["names"] (spDistinct K) := by
  refine F.ok scDistinct (fun vs H Q E h => ?_) (fun cdv A outer s H vs Q E hr h => ?_)
  · obtain ⟨a, ss, rfl, _⟩ := h
    rfl
  · obtain ⟨a, ss, rfl, ha, hl, k⟩ := h
    have start : ∀ D, H D = none → Same H (upd H D (.dK [])) ∧ upd H D (.dK []) D = some (.dK (trueD (onceS (ss.take 0)))) := fun D hD => ⟨fun b o e => by rw [upd_ne (ne_of_none e hD)]; exact e, upd_same⟩
    have turn : ∀ (D : Addr) (i : Nat) (x : V) (H' : Hp), H D = none → (ss.map V.str)[i]? = some x → Same H H' → H' D = some (.dK (trueD (onceS (ss.take i)))) →
        ∃ kvs k, x = kV k ∧ H' D = some (.dK kvs) ∧ kvs.length < sizeLine ∧ Same H (upd H' D (.dK (putK kvs k (.bl true)))) ∧ upd H' D (.dK (putK kvs k (.bl true))) D = some (.dK (trueD (onceS (ss.take (i + 1))))) := fun D i x H' hD hi s e => by
      obtain ⟨z, hz, rfl⟩ := get_strs2 hi
      refine ⟨_, Sum.inr z, rfl, e, ?_, fun b o q => by rw [upd_ne (ne_of_none q hD)]; exact s b o q, ?_⟩
      · have q := once_len (ss.take i)
        rw [List.length_take] at q
        refine small1000 ?_
        unfold trueD
        rw [List.length_map]
        omega
      · rw [upd_same, trueD_put, once_more hz]
    have fin : ∀ (D : Addr) (H' : Hp), H D = none → Same H H' → H' D = some (.dK (trueD (onceS (ss.take (ss.map V.str).length)))) → ∃ a kvs, [V.ref D] = [V.ref a] ∧ Rd H' a (.dK kvs) ∧ ∀ p, H' p = none → Q (.ref p) (upd H' p (.tup (kvs.map fun kv => kV kv.1))) := fun D H' hD s e => by
      rw [List.length_map, List.take_length] at e
      refine ⟨D, _, rfl, .of e, fun p hp => ?_⟩
      rw [trueD_keys]
      exact k p _ (s.trans fun b o q => by rw [upd_ne (ne_of_none q hp)]; exact q) (s.free hp) upd_same
    rcases ha with ha | ha
    · refine ⟨_, pss_one (ps_ret (pe_callTy (call_tupleD rfl) (by rfl) hT (by decide +kernel) (pa_cons (pe_dc (own := [("name", 1)]) (g := gName 1) (tt := tYes) rfl scDistinct.nd (pi_list (pv 0)) (blkOk_by (N := nDistinct) (sc := defScope sDistinct) (by decide +kernel))
        (fun _ _ _ _ _ => pg_name (i := 1) scDistinct.nd rfl (Or.inl rfl)) (fun _ _ _ _ _ => pts_nil) (fun _ _ _ _ _ => pv 1) (fun _ _ _ _ _ => pe_bl)) pa_nil))), ?_⟩
      refine ⟨_, rfl, a, rfl, ⟨_, ha⟩, fun D hD => dc_list (K := K) (a := a) (xs := ss.map V.str) (fun i H' => Same H H' ∧ H' D = some (.dK (trueD (onceS (ss.take i))))) (start D hD) (fun i H' _ h => h.1.seq ha) (fun i x H' hi h => ?_) fun H' h => fin D H' hD h.1 h.2⟩
      exact ⟨rfl, _, rfl, turn D i x H' hD hi h.1 h.2⟩
    · refine ⟨_, pss_one (ps_ret (pe_callTy (call_tupleD rfl) (by rfl) hT (by decide +kernel) (pa_cons (pe_dc (own := [("name", 1)]) (g := gName 1) (tt := tYes) rfl scDistinct.nd (pi_tup (pv 0)) (blkOk_by (N := nDistinct) (sc := defScope sDistinct) (by decide +kernel))
        (fun _ _ _ _ _ => pg_name (i := 1) scDistinct.nd rfl (Or.inl rfl)) (fun _ _ _ _ _ => pts_nil) (fun _ _ _ _ _ => pv 1) (fun _ _ _ _ _ => pe_bl)) pa_nil))), ?_⟩
      refine ⟨_, rfl, a, rfl, ⟨_, ha⟩, fun D hD => dc_tup (K := K) (a := a) (xs := ss.map V.str) (fun i H' => Same H H' ∧ H' D = some (.dK (trueD (onceS (ss.take i))))) (start D hD) (fun i H' _ h => Yd.Same.seqT h.1 ha) (fun i x H' hi h => ?_) fun H' h => fin D H' hD h.1 h.2⟩
      exact ⟨rfl, _, rfl, turn D i x H' hD hi h.1 h.2⟩
end
end Yd
namespace Yd
open PySem L2
/-! ### the doors of a kind -/
def DoorAt (H : Hp) (a C : Addr) (ss : List Str) (ng : List (List Str × List Str)) : Prop := ∃ dx fs dd ts, H a = some (.ins C dx fs) ∧ fs.lookup ("_doors" : Str) = some (.ref dd) ∧ fs.lookup ("needs" : Str) = none ∧ fs.lookup ("gives" : Str) = none ∧ DoorsAt H dd ss ts ng
/-- what a class with doors must have -/
structure DoorC (K : PySem.W.Frag) (C fN fG fI fP fT : Addr) : Prop where
  cls : Cls K C
  nD : NoAttr K C "_doors"
  mN : Meth K C "needs" fN
  mG : Meth K C "gives" fG
  gi : ItemC K C "__getitem__" fI
  pi : ItemC K C "__setitem__" fP
  it : PySem.W.findIn K (.ref C) "__iter__" = some (some (.ref fT))
  itf : PySem.W.isFn K (.ref fT) = true
theorem DoorsAt.keepT {H H' : Hp} {dd : Addr} {ss : List Str} {ts : List Addr} {ng : List (List Str × List Str)} (D : DoorsAt H dd ss ts ng) (d : H' dd = some (.dK (dP ss ts))) (k : ∀ b xs, H b = some (.tup xs) → H' b = some (.tup xs)) : DoorsAt H' dd ss ts ng :=
  ⟨d, D.len, D.nd, D.ln, fun i t p h1 h2 => let ⟨n, g, q1, q2, q3⟩ := D.at_ i t p h1 h2; ⟨n, g, k _ _ q1, k _ _ q2, k _ _ q3⟩⟩
theorem DoorAt.keepL {H H' : Hp} {a C : Addr} {ss : List Str} {ng : List (List Str × List Str)} (h : DoorAt H a C ss ng) (s : ∀ b o, H b = some o → (∀ xs, o ≠ .lst xs) → H' b = some o) : DoorAt H' a C ss ng := by
  obtain ⟨dx, fs, dd, ts, ha, l1, l2, l3, D⟩ := h
  exact ⟨dx, fs, dd, ts, s _ _ ha (fun xs e => by cases e), l1, l2, l3, D.keepT (s _ _ D.d (fun xs e => by cases e)) fun b xs e => s _ _ e (fun xs e => by cases e)⟩
theorem DoorAt.keep {H H' : Hp} {a C : Addr} {ss : List Str} {ng : List (List Str × List Str)} (h : DoorAt H a C ss ng) (s : Same H H') : DoorAt H' a C ss ng := h.keepL fun b o e _ => s b o e
theorem dP_put : ∀ {ss : List Str} {ts : List Addr} {i : Nat} {s : Str} {t : Addr}, ss.Nodup → ss.length = ts.length → ss[i]? = some s → putK (dP ss ts) (Sum.inr s : Key) (.ref t) = dP ss (ts.set i t)
  | [], _, _, _, _, _, _, h => by simp at h
  | _ :: _, [], _, _, _, _, h, _ => by simp at h
  | a :: r, b :: ts, i, s, t, nd, hl, h => by
    have n2 := List.nodup_cons.mp nd
    have any : ((dP (a :: r) (b :: ts)).any fun kv => decide (kv.1 = (Sum.inr s : Key))) = true := by
      rw [valV_any, dP_is nd hl]
      exact decide_eq_true (List.mem_of_getElem? h)
    have step : ∀ {i : Nat} {s : Str}, r[i]? = some s → ((dP r ts).map fun kv => if kv.1 = (Sum.inr s : Key) then (kv.1, V.ref t) else kv) = dP r (ts.set i t) := fun {i s} hi => by
      have q := dP_put (t := t) n2.2 (by simpa using hl) hi
      unfold putK at q
      rw [if_pos (by rw [valV_any, dP_is n2.2 (by simpa using hl)]; exact decide_eq_true (List.mem_of_getElem? hi))] at q
      exact q
    unfold putK
    rw [if_pos any, dP_cons, List.map_cons]
    match i, h with
    | 0, h =>
      have e : a = s := Option.some.inj h
      subst e
      rw [if_pos rfl, List.set_cons_zero, dP_cons]
      congr 1
      have same : ∀ kv ∈ dP r ts, (if kv.1 = (Sum.inr a : Key) then (kv.1, V.ref t) else kv) = kv := fun kv hk => by
        obtain ⟨j, hj⟩ := List.mem_iff_getElem?.mp hk
        obtain ⟨z, e, hz, _, e1, e2⟩ := dP_key (k := kv.1) (v := kv.2) (by simpa using hl) hj
        rw [if_neg]
        rw [e1]
        intro q
        injection q with q
        rw [q] at hz
        exact n2.1 (List.mem_of_getElem? hz)
      rw [List.map_congr_left same, List.map_id']
    | i + 1, h =>
      have hi : r[i]? = some s := by simpa using h
      have na : ¬ (Sum.inr a : Key) = Sum.inr s := fun q => by
        injection q with q
        rw [q] at n2
        exact n2.1 (List.mem_of_getElem? hi)
      rw [if_neg na, List.set_cons_succ, dP_cons, step hi]
/-- the doors, perhaps locked -/
structure DoorsRd (H : Hp) (dd : Addr) (ss : List Str) (ts : List Addr) (ng : List (List Str × List Str)) : Prop where
  d : Rd H dd (.dK (dP ss ts))
  len : ss.length = ts.length
  nd : ss.Nodup
  ln : ng.length = ss.length
  at_ : ∀ (i : Nat) (t : Addr) (p : List Str × List Str), ts[i]? = some t → ng[i]? = some p → ∃ n g, H t = some (.tup [.ref n, .ref g]) ∧ H n = some (.tup (p.1.map V.str)) ∧ H g = some (.tup (p.2.map V.str))
def DoorRd (H : Hp) (a C : Addr) (ss : List Str) (ng : List (List Str × List Str)) : Prop := ∃ dx fs dd ts, H a = some (.ins C dx fs) ∧ fs.lookup ("_doors" : Str) = some (.ref dd) ∧ DoorsRd H dd ss ts ng
theorem DoorAt.rd {H : Hp} {a C : Addr} {ss : List Str} {ng : List (List Str × List Str)} (h : DoorAt H a C ss ng) : DoorRd H a C ss ng := let ⟨dx, fs, dd, ts, h1, h2, _, _, D⟩ := h; ⟨dx, fs, dd, ts, h1, h2, ⟨.of D.d, D.len, D.nd, D.ln, D.at_⟩⟩
def spDGet (K : PySem.W.Frag) (CU : Addr) : Sp := fun vs H Q E => ∃ (a C : Addr) (ss : List Str) (ng : List (List Str × List Str)) (z : Str), vs = [.ref a, .str z] ∧ Cls K C ∧ NoAttr K C "_doors" ∧ DoorRd H a C ss ng ∧ z.length ≤ 100 ∧
  (z ∉ ss → Raised CU [.str z] fsUnknown H E) ∧ (∀ (i : Nat) (p : List Str × List Str) (t n g : Addr), ss[i]? = some z → ng[i]? = some p → H t = some (.tup [.ref n, .ref g]) → H n = some (.tup (p.1.map V.str)) → H g = some (.tup (p.2.map V.str)) → Q (.ref t) H)
def spDPut (K : PySem.W.Frag) (CU : Addr) : Sp := fun vs H Q E => ∃ (a C dx : Addr) (fs : List (Str × V)) (dd : Addr) (ts : List Addr) (ss : List Str) (ng : List (List Str × List Str)) (z : Str) (w n g : Addr) (ns gs : List Str), vs = [.ref a, .str z, .ref w] ∧ Cls K C ∧ NoAttr K C "_doors" ∧
  H a = some (.ins C dx fs) ∧ fs.lookup ("_doors" : Str) = some (.ref dd) ∧ DoorsAt H dd ss ts ng ∧ z.length ≤ 100 ∧ H w = some (.tup [.ref n, .ref g]) ∧ TxS K H n ns ∧ TxS K H g gs ∧ ns.length ≤ 1000 ∧ gs.length ≤ 1000 ∧ ss.length ≤ 1000 ∧
  (z ∉ ss → Raised CU [.str z] fsUnknown H E) ∧ (∀ i : Nat, ss[i]? = some z → ∀ (ts' : List Addr) (H' : Hp), Gro dd H H' → DoorsAt H' dd ss ts' (ng.set i (onceS ns, onceS gs)) → Q .non H')
def spDIter (K : PySem.W.Frag) : Nat → Sp := fun n vs H Q _ => ∃ (a C dx : Addr) (fs : List (Str × V)) (d : Addr) (od : Obj) (m : Nat), vs = [.ref a] ∧ H a = some (.ins C dx fs) ∧ Cls K C ∧ NoAttr K C "_doors" ∧ fs.lookup ("_doors" : Str) = some (.ref d) ∧ Keyed H d od m ∧
  ∀ it, H it = none → n ≤ it → Q (.ref it) (upd H it (KIo d it od m))
section
variable {P : Program} {w : World} {K : PySem.W.Frag} {mg : Str → Option Value} {base : Heap}
theorem scDGet : FnScope ["self", "at"] ["self", "at"] (defScope sDoorsGet) := ⟨rfl, rfl, rfl, by decide +kernel, rfl, by decide +kernel, by decide +kernel⟩
theorem ok_dGet {f CU : Addr} {fd : FuncData} (F : Fun K "__getitem__" "Doors.__getitem__" sDoorsGet f fd) (OU : ErrOk P w K mg base "Unknown" CU 1 okUnknown fsUnknown) : FnOk P w K mg base (L2.CX P w) 3 f fd ["self", "at"] (spDGet K CU) := by
  refine F.okX scDGet (fun vs H Q E h => ?_) (fun cdv A outer s H vs Q E hr h => ?_)
  · obtain ⟨a, C, ss, ng, z, rfl, _⟩ := h
    rfl
  · obtain ⟨a, C, ss, ng, z, rfl, cls, nD, ⟨dx, fs, dd, ts, ha, l1, D⟩, hz, k1, k2⟩ := h
    have hu := hu_of hr
    refine ⟨_, pss_cons (ps_if (pt_cmp (pc_dnotin hu (pv 1) (pe_fld (pv 0) rfl))) (pss_one (ps_raise rfl (takes_of rfl rfl rfl rfl) (pmk_err OU hr rfl (pa_cons (pv 1) pa_nil)))) pss_nil)
      (pss_one (ps_ret (pe_dget hu (pe_fld (pv 0) rfl) (pv 1) (fun _ _ => rfl)))), ?_⟩
    refine ⟨_, rfl, _, rfl, a, C, dx, fs, _, rfl, ha, cls, nD, l1, dd, _, rfl, .inl ⟨_, Sum.inr z, D.d, rfl, rfl⟩, _, rfl, ?_⟩
    rw [dP_is D.nd D.len]
    by_cases hm : z ∈ ss
    · rw [decide_eq_true hm]
      obtain ⟨i, hi⟩ := List.mem_iff_getElem?.mp hm
      have hil : i < ss.length := (List.getElem?_eq_some_iff.mp hi).1
      obtain ⟨t, ht⟩ : ∃ t, ts[i]? = some t := ⟨_, List.getElem?_eq_getElem (by rw [← D.len]; exact hil)⟩
      obtain ⟨p, hp⟩ : ∃ p, ng[i]? = some p := ⟨_, List.getElem?_eq_getElem (by rw [D.ln]; exact hil)⟩
      obtain ⟨n, g, q1, q2, q3⟩ := D.at_ i t p ht hp
      have dg : DGet H dd (.str z) (some (.ref t)) := .inl ⟨_, Sum.inr z, D.d, rfl, (dP_some D.nd hi ht).symm⟩
      exact no rfl ⟨_, rfl, a, C, dx, fs, _, rfl, ha, cls, nD, l1, _, rfl, dd, _, rfl, dg, k2 i p t n g hi hp q1 q2 q3⟩
    · rw [decide_eq_false hm]
      exact yes rfl ⟨_, rfl, err_read rfl (by decide) ⟨z, rfl, hz⟩ (k1 hm)⟩
def nDPut : List Str := ["self", "at", "worth", "needs", "gives"]
theorem scDPut : FnScope nDPut ["self", "at", "worth"] (defScope sDoorsPut) := ⟨rfl, rfl, rfl, by decide +kernel, rfl, by decide +kernel, by decide +kernel⟩
theorem ok_dPut {f fX CU : Addr} {fd fdX : FuncData} (F : Fun K "__setitem__" "Doors.__setitem__" sDoorsPut f fd) (OU : ErrOk P w K mg base "Unknown" CU 1 okUnknown fsUnknown)
    (GX : FnOk P w K mg base CX0 1 fX fdX ["names"] (spDistinct K)) (gX : mg "distinct" = some (.ref fX)) (kX : PySem.W.keepIn K (.ref fX) = true) (bX : Binds K fdX ["names"] []) : FnOk P w K mg base (L2.CX P w) 3 f fd ["self", "at", "worth"] (spDPut K CU) := by
  refine F.okX scDPut (fun vs H Q E h => ?_) (fun cdv A outer s H vs Q E hr h => ?_)
  · obtain ⟨a, C, dx, fs, dd, ts, ss, ng, z, w', n, g, ns, gs, rfl, _⟩ := h
    rfl
  · obtain ⟨a, C, dx, fs, dd, ts, ss, ng, z, w', n, g, ns, gs, rfl, cls, nD, ha, l1, D, hz, hw, hn, hg, nl, gl, sl, k1, k2⟩ := h
    have hu := hu_of hr
    have r1 : Room 1 _ := hr.mono (by decide)
    refine ⟨_, pss_cons (ps_if (pt_cmp (pc_dnotin hu (pv 1) (pe_fld (pv 0) rfl))) (pss_one (ps_raise rfl (takes_of rfl rfl rfl rfl) (pmk_err OU hr rfl (pa_cons (pv 1) pa_nil)))) pss_nil)
      (pss_cons (ps_asg (pv 2) (pg_tup (by rfl) (pgs_cons (pg_name (i := 3) scDPut.nd rfl (Or.inl rfl)) (pgs_cons (pg_name (i := 4) scDPut.nd rfl (Or.inl rfl)) pgs_nil))))
      (pss_one (ps_dput hu (pe_fld (pv 0) rfl) (pv 1) (pe_tup (pa_cons (pe_call GX r1 rfl gX kX bX .nil pass0 (pa_cons (pv 3) pa_nil)) (pa_cons (pe_call GX r1 rfl gX kX bX .nil pass0 (pa_cons (pv 4) pa_nil)) pa_nil))) rfl))), ?_⟩
    refine ⟨_, rfl, _, rfl, a, C, dx, fs, _, rfl, ha, cls, nD, l1, dd, _, rfl, DGet.k (k := Sum.inr z) D.d, _, rfl, ?_⟩
    rw [dP_is D.nd D.len]
    by_cases hm : z ∈ ss
    · rw [decide_eq_true hm]
      obtain ⟨i, hi⟩ := List.mem_iff_getElem?.mp hm
      refine no rfl ⟨_, rfl, w', _, rfl, SqT.of hw, rfl, _, _, rfl, _, _, rfl, rfl, ?_⟩
      refine ⟨_, rfl, n, ns, rfl, hn, nl, fun q1 H1 s1 f1 e1 => ⟨_, rfl, g, gs, rfl, hg.keep s1, gl, fun q2 H2 s2 f2 e2 => ⟨(by show 2 ≤ sizeLine; decide), fun t ht => ?_⟩⟩⟩
      have s3 : Same H2 (upd H2 t (.tup [.ref q1, .ref q2])) := fun b o q => by rw [upd_ne (ne_of_none q ht)]; exact q
      have e3 : upd H2 t (.tup [.ref q1, .ref q2]) t = some (.tup [.ref q1, .ref q2]) := upd_same
      generalize upd H2 t (.tup [.ref q1, .ref q2]) = H3 at s3 e3
      have s4 : Same H H3 := (s1.trans s2).trans s3
      refine ⟨_, rfl, a, C, dx, fs, _, rfl, s4 _ _ ha, cls, nD, l1, _, rfl, dd, _, rfl, DPut.k (k := Sum.inr z) (s4 _ _ D.d) (small1000 (by rw [dP_len D.len]; exact sl)), ?_⟩
      rw [dP_put D.nd D.len hi]
      have off : ∀ b o, H b = some o → (∀ kvs, o ≠ .dK kvs) → upd H3 dd (.dK (dP ss (ts.set i t))) b = some o := fun b o q nk => by
        rw [upd_ne]
        · exact s4 _ _ q
        · rintro rfl
          rw [D.d] at q
          exact nk _ (Option.some.inj q).symm
      have off3 : ∀ b o, H3 b = some o → (∀ kvs, o ≠ .dK kvs) → upd H3 dd (.dK (dP ss (ts.set i t))) b = some o := fun b o q nk => by
        rw [upd_ne]
        · exact q
        · rintro rfl
          rw [s4 _ _ D.d] at q
          exact nk _ (Option.some.inj q).symm
      refine k2 i hi _ _ (fun b o q n => by rw [upd_ne n]; exact s4 _ _ q) ⟨upd_same, by rw [List.length_set]; exact D.len, D.nd, by rw [List.length_set]; exact D.ln, fun j c p h1 h2 => ?_⟩
      have tk : ∀ b xs, H3 b = some (.tup xs) → upd H3 dd (.dK (dP ss (ts.set i t))) b = some (.tup xs) := fun b xs q => off3 _ _ q (fun kvs e => by cases e)
      by_cases hj : i = j
      · subst hj
        rw [List.getElem?_set_self' ] at h1 h2
        obtain ⟨t0, h0, rfl⟩ := Option.map_eq_some_iff.mp h1
        obtain ⟨p0, g0, rfl⟩ := Option.map_eq_some_iff.mp h2
        exact ⟨q1, q2, tk _ _ e3, tk _ _ (s3 _ _ (s2 _ _ e1)), tk _ _ (s3 _ _ e2)⟩
      · rw [List.getElem?_set_ne hj] at h1 h2
        obtain ⟨n', g', a1, a2, a3⟩ := D.at_ j c p h1 h2
        exact ⟨n', g', tk _ _ (s4 _ _ a1), tk _ _ (s4 _ _ a2), tk _ _ (s4 _ _ a3)⟩
    · rw [decide_eq_false hm]
      exact yes rfl ⟨_, rfl, err_read rfl (by decide) ⟨z, rfl, hz⟩ (k1 hm)⟩
theorem scDIter : FnScope ["self"] ["self"] (defScope sDoorsIter) := ⟨rfl, rfl, rfl, by decide +kernel, rfl, by decide +kernel, by decide +kernel⟩
theorem ok_dIter {f : Addr} {fd : FuncData} (F : Fun K "__iter__" "Doors.__iter__" sDoorsIter f fd) (hI : mg "iter" = none) : FnN P w K mg base 1 f fd ["self"] (spDIter K) := by
  refine fun_N F scDIter (fun n vs H Q E h => ?_) (fun cdv A outer s H vs Q E hr h => ?_)
  · obtain ⟨a, C, dx, fs, d, od, m, rfl, _⟩ := h
    rfl
  · obtain ⟨a, C, dx, fs, d, od, m, rfl, ha, cls, nD, l1, kd, k⟩ := h
    refine ⟨_, pss_one (ps_ret (pe_callB call_iterK (by rfl) hI (by decide +kernel) (pa_cons (pe_fld (pv 0) rfl) pa_nil))), ?_⟩
    exact ⟨_, rfl, a, C, dx, fs, _, rfl, ha, cls, nD, l1, d, od, m, rfl, kd, fun it h1 h2 => k it h1 h2⟩
end
end Yd
namespace Yd
open PySem L2
/-! ### return super().m() + e, in a def of an own class -/
/-- the method m of the classes behind D, for an object of the class at C -/
structure SupM (K : PySem.W.Frag) (C D : Addr) (m : Str) (g : Addr) : Prop where
  over : PySem.W.ks_superIn K C D m = some (some (.ref g))
  ty : PySem.W.typeIn K (.ref g) = some (.type "function")
  fi : PySem.W.fnIn K g = true
  mro : PySem.W.mroIn K C (.ref D) = some true
section
open PySem.W PySem.Calls
variable {X : Cx} {pins : List (Addr × Obj)} {σ : St} {H : Hp} {s : Shared} {a C D f cc cda : Addr}
theorem sup_ret {qual : Str} {scope : Scope} {L : Addr} {fd : FuncData} {of oc : Obj} {ar : Arg} {vs : Array Value} {file : Str} {tf : Tok} {body : List Stmt} {p0 p1 p2 p3 p4 p5 : Pos} {ocl : Obj} {e : Expr} {te : TE} {Q : VK} {pl : Sem Bool} {m : Str} {g dx : Addr} {gd : FuncData} {fs : List (Str × V)} {k : Nat} {sp : Sp}
    (I : Inv X pins σ H s) (hE : X.env = envX qual scope L f (.ref cda) [("__class__", cc)]) (hks : scope.names.lookup ("super" : Str) = some .globalImplicit) (hkc : scope.names.lookup ("__class__" : Str) = some .free)
    (hf : X.K.lookup f = some of) (hfd : of.data = .func fd) (hp : (fd.params.posonlyargs ++ fd.params.args).head? = some ar) (hself : X.N[0]? = some ar.arg) (hloc : scope.names.lookup ar.arg = some .local)
    (hv : σ[0]? = some (some (.ref a))) (hco : X.K.lookup cda = some oc) (hoc : oc.data = .fields vs) (hvs : vs[2]? = some (.str file tf)) (hfile : ((X.prog.main.file : Str) == file) = true)
    (htop : (X.prog.main.scope.names.lookup ("super" : Str)).isSome = false) (hmg : X.mg "super" = none) (hcell : X.K.lookup cc = some ocl) (hcd : ocl.data = .cell (some (.ref D))) (hD : ∃ cdD, clsIn X.K D = some cdD)
    (hany : nsIn X.K cStatics "thirdparty.any" = some none) (S : SupM X.K C D m g) (F2 : FnOk X.prog X.w X.K X.mg X.base CX0 k g gd ["self"] sp) (hr : Room k X.A) (hb2 : Binds X.K gd ["self"] []) (hm : (m == ("__class__" : Str)) = false)
    (he : PE X e te) (ha : H a = some (.ins C dx fs)) (hq : sp [.ref a] H (fun x H1 => te σ H1 fun y H2 => ∃ i j, x = .str i ∧ y = .str j ∧ i.length + j.length ≤ sizeLine ∧ Q (.str (i ++ j)) H2) E0)
    (hc : eval (.Call (.Attribute (.Call (.Name "super" p0) [] [] p1) m p2) [] [] p3) X.env = (do
      let ov ← attributeBase (.Call (.Name "super" p0) [] [] p1) m X.env (eval (.Call (.Name "super" p0) [] [] p1) X.env)
      standAt p2.atName
      let (f, first) ← holding [ov] (getMethod ov m pl)
      callWith p3 f first (backTo p3 (starEach [] X.env)) []) := by rfl) :
    PySem.wpAt (model X.prog X.w) X.A (.func body X.env) (exec (.Return (some (.BinOp (.Call (.Attribute (.Call (.Name "super" p0) [] [] p1) m p2) [] [] p3) .Add e p4)) p5) X.env)
      (fun fl s' => ∃ u v H', fl = .ret u ∧ Inv X pins σ H' s' ∧ RelV v u ∧ Q v H') X.xe s := by
  obtain ⟨mA, O, _⟩ := ins_get I.hok ha
  obtain ⟨oa, J, _⟩ := O.look
  refine ks_wpAt_Return_some (ks_wpAt_BinOp (ks_wpAt_MethodCall ?_ hc))
  refine ks_wpAt_mono (sup_base I hE hks hkc hm hf hfd hp hself hloc hv hco hoc hvs hfile htop hmg hcell hcd hD J S.mro) (fun v s1 hh => ?_) fun _ _ z => z
  obtain ⟨so, rfl, hso, k1, I1⟩ := hh
  obtain ⟨mA1, O1, _⟩ := ins_get I1.hok ha
  obtain ⟨oa1, J1, _⟩ := O1.look
  have KI := I1.kIn
  obtain ⟨cd, hcdC, hal⟩ : ∃ cd, clsIn X.K C = some cd ∧ alongIn X.K m ((cd.mro.dropWhile (· != .ref D)).drop 1) = some (some (.ref g)) := by
    have z := S.over
    unfold ks_superIn at z
    cases q : clsIn X.K C with
    | none => rw [q] at z; cases z
    | some cd => rw [q] at z; exact ⟨cd, rfl, z⟩
  obtain ⟨og, hog, hogc⟩ : ∃ og, X.K.lookup g = some og ∧ og.cls = .type "function" := by
    have z : (X.K.lookup g).map (·.cls) = some (.type "function") := S.ty
    cases q : X.K.lookup g with
    | none => rw [q] at z; cases z
    | some og => rw [q] at z; exact ⟨og, rfl, Option.some.inj z⟩
  have hmro : Looks (model X.prog X.w) s1.heap (mroOf (.ref C)) cd.mro := fun A' Q' E' s' k q => wpAny_bind ((looks_clsIn KI hcdC) A' _ E' s' k (wpAny_pure q))
  have hne : a ≠ C := ks_ne KI J1 hcdC
  obtain ⟨hp1, gg, d, t, os⟩ := s1
  refine ks_wpAny_getMethod_super hso (looks_opaque KI hany) hmro rfl KI hal (KI _ _ hog) hogc hne hm ?_
  have I2 : Inv X pins σ H ⟨hp1.push (methodObj (.ref g) (.ref a)), gg, d, t + 1, os⟩ := I1.kept (t' := t + 1) fun b o q => Heap.get?_push_of_some _ q
  have hq1 : (hp1.push (methodObj (.ref g) (.ref a))).get? hp1.objs.size = some (methodObj (.ref g) (.ref a)) := Heap.get?_push_at rfl rfl
  refine callWith_M0 (first := []) (self := .ref a) (g := g) ⟨hq1, I2.kIn⟩ S.fi ?_
  have b1 := hb2 ⟨hp1.push (methodObj (.ref g) (.ref a)), gg, d, t + 1, os⟩ [.ref a] I2.kIn rfl
  refine wpAny_call (ks_codeAny_call_bound hq1 (codeAny_mono (F2.run X.A X.stack _ H ⟨[.ref a], []⟩ [.ref a] [.ref a] _ E0 hr I2.env0 b1 (Paired.cons (a := V.ref a) rfl .nil) hq) fun r s' hh => ?_))
  match r, hh with
  | .ok (.ret u), hh =>
    obtain ⟨x, H1, I3, rx, q1⟩ := I2.after hh
    refine thn (he.run pins s' σ H1 _ I3 q1) fun u2 s2 ⟨y, H2, I4, ry, q2⟩ => ?_
    exact thn (op_add_str pins s2 σ H2 x y u u2 Q I4 rx ry q2) fun u3 s3 ⟨v3, H3, I5, r3, q3⟩ => ⟨u3, v3, H3, rfl, I5, r3, q3⟩
/-- THE RULE for a def that is that one return -/
theorem fn_supRet {P : Program} {w : World} {K : Frag} {mg : Str → Option Value} {base : Heap} {x qual : Str} {st : Stmt} {fd : FuncData} {N ps : List Str} {k : Nat} {sp : Sp} {ar : Arg} {e : Expr} {p0 p1 p2 p3 p4 p5 : Pos} {pl : Sem Bool} {m : Str} {g : Addr} {gd : FuncData} {sp2 : Sp}
    (F : SupFn P K mg x qual st f D cc fd) (S : SupScope N ps (defScope st)) (hp : ((defArgs st).posonlyargs ++ (defArgs st).args).head? = some ar) (hself : N[0]? = some ar.arg) (hloc : (defScope st).names.lookup ar.arg = some .local)
    (hb : defBody st = [.Return (some (.BinOp (.Call (.Attribute (.Call (.Name "super" p0) [] [] p1) m p2) [] [] p3) .Add e p4)) p5]) (len : ∀ vs H Q E, sp vs H Q E → vs.length = ps.length) (hm : (m == ("__class__" : Str)) = false)
    (hc : ∀ env, eval (.Call (.Attribute (.Call (.Name "super" p0) [] [] p1) m p2) [] [] p3) env = (do
      let ov ← attributeBase (.Call (.Name "super" p0) [] [] p1) m env (eval (.Call (.Name "super" p0) [] [] p1) env)
      standAt p2.atName
      let (f, first) ← holding [ov] (getMethod ov m pl)
      callWith p3 f first (backTo p3 (starEach [] env)) []))
    (F2 : FnOk P w K mg base CX0 k g gd ["self"] sp2) (hb2 : Binds K gd ["self"] [])
    (hbody : ∀ (Fn : NdefX.NF) (A : Around) (outer : List Env) (s : Shared) (H : Hp) (vs : List V) (Q : VK) (E : XK), Fn.scope = defScope st → Fn.cl = [(("__class__" : Str), cc)] → sp vs H Q E →
      ∃ te a C dx fs, PE (NdefX.ncx CX0 P w K mg base N Fn f A outer s H E) e te ∧ vs[0]? = some (.ref a) ∧ SupM K C D m g ∧ H a = some (.ins C dx fs) ∧
        sp2 [.ref a] H (fun x H1 => te (NdefX.startF N vs [some (.ref D)]) H1 fun y H2 => ∃ i j, x = .str i ∧ y = .str j ∧ i.length + j.length ≤ sizeLine ∧ Q (.str (i ++ j)) H2) E0) :
    FnOk P w K mg base CX0 (k + 1) f fd ps sp := by
  obtain ⟨oc, od, kV, doc, pm, an, cda, ct, osl, ccl, cdd, vsC, ccs, file, tf, rfl, lk, hcd, lkC, hvs, hfile⟩ := F.fn
  obtain ⟨cl, cld, csl, lkc⟩ := F.cell
  refine ⟨len, fun A outer s H args us vs Q E hr e0 hb' r hsp => ?_⟩
  have hl := len _ _ _ _ hsp
  have inK : ∀ {b o}, K.lookup b = some o → s.heap.get? b = some o ∧ H b = none := fun {b o} z => e0.bs b o (e0.mod.kin b o z)
  have KX : K.In s.heap := fun b o z => (inK z).1
  have lim : s.heap.NoLimit := e0.mod.nolimit.keeps fun b o z => (e0.bs b o z).1
  refine ks_codeAny_call_defAt (fd := fnX x qual (defArgs st) (defBody st) (defScope st) [("__class__", cc)] .none kV doc pm an (.ref cda) ct) (body := defBody st) (binds := ps.zip us) hr.depth (inK lk).1 rfl lim (codeRec_of KX hcd) rfl hb' S.ns.nocell
    (fun y hy => S.ns.par _ (List.of_mem_zip hy).1) (fun h₁ hns kp => ?_) S.ns.co S.ns.gen S.ns.kind
  let Fn : NdefX.NF := ⟨x, qual, defArgs st, defBody st, defScope st, [(("__class__" : Str), cc)], cda⟩
  have C1 : NdefX.CellsAt Fn.cl ["__class__"] [some (.ref D)] s.heap H := by
    have one : ∀ y c, List.lookup y [(("__class__" : Str), cc)] = some c → y = "__class__" ∧ c = cc := fun y c z => by
      by_cases hy : y = "__class__"
      · subst hy
        refine ⟨rfl, ?_⟩
        simp [List.lookup] at z
        exact z.symm
      · have q : (y == ("__class__" : Str)) = false := by simpa using hy
        simp [List.lookup, q] at z
    refine ⟨rfl, fun y c z => ?_, fun y z c h1 h2 => (one y c h1).1.trans (one z c h2).1.symm, fun i y hy => ?_⟩
    · obtain ⟨_, rfl⟩ := one y c z
      exact ⟨(inK lkc).2, _, _, (inK lkc).1, rfl⟩
    · match i, hy with
      | 0, hy =>
        have ey : ("__class__" : Str) = y := Option.some.inj hy
        subst ey
        refine ⟨cc, by show List.lookup _ [(("__class__" : Str), cc)] = _; simp [List.lookup], fun v hv => ?_⟩
        have ev : V.ref D = v := Option.some.inj (Option.some.inj hv)
        subst ev
        exact ⟨_, rfl, _, (inK lkc).1, rfl⟩
      | i + 1, hy => simp at hy
  have I : Inv (NdefX.ncx CX0 P w K mg base N Fn f A outer s H E) [] (NdefX.startF N vs [some (.ref D)]) H { s with heap := h₁, toks := s.toks + (ps.zip us).length } := NdefX.inv_startN S.ns hr.hd e0 hl r C1 hns kp
  obtain ⟨te, a, C, dx, fs, pe, hv0, hS, ha, hq⟩ := hbody Fn A outer s H vs Q E rfl rfl hsp
  have hσ : (NdefX.startF N vs [some (.ref D)])[0]? = some (some (.ref a)) := by
    unfold NdefX.startF
    have h0 : 0 < vs.length := (List.getElem?_eq_some_iff.mp hv0).1
    rw [List.getElem?_append_left (by rw [List.length_map]; exact h0), List.getElem?_map, hv0]
    rfl
  rw [hb]
  refine ks_wpAt_execs_cons (ks_wpAt_mono (sup_ret (X := NdefX.ncx CX0 P w K mg base N Fn f A outer s H E) (qual := qual) (scope := defScope st) (L := s.heap.objs.size) I rfl S.sup (S.ns.frk _ (List.mem_singleton.mpr rfl)) lk rfl hp hself hloc hσ lkC rfl hvs hfile F.top F.sup lkc rfl F.cd F.any hS F2 (hr.deeper _) hb2 hm pe ha hq (hc _)) (fun fl s' hh => ?_) fun _ _ z => z)
  obtain ⟨u, v, H', rfl, J, rv, q⟩ := hh
  exact ⟨v, H', J.os, J.bare, J.base, J.hok, rv, q⟩
end
end Yd
namespace Yd
open PySem L2
/-! ### a part in the heap -/
structure PA (H : Hp) (a C dx : Addr) (nm : Str) (ds dd : Addr) (ss : List Str) (es ts : List Addr) (R : Str → Str → Bool) (m : Nat) (ng : List (List Str × List Str)) : Prop where
  at_ : H a = some (.ins C dx (fsPart nm ds dd))
  S : StepsAt H ds ss es R m
  D : DoorsAt H dd ss ts ng
  n1 : dd ≠ ds
  n2 : dd ∉ es
theorem fs_look (nm : Str) (ds dd : Addr) (f : Str) : (fsPart nm ds dd).lookup f = if f = "name" then some (.str nm) else if f = "_doors" then some (.ref dd) else if f = "_steps" then some (.ref ds) else none := by
  unfold fsPart
  rw [lookup_putF, lookup_putF, lookup_putF]
  rfl
theorem fs_steps (nm : Str) (ds dd : Addr) : (fsPart nm ds dd).lookup ("_steps" : Str) = some (.ref ds) := by rw [fs_look, if_neg (by decide +kernel), if_neg (by decide +kernel), if_pos rfl]
theorem fs_doors (nm : Str) (ds dd : Addr) : (fsPart nm ds dd).lookup ("_doors" : Str) = some (.ref dd) := by rw [fs_look, if_neg (by decide +kernel), if_pos rfl]
theorem fs_name (nm : Str) (ds dd : Addr) : (fsPart nm ds dd).lookup ("name" : Str) = some (.str nm) := by rw [fs_look, if_pos rfl]
theorem fs_no (nm : Str) (ds dd : Addr) {f : Str} (h1 : f ≠ "name") (h2 : f ≠ "_doors") (h3 : f ≠ "_steps") : (fsPart nm ds dd).lookup f = none := by rw [fs_look, if_neg h1, if_neg h2, if_neg h3]
section
variable {H H' : Hp} {a C dx : Addr} {nm : Str} {ds dd : Addr} {ss : List Str} {es ts : List Addr} {R : Str → Str → Bool} {m : Nat} {ng : List (List Str × List Str)}
theorem PA.kind (p : PA H a C dx nm ds dd ss es ts R m ng) : KindAt H a C ss R m := ⟨dx, _, ds, es, p.at_, fs_steps _ _ _, fs_no _ _ _ (by decide +kernel) (by decide +kernel) (by decide +kernel), fs_no _ _ _ (by decide +kernel) (by decide +kernel) (by decide +kernel), fs_no _ _ _ (by decide +kernel) (by decide +kernel) (by decide +kernel), p.S⟩
theorem PA.door (p : PA H a C dx nm ds dd ss es ts R m ng) : DoorAt H a C ss ng := ⟨dx, _, dd, ts, p.at_, fs_doors _ _ _, fs_no _ _ _ (by decide +kernel) (by decide +kernel) (by decide +kernel), fs_no _ _ _ (by decide +kernel) (by decide +kernel) (by decide +kernel), p.D⟩
/-- lists and others may change, these stay -/
theorem PA.keepL (p : PA H a C dx nm ds dd ss es ts R m ng) (s : ∀ b o, H b = some o → (∀ xs, o ≠ .lst xs) → H' b = some o) : PA H' a C dx nm ds dd ss es ts R m ng :=
  ⟨s _ _ p.at_ (fun xs e => by cases e), p.S.keep fun b kvs e => s _ _ e (fun xs e => by cases e), p.D.keepT (s _ _ p.D.d (fun xs e => by cases e)) fun b xs e => s _ _ e (fun xs e => by cases e), p.n1, p.n2⟩
theorem PA.keep (p : PA H a C dx nm ds dd ss es ts R m ng) (s : Same H H') : PA H' a C dx nm ds dd ss es ts R m ng := p.keepL fun b o e _ => s b o e
theorem PA.tracked (p : PA H a C dx nm ds dd ss es ts R m ng) : (∃ o, H ds = some o) ∧ (∃ o, H dd = some o) ∧ ∀ e ∈ es, ∃ o, H e = some o := by
  refine ⟨⟨_, p.S.d⟩, ⟨_, p.D.d⟩, fun e he => ?_⟩
  obtain ⟨i, hi⟩ := List.mem_iff_getElem?.mp he
  have hil : i < ss.length := by rw [p.S.len]; exact (List.getElem?_eq_some_iff.mp hi).1
  obtain ⟨kvs, h, _⟩ := p.S.at_ i e _ hi (List.getElem?_eq_getElem hil)
  exact ⟨_, h⟩
/-- a dict of another one changes -/
theorem PA.off {q : Addr} (p : PA H a C dx nm ds dd ss es ts R m ng) (g : Gro q H H') (hq : ∃ kvs, H q = some (.dK kvs)) (m1 : q ≠ ds) (m2 : q ≠ dd) (m3 : q ∉ es) : PA H' a C dx nm ds dd ss es ts R m ng := by
  obtain ⟨kq, hq⟩ := hq
  have tk : ∀ b xs, H b = some (.tup xs) → H' b = some (.tup xs) := fun b xs e => g _ _ e (ne_of e hq (by intro z; cases z))
  refine ⟨g _ _ p.at_ (ne_of p.at_ hq (by intro z; cases z)), ⟨g _ _ p.S.d m1.symm, p.S.len, p.S.nd, p.S.ed, p.S.no, fun i e s h1 h2 => ?_⟩, p.D.keepT (g _ _ p.D.d m2.symm) tk, p.n1, p.n2⟩
  obtain ⟨kvs, h, r⟩ := p.S.at_ i e s h1 h2
  exact ⟨kvs, g _ _ h (by rintro rfl; exact m3 (List.mem_of_getElem? h1)), r⟩
/-- its doors are set anew -/
theorem PA.put {ts' : List Addr} {ng' : List (List Str × List Str)} (p : PA H a C dx nm ds dd ss es ts R m ng) (g : Gro dd H H') (D : DoorsAt H' dd ss ts' ng') : PA H' a C dx nm ds dd ss es ts' R m ng' := by
  refine ⟨g _ _ p.at_ (ne_of p.at_ p.D.d (by intro z; cases z)), ⟨g _ _ p.S.d p.n1.symm, p.S.len, p.S.nd, p.S.ed, p.S.no, fun i e s h1 h2 => ?_⟩, D, p.n1, p.n2⟩
  obtain ⟨kvs, h, r⟩ := p.S.at_ i e s h1 h2
  exact ⟨kvs, g _ _ h (by rintro rfl; exact p.n2 (List.mem_of_getElem? h1)), r⟩
/-- a step more -/
theorem PA.step {e : Addr} {R' : Str → Str → Bool} {m' : Nat} (p : PA H a C dx nm ds dd ss es ts R m ng) (he : e ∈ es) (g : Gro e H H') (S : StepsAt H' ds ss es R' m') : PA H' a C dx nm ds dd ss es ts R' m' ng := by
  obtain ⟨i, hi⟩ := List.mem_iff_getElem?.mp he
  have hil : i < ss.length := by rw [p.S.len]; exact (List.getElem?_eq_some_iff.mp hi).1
  obtain ⟨kvs, h, _⟩ := p.S.at_ i e _ hi (List.getElem?_eq_getElem hil)
  refine ⟨g _ _ p.at_ (ne_of p.at_ h (by intro z; cases z)), S, p.D.keepT (g _ _ p.D.d (by rintro rfl; exact p.n2 he)) fun b xs q => g _ _ q (ne_of q h (by intro z; cases z)), p.n1, p.n2⟩
end
/-- the dicts that belong to the part alone -/
def Own (b ds dd : Addr) (es : List Addr) : Prop := b = dd ∨ b ∈ es
/-- a part that is new has dicts of its own -/
theorem pa_new {H : Hp} {a C dx : Addr} {nm : Str} {ds dd : Addr} {ss : List Str} {es ts : List Addr} (h : H a = some (.ins C dx (fsPart nm ds dd))) (S : StepsAt H ds ss es (fun _ _ => false) 0) (D : DoorsAt H dd ss ts (ss.map fun _ => ([], []))) (h0 : 0 < ss.length) :
    PA H a C dx nm ds dd ss es ts (fun _ _ => false) 0 (ss.map fun _ => ([], [])) := by
  obtain ⟨s, hs⟩ : ∃ s, ss[0]? = some s := ⟨_, List.getElem?_eq_getElem h0⟩
  obtain ⟨e, he⟩ : ∃ e, es[0]? = some e := ⟨_, List.getElem?_eq_getElem (by rw [← S.len]; exact h0)⟩
  obtain ⟨t, ht⟩ : ∃ t, ts[0]? = some t := ⟨_, List.getElem?_eq_getElem (by rw [← D.len]; exact h0)⟩
  refine ⟨h, S, D, fun q => ?_, fun q => ?_⟩
  · have d1 := S.d
    rw [← q, D.d] at d1
    have z := Option.some.inj d1
    injection z with z
    have v1 := dP_some D.nd hs ht
    rw [z, dP_some S.nd hs he] at v1
    have et : e = t := by injection (Option.some.inj v1)
    subst et
    obtain ⟨n, g, q1, _⟩ := D.at_ 0 e ([], []) ht (by rw [List.getElem?_map, hs]; rfl)
    obtain ⟨kvs, q2, _⟩ := S.at_ 0 e s he hs
    rw [q1] at q2
    cases q2
  · obtain ⟨i, hi⟩ := List.mem_iff_getElem?.mp q
    have hil : i < ss.length := by rw [S.len]; exact (List.getElem?_eq_some_iff.mp hi).1
    obtain ⟨kvs, h1, h2, _⟩ := S.at_ i dd _ hi (List.getElem?_eq_getElem hil)
    rw [D.d] at h1
    have z := Option.some.inj h1
    injection z with z
    have l := dP_len D.len
    rw [z] at l
    omega
/-- the class of a part -/
structure PartK (K : PySem.W.Frag) (C fA fS fF fN fG fI fP fT fR fL : Addr) : Prop where
  pc : PartC K C
  k : KindC K C fA fS fF
  d : DoorC K C fN fG fI fP fT
  mR : Meth K C "row" fR
  mL : Meth K C "_follow" fL
def rowText (nm : Str) (ss : List Str) : Str := nm ++ (": " : Str) ++ Txt.join (", " : Str) ss
theorem join_len (sep : Str) : ∀ ss : List Str, (∀ s ∈ ss, s.length ≤ 100) → (Txt.join sep ss).length ≤ ss.length * (100 + sep.length)
  | [], _ => by
    have e : (Txt.join sep ([] : List Str)).length = 0 := rfl
    rw [e]
    exact Nat.zero_le _
  | [s], h => by
    have e : Txt.join sep [s] = s := by
      show Builtin.Str.glued sep [s] = s
      rw [StrLaws.glued_eq_join]
      rfl
    rw [e]
    have := h s (List.mem_cons_self ..)
    simp
    omega
  | s :: t :: r, h => by
    have e : Txt.join sep (s :: t :: r) = s ++ sep ++ Txt.join sep (t :: r) := by
      show Builtin.Str.glued sep (s :: t :: r) = s ++ sep ++ Builtin.Str.glued sep (t :: r)
      rw [StrLaws.glued_eq_join, StrLaws.glued_eq_join]
      rfl
    have i := join_len sep (t :: r) fun x hx => h x (List.mem_cons_of_mem _ hx)
    have := h s (List.mem_cons_self ..)
    rw [e, len_app, len_app, List.length_cons]
    have q : (t :: r).length * (100 + sep.length) + (100 + sep.length) = ((t :: r).length + 1) * (100 + sep.length) := by rw [Nat.add_mul, Nat.one_mul]
    omega
end Yd
namespace Yd
open PySem L2
/-! ### the rows, the twins -/
theorem passF {X : Cx} : Passes (L2.CX X.prog X.w) X (fun _ _ _ => False) := fun _ _ _ _ _ _ _ ⟨_, _, _, _, _, _, _, _, _, _, _, _, h⟩ => h.elim
theorem same_new {H : Hp} {q : Addr} {o : HO} (n : H q = none) : Same H (upd H q o) := fun b u e => by rw [upd_ne (ne_of_none e n)]; exact e
theorem small20k {n : Nat} (h : n ≤ 20000) : n ≤ sizeLine := Nat.le_trans h (by decide)
theorem empty_app (s : Str) : Str.empty ++ s = s := by
  show Str.mk (#[] ++ s.cps) = s
  rw [Array.empty_append]
theorem once_id {l : List Str} (h : l.Nodup) : onceS l = l := by
  unfold onceS
  suffices q : ∀ (l acc : List Str), (acc ++ l).Nodup → l.foldl addOnce acc = acc ++ l from q l [] (by simpa using h)
  intro l
  induction l with
  | nil => intro acc _; rw [List.append_nil]; rfl
  | cons s l ih =>
    intro acc hn
    have hm : s ∉ acc := fun m => by
      rw [List.nodup_append] at hn
      exact hn.2.2 s m s (List.mem_cons_self ..) rfl
    have e : addOnce acc s = acc ++ [s] := by unfold addOnce; rw [if_neg hm]
    rw [List.foldl_cons, e, ih (acc ++ [s]) (by rw [List.append_assoc]; exact hn), List.append_assoc]
    rfl
def spRow (K : PySem.W.Frag) (fA fS fF : Addr) : Sp := fun vs H Q _ => ∃ (a C dx : Addr) (nm : Str) (ds dd : Addr) (ss : List Str) (es ts : List Addr) (R : Str → Str → Bool) (m : Nat) (ng : List (List Str × List Str)), vs = [.ref a] ∧ PA H a C dx nm ds dd ss es ts R m ng ∧ KindC K C fA fS fF ∧ PartC K C ∧
  ss.length ≤ 100 ∧ (∀ s ∈ ss, s.length ≤ 100) ∧ nm.length ≤ 100 ∧ ∀ H', Same H H' → Q (.str (rowText nm ss)) H'
def spRowX (K : PySem.W.Frag) (C fA fS fF : Addr) (suf : Str) : Sp := fun vs H Q _ => ∃ (a dx : Addr) (nm : Str) (ds dd : Addr) (ss : List Str) (es ts : List Addr) (R : Str → Str → Bool) (m : Nat) (ng : List (List Str × List Str)), vs = [.ref a] ∧ PA H a C dx nm ds dd ss es ts R m ng ∧ KindC K C fA fS fF ∧ PartC K C ∧
  ss.length ≤ 100 ∧ (∀ s ∈ ss, s.length ≤ 100) ∧ nm.length ≤ 100 ∧ ∀ H', Same H H' → Q (.str (rowText nm ss ++ suf)) H'
theorem row_len {nm : Str} {ss : List Str} (h1 : ss.length ≤ 100) (h2 : ∀ s ∈ ss, s.length ≤ 100) (h3 : nm.length ≤ 100) : (Txt.join (", " : Str) ss).length ≤ 10200 ∧ (rowText nm ss).length ≤ 10400 := by
  have e1 : (", " : Str).length = 2 := by decide +kernel
  have e2 : (": " : Str).length = 2 := by decide +kernel
  have q := join_len (", " : Str) ss h2
  rw [e1] at q
  have q2 : ss.length * 102 ≤ 100 * 102 := Nat.mul_le_mul_right _ h1
  refine ⟨by omega, ?_⟩
  unfold rowText
  rw [len_app, len_app, e2]
  omega
section
variable {P : Program} {w : World} {K : PySem.W.Frag} {mg : Str → Option Value} {base : Heap}
theorem scRow : FnScope ["self", "names"] ["self"] (defScope sPartRow) := ⟨rfl, rfl, rfl, by decide +kernel, rfl, by decide +kernel, by decide +kernel⟩
theorem sum_le : ∀ {ss : List Str}, (∀ s ∈ ss, s.length ≤ 100) → (ss.map (·.length)).sum ≤ 100 * ss.length
  | [], _ => Nat.le_refl _
  | s :: ss, h => by
    have := sum_le fun x hx => h x (List.mem_cons_of_mem _ hx)
    have h0 := h s (List.mem_cons_self ..)
    rw [List.map_cons, List.sum_cons, List.length_cons]
    omega
theorem ok_row {f fA fS fF : Addr} {fd fdS : FuncData} (F : Fun K "row" "Part.row" sPartRow f fd) (GS : FnOk P w K mg base CX0 1 fS fdS ["self"] (spStandings K)) (bS : Binds K fdS ["self"] []) : FnOk P w K mg base CX0 2 f fd ["self"] (spRow K fA fS fF) := by
  refine F.ok scRow (fun vs H Q E h => ?_) (fun cdv A outer s H vs Q E hr h => ?_)
  · obtain ⟨a, C, dx, nm, ds, dd, ss, es, ts, R, m, ng, rfl, _⟩ := h
    rfl
  · obtain ⟨a, C, dx, nm, ds, dd, ss, es, ts, R, m, ng, rfl, pa, kc, pc, h1, h2, h3, k⟩ := h
    obtain ⟨jl, rl⟩ := row_len h1 h2 h3
    have e1 : (", " : Str).length = 2 := by decide +kernel
    have e2 : (": " : Str).length = 2 := by decide +kernel
    have e0 : Str.empty.length = 0 := rfl
    refine ⟨_, pss_cons (ps_set (i := 1) scRow.nd rfl (Or.inl rfl) (pe_join pe_str (pe_meth0 (pv 0) kc.cls kc.mS GS hr bS .nil pass0)))
      (pss_one (ps_ret (pe_joined (PJ.cons (pe_fmt (pe_fld (pv 0) rfl)) (PJ.cons pe_str (PJ.cons (pe_fmt (pv 1)) PJ.nil)))))), ?_⟩
    refine ⟨⟨_, rfl⟩, _, rfl, a, dx, _, rfl, pa.at_, fs_no _ _ _ (by decide +kernel) (by decide +kernel) (by decide +kernel), a, C, fA, fS, fF, ss, R, m, rfl, kc, pa.kind, fun q hq => ?_⟩
    have s1 : Same H (upd H q (.tup (ss.map V.str))) := same_new hq
    refine ⟨_, q, ss, rfl, rfl, .inr (SqT.of upd_same), ?_, ?_⟩
    · have := sum_le h2
      rw [e1]
      omega
    refine ⟨_, rfl, a, C, dx, _, _, rfl, s1 _ _ pa.at_, pc.cls, pc.nN, fs_name _ _ _, .inl ⟨nm, rfl, small20k (by omega), nm, rfl, small20k (by rw [len_app, e0]; omega), _, rfl, small20k (by rw [len_app, len_app, e0, e2]; omega), _, rfl, .inl ⟨_, rfl, small20k (by omega), _, rfl, small20k (by rw [len_app, len_app, len_app, e0, e2]; omega), ?_⟩⟩⟩
    rw [empty_app]
    exact k _ s1
theorem scSingleRow : SupScope ["self", "__class__"] ["self"] (defScope sSingleRow) := ⟨NdefX.nscope_by (by decide +kernel), rfl⟩
theorem ok_singleRow {f D cc fR fA fS fF : Addr} {fd fdR : FuncData} (F : SupFn P K mg "row" "Single.row" sSingleRow f D cc fd) (S : SupM K D D "row" fR) (GR : FnOk P w K mg base CX0 2 fR fdR ["self"] (spRow K fA fS fF)) (bR : Binds K fdR ["self"] []) :
    FnOk P w K mg base CX0 3 f fd ["self"] (spRowX K D fA fS fF " (one)") := by
  refine fn_supRet F scSingleRow rfl rfl rfl rfl (fun vs H Q E h => ?_) (by decide) (fun _ => rfl) GR bR (fun Fn A outer s H vs Q E hsc hcl h => ?_)
  · obtain ⟨a, dx, nm, ds, dd, ss, es, ts, R, m, ng, rfl, _⟩ := h
    rfl
  · obtain ⟨a, dx, nm, ds, dd, ss, es, ts, R, m, ng, rfl, pa, kc, pc, h1, h2, h3, k⟩ := h
    have e1 : (" (one)" : Str).length ≤ 100 := by decide +kernel
    refine ⟨_, a, D, dx, _, pe_str, rfl, S, pa.at_, a, D, dx, nm, ds, dd, ss, es, ts, R, m, ng, rfl, pa, kc, pc, h1, h2, h3, fun H' s1 => ⟨_, _, rfl, rfl, small20k ?_, k H' s1⟩⟩
    have := (row_len h1 h2 h3).2
    omega
theorem scManyRow : SupScope ["self", "__class__"] ["self"] (defScope sManyRow) := ⟨NdefX.nscope_by (by decide +kernel), rfl⟩
theorem ok_manyRow {f D cc fR fA fS fF : Addr} {fd fdR : FuncData} (F : SupFn P K mg "row" "Many.row" sManyRow f D cc fd) (S : SupM K D D "row" fR) (GR : FnOk P w K mg base CX0 2 fR fdR ["self"] (spRow K fA fS fF)) (bR : Binds K fdR ["self"] []) :
    FnOk P w K mg base CX0 3 f fd ["self"] (spRowX K D fA fS fF " (any number)") := by
  refine fn_supRet F scManyRow rfl rfl rfl rfl (fun vs H Q E h => ?_) (by decide) (fun _ => rfl) GR bR (fun Fn A outer s H vs Q E hsc hcl h => ?_)
  · obtain ⟨a, dx, nm, ds, dd, ss, es, ts, R, m, ng, rfl, _⟩ := h
    rfl
  · obtain ⟨a, dx, nm, ds, dd, ss, es, ts, R, m, ng, rfl, pa, kc, pc, h1, h2, h3, k⟩ := h
    have e1 : (" (any number)" : Str).length ≤ 100 := by decide +kernel
    refine ⟨_, a, D, dx, _, pe_str, rfl, S, pa.at_, a, D, dx, nm, ds, dd, ss, es, ts, R, m, ng, rfl, pa, kc, pc, h1, h2, h3, fun H' s1 => ⟨_, _, rfl, rfl, small20k ?_, k H' s1⟩⟩
    have := (row_len h1 h2 h3).2
    omega
end
end Yd
namespace Yd
open PySem L2
/-! ### a part follows another one; the twins -/
/-- what the steps and doors of a part are made of -/
structure Good (ss : List Str) (R : Str → Str → Bool) (ng : List (List Str × List Str)) : Prop where
  st : ∀ s t, R s t = true → s ∈ ss ∧ t ∈ ss ∧ s ≠ t
  nd : ∀ p ∈ ng, p.1.Nodup ∧ p.2.Nodup ∧ p.1.length ≤ 1000 ∧ p.2.length ≤ 1000
def spFollow (K : PySem.W.Frag) (fA fS fF fN fG fI fP fT fR fL : Addr) : Sp := fun vs H Q _ => ∃ (a a2 C dx : Addr) (nm : Str) (ds dd : Addr) (ss : List Str) (es ts : List Addr) (dx2 : Addr) (nm2 : Str) (ds2 dd2 : Addr) (es2 ts2 : List Addr) (R2 : Str → Str → Bool) (m2 : Nat) (ng2 : List (List Str × List Str)), vs = [.ref a, .ref a2] ∧
  PA H a C dx nm ds dd ss es ts (fun _ _ => false) 0 (ss.map fun _ => ([], [])) ∧ PA H a2 C dx2 nm2 ds2 dd2 ss es2 ts2 R2 m2 ng2 ∧ PartK K C fA fS fF fN fG fI fP fT fR fL ∧ Good ss R2 ng2 ∧ (dd ≠ ds2 ∧ dd ≠ dd2 ∧ dd ∉ es2) ∧ (∀ e ∈ es, e ≠ ds2 ∧ e ≠ dd2 ∧ e ∉ es2) ∧
  ss.length ≤ 10 ∧ (∀ s ∈ ss, s.length ≤ 100) ∧ ∀ (ts' : List Addr) (m' : Nat) (H' : Hp), (∀ b o, H b = some o → b ≠ dd → b ∉ es → H' b = some o) → PA H' a C dx nm ds dd ss es ts' R2 m' ng2 → m' ≤ 100 → Q .non H'
def spTwin (K : PySem.W.Frag) (C fA fS fF fN fG fI fP fT fR fL : Addr) : Sp := fun vs H Q _ => ∃ (a dx : Addr) (nm : Str) (ds dd : Addr) (ss : List Str) (es ts : List Addr) (R : Str → Str → Bool) (m : Nat) (ng : List (List Str × List Str)), vs = [.ref a] ∧ PA H a C dx nm ds dd ss es ts R m ng ∧ PartK K C fA fS fF fN fG fI fP fT fR fL ∧ Good ss R ng ∧
  0 < ss.length ∧ ss.length ≤ 10 ∧ (∀ s ∈ ss, s.length ≤ 100) ∧ ∀ (a2 dx2 ds2 dd2 : Addr) (es2 ts2 : List Addr) (m2 : Nat) (H' : Hp), Same H H' → H a2 = none → H ds2 = none → H dd2 = none → (∀ e ∈ es2, H e = none) → PA H' a2 C dx2 nm ds2 dd2 ss es2 ts2 R m2 ng → m2 ≤ 100 → Q (.ref a2) H'
section
variable {P : Program} {w : World} {K : PySem.W.Frag} {mg : Str → Option Value} {base : Heap}
def nFollow : List Str := ["self", "other", "standing", "after"]
theorem scFollow : FnScope nFollow ["self", "other"] (defScope sPartFollow) := ⟨rfl, rfl, rfl, by decide +kernel, rfl, by decide +kernel, by decide +kernel⟩
theorem ok_follow {f fA fS fF fN fG fI fP fT fR fL CU CN : Addr} {fd dS dF dA dI dP : FuncData} (F : Fun K "_follow" "Part._follow" sPartFollow f fd)
    (GS : FnOk P w K mg base CX0 1 fS dS ["self"] (spStandings K)) (bS : Binds K dS ["self"] []) (GF : FnOk P w K mg base (L2.CX P w) 3 fF dF ["self", "standing"] (spStepsFrom K CU)) (bF : Binds K dF ["self", "standing"] [])
    (GA : FnOk P w K mg base (L2.CX P w) 3 fA dA ["self", "before", "after"] (spAllow K CU CN)) (bA : Binds K dA ["self", "before", "after"] []) (GI : FnOk P w K mg base (L2.CX P w) 3 fI dI ["self", "at"] (spDGet K CU)) (bI : Binds K dI ["self", "at"] [])
    (GP : FnOk P w K mg base (L2.CX P w) 3 fP dP ["self", "at", "worth"] (spDPut K CU)) (bP : Binds K dP ["self", "at", "worth"] []) : FnOk P w K mg base CX0 5 f fd ["self", "other"] (spFollow K fA fS fF fN fG fI fP fT fR fL) := by
  refine F.ok scFollow (fun vs H Q E h => ?_) (fun cdv A outer s H vs Q E hr h => ?_)
  · obtain ⟨a, a2, C, dx, nm, ds, dd, ss, es, ts, dx2, nm2, ds2, dd2, es2, ts2, R2, m2, ng2, rfl, _⟩ := h
    rfl
  · obtain ⟨a, a2, C, dx, nm, ds, dd, ss, es, ts, dx2, nm2, ds2, dd2, es2, ts2, R2, m2, ng2, rfl, p1, p2, pk, gd, ⟨x1, x2, x3⟩, xe, hl, hs, k⟩ := h
    have r1 : Room 1 _ := hr.mono (by decide)
    have r3 : Room 3 _ := hr.mono (by decide)
    refine ⟨_, pss_one (ps_for PassesOwn.never rfl (pi_tup (pe_meth0 (pv 1) pk.k.cls pk.k.mS GS r1 bS .nil pass0)) (pg_name (i := 2) scFollow.nd rfl (Or.inl rfl))
      (pss_cons (ps_asg (pe_subO (E := fun _ _ _ _ => False) (pv 1) (pv 2) pk.d.gi GI hr bI (at_all passF)) (pg_subO (E := fun _ _ _ _ => False) (pv 0) (pv 2) pk.d.pi GP r3 bP (at_all passF)))
      (pss_one (ps_for PassesOwn.never rfl (pi_tup (pe_meth (pv 1) pk.k.cls pk.k.mF GF r3 bF .nil passF (pa_cons (pv 2) pa_nil))) (pg_name (i := 3) scFollow.nd rfl (Or.inl rfl))
        (pss_one (ps_expr (pe_meth (pv 0) pk.k.cls pk.k.mA GA r3 bA .nil passF (pa_cons (pv 2) (pa_cons (pv 3) pa_nil))))))))), ?_⟩
    have nS : ∀ nm ds dd, (fsPart nm ds dd).lookup ("standings" : Str) = none := fun nm ds dd => fs_no _ _ _ (by decide +kernel) (by decide +kernel) (by decide +kernel)
    have nF : ∀ nm ds dd, (fsPart nm ds dd).lookup ("steps_from" : Str) = none := fun nm ds dd => fs_no _ _ _ (by decide +kernel) (by decide +kernel) (by decide +kernel)
    have nA : ∀ nm ds dd, (fsPart nm ds dd).lookup ("allow" : Str) = none := fun nm ds dd => fs_no _ _ _ (by decide +kernel) (by decide +kernel) (by decide +kernel)
    refine ⟨_, rfl, a2, dx2, _, rfl, p2.at_, nS _ _ _, a2, C, fA, fS, fF, ss, R2, m2, rfl, pk.k, p2.kind, fun q hq => ?_⟩
    have sq : Same H (upd H q (.tup (ss.map V.str))) := same_new hq
    have eq : upd H q (.tup (ss.map V.str)) q = some (.tup (ss.map V.str)) := upd_same
    generalize upd H q (.tup (ss.map V.str)) = H1 at sq eq
    -- the invariant behind i standings
    let Fr : Hp → Hp → Prop := fun H H' => ∀ b o, H b = some o → b ≠ dd → b ∉ es → H' b = some o
    have frT : ∀ {H1 H2 H3 : Hp}, Fr H1 H2 → Fr H2 H3 → Fr H1 H3 := fun {H1 H2 H3} f g b o e n1 n2 => g b o (f b o e n1 n2) n1 n2
    have frS : ∀ {H1 H2 : Hp}, Same H1 H2 → Fr H1 H2 := fun {H1 H2} s b o e _ _ => s b o e
    have tups : ∀ {H1 H2 : Hp} {R1 : Str → Str → Bool} {m1 : Nat} {ts1 : List Addr} {ng1 : List (List Str × List Str)}, PA H1 a C dx nm ds dd ss es ts1 R1 m1 ng1 → Fr H1 H2 → ∀ b xs, H1 b = some (.tup xs) → H2 b = some (.tup xs) := fun {H1 H2 R1 m1 ts1 ng1} p f b xs e => by
      refine f b _ e (ne_of e p.D.d (by intro z; cases z)) fun he => ?_
      obtain ⟨j, hj⟩ := List.mem_iff_getElem?.mp he
      have hjl : j < ss.length := by rw [p.S.len]; exact (List.getElem?_eq_some_iff.mp hj).1
      obtain ⟨kvs, h, _⟩ := p.S.at_ j b _ hj (List.getElem?_eq_getElem hjl)
      rw [e] at h
      cases h
    refine ⟨q, rfl, ⟨_, SqT.of eq⟩, for_tup (K := K) (a := q) (xs := ss.map V.str) (fun i σ H' => Fr H H' ∧ H' q = some (.tup (ss.map V.str)) ∧ (∃ (R1 : Str → Str → Bool) (m1 : Nat) (ts1 : List Addr) (ng1 : List (List Str × List Str)), PA H' a C dx nm ds dd ss es ts1 R1 m1 ng1 ∧ m1 ≤ i * ss.length ∧
        (∀ s t, R1 s t = (R2 s t && decide (s ∈ ss.take i))) ∧ ∀ j, j < i → ng1[j]? = ng2[j]?) ∧ PA H' a2 C dx2 nm2 ds2 dd2 ss es2 ts2 R2 m2 ng2 ∧ ∃ v2 v3 : Option V, σ = [some (.ref a), some (.ref a2), v2, v3])
      ⟨frS sq, eq, ⟨_, 0, ts, _, p1.keep sq, Nat.zero_le _, fun s t => by simp, fun j h => absurd h (Nat.not_lt_zero _)⟩, p2.keep sq, _, _, rfl⟩ (fun i σ H' _ h => SqT.of h.2.1) ?_ ?_⟩
    · rintro i y σ H' hi ⟨f1, eq1, ⟨R1, m1, ts1, ng1, pa, hm1, hR1, hg1⟩, pb, v2, v3, rfl⟩
      obtain ⟨z, hz, rfl⟩ := get_strs2 hi
      have mz : z ∈ ss := List.mem_of_getElem? hz
      have il : i < ss.length := (List.getElem?_eq_some_iff.mp hz).1
      obtain ⟨pp, hpp⟩ : ∃ pp, ng2[i]? = some pp := ⟨_, List.getElem?_eq_getElem (by rw [pb.D.ln]; exact il)⟩
      obtain ⟨d1, d2, d3, d4⟩ := gd.nd pp (List.mem_of_getElem? hpp)
      refine ⟨_, rfl, _, rfl, a2, dx2, _, rfl, pb.at_, a2, C, ss, ng2, z, rfl, pk.k.cls, pk.d.nD, pb.door.rd, hs z mz, fun hn => absurd mz hn, fun i' p' t n g h1 h2 ht hn hg => ?_⟩
      have ei := nd_ix pb.S.nd h1 hz
      subst ei
      have ep : p' = pp := Option.some.inj (h2.symm.trans hpp)
      subst ep
      refine ⟨_, rfl, _, rfl, a, dx, _, rfl, pa.at_, a, C, dx, _, dd, ts1, ss, ng1, z, t, n, g, p'.1, p'.2, rfl, pk.d.cls, pk.d.nD, pa.at_, fs_doors _ _ _, pa.D, hs z mz, ht, .inr (SqT.of hn), .inr (SqT.of hg), d3, d4, by omega, fun hn => absurd mz hn, fun i2 h3 ts' H2 g2 D2 => ?_⟩
      have ei := nd_ix pb.S.nd h3 hz
      subst ei
      rw [once_id d1, once_id d2] at D2
      have pa2 := pa.put g2 D2
      have pb2 := pb.off g2 ⟨_, pa.D.d⟩ x1 x2 x3
      have f2 : Fr H' H2 := fun b o e n1 _ => g2 b o e n1
      have eq2 := tups pa f2 _ _ eq1
      refine ⟨_, rfl, a2, dx2, _, rfl, pb2.at_, nF _ _ _, _, rfl, a2, C, fA, fS, fF, ss, R2, m2, z, rfl, pk.k, pb2.kind, by omega, hs z mz, fun hn => absurd mz hn, fun _ r H3 s3 er => ?_⟩
      have ng_ : ∀ j, j < i2 + 1 → (ng1.set i2 (p'.1, p'.2))[j]? = ng2[j]? := fun j hj => by
        by_cases e : i2 = j
        · subst e
          rw [List.getElem?_set_self (by rw [pa.D.ln]; exact il), hpp]
        · rw [List.getElem?_set_ne e]
          exact hg1 j (by omega)
      -- the steps of this standing
      refine ⟨r, rfl, ⟨_, SqT.of er⟩, for_tup (K := K) (a := r) (xs := (ss.filter (R2 z)).map V.str) (fun kk σ H4 => Fr H3 H4 ∧ H4 r = some (.tup ((ss.filter (R2 z)).map V.str)) ∧ H4 q = some (.tup (ss.map V.str)) ∧ (∃ (R1' : Str → Str → Bool) (m1' : Nat), PA H4 a C dx nm ds dd ss es ts' R1' m1' (ng1.set i2 (p'.1, p'.2)) ∧ m1' ≤ i2 * ss.length + kk ∧
          ∀ s t, R1' s t = ((R2 s t && decide (s ∈ ss.take i2)) || (decide (s = z) && decide (t ∈ (ss.filter (R2 z)).take kk)))) ∧ PA H4 a2 C dx2 nm2 ds2 dd2 ss es2 ts2 R2 m2 ng2 ∧ ∃ v3 : Option V, σ = [some (.ref a), some (.ref a2), some (.str z), v3])
        ⟨fun b o e _ _ => e, er, s3 _ _ eq2, ⟨R1, m1, pa2.keep s3, hm1, fun s t => by rw [hR1]; simp⟩, pb2.keep s3, _, rfl⟩ (fun kk σ H4 _ h => SqT.of h.2.1) ?_ ?_⟩
      · rintro kk y σ H4 hk ⟨f4, er4, eq4, ⟨R1', m1', pa4, hm4, hR4⟩, pb4, v3', rfl⟩
        obtain ⟨c, hc, rfl⟩ := get_strs2 hk
        have mc := List.mem_filter.mp (List.mem_of_getElem? hc)
        have zc := (gd.st z c mc.2).2.2
        have kl : kk < ss.length := Nat.lt_of_lt_of_le (List.getElem?_eq_some_iff.mp hc).1 (List.length_filter_le _ _)
        have b1 : i2 * ss.length ≤ 10 * 10 := Nat.mul_le_mul (by omega) hl
        refine ⟨_, rfl, a, dx, _, rfl, pa4.at_, nA _ _ _, _, rfl, _, rfl, a, C, dx, _, ds, es, ss, R1', m1', z, c, rfl, pk.k.cls, pk.k.nS, pa4.at_, fs_steps _ _ _, pa4.S, by omega, hs z mz, hs c mc.1, fun hn => absurd mz hn, fun _ hn => absurd mc.1 hn, fun _ _ e => absurd e zc, fun _ _ _ e H5 he g5 S5 => ?_⟩
        have f5 : Fr H4 H5 := fun b o eb _ n2 => g5 b o eb (by rintro rfl; exact n2 he)
        obtain ⟨y1, y2, y3⟩ := xe e he
        obtain ⟨je, hje⟩ := List.mem_iff_getElem?.mp he
        have hjl : je < ss.length := by rw [pa4.S.len]; exact (List.getElem?_eq_some_iff.mp hje).1
        obtain ⟨kvs, hkv, _⟩ := pa4.S.at_ je e _ hje (List.getElem?_eq_getElem hjl)
        refine ⟨frT f4 f5, tups pa4 f5 _ _ er4, tups pa4 f5 _ _ eq4, ⟨_, m1' + 1, pa4.step he g5 S5, by omega, fun s t => ?_⟩, pb4.off g5 ⟨_, hkv⟩ y1 y2 y3, _, rfl⟩
        unfold addR
        rw [hR4, take_more hc]
        by_cases e1 : s = z
        · subst e1
          by_cases e2 : t = c
          · subst e2
            simp
          · simp [e2]
        · simp [e1]
      · rintro σ H4 ⟨f4, er4, eq4, ⟨R1', m1', pa4, hm4, hR4⟩, pb4, v3', rfl⟩
        refine ⟨frT f1 (frT f2 (frT (frS s3) f4)), eq4, ⟨R1', m1', ts', _, pa4, ?_, fun s t => ?_, ng_⟩, pb4, _, _, rfl⟩
        · have q1 : ((ss.filter (R2 z)).map V.str).length ≤ ss.length := by rw [List.length_map]; exact List.length_filter_le _ _
          rw [Nat.add_mul, Nat.one_mul]
          omega
        · rw [hR4, take_more hz, List.length_map, List.take_length]
          by_cases e1 : s = z
          · subst e1
            cases hq : R2 s t with
            | true =>
              have m1 := (gd.st s t hq).2.1
              simp [List.mem_filter, hq, m1]
            | false => simp [List.mem_filter, hq]
          · simp [e1]
    · rintro σ H' ⟨f1, _, ⟨R1, m1, ts1, ng1, pa, hm1, hR1, hg1⟩, pb, v2, v3, rfl⟩
      rw [List.length_map] at hm1 hg1
      have eR : R1 = R2 := by
        funext s t
        rw [hR1, List.length_map, List.take_length]
        cases hq : R2 s t with
        | true => simp [(gd.st s t hq).1]
        | false => rfl
      have eN : ng1 = ng2 := by
        refine List.ext_getElem? fun j => ?_
        rcases Nat.lt_or_ge j ss.length with h | h
        · exact hg1 j h
        · rw [List.getElem?_eq_none (by rw [pa.D.ln]; exact h), List.getElem?_eq_none (by rw [pb.D.ln]; exact h)]
      subst eR eN
      have b1 : ss.length * ss.length ≤ 10 * 10 := Nat.mul_le_mul hl hl
      exact k ts1 m1 H' f1 pa (by omega)
theorem scSingleTwin : FnScope ["self", "made"] ["self"] (defScope sSingleTwin) := ⟨rfl, rfl, rfl, by decide +kernel, rfl, by decide +kernel, by decide +kernel⟩
theorem ok_singleTwin {f C fA fS fF fN fG fI fP fT fR fL f0 CR : Addr} {fd dS dL d0 : FuncData} (F : Fun K "twin" "Single.twin" sSingleTwin f fd) (gC : mg "Single" = some (.ref C)) (M : Mk K C f0)
    (G0 : FnOk P w K mg base (L2.CX P w) 5 f0 d0 ["self", "name", "standings"] (spPartInit K CR)) (b0 : Binds K d0 ["self", "name", "standings"] [])
    (GS : FnOk P w K mg base CX0 1 fS dS ["self"] (spStandings K)) (bS : Binds K dS ["self"] []) (GL : FnOk P w K mg base CX0 5 fL dL ["self", "other"] (spFollow K fA fS fF fN fG fI fP fT fR fL)) (bL : Binds K dL ["self", "other"] []) :
    FnOk P w K mg base CX0 7 f fd ["self"] (spTwin K C fA fS fF fN fG fI fP fT fR fL) := by
  refine F.ok scSingleTwin (fun vs H Q E h => ?_) (fun cdv A outer s H vs Q E hr h => ?_)
  · obtain ⟨a, dx, nm, ds, dd, ss, es, ts, R, m, ng, rfl, _⟩ := h
    rfl
  · obtain ⟨a, dx, nm, ds, dd, ss, es, ts, R, m, ng, rfl, pa, pk, gd, h0, hl, hs, k⟩ := h
    have r1 : Room 1 _ := hr.mono (by decide)
    have r5 : Room 5 _ := hr.mono (by decide)
    refine ⟨_, pss_cons (ps_set (i := 1) scSingleTwin.nd rfl (Or.inl rfl) (pe_make M G0 hr (by rfl) gC b0 .nil passF (pa_cons (pe_fld (pv 0) rfl) (pa_cons (pe_meth0 (pv 0) pk.k.cls pk.k.mS GS r1 bS .nil pass0) pa_nil))))
      (pss_cons (ps_expr (pe_meth (pv 1) pk.k.cls pk.mL GL r5 bL .nil pass0 (pa_cons (pv 0) pa_nil)))
      (pss_one (ps_ret (pv 1)))), ?_⟩
    refine ⟨_, rfl, a, C, dx, _, _, rfl, pa.at_, pk.k.cls, pk.pc.nN, fs_name _ _ _, _, rfl, a, dx, _, rfl, pa.at_, fs_no _ _ _ (by decide +kernel) (by decide +kernel) (by decide +kernel), a, C, fA, fS, fF, ss, R, m, rfl, pk.k, pa.kind, fun q hq => ?_⟩
    have sq : Same H (upd H q (.tup (ss.map V.str))) := same_new hq
    have eq : upd H q (.tup (ss.map V.str)) q = some (.tup (ss.map V.str)) := upd_same
    generalize upd H q (.tup (ss.map V.str)) = H1 at sq eq
    intro x dx2 nx nd ne
    have s2 : Same H1 (upd (upd H1 dx2 (.own x)) x (.ins C dx2 [])) := fun b o e => by rw [upd_ne (ne_of_none e nx), upd_ne (ne_of_none e nd)]; exact e
    have i2 : upd (upd H1 dx2 (.own x)) x (.ins C dx2 []) x = some (.ins C dx2 []) := upd_same
    generalize upd (upd H1 dx2 (.own x)) x (.ins C dx2 []) = H2 at s2 i2
    refine ⟨x, C, dx2, nm, q, ss, rfl, i2, pk.pc, .inr (SqT.of (s2 _ _ eq)), by omega, hs, fun i s h1 h2 _ => ?_, fun _ ds2 es2 dd2 ts2 H3 n1 n2 n3 g3 e3 S3 D3 => ⟨rfl, ?_⟩⟩
    · obtain ⟨j, hj⟩ := List.mem_iff_getElem?.mp h2
      have hji : j < i := by
        have := (List.getElem?_eq_some_iff.mp hj).1
        rw [List.length_take] at this
        omega
      rw [List.getElem?_take_of_lt hji] at hj
      exact absurd (nd_ix pa.S.nd h1 hj) (by omega)
    have s02 := sq.trans s2
    have s3 : Same H H3 := fun b o e => g3 b o (s02 b o e) (ne_of_none (sq b o e) nx)
    have p2 := pa_new e3 S3 D3 h0
    have fr : ∀ b, H2 b = none → H b = none := fun b n => s02.free n
    have t0 := pa.tracked
    have nn : ∀ {b c : Addr}, H2 b = none → (∃ o, H c = some o) → b ≠ c := fun {b c} n ⟨o, e⟩ => (ne_of_none (s02 c o e) n).symm
    refine ⟨_, rfl, x, dx2, _, rfl, e3, fs_no _ _ _ (by decide +kernel) (by decide +kernel) (by decide +kernel), _, rfl, x, a, C, dx2, nm, ds2, dd2, ss, es2, ts2, dx, nm, ds, dd, es, ts, R, m, ng, rfl, p2, pa.keep s3, pk, gd, ⟨nn n3 t0.1, nn n3 t0.2.1, fun q => nn n3 (t0.2.2 _ q) rfl⟩,
      fun e he => ⟨nn (n2 e he) t0.1, nn (n2 e he) t0.2.1, fun q => nn (n2 e he) (t0.2.2 _ q) rfl⟩, hl, hs, fun ts' m' H4 f4 p4 hm4 => ?_⟩
    refine ⟨_, rfl, k x dx2 ds2 dd2 es2 ts' m' H4 (fun b o e => f4 b o (s3 b o e) (nn n3 ⟨o, e⟩).symm fun q => (nn (n2 b q) ⟨o, e⟩) rfl) (sq.free nx) (fr _ n1) (fr _ n3) (fun e he => fr _ (n2 e he)) p4 hm4⟩
theorem scManyTwin : FnScope ["self", "made"] ["self"] (defScope sManyTwin) := ⟨rfl, rfl, rfl, by decide +kernel, rfl, by decide +kernel, by decide +kernel⟩
theorem ok_manyTwin {f C fA fS fF fN fG fI fP fT fR fL f0 CR : Addr} {fd dS dL d0 : FuncData} (F : Fun K "twin" "Many.twin" sManyTwin f fd) (gC : mg "Many" = some (.ref C)) (M : Mk K C f0)
    (G0 : FnOk P w K mg base (L2.CX P w) 5 f0 d0 ["self", "name", "standings"] (spPartInit K CR)) (b0 : Binds K d0 ["self", "name", "standings"] [])
    (GS : FnOk P w K mg base CX0 1 fS dS ["self"] (spStandings K)) (bS : Binds K dS ["self"] []) (GL : FnOk P w K mg base CX0 5 fL dL ["self", "other"] (spFollow K fA fS fF fN fG fI fP fT fR fL)) (bL : Binds K dL ["self", "other"] []) :
    FnOk P w K mg base CX0 7 f fd ["self"] (spTwin K C fA fS fF fN fG fI fP fT fR fL) := by
  refine F.ok scManyTwin (fun vs H Q E h => ?_) (fun cdv A outer s H vs Q E hr h => ?_)
  · obtain ⟨a, dx, nm, ds, dd, ss, es, ts, R, m, ng, rfl, _⟩ := h
    rfl
  · obtain ⟨a, dx, nm, ds, dd, ss, es, ts, R, m, ng, rfl, pa, pk, gd, h0, hl, hs, k⟩ := h
    have r1 : Room 1 _ := hr.mono (by decide)
    have r5 : Room 5 _ := hr.mono (by decide)
    refine ⟨_, pss_cons (ps_set (i := 1) scManyTwin.nd rfl (Or.inl rfl) (pe_make M G0 hr (by rfl) gC b0 .nil passF (pa_cons (pe_fld (pv 0) rfl) (pa_cons (pe_meth0 (pv 0) pk.k.cls pk.k.mS GS r1 bS .nil pass0) pa_nil))))
      (pss_cons (ps_expr (pe_meth (pv 1) pk.k.cls pk.mL GL r5 bL .nil pass0 (pa_cons (pv 0) pa_nil)))
      (pss_one (ps_ret (pv 1)))), ?_⟩
    refine ⟨_, rfl, a, C, dx, _, _, rfl, pa.at_, pk.k.cls, pk.pc.nN, fs_name _ _ _, _, rfl, a, dx, _, rfl, pa.at_, fs_no _ _ _ (by decide +kernel) (by decide +kernel) (by decide +kernel), a, C, fA, fS, fF, ss, R, m, rfl, pk.k, pa.kind, fun q hq => ?_⟩
    have sq : Same H (upd H q (.tup (ss.map V.str))) := same_new hq
    have eq : upd H q (.tup (ss.map V.str)) q = some (.tup (ss.map V.str)) := upd_same
    generalize upd H q (.tup (ss.map V.str)) = H1 at sq eq
    intro x dx2 nx nd ne
    have s2 : Same H1 (upd (upd H1 dx2 (.own x)) x (.ins C dx2 [])) := fun b o e => by rw [upd_ne (ne_of_none e nx), upd_ne (ne_of_none e nd)]; exact e
    have i2 : upd (upd H1 dx2 (.own x)) x (.ins C dx2 []) x = some (.ins C dx2 []) := upd_same
    generalize upd (upd H1 dx2 (.own x)) x (.ins C dx2 []) = H2 at s2 i2
    refine ⟨x, C, dx2, nm, q, ss, rfl, i2, pk.pc, .inr (SqT.of (s2 _ _ eq)), by omega, hs, fun i s h1 h2 _ => ?_, fun _ ds2 es2 dd2 ts2 H3 n1 n2 n3 g3 e3 S3 D3 => ⟨rfl, ?_⟩⟩
    · obtain ⟨j, hj⟩ := List.mem_iff_getElem?.mp h2
      have hji : j < i := by
        have := (List.getElem?_eq_some_iff.mp hj).1
        rw [List.length_take] at this
        omega
      rw [List.getElem?_take_of_lt hji] at hj
      exact absurd (nd_ix pa.S.nd h1 hj) (by omega)
    have s02 := sq.trans s2
    have s3 : Same H H3 := fun b o e => g3 b o (s02 b o e) (ne_of_none (sq b o e) nx)
    have p2 := pa_new e3 S3 D3 h0
    have fr : ∀ b, H2 b = none → H b = none := fun b n => s02.free n
    have t0 := pa.tracked
    have nn : ∀ {b c : Addr}, H2 b = none → (∃ o, H c = some o) → b ≠ c := fun {b c} n ⟨o, e⟩ => (ne_of_none (s02 c o e) n).symm
    refine ⟨_, rfl, x, dx2, _, rfl, e3, fs_no _ _ _ (by decide +kernel) (by decide +kernel) (by decide +kernel), _, rfl, x, a, C, dx2, nm, ds2, dd2, ss, es2, ts2, dx, nm, ds, dd, es, ts, R, m, ng, rfl, p2, pa.keep s3, pk, gd, ⟨nn n3 t0.1, nn n3 t0.2.1, fun q => nn n3 (t0.2.2 _ q) rfl⟩,
      fun e he => ⟨nn (n2 e he) t0.1, nn (n2 e he) t0.2.1, fun q => nn (n2 e he) (t0.2.2 _ q) rfl⟩, hl, hs, fun ts' m' H4 f4 p4 hm4 => ?_⟩
    refine ⟨_, rfl, k x dx2 ds2 dd2 es2 ts' m' H4 (fun b o e => f4 b o (s3 b o e) (nn n3 ⟨o, e⟩).symm fun q => (nn (n2 b q) ⟨o, e⟩) rfl) (sq.free nx) (fr _ n1) (fr _ n3) (fun e he => fr _ (n2 e he)) p4 hm4⟩
end
end Yd
namespace Yd
open PySem L2
/-! ### what is told of a part -/
def RowAt (H : Hp) (u : Addr) (s : Str) (xs : List Str) (p : List Str × List Str) : Prop := ∃ x t n g, H u = some (.tup [.str s, .ref x, .ref t]) ∧ H x = some (.tup (xs.map V.str)) ∧ H t = some (.tup [.ref n, .ref g]) ∧ H n = some (.tup (p.1.map V.str)) ∧ H g = some (.tup (p.2.map V.str))
theorem RowAt.keep {H H' : Hp} {u : Addr} {s : Str} {xs : List Str} {p : List Str × List Str} (h : RowAt H u s xs p) (k : ∀ b xs, H b = some (.tup xs) → H' b = some (.tup xs)) : RowAt H' u s xs p := by
  obtain ⟨x, t, n, g, a, b, c, d, e⟩ := h
  exact ⟨x, t, n, g, k _ _ a, k _ _ b, k _ _ c, k _ _ d, k _ _ e⟩
def rowPD (s : Str) (xs : List Str) (p : List Str × List Str) : PyData := .tuple [.str s, .tuple (xs.map PyData.str), .tuple [.tuple (p.1.map PyData.str), .tuple (p.2.map PyData.str)]]
theorem RowAt.dp {K : PySem.W.Frag} {H : Hp} {u : Addr} {s : Str} {xs : List Str} {p : List Str × List Str} (h : RowAt H u s xs p) : Dp K H (.ref u) (rowPD s xs p) := by
  obtain ⟨x, t, n, g, a, b, c, d, e⟩ := h
  exact .tup (SqT.of a) (.cons (.str _) (.cons (dp_tup (SqT.of b)) (.cons (.tup (SqT.of c) (.cons (dp_tup (SqT.of d)) (.cons (dp_tup (SqT.of e)) .nil))) .nil)))
theorem row_plain (s : Str) (xs : List Str) (p : List Str × List Str) : (rowPD s xs p).plain = true := by
  have a := plain_strs xs
  have b := plain_strs p.1
  have c := plain_strs p.2
  simp only [rowPD, PyData.plain, PyData.plainAll, a, b, c, Bool.and_self]
theorem row_depth (s : Str) (xs : List Str) (p : List Str × List Str) : (rowPD s xs p).depth ≤ 10 := by
  have a := depth_strs xs
  have b := depth_strs p.1
  have c := depth_strs p.2
  simp only [rowPD, PyData.depth, PyData.depthAll]
  omega
/-- the rows: one for each standing -/
def rowsOf (ss : List Str) (L : Str → List Str) (ng : List (List Str × List Str)) : List (Str × List Str × (List Str × List Str)) := (ss.zip ng).map fun z => (z.1, L z.1, z.2)
def RowsAt (H : Hp) : List Addr → List (Str × List Str × (List Str × List Str)) → Prop
  | [], [] => True
  | u :: us, r :: rs => RowAt H u r.1 r.2.1 r.2.2 ∧ RowsAt H us rs
  | _, _ => False
theorem RowsAt.keep {H H' : Hp} (k : ∀ b xs, H b = some (.tup xs) → H' b = some (.tup xs)) : ∀ {us : List Addr} {rs : List (Str × List Str × (List Str × List Str))}, RowsAt H us rs → RowsAt H' us rs
  | [], [], _ => True.intro
  | _ :: _, _ :: _, ⟨h, r⟩ => ⟨h.keep k, RowsAt.keep k r⟩
  | [], _ :: _, h => h.elim
  | _ :: _, [], h => h.elim
theorem RowsAt.len {H : Hp} : ∀ {us : List Addr} {rs : List (Str × List Str × (List Str × List Str))}, RowsAt H us rs → us.length = rs.length
  | [], [], _ => rfl
  | _ :: _, _ :: _, ⟨_, r⟩ => by rw [List.length_cons, List.length_cons, RowsAt.len r]
  | [], _ :: _, h => h.elim
  | _ :: _, [], h => h.elim
theorem RowsAt.snoc {H : Hp} {u : Addr} {r : Str × List Str × (List Str × List Str)} (e : RowAt H u r.1 r.2.1 r.2.2) : ∀ {us : List Addr} {rs : List (Str × List Str × (List Str × List Str))}, RowsAt H us rs → RowsAt H (us ++ [u]) (rs ++ [r])
  | [], [], _ => ⟨e, True.intro⟩
  | _ :: _, _ :: _, ⟨h, q⟩ => ⟨h, RowsAt.snoc e q⟩
  | [], _ :: _, h => h.elim
  | _ :: _, [], h => h.elim
theorem RowsAt.get {H : Hp} : ∀ {us : List Addr} {rs : List (Str × List Str × (List Str × List Str))} {i : Nat} {r : Str × List Str × (List Str × List Str)}, RowsAt H us rs → rs[i]? = some r → ∃ u, us[i]? = some u ∧ RowAt H u r.1 r.2.1 r.2.2
  | [], [], _, _, _, h => by simp at h
  | u :: _, _ :: _, 0, r, ⟨h, _⟩, e => ⟨u, rfl, by rw [← Option.some.inj e]; exact h⟩
  | _ :: _, _ :: _, i + 1, r, ⟨_, q⟩, e => RowsAt.get (i := i) q (by simpa using e)
  | [], _ :: _, _, _, h, _ => h.elim
  | _ :: _, [], _, _, h, _ => h.elim
theorem RowsAt.set {H : Hp} {u : Addr} {r : Str × List Str × (List Str × List Str)} (e : RowAt H u r.1 r.2.1 r.2.2) : ∀ {us : List Addr} {rs : List (Str × List Str × (List Str × List Str))} {i : Nat}, RowsAt H us rs → RowsAt H (us.set i u) (rs.set i r)
  | [], [], _, _ => True.intro
  | _ :: _, _ :: _, 0, ⟨_, q⟩ => ⟨e, q⟩
  | _ :: _, _ :: _, i + 1, ⟨h, q⟩ => ⟨h, RowsAt.set (i := i) e q⟩
  | [], _ :: _, _, h => h.elim
  | _ :: _, [], _, h => h.elim
theorem RowsAt.dp {K : PySem.W.Frag} {H : Hp} : ∀ {us : List Addr} {rs : List (Str × List Str × (List Str × List Str))}, RowsAt H us rs → DpAll K H (us.map V.ref) (rs.map fun r => rowPD r.1 r.2.1 r.2.2)
  | [], [], _ => .nil
  | _ :: _, _ :: _, ⟨h, r⟩ => .cons h.dp (RowsAt.dp r)
  | [], _ :: _, h => h.elim
  | _ :: _, [], h => h.elim
theorem rows_plain : ∀ rs : List (Str × List Str × (List Str × List Str)), PyData.plainAll (rs.map fun r => rowPD r.1 r.2.1 r.2.2) = true
  | [] => rfl
  | r :: rs => by rw [List.map_cons, PyData.plainAll, row_plain, rows_plain rs]; rfl
theorem rows_depth : ∀ rs : List (Str × List Str × (List Str × List Str)), PyData.depthAll (rs.map fun r => rowPD r.1 r.2.1 r.2.2) ≤ 10
  | [] => Nat.zero_le _
  | r :: rs => by
    rw [List.map_cons, PyData.depthAll]
    exact Nat.max_le.mpr ⟨row_depth .., rows_depth rs⟩
/-- what is told, as a tuple at q -/
def DueAt (H : Hp) (q : Addr) (nm : Str) (ss : List Str) (rs : List (Str × List Str × (List Str × List Str))) (tx : Str) (x l : Addr) (us : List Addr) : Prop :=
  H q = some (.tup [.str nm, .ref x, .ref l, .str tx]) ∧ H x = some (.tup (ss.map V.str)) ∧ H l = some (.lst (us.map V.ref)) ∧ RowsAt H us rs
theorem DueAt.keep {H H' : Hp} {q : Addr} {nm : Str} {ss : List Str} {rs : List (Str × List Str × (List Str × List Str))} {tx : Str} {x l : Addr} {us : List Addr} (h : DueAt H q nm ss rs tx x l us) (k : ∀ b xs, H b = some (.tup xs) → H' b = some (.tup xs)) (hl : ∀ o, H l = some o → H' l = some o) : DueAt H' q nm ss rs tx x l us :=
  ⟨k _ _ h.1, k _ _ h.2.1, hl _ h.2.2.1, h.2.2.2.keep k⟩
def duePD (nm : Str) (ss : List Str) (rs : List (Str × List Str × (List Str × List Str))) (tx : Str) : PyData := .tuple [.str nm, .tuple (ss.map PyData.str), .list (rs.map fun r => rowPD r.1 r.2.1 r.2.2), .str tx]
theorem DueAt.dp {K : PySem.W.Frag} {H : Hp} {q : Addr} {nm : Str} {ss : List Str} {rs : List (Str × List Str × (List Str × List Str))} {tx : Str} {x l : Addr} {us : List Addr} (h : DueAt H q nm ss rs tx x l us) : Dp K H (.ref q) (duePD nm ss rs tx) :=
  .tup (SqT.of h.1) (.cons (.str _) (.cons (dp_tup (SqT.of h.2.1)) (.cons (.lst (SqL.of h.2.2.1) h.2.2.2.dp) (.cons (.str _) .nil))))
theorem due_plain (nm : Str) (ss : List Str) (rs : List (Str × List Str × (List Str × List Str))) (tx : Str) : (duePD nm ss rs tx).plain = true := by
  have a := plain_strs ss
  have b := rows_plain rs
  simp only [duePD, PyData.plain, PyData.plainAll, a, b, Bool.and_self]
theorem due_depth (nm : Str) (ss : List Str) (rs : List (Str × List Str × (List Str × List Str))) (tx : Str) : (duePD nm ss rs tx).depth ≤ 60 := by
  have a := depth_strs ss
  have b := rows_depth rs
  simp only [duePD, PyData.depth, PyData.depthAll]
  omega
theorem rowsOf_get {ss : List Str} {L : Str → List Str} {ng : List (List Str × List Str)} {i : Nat} {s : Str} {p : List Str × List Str} (h1 : ss[i]? = some s) (h2 : ng[i]? = some p) : (rowsOf ss L ng)[i]? = some (s, L s, p) := by
  unfold rowsOf
  rw [List.getElem?_map, (List.getElem?_zip_eq_some (z := (s, p))).mpr ⟨h1, h2⟩]
  rfl
theorem rowsOf_len {ss : List Str} {L : Str → List Str} {ng : List (List Str × List Str)} (h : ng.length = ss.length) : (rowsOf ss L ng).length = ss.length := by
  unfold rowsOf
  rw [List.length_map, List.length_zip, h, Nat.min_self]
theorem rowsOf_take {ss : List Str} {L : Str → List Str} {ng : List (List Str × List Str)} {i : Nat} {s : Str} {p : List Str × List Str} (h1 : ss[i]? = some s) (h2 : ng[i]? = some p) : (rowsOf ss L ng).take (i + 1) = (rowsOf ss L ng).take i ++ [(s, L s, p)] := take_more (rowsOf_get h1 h2)
/-- all that the law asks of the class of a kind -/
structure Kd (P : Program) (w : World) (K : PySem.W.Frag) (mg : Str → Option Value) (base : Heap) (fA fS fF fN fG fI fP fT fL CS CD CP CI CM : Addr) (C fR : Addr) (one : Bool) (suf : Str) : Prop where
  pk : PartK K C fA fS fF fN fG fI fP fT fR fL
  row : ∃ dR, FnOk P w K mg base CX0 3 fR dR ["self"] (spRowX K C fA fS fF suf) ∧ Binds K dR ["self"] []
  tw : ∃ fW dW, Meth K C "twin" fW ∧ FnOk P w K mg base CX0 7 fW dW ["self"] (spTwin K C fA fS fF fN fG fI fP fT fR fL) ∧ Binds K dW ["self"] []
  ca : PySem.W.findIn K (.ref C) "__class__" = some (some (.builtin "object.__class__"))
  cn : PySem.W.specialIn K (.builtin "object.__class__") "__get__" = some (some (.builtin "getset_descriptor.__get__"))
  ct : PySem.W.takesIn K (.builtin "object.__class__") = some true
  cm : PySem.W.mroIn K C (.type "object") = some true
  kI : PySem.W.kitOne K (.ref C) (.ref CI) = some one
  kM : PySem.W.kitOne K (.ref C) (.ref CM) = some (!one)
  kP : PySem.W.kitOne K (.ref C) (.ref CP) = some true
  kS : PySem.W.kitOne K (.ref C) (.ref CS) = some true
  kD : PySem.W.kitOne K (.ref C) (.ref CD) = some true
def spTold (P : Program) (w : World) (K : PySem.W.Frag) (mg : Str → Option Value) (base : Heap) (fA fS fF fN fG fI fP fT fL CS CD CP CI CM : Addr) : Sp := fun vs H Q _ => ∃ (a C fR : Addr) (one : Bool) (suf : Str) (dx : Addr) (nm : Str) (ds dd : Addr) (ss : List Str) (es ts : List Addr) (R : Str → Str → Bool) (m : Nat) (ng : List (List Str × List Str)),
  vs = [.ref a, .bl one] ∧ Kd P w K mg base fA fS fF fN fG fI fP fT fL CS CD CP CI CM C fR one suf ∧ PA H a C dx nm ds dd ss es ts R m ng ∧ ss.length ≤ 10 ∧ (∀ s ∈ ss, s.length ≤ 100) ∧ nm.length ≤ 100 ∧
  ∀ q x l us H', Same H H' → H l = none → DueAt H' q nm ss (rowsOf ss (fun s => ss.filter (R s)) ng) (rowText nm ss ++ suf) x l us → Q (.ref q) H'
section
variable {P : Program} {w : World} {K : PySem.W.Frag} {mg : Str → Option Value} {base : Heap}
def nTold : List Str := ["_law_part", "_law_single", "_law_standing", "_law_rows"]
theorem scTold : FnScope nTold ["_law_part", "_law_single"] (defScope sTold) := ⟨rfl, rfl, rfl, by decide +kernel, rfl, by decide +kernel, by decide +kernel⟩
theorem ok_told {f fA fS fF fN fG fI fP fT fL CS CD CP CI CM CU : Addr} {fd dS dF dI dT : FuncData} (F : Fun K "_law_told" "_law_told" sTold f fd) (hI : mg "isinstance" = none) (gS : mg "Steps" = some (.ref CS)) (gD : mg "Doors" = some (.ref CD)) (gP : mg "Part" = some (.ref CP)) (gI : mg "Single" = some (.ref CI)) (gM : mg "Many" = some (.ref CM))
    (GS : FnOk P w K mg base CX0 1 fS dS ["self"] (spStandings K)) (bS : Binds K dS ["self"] []) (GF : FnOk P w K mg base (L2.CX P w) 3 fF dF ["self", "standing"] (spStepsFrom K CU)) (bF : Binds K dF ["self", "standing"] [])
    (GI : FnOk P w K mg base (L2.CX P w) 3 fI dI ["self", "at"] (spDGet K CU)) (bI : Binds K dI ["self", "at"] []) (GT : FnN P w K mg base 1 fT dT ["self"] (spDIter K)) (bT : Binds K dT ["self"] []) :
    FnOk P w K mg base CX0 5 f fd ["_law_part", "_law_single"] (spTold P w K mg base fA fS fF fN fG fI fP fT fL CS CD CP CI CM) := by
  refine F.ok scTold (fun vs H Q E h => ?_) (fun cdv A outer s H vs Q E hr h => ?_)
  · obtain ⟨a, C, fR, one, suf, dx, nm, ds, dd, ss, es, ts, R, m, ng, rfl, _⟩ := h
    rfl
  · obtain ⟨a, C, fR, one, suf, dx, nm, ds, dd, ss, es, ts, R, m, ng, rfl, kd, pa, hl, hs, hnm, k⟩ := h
    obtain ⟨dR, GR, bR⟩ := kd.row
    have pk := kd.pk
    have r1 : Room 1 _ := hr.mono (by decide)
    have r3 : Room 3 _ := hr.mono (by decide)
    refine ⟨_, pss_cons (ps_if (PW.pt (pw_or (pt_cmpR op_ne (pe_callB call_isi (by rfl) hI (by decide +kernel) (pa_cons (pv 0) (pa_cons (pe_glob (v := .ref CI) (by rfl) gI rfl) pa_nil))) (pv 1) (nomark _)) (pw_or1 (pt_cmpR op_eq (pe_callB call_isi (by rfl) hI (by decide +kernel) (pa_cons (pv 0) (pa_cons (pe_glob (v := .ref CM) (by rfl) gM rfl) pa_nil))) (pv 1) (nomark _))))) (pss_one (ps_ret pe_non)) pss_nil)
      (pss_cons (ps_if (PW.pt (pw_or (pt_not (pt_val (pe_callB call_isi (by rfl) hI (by decide +kernel) (pa_cons (pv 0) (pa_cons (pe_glob (v := .ref CP) (by rfl) gP rfl) pa_nil))))) (pw_or (pt_not (pt_val (pe_callB call_isi (by rfl) hI (by decide +kernel) (pa_cons (pv 0) (pa_cons (pe_glob (v := .ref CS) (by rfl) gS rfl) pa_nil))))) (pw_or1 (pt_not (pt_val (pe_callB call_isi (by rfl) hI (by decide +kernel) (pa_cons (pv 0) (pa_cons (pe_glob (v := .ref CD) (by rfl) gD rfl) pa_nil))))))))) (pss_one (ps_ret pe_non)) pss_nil)
      (pss_cons (ps_lock (ps_setLc (i := 3) (own := [("_law_standing", 2)]) (g := gName 2) (tt := tYes) rfl scTold.nd rfl rfl (sw_true rfl rfl rfl (by decide +kernel)) (pi_own (pv 0) pk.d.it pk.d.itf GT r1 bT) (blkOk_by (N := nTold) (sc := defScope sTold) (by decide +kernel))
          (fun _ _ _ _ _ => pg_name (i := 2) scTold.nd rfl (Or.inl rfl)) (fun _ _ _ _ _ => pts_nil)
          (fun _ _ _ _ _ => pe_tup (pa_cons (pv 2) (pa_cons (pe_meth (E := fun _ _ _ => False) (pv 0) pk.k.cls pk.k.mF GF r3 bF .nil passF (pa_cons (pv 2) pa_nil)) (pa_cons (pe_subO (E := fun _ _ _ _ => False) (pv 0) (pv 2) pk.d.gi GI hr bI (at_all passF)) pa_nil))))))
      (pss_one (ps_ret (pe_tup (pa_cons (pe_fld (pv 0) rfl) (pa_cons (pe_meth0 (pv 0) pk.k.cls pk.k.mS GS r1 bS .nil pass0) (pa_cons (pv 3) (pa_cons (pe_meth0 (pv 0) pk.k.cls pk.mR GR r3 bR .nil pass0) pa_nil))))))))), ?_⟩
    have ty : TyX K H (.ref a) (.ref C) := .base (.ins pa.at_ pk.k.cls kd.ca kd.cn kd.ct kd.cm)
    refine ⟨_, rfl, _, _, _, _, one, rfl, .own CI, ty, kd.kI, _, rfl, rfl, _, rfl, no ?_ ?_⟩
    · cases one <;> rfl
    refine ⟨_, rfl, _, _, _, _, _, rfl, .own CM, ty, kd.kM, _, rfl, rfl, _, rfl, no ?_ ?_⟩
    · cases one <;> rfl
    refine ⟨_, rfl, _, _, _, _, true, rfl, .own CP, ty, kd.kP, true, rfl, no rfl ?_⟩
    refine ⟨_, rfl, _, _, _, _, true, rfl, .own CS, ty, kd.kS, true, rfl, no rfl ?_⟩
    refine ⟨_, rfl, _, _, _, _, true, rfl, .own CD, ty, kd.kD, true, rfl, no rfl ?_⟩
    -- the rows
    have D := pa.D
    refine ⟨dd, _, D.d, True.intro, fun od => ?_⟩
    have nad : a ≠ dd := ne_of pa.at_ D.d (by intro z; cases z)
    refine ⟨_, rfl, a, dx, _, rfl, by rw [upd_ne nad]; exact pa.at_, fun n => ⟨a, C, dx, _, dd, od, _, rfl, by rw [upd_ne nad]; exact pa.at_, pk.d.cls, pk.d.nD, fs_doors _ _ _, .inl ⟨_, upd_same, rfl⟩, fun it hit hn => ⟨it, dd, od, _, rfl, hn, upd_same, .inl ⟨_, by rw [upd_ne (ne_of_none upd_same hit)]; exact upd_same, rfl, ?_⟩⟩⟩⟩
    rw [ItX.dropH_upd hit]
    intro Dl hDl
    have nDd : dd ≠ Dl := fun q => by rw [← q, upd_same] at hDl; cases hDl
    have hD0 : H Dl = none := by rw [upd_ne nDd.symm] at hDl; exact hDl
    refine lc_keys (fun j H' => (∀ q o, H q = some o → q ≠ dd → H' q = some o) ∧ H' dd = some (.frz od (.dK (dP ss ts))) ∧ ∃ us : List Addr, H' Dl = some (.lst (us.map V.ref)) ∧ us.length = j ∧ RowsAt H' us ((rowsOf ss (fun s => ss.filter (R s)) ng).take j))
      ⟨fun q o h1 h2 => by rw [upd_ne (ne_of_none h1 hD0), upd_ne h2]; exact h1, by rw [upd_ne nDd, upd_same], [], upd_same, rfl, True.intro⟩ (fun j H' _ h => h.2.1) ?_ ?_
    · rintro j kk v H' hkv ⟨s1, s2, us, hu, hul, hrs⟩
      obtain ⟨y, t, hy, ht, rfl, rfl⟩ := dP_key D.len hkv
      have my : y ∈ ss := List.mem_of_getElem? hy
      have jl : j < ss.length := (List.getElem?_eq_some_iff.mp hy).1
      obtain ⟨p, hp⟩ : ∃ p, ng[j]? = some p := ⟨_, List.getElem?_eq_getElem (by rw [D.ln]; exact jl)⟩
      have at1 := s1 _ _ pa.at_ nad
      have kd1 : KindAt H' a C ss R m := ⟨dx, _, ds, es, at1, fs_steps _ _ _, fs_no _ _ _ (by decide +kernel) (by decide +kernel) (by decide +kernel), fs_no _ _ _ (by decide +kernel) (by decide +kernel) (by decide +kernel), fs_no _ _ _ (by decide +kernel) (by decide +kernel) (by decide +kernel),
        ⟨s1 _ _ pa.S.d pa.n1.symm, pa.S.len, pa.S.nd, pa.S.ed, pa.S.no, fun i e s h1 h2 => by
          obtain ⟨kvs, h, r⟩ := pa.S.at_ i e s h1 h2
          exact ⟨kvs, s1 _ _ h (by rintro rfl; exact pa.n2 (List.mem_of_getElem? h1)), r⟩⟩⟩
      refine ⟨rfl, _, rfl, _, rfl, a, dx, _, rfl, at1, fs_no _ _ _ (by decide +kernel) (by decide +kernel) (by decide +kernel), _, rfl, a, C, fA, fS, fF, ss, R, m, y, rfl, pk.k, kd1, by omega, hs y my, fun hn => absurd my hn, fun _ r H2 s3 er => ?_⟩
      have up : ∀ q o, H q = some o → q ≠ dd → H2 q = some o := fun q o h1 h2 => s3 _ _ (s1 q o h1 h2)
      have tu : ∀ b xs, H b = some (.tup xs) → H2 b = some (.tup xs) := fun b xs e => up b _ e (ne_of e D.d (by intro z; cases z))
      refine ⟨_, rfl, _, rfl, a, dx, _, rfl, up _ _ pa.at_ nad, a, C, ss, ng, y, rfl, pk.d.cls, pk.d.nD, ⟨dx, _, dd, ts, up _ _ pa.at_ nad, fs_doors _ _ _, ⟨.inr ⟨od, s3 _ _ s2⟩, D.len, D.nd, D.ln, fun i t' p' h1 h2 => ?_⟩⟩, hs y my, fun hn => absurd my hn, fun i' p' t' n' g' h1 h2 h3 h4 h5 => ⟨(by show 3 ≤ sizeLine; decide), fun u hu2 => ?_⟩⟩
      · obtain ⟨n', g', q1, q2, q3⟩ := D.at_ i t' p' h1 h2
        exact ⟨n', g', tu _ _ q1, tu _ _ q2, tu _ _ q3⟩
      have ei := nd_ix D.nd h1 hy
      subst ei
      have ep : p' = p := Option.some.inj (h2.symm.trans hp)
      subst ep
      have s4 : Same H2 (upd H2 u (.tup [kV (Sum.inr y), .ref r, .ref t'])) := fun b o e => by rw [upd_ne (ne_of_none e hu2)]; exact e
      have e4 : upd H2 u (.tup [kV (Sum.inr y), .ref r, .ref t']) u = some (.tup [.str y, .ref r, .ref t']) := upd_same
      generalize upd H2 u (.tup [kV (Sum.inr y), .ref r, .ref t']) = H3 at s4 e4
      have hu3 := s4 _ _ (s3 _ _ hu)
      have tk : ∀ b xs, H3 b = some (.tup xs) → upd H3 Dl (.lst (us.map V.ref ++ [.ref u])) b = some (.tup xs) := fun b xs e => by
        rw [upd_ne (ne_of e hu3 (by intro z; cases z))]
        exact e
      refine ⟨us.map V.ref, hu3, small1000 (by rw [List.length_map]; omega), fun q o h1 h2 => ?_, ?_, us ++ [u], by rw [upd_same, List.map_append]; rfl, by rw [List.length_append, hul]; rfl, ?_⟩
      · rw [upd_ne (ne_of_none h1 hD0)]
        exact s4 _ _ (up q o h1 h2)
      · rw [upd_ne nDd]
        exact s4 _ _ (s3 _ _ s2)
      · rw [rowsOf_take hy hp]
        exact RowsAt.snoc (r := (y, ss.filter (R y), p')) ⟨r, t', n', g', tk _ _ e4, tk _ _ (s4 _ _ er), tk _ _ (s4 _ _ h3), tk _ _ (s4 _ _ h4), tk _ _ (s4 _ _ h5)⟩ (RowsAt.keep (fun b xs e => tk _ _ (s4 _ _ (s3 _ _ e))) hrs)
    rintro H' ⟨s1, s2, us, hu, hul, hrs⟩
    have ln := rowsOf_len (L := fun s => ss.filter (R s)) D.ln
    rw [dP_len D.len] at hrs
    rw [List.take_of_length_le (by omega)] at hrs
    have sm : Same H (upd H' dd (.dK (dP ss ts))) := fun q o h1 => by
      by_cases hq : q = dd
      · subst hq
        rw [upd_same, ← h1, D.d]
      · rw [upd_ne hq]
        exact s1 q o h1 hq
    have e3 : upd H' dd (.dK (dP ss ts)) Dl = some (.lst (us.map V.ref)) := by rw [upd_ne nDd.symm]; exact hu
    have r3' : RowsAt (upd H' dd (.dK (dP ss ts))) us (rowsOf ss (fun s => ss.filter (R s)) ng) := RowsAt.keep (fun b xs e => by rw [upd_ne (ne_of e s2 (by intro z; cases z))]; exact e) hrs
    refine ⟨s2, ?_⟩
    generalize upd H' dd (.dK (dP ss ts)) = H1 at sm e3 r3'
    have p1 := pa.keep sm
    refine ⟨_, rfl, a, C, dx, _, _, rfl, p1.at_, pk.pc.cls, pk.pc.nN, fs_name _ _ _, _, rfl, a, dx, _, rfl, p1.at_, fs_no _ _ _ (by decide +kernel) (by decide +kernel) (by decide +kernel), a, C, fA, fS, fF, ss, R, m, rfl, pk.k, p1.kind, fun q hq => ?_⟩
    have sq : Same H1 (upd H1 q (.tup (ss.map V.str))) := same_new hq
    have eq : upd H1 q (.tup (ss.map V.str)) q = some (.tup (ss.map V.str)) := upd_same
    generalize upd H1 q (.tup (ss.map V.str)) = H2 at sq eq
    have p2 := p1.keep sq
    refine ⟨_, rfl, _, rfl, a, dx, _, rfl, p2.at_, fs_no _ _ _ (by decide +kernel) (by decide +kernel) (by decide +kernel), a, dx, nm, ds, dd, ss, es, ts, R, m, ng, rfl, p2, pk.k, pk.pc, by omega, hs, hnm, fun H3 s3 => ⟨(by show 4 ≤ sizeLine; decide), fun w' hw => ?_⟩⟩
    have s4 : Same H3 (upd H3 w' (.tup [.str nm, .ref q, .ref Dl, .str (rowText nm ss ++ suf)])) := same_new hw
    have s24 := s3.trans s4
    exact k w' q Dl us _ ((sm.trans sq).trans s24) hD0 ⟨upd_same, s24 _ _ eq, s24 _ _ (sq _ _ e3), RowsAt.keep (fun b xs e => s24 _ _ (sq _ _ e)) r3'⟩
end
end Yd
namespace Yd
open PySem L2
/-! ### drawn lists; a part that is filled -/
theorem inV_strs (s : Str) : ∀ ss : List Str, inV (.str s) (ss.map V.str) = decide (s ∈ ss)
  | [] => rfl
  | t :: ss => by
    have e : inV (.str s) ((t :: ss).map V.str) = (eqV (.str t) (.str s) || inV (.str s) (ss.map V.str)) := rfl
    rw [e, inV_strs s ss]
    by_cases h : t = s
    · subst h
      have h1 : eqV (.str t) (.str t) = true := by simp [eqV]
      rw [h1, decide_eq_true (List.mem_cons_self ..)]
      rfl
    · have h1 : eqV (.str t) (.str s) = false := by simp [eqV, h]
      rw [h1, Bool.false_or]
      exact decide_eq_decide.mpr ⟨fun m => List.mem_cons_of_mem _ m, fun m => (List.mem_cons.mp m).elim (fun q => absurd q.symm h) id⟩
theorem flat_strs : ∀ ss : List Str, (ss.map V.str).all flatV = true
  | [] => rfl
  | t :: ss => by
    show (flatV (.str t) && (ss.map V.str).all flatV) = true
    rw [flat_strs ss]
    rfl
theorem at_s {ss : List Str} {n : Nat} {s : Str} (h : ss[n]? = some s) {z : Int} (e : z = (n : Int)) : atI (ss.map V.str) z = some (.str s) := at_c (by rw [List.getElem?_map, h]; rfl) e
theorem at_r {us : List Addr} {n : Nat} {t : Addr} (h : us[n]? = some t) {z : Int} (e : z = (n : Int)) : atI (us.map V.ref) z = some (.ref t) := at_c (by rw [List.getElem?_map, h]; rfl) e
theorem Pool.noL {H H' : Hp} {p c : Addr} (h : Pool H p c) (g : Gro p H H') : ∀ b o, H b = some o → (∀ xs, o ≠ .lst xs) → H' b = some o := fun b o e n => by
  obtain ⟨ys, hp, _⟩ := h
  refine g b o e ?_
  rintro rfl
  rw [hp] at e
  exact n ys (Option.some.inj e).symm
/-- a pool stays where a dict changes -/
theorem Pool.dict {H H' : Hp} {p c d : Addr} (h : Pool H p c) (g : Gro d H H') (hd : ∃ kvs, H d = some (.dK kvs)) : Pool H' p c := by
  obtain ⟨kvs, hd⟩ := hd
  have lk : ∀ b xs, H b = some (.lst xs) → H' b = some (.lst xs) := fun b xs e => g _ _ e (ne_of e hd (by intro z; cases z))
  obtain ⟨ys, e, q⟩ := h
  refine ⟨ys, lk _ _ e, ?_⟩
  rcases q with q | ⟨x, i, cs, e1, e2, e3, q⟩
  · exact .inl q
  · exact .inr ⟨x, i, cs, e1, e2, lk _ _ e3, q⟩
def spSome : Sp := fun vs H Q _ => ∃ (p c l : Addr) (rs : List Str) (k : Nat), vs = [.ref p, .ref l, .int k] ∧ Pool H p c ∧ H l = some (.lst (rs.map V.str)) ∧ l ≠ p ∧ 0 < rs.length ∧ rs.length ≤ 10 ∧ k ≤ 3 ∧
  ∀ (q : Addr) (xs : List Str) (H' : Hp), Gro p H H' → Pool H' p c → H q = none → H' q = some (.lst (xs.map V.str)) → xs.Nodup → (∀ x ∈ xs, x ∈ rs) → xs.length ≤ 3 → Q (.ref q) H'
def spFilled (K : PySem.W.Frag) (fA fS fF fN fG fI fP fT fL : Addr) : Sp := fun vs H Q _ => ∃ (p c a l dl C fR dx : Addr) (nm : Str) (ds dd : Addr) (ss : List Str) (es ts : List Addr) (os : List Str), vs = [.ref p, .ref a, .ref l, .ref dl] ∧ Pool H p c ∧
  PA H a C dx nm ds dd ss es ts (fun _ _ => false) 0 (ss.map fun _ => ([], [])) ∧ PartK K C fA fS fF fN fG fI fP fT fR fL ∧ H l = some (.lst (ss.map V.str)) ∧ H dl = some (.lst (os.map V.str)) ∧ l ≠ p ∧ dl ≠ p ∧ 0 < ss.length ∧ ss.length ≤ 10 ∧ 0 < os.length ∧ os.length ≤ 10 ∧ (∀ s ∈ ss, s.length ≤ 100) ∧
  ∀ (q : Addr) (us : List Addr) (R : Str → Str → Bool) (m : Nat) (ng : List (List Str × List Str)) (ts' : List Addr) (H' : Hp), (∀ b o, H b = some o → b ≠ p → b ≠ dd → b ∉ es → H' b = some o) → Pool H' p c → PA H' a C dx nm ds dd ss es ts' R m ng → Good ss R ng → m ≤ 100 → H q = none → H' q = some (.lst (us.map V.ref)) →
    RowsAt H' us (rowsOf ss (fun s => ss.filter (R s)) ng) → Q (.ref q) H'
section
variable {P : Program} {w : World} {K : PySem.W.Frag} {mg : Str → Option Value} {base : Heap}
theorem scSome : FnScope ["_law_pool_here", "_law_rows", "_law_most", "_law_found", "_law_k", "_law_row"] ["_law_pool_here", "_law_rows", "_law_most"] (defScope sSome) := ⟨rfl, rfl, rfl, by decide +kernel, rfl, by decide +kernel, by decide +kernel⟩
theorem ok_some {f fT : Addr} {fd fdT : FuncData} (F : Fun K "_law_some" "_law_some" sSome f fd) (B : Blt mg) (T : Fn K mg "_law_take" sTake ["_law_pool_here", "_law_size"] fT fdT) : FnOk P w K mg base CX0 2 f fd ["_law_pool_here", "_law_rows", "_law_most"] spSome := by
  have GT : FnOk P w K mg base CX0 1 fT fdT ["_law_pool_here", "_law_size"] spTake := ok_take T.F B
  refine F.ok scSome (fun vs H Q E h => ?_) (fun cdv A outer s H vs Q E hr h => ?_)
  · obtain ⟨p, c, l, rs, k, rfl, _⟩ := h
    rfl
  · obtain ⟨p, c, l, rs, kk, rfl, hP, hl, nlp, r0, r1, k3, k⟩ := h
    refine ⟨_, pss_cons (ps_set (i := 3) scSome.nd rfl (Or.inl rfl) (pe_lst pa_nil))
      (pss_cons (ps_for PassesOwn.never rfl (pi_range1 rfl B.range (pa_cons (pe_op op_sub (pv 2) (pe_call GT hr rfl T.g T.F.kp T.b .nil pass0 (pa_cons (pv 0) (pa_cons (pe_op op_add (pv 2) pe_int) pa_nil)))) pa_nil)) (pg_name (i := 4) scSome.nd rfl (Or.inl rfl))
        (pss_cons (ps_set (i := 5) scSome.nd rfl (Or.inl rfl) (pe_ix ix_list (pv 1) (pe_call GT hr rfl T.g T.F.kp T.b .nil pass0 (pa_cons (pv 0) (pa_cons (pe_callB call_len_seq (by rfl) B.len PySem.boot_len (pa_cons (pv 1) pa_nil)) pa_nil))) (fun _ _ => rfl)))
        (pss_one (ps_if (pt_cmpR op_notIn_seq (pv 5) (pv 3) rfl) (pss_one (ps_expr (pe_bm PySem.F.plainAttrs_list PySem.F.slot_list_append PySem.F.type_list_append mt_append (pv 3) (pa_cons (pv 5) pa_nil)))) pss_nil))))
      (pss_one (ps_ret (pv 3)))), ?_⟩
    refine ⟨(by show 0 ≤ sizeLine; omega), fun D hD => ?_⟩
    obtain ⟨nDp, nDc⟩ := hP.ne hD
    have s0 : Same H (upd H D (.lst [])) := same_new hD
    refine ⟨_, rfl, _, rfl, _, rfl, _, _, rfl, rfl, p, c, _, rfl, hP.new hD, by omega, Nat.lt_of_le_of_lt (m := 100) (by omega) (by decide), fun v H1 v0 v1 g1 P1 => ⟨_, _, rfl, rfl, _, rfl, by omega, by omega, for_range (lo := 0) (n := ((kk : Int) - v).toNat)
      (fun i σ H' => Gro p H H' ∧ Pool H' p c ∧ ∃ (xs : List Str) (v4 v5 : Option V), H' D = some (.lst (xs.map V.str)) ∧ xs.Nodup ∧ (∀ x ∈ xs, x ∈ rs) ∧ xs.length ≤ i ∧ σ = [some (.ref p), some (.ref l), some (.int (kk : Int)), some (.ref D), v4, v5])
      ⟨(Gro.of_same s0).trans g1, P1, [], _, _, g1 _ _ upd_same nDp, List.nodup_nil, fun x h => (nomatch h), Nat.zero_le _, rfl⟩ ?_ ?_⟩⟩
    · rintro i σ H2 hi ⟨g2, P2, xs, v4, v5, e2, nd, sub, xl, rfl⟩
      have l2 := g2 _ _ hl nlp
      refine ⟨_, rfl, _, rfl, _, rfl, l, _, rfl, .inl (SqL.of l2), p, c, _, rfl, P2, by rw [List.length_map]; omega, by rw [List.length_map]; exact Nat.lt_of_le_of_lt (m := 100) (by omega) (by decide), fun x H3 x0 x1 g3 P3 => ?_⟩
      rw [List.length_map] at x1
      obtain ⟨y, hy⟩ : ∃ y, rs[x.toNat]? = some y := ⟨_, List.getElem?_eq_getElem (by omega)⟩
      have e3 := g3 _ _ e2 nDp
      refine ⟨l, _, x, _, rfl, rfl, SqL.of (g3 _ _ l2 nlp), at_s hy (by omega), ?_⟩
      refine ⟨_, rfl, _, rfl, D, _, rfl, .inl (SqL.of e3), rfl, flat_strs _, _, rfl, ?_⟩
      rw [inV_strs]
      by_cases hm : y ∈ xs
      · rw [decide_eq_true hm]
        exact no rfl ⟨g2.trans g3, P3, xs, _, _, e3, nd, sub, by omega, rfl⟩
      · rw [decide_eq_false hm]
        refine yes rfl ⟨_, rfl, .inl ⟨rfl, _, SqL.of e3⟩, _, rfl, D, _, _, rfl, rfl, e3, small1000 (by rw [List.length_map]; omega), fun b o e ne => ?_, P3.off nDp nDc, xs ++ [y], _, _, by rw [upd_same, List.map_append]; rfl, nd_snoc nd hm, fun x' hx' => ?_, by rw [List.length_append]; show xs.length + 1 ≤ i + 1; omega, rfl⟩
        · rw [upd_ne (ne_of_none e hD)]
          exact g3 _ _ (g2 _ _ e ne) ne
        · rcases List.mem_append.mp hx' with q | q
          · exact sub _ q
          · rw [List.mem_singleton.mp q]
            exact List.mem_of_getElem? hy
    · rintro σ H2 ⟨g2, P2, xs, v4, v5, e2, nd, sub, xl, rfl⟩
      exact ⟨_, rfl, k D xs H2 g2 P2 hD e2 nd sub (by omega)⟩
def nFilled : List Str := ["_law_pool_here", "_law_kind", "_law_standings", "_law_doors", "_law_rows", "_law_before", "_law_leads", "_law_after", "_law_needs", "_law_gives"]
theorem scFilled : FnScope nFilled ["_law_pool_here", "_law_kind", "_law_standings", "_law_doors"] (defScope sFilled) := ⟨rfl, rfl, rfl, by decide +kernel, rfl, by decide +kernel, by decide +kernel⟩
theorem ok_filled {f fA fS fF fN fG fI fP fT fL fO CU CN : Addr} {fd dO dA dP : FuncData} (F : Fun K "_law_filled" "_law_filled" sFilled f fd) (hT : mg "tuple" = none)
    (GO : FnOk P w K mg base CX0 2 fO dO ["_law_pool_here", "_law_rows", "_law_most"] spSome) (TO : Fn K mg "_law_some" sSome ["_law_pool_here", "_law_rows", "_law_most"] fO dO)
    (GA : FnOk P w K mg base (L2.CX P w) 3 fA dA ["self", "before", "after"] (spAllow K CU CN)) (bA : Binds K dA ["self", "before", "after"] []) (GP : FnOk P w K mg base (L2.CX P w) 3 fP dP ["self", "at", "worth"] (spDPut K CU)) (bP : Binds K dP ["self", "at", "worth"] []) :
    FnOk P w K mg base CX0 4 f fd ["_law_pool_here", "_law_kind", "_law_standings", "_law_doors"] (spFilled K fA fS fF fN fG fI fP fT fL) := by
  refine F.ok scFilled (fun vs H Q E h => ?_) (fun cdv A outer s H vs Q E hr h => ?_)
  · obtain ⟨p, c, a, l, dl, C, fR, dx, nm, ds, dd, ss, es, ts, os, rfl, _⟩ := h
    rfl
  · obtain ⟨p, c, a, l, dl, C, fR, dx, nm, ds, dd, ss, es, ts, os, rfl, hP, pa, pk, hl, hdl, nlp, ndp, s0, s10, o0, o10, hs, k⟩ := h
    have r2 : Room 2 _ := hr.mono (by decide)
    refine ⟨_, pss_cons (ps_set (i := 4) scFilled.nd rfl (Or.inl rfl) (pe_lst pa_nil))
      (pss_cons (ps_for PassesOwn.never rfl (pi_list (pv 2)) (pg_name (i := 5) scFilled.nd rfl (Or.inr rfl))
        (pss_cons (ps_set (i := 6) scFilled.nd rfl (Or.inr rfl) (pe_lc (own := [("_law_after", 7)]) (g := gName 7) (tt := tTest (tOp _ (tVar 7) (tVar 5))) rfl scFilled.nd (pi_list (pe_call GO r2 rfl TO.g TO.F.kp TO.b .nil pass0 (pa_cons (pv 0) (pa_cons (pv 2) (pa_cons pe_int pa_nil)))))
            (blkOk_by (N := nFilled) (sc := defScope sFilled) (by decide +kernel)) (fun _ _ _ _ _ => pg_name (i := 7) scFilled.nd rfl (Or.inl rfl)) (fun _ _ _ _ _ => pts_one (pt_cmpR op_ne (pv 7) (pv 5) (nomark _))) (fun _ _ _ _ _ => pv 7)))
        (pss_cons (ps_for PassesOwn.never rfl (pi_list (pv 6)) (pg_name (i := 7) scFilled.nd rfl (Or.inl rfl)) (pss_one (ps_expr (pe_meth (pv 1) pk.k.cls pk.k.mA GA hr bA .nil passF (pa_cons (pv 5) (pa_cons (pv 7) pa_nil))))))
        (pss_cons (ps_set (i := 8) scFilled.nd rfl (Or.inl rfl) (pe_callTy call_tuple_of (by rfl) hT (by decide +kernel) (pa_cons (pe_call GO r2 rfl TO.g TO.F.kp TO.b .nil pass0 (pa_cons (pv 0) (pa_cons (pv 3) (pa_cons pe_int pa_nil)))) pa_nil)))
        (pss_cons (ps_set (i := 9) scFilled.nd rfl (Or.inl rfl) (pe_callTy call_tuple_of (by rfl) hT (by decide +kernel) (pa_cons (pe_call GO r2 rfl TO.g TO.F.kp TO.b .nil pass0 (pa_cons (pv 0) (pa_cons (pv 3) (pa_cons pe_int pa_nil)))) pa_nil)))
        (pss_cons (ps_asg (pe_tup (pa_cons (pv 8) (pa_cons (pv 9) pa_nil))) (pg_subO (E := fun _ _ _ _ => False) (pv 1) (pv 5) pk.d.pi GP hr bP (at_all passF)))
        (pss_one (ps_expr (pe_bm PySem.F.plainAttrs_list PySem.F.slot_list_append PySem.F.type_list_append mt_append (pv 4) (pa_cons (pe_tup (pa_cons (pv 5) (pa_cons
          (pe_callTy call_tuple_of (by rfl) hT (by decide +kernel) (pa_cons (pe_lc (own := [("_law_after", 7)]) (g := gName 7) (tt := tTest (tOp (rIn K false) (tVar 7) (tVar 6))) rfl scFilled.nd (pi_list (pv 2)) (blkOk_by (N := nFilled) (sc := defScope sFilled) (by decide +kernel))
            (fun _ _ _ _ _ => pg_name (i := 7) scFilled.nd rfl (Or.inl rfl)) (fun _ _ _ _ _ => pts_one (pt_cmpR op_in_seq (pv 7) (pv 6) rfl)) (fun _ _ _ _ _ => pv 7)) pa_nil))
          (pa_cons (pe_tup (pa_cons (pv 8) (pa_cons (pv 9) pa_nil))) pa_nil)))) pa_nil))))))))))
      (pss_one (ps_ret (pv 4)))), ?_⟩
    refine ⟨(by show 0 ≤ sizeLine; omega), fun D hD => ?_⟩
    obtain ⟨nDp, nDc⟩ := hP.ne hD
    have sD : Same H (upd H D (.lst [])) := same_new hD
    -- lists are no dicts of the part
    have notes : ∀ {H1 : Hp} {R1 : Str → Str → Bool} {m1 : Nat} {ng1 : List (List Str × List Str)} {ts1 : List Addr}, PA H1 a C dx nm ds dd ss es ts1 R1 m1 ng1 → ∀ b o, H1 b = some o → (∀ kvs, o ≠ .dK kvs) → b ∉ es ∧ b ≠ dd := fun {H1 R1 m1 ng1 ts1} pa b o e n => by
      refine ⟨fun he => ?_, fun he => ?_⟩
      · obtain ⟨j, hj⟩ := List.mem_iff_getElem?.mp he
        have hjl : j < ss.length := by rw [pa.S.len]; exact (List.getElem?_eq_some_iff.mp hj).1
        obtain ⟨kvs, h, _⟩ := pa.S.at_ j b _ hj (List.getElem?_eq_getElem hjl)
        rw [e] at h
        exact n _ (Option.some.inj h)
      · subst he
        rw [pa.D.d] at e
        exact n _ (Option.some.inj e).symm
    have n0 := notes pa l _ hl (fun kvs e => by cases e)
    have n1 := notes pa dl _ hdl (fun kvs e => by cases e)
    refine ⟨_, rfl, l, rfl, ⟨_, SqL.of (sD _ _ hl)⟩, for_list (K := K) (a := l) (xs := ss.map V.str)
      (fun i σ H' => (∀ b o, H b = some o → b ≠ p → b ≠ dd → b ∉ es → H' b = some o) ∧ Pool H' p c ∧ (∃ (R1 : Str → Str → Bool) (m1 : Nat) (ng1 : List (List Str × List Str)) (ts1 : List Addr), PA H' a C dx nm ds dd ss es ts1 R1 m1 ng1 ∧ m1 ≤ 3 * i ∧ Good ss R1 ng1 ∧ (∀ s t, R1 s t = true → s ∈ ss.take i) ∧
          ∃ (us : List Addr) (rs : List (Str × List Str × (List Str × List Str))), H' D = some (.lst (us.map V.ref)) ∧ RowsAt H' us rs ∧ rs.length = i ∧ ∀ j s q, j < i → ss[j]? = some s → ng1[j]? = some q → rs[j]? = some (s, ss.filter (R1 s), q)) ∧
        ∃ v5 v6 v7 v8 v9 : Option V, σ = [some (.ref p), some (.ref a), some (.ref l), some (.ref dl), some (.ref D), v5, v6, v7, v8, v9])
      ⟨fun b o e _ _ _ => sD b o e, hP.new hD, ⟨_, 0, _, ts, pa.keep sD, Nat.zero_le _, ⟨(fun s t h => by cases h), fun q hq => ?_⟩, (fun s t h => by cases h), [], [], upd_same, True.intro, rfl, fun j s q h => absurd h (Nat.not_lt_zero _)⟩, _, _, _, _, _, rfl⟩
      (fun i σ H' _ h => SqL.of (h.1 _ _ hl nlp n0.2 n0.1)) ?_ ?_⟩
    · obtain ⟨w0, _, e⟩ := List.mem_map.mp hq
      subst e
      exact ⟨List.nodup_nil, List.nodup_nil, Nat.zero_le _, Nat.zero_le _⟩
    · rintro i y σ H' hi ⟨f1, P1, ⟨R1, m1, ng1, ts1, pa1, hm1, gd1, hR1, us, rs, eD, hrs, rl, hget⟩, v5, v6, v7, v8, v9, rfl⟩
      obtain ⟨z, hz, rfl⟩ := get_strs2 hi
      have mz : z ∈ ss := List.mem_of_getElem? hz
      have il : i < ss.length := (List.getElem?_eq_some_iff.mp hz).1
      have zi : z ∉ ss.take i := fun q => by
        obtain ⟨j, hj⟩ := List.mem_iff_getElem?.mp q
        have hji : j < i := by
          have := (List.getElem?_eq_some_iff.mp hj).1
          rw [List.length_take] at this
          omega
        rw [List.getElem?_take_of_lt hji] at hj
        exact absurd (nd_ix pa1.S.nd hj hz) (by omega)
      have l1 := f1 _ _ hl nlp n0.2 n0.1
      -- the leads
      refine ⟨_, rfl, _, rfl, p, c, l, ss, 3, rfl, P1, l1, nlp, s0, s10, Nat.le_refl _, fun q1 x1 H2 g2 P2 _ e2 nd1 sub1 len1 => ⟨q1, rfl, ⟨_, SqL.of e2⟩, fun D1 hD1 => ?_⟩⟩
      refine lc_list (K := K) (a := q1) (xs := x1.map V.str) (fun j H3 => Same H2 H3 ∧ H3 D1 = some (.lst (((x1.take j).filter fun t => !decide (t = z)).map V.str))) ⟨same_new hD1, upd_same⟩ (fun j H3 _ h => SqL.of (h.1 _ _ e2)) ?_ ?_
      · rintro j y H3 hj ⟨s3, e3⟩
        obtain ⟨d, hd, rfl⟩ := get_strs2 hj
        have dl_ : d.length ≤ 100 := hs d (sub1 d (List.mem_of_getElem? hd))
        refine ⟨rfl, _, rfl, _, rfl, rfl, _, rfl, ?_⟩
        by_cases e : d = z
        · refine no (by rw [e]; simp) ⟨s3, ?_⟩
          rw [filter_more hd, if_neg (by simp [e]), List.append_nil]
          exact e3
        · refine yes (by simp [e]) ⟨_, rfl, _, e3, small1000 ?_, fun b o q => by rw [upd_ne (ne_of_none q hD1)]; exact s3 b o q, ?_⟩
          · rw [List.length_map]
            exact Nat.le_trans (List.length_filter_le _ _) (by rw [List.length_take]; omega)
          · rw [upd_same, filter_more hd, if_pos (by simp [e]), List.map_append]
            rfl
      rintro H3 ⟨s3, e3⟩
      rw [List.length_map, List.take_length] at e3
      obtain ⟨w1, hw1⟩ : ∃ w1, w1 = x1.filter fun t => !decide (t = z) := ⟨_, rfl⟩
      rw [← hw1] at e3
      have w1s : ∀ t ∈ w1, t ∈ ss ∧ z ≠ t := fun t ht => by
        rw [hw1, List.mem_filter] at ht
        exact ⟨sub1 t ht.1, fun e => by simp [e] at ht⟩
      have w1l : w1.length ≤ 3 := by rw [hw1]; exact Nat.le_trans (List.length_filter_le _ _) len1
      have p3 := (pa1.keepL (P1.noL g2)).keep s3
      have P3 := P2.keep (fun o e => s3 _ _ e) fun o e => s3 _ _ e
      -- the steps
      refine ⟨_, rfl, D1, rfl, ⟨_, SqL.of e3⟩, for_list (K := K) (a := D1) (xs := w1.map V.str) (fun kk σ H4 => (∀ b o, H3 b = some o → b ∉ es → H4 b = some o) ∧ (∃ (R' : Str → Str → Bool) (m' : Nat), PA H4 a C dx nm ds dd ss es ts1 R' m' ng1 ∧ m' ≤ m1 + kk ∧
          ∀ s t, R' s t = (R1 s t || (decide (s = z) && decide (t ∈ w1.take kk)))) ∧ ∃ v7 : Option V, σ = [some (.ref p), some (.ref a), some (.ref l), some (.ref dl), some (.ref D), some (.str z), some (.ref D1), v7, v8, v9])
        ⟨fun b o e _ => e, ⟨R1, m1, p3, Nat.le_refl _, fun s t => by simp⟩, _, rfl⟩ (fun kk σ H4 _ h => SqL.of (h.1 _ _ e3 (notes p3 _ _ e3 (fun kvs e => by cases e)).1)) ?_ ?_⟩
      · rintro kk y σ H4 hk ⟨f4, ⟨R', m', p4, hm4, hR4⟩, v7', rfl⟩
        obtain ⟨d, hd, rfl⟩ := get_strs2 hk
        have md := w1s d (List.mem_of_getElem? hd)
        have kl : kk < 3 := Nat.lt_of_lt_of_le (List.getElem?_eq_some_iff.mp hd).1 w1l
        refine ⟨_, rfl, a, dx, _, rfl, p4.at_, fs_no _ _ _ (by decide +kernel) (by decide +kernel) (by decide +kernel), _, rfl, _, rfl, a, C, dx, _, ds, es, ss, R', m', z, d, rfl, pk.k.cls, pk.k.nS, p4.at_, fs_steps _ _ _, p4.S, by omega, hs z mz, hs d md.1, fun hn => absurd mz hn, fun _ hn => absurd md.1 hn, fun _ _ e => absurd e md.2, fun _ _ _ e H5 he g5 S5 => ?_⟩
        refine ⟨fun b o eb nb => g5 b o (f4 b o eb nb) (by rintro rfl; exact nb he), ⟨_, m' + 1, p4.step he g5 S5, by omega, fun s t => ?_⟩, _, rfl⟩
        unfold addR
        rw [hR4, take_more hd]
        by_cases e1 : s = z
        · subst e1
          by_cases e2 : t = d
          · subst e2
            simp
          · simp [e2]
        · simp [e1]
      rintro σ H4 ⟨f4, ⟨R', m', p4, hm4, hR4⟩, v7', rfl⟩
      rw [List.length_map] at hm4
      simp only [List.length_map, List.take_length] at hR4
      have f4n : ∀ b o, H3 b = some o → (∀ kvs, o ≠ .dK kvs) → H4 b = some o := fun b o e n => f4 b o e (notes p3 b o e n).1
      have P4 : Pool H4 p c := by
        obtain ⟨ys, e, q⟩ := P3
        refine ⟨ys, f4n _ _ e (fun kvs e => by cases e), ?_⟩
        rcases q with q | ⟨x, i, cs, e1, e2, e3, q⟩
        · exact .inl q
        · exact .inr ⟨x, i, cs, e1, e2, f4n _ _ e3 (fun kvs e => by cases e), q⟩
      have fr4 : ∀ b o, H b = some o → b ≠ p → b ≠ dd → b ∉ es → H4 b = some o := fun b o e a1 a2 a3 => f4 b o (s3 b o (g2 b o (f1 b o e a1 a2 a3) a1)) a3
      have eD4 := f4n _ _ (s3 _ _ (g2 _ _ eD nDp)) (fun kvs e => by cases e)
      have e14 := f4n _ _ e3 (fun kvs e => by cases e)
      have tk4 : ∀ b xs, H' b = some (.tup xs) → H4 b = some (.tup xs) := fun b xs e => f4n _ _ (s3 _ _ (P1.noL g2 b _ e (fun xs e => by cases e))) (fun kvs e => by cases e)
      have nD1p : D1 ≠ p := (P2.ne hD1).1
      -- needs, gives
      refine ⟨_, rfl, _, rfl, p, c, dl, os, 2, rfl, P4, fr4 _ _ hdl ndp n1.2 n1.1, ndp, o0, o10, by omega, fun q2 x2 H5 g5 P5 _ e5 nd2 sub2 len2 => ⟨q2, _, rfl, .inl ⟨SqL.of e5, fun t2 ht2 => ?_⟩⟩⟩
      have s6 : Same H5 (upd H5 t2 (.tup (x2.map V.str))) := same_new ht2
      have t2e : upd H5 t2 (.tup (x2.map V.str)) t2 = some (.tup (x2.map V.str)) := upd_same
      have P6 := P5.new (o := .tup (x2.map V.str)) ht2
      generalize upd H5 t2 (.tup (x2.map V.str)) = H6 at s6 t2e P6
      have fr6 : ∀ b o, H b = some o → b ≠ p → b ≠ dd → b ∉ es → H6 b = some o := fun b o e a1 a2 a3 => s6 _ _ (g5 b o (fr4 b o e a1 a2 a3) a1)
      refine ⟨_, rfl, _, rfl, p, c, dl, os, 2, rfl, P6, fr6 _ _ hdl ndp n1.2 n1.1, ndp, o0, o10, by omega, fun q3 x3 H7 g7 P7 _ e7 nd3 sub3 len3 => ⟨q3, _, rfl, .inl ⟨SqL.of e7, fun t3 ht3 => ?_⟩⟩⟩
      have s8 : Same H7 (upd H7 t3 (.tup (x3.map V.str))) := same_new ht3
      have t3e : upd H7 t3 (.tup (x3.map V.str)) t3 = some (.tup (x3.map V.str)) := upd_same
      have P8 := P7.new (o := .tup (x3.map V.str)) ht3
      generalize upd H7 t3 (.tup (x3.map V.str)) = H8 at s8 t3e P8
      have t2e8 := s8 _ _ (P6.noL g7 _ _ t2e (fun xs e => by cases e))
      -- kind[before] = (needs, gives)
      refine ⟨_, rfl, _, rfl, (by show 2 ≤ sizeLine; decide), fun w' hw => ?_⟩
      have s9 : Same H8 (upd H8 w' (.tup [.ref t2, .ref t3])) := same_new hw
      have we : upd H8 w' (.tup [.ref t2, .ref t3]) w' = some (.tup [.ref t2, .ref t3]) := upd_same
      have P9 := P8.new (o := .tup [.ref t2, .ref t3]) hw
      generalize upd H8 w' (.tup [.ref t2, .ref t3]) = H9 at s9 we P9
      have g49 : Gro p H4 H9 := (g5.trans (.of_same s6)).trans ((g7.trans (.of_same s8)).trans (.of_same s9))
      have p9 := p4.keepL (P4.noL g49)
      refine ⟨_, rfl, _, rfl, a, dx, _, rfl, p9.at_, a, C, dx, _, dd, ts1, ss, ng1, z, w', t2, t3, x2, x3, rfl, pk.d.cls, pk.d.nD, p9.at_, fs_doors _ _ _, p9.D, hs z mz, we, .inr (SqT.of (s9 _ _ t2e8)), .inr (SqT.of (s9 _ _ t3e)), by omega, by omega, by omega, fun hn => absurd mz hn, fun i' hi' ts' H10 g10 D10 => ?_⟩
      have ei := nd_ix p9.S.nd hi' hz
      subst ei
      rw [once_id nd2, once_id nd3] at D10
      have p10 := p9.put g10 D10
      have P10 := P9.dict g10 ⟨_, p9.D.d⟩
      have nd10 : ∀ b o, H9 b = some o → (∀ kvs, o ≠ .dK kvs) → H10 b = some o := fun b o e n => g10 b o e (notes p9 b o e n).2
      have fr10 : ∀ b o, H b = some o → b ≠ p → b ≠ dd → b ∉ es → H10 b = some o := fun b o e a1 a2 a3 => g10 b o (g49 b o (fr4 b o e a1 a2 a3) a1) a2
      have l10 := fr10 _ _ hl nlp n0.2 n0.1
      have eD10 := nd10 _ _ (g49 _ _ eD4 nDp) (fun kvs e => by cases e)
      have e110 := nd10 _ _ (g49 _ _ e14 nD1p) (fun kvs e => by cases e)
      have t210 := nd10 _ _ (s9 _ _ t2e8) (fun kvs e => by cases e)
      have t310 := nd10 _ _ (s9 _ _ t3e) (fun kvs e => by cases e)
      have tk10 : ∀ b xs, H' b = some (.tup xs) → H10 b = some (.tup xs) := fun b xs e => nd10 _ _ (P4.noL g49 _ _ (tk4 _ _ e) (fun xs e => by cases e)) (fun kvs e => by cases e)
      -- the row
      refine ⟨_, rfl, .inl ⟨rfl, _, SqL.of eD10⟩, _, rfl, _, rfl, l, rfl, ⟨_, SqL.of l10⟩, fun D2 hD2 => ?_⟩
      refine lc_list (K := K) (a := l) (xs := ss.map V.str) (fun j H3 => Same H10 H3 ∧ H3 D2 = some (.lst (((ss.take j).filter fun t => decide (t ∈ w1)).map V.str))) ⟨same_new hD2, upd_same⟩ (fun j H3 _ h => SqL.of (h.1 _ _ l10)) ?_ ?_
      · rintro j y H3 hj ⟨s3', e3'⟩
        obtain ⟨d, hd, rfl⟩ := get_strs2 hj
        refine ⟨rfl, _, rfl, _, rfl, D1, _, rfl, .inl (SqL.of (s3' _ _ e110)), rfl, flat_strs _, _, rfl, ?_⟩
        show if (inV (.str d) (w1.map V.str)) = true then _ else _
        rw [inV_strs]
        by_cases e : d ∈ w1
        · refine yes (decide_eq_true e) ⟨_, rfl, _, e3', small1000 ?_, fun b o q => by rw [upd_ne (ne_of_none q hD2)]; exact s3' b o q, ?_⟩
          · rw [List.length_map]
            exact Nat.le_trans (List.length_filter_le _ _) (by rw [List.length_take]; omega)
          · rw [upd_same, filter_more hd, if_pos (decide_eq_true e), List.map_append]
            rfl
        · refine no (decide_eq_false e) ⟨s3', ?_⟩
          rw [filter_more hd, if_neg (by simpa using e), List.append_nil]
          exact e3'
      rintro H11 ⟨s11, e11⟩
      rw [List.length_map, List.take_length] at e11
      refine ⟨D2, _, rfl, .inl ⟨SqL.of e11, fun t4 ht4 => ?_⟩⟩
      have s12 : Same H11 (upd H11 t4 (.tup ((ss.filter fun t => decide (t ∈ w1)).map V.str))) := same_new ht4
      have t4e : upd H11 t4 (.tup ((ss.filter fun t => decide (t ∈ w1)).map V.str)) t4 = some (.tup ((ss.filter fun t => decide (t ∈ w1)).map V.str)) := upd_same
      generalize upd H11 t4 (.tup ((ss.filter fun t => decide (t ∈ w1)).map V.str)) = H12 at s12 t4e
      refine ⟨_, rfl, _, rfl, (by show 2 ≤ sizeLine; decide), fun t5 ht5 => ⟨(by show 3 ≤ sizeLine; decide), fun u hu => ?_⟩⟩
      have s13 : Same H12 (upd H12 t5 (.tup [.ref t2, .ref t3])) := same_new ht5
      have t5e : upd H12 t5 (.tup [.ref t2, .ref t3]) t5 = some (.tup [.ref t2, .ref t3]) := upd_same
      generalize upd H12 t5 (.tup [.ref t2, .ref t3]) = H13 at s13 t5e hu
      have s14 : Same H13 (upd H13 u (.tup [.str z, .ref t4, .ref t5])) := same_new hu
      have ue : upd H13 u (.tup [.str z, .ref t4, .ref t5]) u = some (.tup [.str z, .ref t4, .ref t5]) := upd_same
      generalize upd H13 u (.tup [.str z, .ref t4, .ref t5]) = H14 at s14 ue
      have s1014 := ((s11.trans s12).trans s13).trans s14
      have eD14 := s1014 _ _ eD10
      have ul : us.length = rs.length := hrs.len
      refine ⟨D, _, _, rfl, rfl, eD14, small1000 (by rw [List.length_map]; omega), ?_⟩
      have offD : ∀ b o, H14 b = some o → (∀ xs, o ≠ .lst xs) → upd H14 D (.lst (us.map V.ref ++ [.ref u])) b = some o := fun b o e n => by
        rw [upd_ne]
        · exact e
        · rintro rfl
          rw [eD14] at e
          exact n _ (Option.some.inj e).symm
      have tkD : ∀ b xs, H14 b = some (.tup xs) → upd H14 D (.lst (us.map V.ref ++ [.ref u])) b = some (.tup xs) := fun b xs e => offD _ _ e (fun xs e => by cases e)
      have eqF : (ss.filter fun t => decide (t ∈ w1)) = ss.filter (R' z) := List.filter_congr fun t _ => by
        rw [hR4]
        have r0 : R1 z t = false := by
          cases q : R1 z t with
          | false => rfl
          | true => exact absurd (hR1 z t q) zi
        rw [r0]
        simp
      rw [eqF] at t4e
      refine ⟨fun b o e a1 a2 a3 => ?_, (P10.keep (fun o e => s1014 _ _ e) fun o e => s1014 _ _ e).off nDp nDc, ⟨R', m', _, ts', (p10.keep s1014).keepL offD, by omega, ⟨fun s t h => ?_, fun q hq => ?_⟩, fun s t h => ?_, us ++ [u], rs ++ [(z, ss.filter (R' z), (x2, x3))], by rw [upd_same, List.map_append]; rfl,
        RowsAt.snoc (r := (z, ss.filter (R' z), (x2, x3))) ⟨t4, t5, t2, t3, tkD _ _ ue, tkD _ _ (s14 _ _ (s13 _ _ t4e)), tkD _ _ (s14 _ _ t5e), tkD _ _ (s1014 _ _ t210), tkD _ _ (s1014 _ _ t310)⟩ (RowsAt.keep (fun b xs e => tkD _ _ (s1014 _ _ (tk10 _ _ e))) hrs), by rw [List.length_append, rl]; rfl, fun j s q hj h1 h2 => ?_⟩, _, _, _, _, _, rfl⟩
      · rw [upd_ne (ne_of_none e hD)]
        exact s1014 _ _ (fr10 b o e a1 a2 a3)
      · rw [hR4] at h
        cases q : R1 s t with
        | true => exact gd1.st s t q
        | false =>
          rw [q] at h
          simp at h
          obtain ⟨e1, e2⟩ := h
          subst e1
          exact ⟨mz, (w1s t e2).1, (w1s t e2).2⟩
      · rcases List.mem_or_eq_of_mem_set hq with q' | q'
        · exact gd1.nd q q'
        · subst q'
          exact ⟨nd2, nd3, by show x2.length ≤ 1000; omega, by show x3.length ≤ 1000; omega⟩
      · rw [hR4] at h
        rw [take_more hz]
        cases q : R1 s t with
        | true => exact List.mem_append_left _ (hR1 s t q)
        | false =>
          rw [q] at h
          simp at h
          rw [h.1]
          exact List.mem_append_right _ (List.mem_singleton.mpr rfl)
      · by_cases e : j = i'
        · subst e
          rw [List.getElem?_append_right (by omega), rl, Nat.sub_self]
          have es_ : s = z := Option.some.inj (h1.symm.trans hz)
          rw [List.getElem?_set_self (by rw [p9.D.ln]; exact il)] at h2
          rw [es_, ← Option.some.inj h2]
          rfl
        · have jl : j < i' := by omega
          rw [List.getElem?_set_ne (by omega)] at h2
          rw [List.getElem?_append_left (by omega), hget j s q jl h1 h2]
          have nz : s ≠ z := fun e' => e (nd_ix pa1.S.nd h1 (by rw [e']; exact hz))
          have eR : ss.filter (R1 s) = ss.filter (R' s) := List.filter_congr fun t _ => by rw [hR4]; simp [nz]
          rw [eR]
    · rintro σ H' ⟨f1, P1, ⟨R1, m1, ng1, ts1, pa1, hm1, gd1, hR1, us, rs, eD, hrs, rl, hget⟩, v5, v6, v7, v8, v9, rfl⟩
      rw [List.length_map] at hm1 rl hget
      have e : rs = rowsOf ss (fun s => ss.filter (R1 s)) ng1 := by
        refine List.ext_getElem? fun j => ?_
        rcases Nat.lt_or_ge j ss.length with h | h
        · have h1 : ss[j]? = some ss[j] := List.getElem?_eq_getElem h
          have h2 : ng1[j]? = some (ng1[j]'(by rw [pa1.D.ln]; exact h)) := List.getElem?_eq_getElem _
          rw [hget j _ _ h h1 h2, rowsOf_get h1 h2]
        · rw [List.getElem?_eq_none (by omega), List.getElem?_eq_none (by rw [rowsOf_len pa1.D.ln]; exact h)]
      rw [e] at hrs
      exact ⟨_, rfl, k D us R1 m1 ng1 ts1 H' f1 P1 pa1 gd1 (by omega) hD eD hrs⟩
end
end Yd
namespace Yd
open PySem L2
/-! ### one of two parts changes, the other one stays -/
theorem at_end {α : Type} {xs : List α} {v : α} (h : xs[xs.length - 1]? = some v) {z : Int} (e : z = -1) : atI xs z = some v := by
  have h0 : 0 < xs.length := by
    have := (List.getElem?_eq_some_iff.mp h).1
    omega
  subst e
  have q : ixN xs.length (-1) = some (xs.length - 1) := by
    unfold ixN
    rw [if_neg (by decide), if_pos (by omega)]
    congr 1
    omega
  unfold atI
  rw [q]
  exact h
theorem ixN_end {n : Nat} (h : 0 < n) : ixN n (-1) = some (n - 1) := by
  unfold ixN
  rw [if_neg (by decide), if_pos (by omega)]
  congr 1
  omega
theorem rowsOf_ext {ss : List Str} {L : Str → List Str} {ng : List (List Str × List Str)} {rs : List (Str × List Str × (List Str × List Str))} (hl : rs.length = ss.length) (hn : ng.length = ss.length) (h : ∀ (j : Nat) (s : Str) (p : List Str × List Str), ss[j]? = some s → ng[j]? = some p → rs[j]? = some (s, L s, p)) : rs = rowsOf ss L ng := by
  refine List.ext_getElem? fun j => ?_
  rcases Nat.lt_or_ge j ss.length with q | q
  · have h1 : ss[j]? = some ss[j] := List.getElem?_eq_getElem q
    have h2 : ng[j]? = some (ng[j]'(by rw [hn]; exact q)) := List.getElem?_eq_getElem _
    rw [h j _ _ h1 h2, rowsOf_get h1 h2]
  · rw [List.getElem?_eq_none (by omega), List.getElem?_eq_none (by rw [rowsOf_len hn]; exact q)]
theorem rows_ng {ss : List Str} {L : Str → List Str} {ng : List (List Str × List Str)} {i : Nat} {s : Str} {p : List Str × List Str} (hn : ng.length = ss.length) (hi : ss[i]? = some s) : (rowsOf ss L ng).set i (s, L s, p) = rowsOf ss L (ng.set i p) := by
  have il : i < ss.length := (List.getElem?_eq_some_iff.mp hi).1
  refine rowsOf_ext (by rw [List.length_set, rowsOf_len hn]) (by rw [List.length_set, hn]) fun j t q h1 h2 => ?_
  by_cases e : i = j
  · subst e
    rw [List.getElem?_set_self (by rw [hn]; exact il)] at h2
    rw [List.getElem?_set_self (by rw [rowsOf_len hn]; exact il), ← Option.some.inj h2, Option.some.inj (hi.symm.trans h1)]
  · rw [List.getElem?_set_ne e] at h2
    rw [List.getElem?_set_ne e, rowsOf_get h1 h2]
theorem rows_st {ss : List Str} {R R' : Str → Str → Bool} {ng : List (List Str × List Str)} {i : Nat} {s : Str} {p : List Str × List Str} (hn : ng.length = ss.length) (nd : ss.Nodup) (hi : ss[i]? = some s) (hp : ng[i]? = some p) (h : ∀ u t, u ≠ s → R' u t = R u t) :
    (rowsOf ss (fun s => ss.filter (R s)) ng).set i (s, ss.filter (R' s), p) = rowsOf ss (fun s => ss.filter (R' s)) ng := by
  have il : i < ss.length := (List.getElem?_eq_some_iff.mp hi).1
  refine rowsOf_ext (by rw [List.length_set, rowsOf_len hn]) hn fun j t q h1 h2 => ?_
  by_cases e : i = j
  · subst e
    rw [List.getElem?_set_self (by rw [rowsOf_len hn]; exact il), ← Option.some.inj (hp.symm.trans h2), Option.some.inj (hi.symm.trans h1)]
  · rw [List.getElem?_set_ne e, rowsOf_get h1 h2]
    have nt : t ≠ s := fun q' => e (nd_ix nd hi (by rw [← q']; exact h1))
    have eR : ss.filter (R t) = ss.filter (R' t) := List.filter_congr fun u _ => (h t u nt).symm
    rw [eR]
theorem once_two (z : Str) : onceS [z, z] = [z] := by simp [onceS, addOnce]
theorem once_one (z : Str) : onceS [z] = [z] := by simp [onceS, addOnce]
def spApart (P : Program) (w : World) (K : PySem.W.Frag) (mg : Str → Option Value) (base : Heap) (fA fS fF fN fG fI fP fT fL CS CD CP CI CM : Addr) : Sp := fun vs H Q _ => ∃ (a a2 C fR : Addr) (one : Bool) (suf : Str) (dx : Addr) (nm : Str) (ds dd : Addr) (ss : List Str) (es ts : List Addr) (R : Str → Str → Bool) (m : Nat) (ng : List (List Str × List Str))
    (dx2 ds2 dd2 : Addr) (es2 ts2 : List Addr) (m2 : Nat) (dq : Addr) (z : Str) (x l : Addr) (us : List Addr),
  vs = [.ref a, .ref a2, .bl one, .ref dq, .str z] ∧ Kd P w K mg base fA fS fF fN fG fI fP fT fL CS CD CP CI CM C fR one suf ∧ PA H a C dx nm ds dd ss es ts R m ng ∧ PA H a2 C dx2 nm ds2 dd2 ss es2 ts2 R m2 ng ∧
  DueAt H dq nm ss (rowsOf ss (fun s => ss.filter (R s)) ng) (rowText nm ss ++ suf) x l us ∧ (dd ≠ ds2 ∧ dd ≠ dd2 ∧ dd ∉ es2) ∧ (∀ e ∈ es, e ≠ ds2 ∧ e ≠ dd2 ∧ e ∉ es2) ∧ (dd2 ≠ ds ∧ dd2 ≠ dd ∧ dd2 ∉ es) ∧ 0 < ss.length ∧ ss.length ≤ 10 ∧ (∀ s ∈ ss, s.length ≤ 100) ∧ nm.length ≤ 100 ∧ z.length ≤ 100 ∧ m ≤ 900 ∧
  ∀ H', (∀ b o, H b = some o → b ≠ dd → b ∉ es → b ≠ dd2 → H' b = some o) → Q (.bl true) H'
section
variable {P : Program} {w : World} {K : PySem.W.Frag} {mg : Str → Option Value} {base : Heap}
def nApart : List Str := ["_law_changed", "_law_other", "_law_single", "_law_due", "_law_strange", "_law_standings", "_law_rows", "_law_leads", "_law_after", "_law_first", "_law_second"]
theorem scApart : FnScope nApart ["_law_changed", "_law_other", "_law_single", "_law_due", "_law_strange"] (defScope sApart) := ⟨rfl, rfl, rfl, by decide +kernel, rfl, by decide +kernel, by decide +kernel⟩
theorem ok_apart {f fA fS fF fN fG fI fP fT fL CS CD CP CI CM fO CU CN : Addr} {fd dO dA dP : FuncData} (F : Fun K "_law_apart" "_law_apart" sApart f fd) (B : Blt mg) (hT : mg "tuple" = none) (hL : mg "list" = none)
    (GO : FnOk P w K mg base CX0 5 fO dO ["_law_part", "_law_single"] (spTold P w K mg base fA fS fF fN fG fI fP fT fL CS CD CP CI CM)) (TO : Fn K mg "_law_told" sTold ["_law_part", "_law_single"] fO dO)
    (GA : FnOk P w K mg base (L2.CX P w) 3 fA dA ["self", "before", "after"] (spAllow K CU CN)) (bA : Binds K dA ["self", "before", "after"] []) (GP : FnOk P w K mg base (L2.CX P w) 3 fP dP ["self", "at", "worth"] (spDPut K CU)) (bP : Binds K dP ["self", "at", "worth"] []) :
    FnOk P w K mg base CX0 6 f fd ["_law_changed", "_law_other", "_law_single", "_law_due", "_law_strange"] (spApart P w K mg base fA fS fF fN fG fI fP fT fL CS CD CP CI CM) := by
  refine F.ok scApart (fun vs H Q E h => ?_) (fun cdv A outer s H vs Q E hr h => ?_)
  · obtain ⟨a, a2, C, fR, one, suf, dx, nm, ds, dd, ss, es, ts, R, m, ng, dx2, ds2, dd2, es2, ts2, m2, dq, z, x, l, us, rfl, _⟩ := h
    rfl
  · obtain ⟨a, a2, C, fR, one, suf, dx, nm, ds, dd, ss, es, ts, R, m, ng, dx2, ds2, dd2, es2, ts2, m2, dq, z, x, l, us, rfl, kd, pa, pb, hd, ⟨x1, x2, x3⟩, xe, ⟨y1, y2, y3⟩, s0, s10, hs, hnm, hz, hm, k⟩ := h
    have r3 : Room 3 _ := hr.mono (by decide)
    have pk := kd.pk
    refine ⟨_, pss_cons (ps_set (i := 5) scApart.nd rfl (Or.inr rfl) (pe_ix ix_tup (pv 3) pe_int (fun _ _ => rfl)))
      (pss_cons (ps_set (i := 6) scApart.nd rfl (Or.inr rfl) (pe_callTy call_list_of (by rfl) hL (by decide +kernel) (pa_cons (pe_ix ix_tup (pv 3) pe_int (fun _ _ => rfl)) pa_nil)))
      (C8.pss_cut (ps_if (pt_cmpR op_gt (pe_callB call_len_seq (by rfl) B.len PySem.boot_len (pa_cons (pv 6) pa_nil)) pe_int (nomark _))
        (pss_cons (ps_expr (pe_meth (pv 0) pk.k.cls pk.k.mA GA r3 bA .nil passF (pa_cons (pe_ix ix_tup (pv 5) (pe_un un_neg pe_int) (fun _ _ => rfl)) (pa_cons (pe_ix ix_tup (pv 5) pe_int (fun _ _ => rfl)) pa_nil))))
        (pss_cons (ps_setLc (i := 7) (own := [("_law_after", 8)]) (g := gName 8) (tt := tOr (tTest (tOp rEq (tVar 8) (tOp (rIxT K) (tVar 5) (tC (.int 0))))) (tTest (tOp (rIn K false) (tVar 8) (tOp (rIxT K) (tOp (rIxL K) (tVar 6) (tUn (rU fun i => .int (-i)) (tC (.int 1)))) (tC (.int 1)))))) rfl scApart.nd rfl rfl (sw_true rfl rfl rfl (by decide +kernel)) (pi_tup (pv 5))
            (blkOk_by (N := nApart) (sc := defScope sApart) (by decide +kernel)) (fun _ _ _ _ _ => pg_name (i := 8) scApart.nd rfl (Or.inl rfl))
            (fun _ _ _ _ _ => pts_one (PW.pt (pw_or (pt_cmpR op_eq (pv 8) (pe_ix ix_tup (pv 5) pe_int (fun _ _ => rfl)) (nomark _)) (pw_or1 (pt_cmpR op_in_seq (pv 8) (pe_ix ix_tup (pe_ix ix_list (pv 6) (pe_un un_neg pe_int) (fun _ _ => rfl)) pe_int (fun _ _ => rfl)) rfl))))) (fun _ _ _ _ _ => pv 8))
        (pss_one (ps_asg (pe_tup (pa_cons (pe_ix ix_tup (pv 5) (pe_un un_neg pe_int) (fun _ _ => rfl)) (pa_cons (pe_callTy call_tuple_of (by rfl) hT (by decide +kernel) (pa_cons (pv 7) pa_nil)) (pa_cons (pe_ix ix_tup (pe_ix ix_list (pv 6) (pe_un un_neg pe_int) (fun _ _ => rfl)) pe_int (fun _ _ => rfl)) pa_nil)))) (pg_sub (pv 6) (pe_un un_neg pe_int) set_list))))) pss_nil)
      (pss_cons (ps_asg (pe_tup (pa_cons (pe_lst (pa_cons (pv 4) pa_nil)) (pa_cons (pe_tup (pa_cons (pv 4) (pa_cons (pv 4) pa_nil))) pa_nil))) (pg_subO (E := fun _ _ _ _ => False) (pv 0) (pe_ix ix_tup (pv 5) pe_int (fun _ _ => rfl)) pk.d.pi GP r3 bP (at_all passF)))
      (pss_cons (ps_asg (pe_tup (pa_cons (pe_ix ix_tup (pv 5) pe_int (fun _ _ => rfl)) (pa_cons (pe_ix ix_tup (pe_ix ix_list (pv 6) pe_int (fun _ _ => rfl)) pe_int (fun _ _ => rfl)) (pa_cons (pe_tup (pa_cons (pe_tup (pa_cons (pv 4) pa_nil)) (pa_cons (pe_tup (pa_cons (pv 4) pa_nil)) pa_nil))) pa_nil)))) (pg_sub (pv 6) pe_int set_list))
      (pss_cons (ps_set (i := 9) scApart.nd rfl (Or.inl rfl) (pe_tup (pa_cons (pe_ix ix_tup (pv 3) pe_int (fun _ _ => rfl)) (pa_cons (pv 5) (pa_cons (pv 6) (pa_cons (pe_ix ix_tup (pv 3) pe_int (fun _ _ => rfl)) pa_nil))))))
      (pss_cons (ps_if (PW.pt (pw_or (pt_cmpR (op_neS hr.units) (pe_call GO hr rfl TO.g TO.F.kp TO.b .nil pass0 (pa_cons (pv 0) (pa_cons (pv 2) pa_nil))) (pv 9) (nomark _)) (pw_or1 (pt_cmpR (op_neS hr.units) (pe_call GO hr rfl TO.g TO.F.kp TO.b .nil pass0 (pa_cons (pv 1) (pa_cons (pv 2) pa_nil))) (pv 3) (nomark _))))) (pss_one (ps_ret pe_bl)) pss_nil)
      (pss_cons (ps_asg (pe_tup (pa_cons (pe_tup pa_nil) (pa_cons (pe_tup pa_nil) pa_nil))) (pg_subO (E := fun _ _ _ _ => False) (pv 1) (pe_ix ix_tup (pv 5) (pe_un un_neg pe_int) (fun _ _ => rfl)) pk.d.pi GP r3 bP (at_all passF)))
      (pss_cons (ps_set (i := 6) scApart.nd rfl (Or.inr rfl) (pe_callTy call_list_of (by rfl) hL (by decide +kernel) (pa_cons (pe_ix ix_tup (pv 3) pe_int (fun _ _ => rfl)) pa_nil)))
      (pss_cons (ps_asg (pe_tup (pa_cons (pe_ix ix_tup (pv 5) (pe_un un_neg pe_int) (fun _ _ => rfl)) (pa_cons (pe_ix ix_tup (pe_ix ix_list (pv 6) (pe_un un_neg pe_int) (fun _ _ => rfl)) pe_int (fun _ _ => rfl)) (pa_cons (pe_tup (pa_cons (pe_tup pa_nil) (pa_cons (pe_tup pa_nil) pa_nil))) pa_nil)))) (pg_sub (pv 6) (pe_un un_neg pe_int) set_list))
      (pss_cons (ps_set (i := 10) scApart.nd rfl (Or.inl rfl) (pe_tup (pa_cons (pe_ix ix_tup (pv 3) pe_int (fun _ _ => rfl)) (pa_cons (pv 5) (pa_cons (pv 6) (pa_cons (pe_ix ix_tup (pv 3) pe_int (fun _ _ => rfl)) pa_nil))))))
      (pss_one (ps_ret (pe_and (pe_cmpR (op_eqS hr.units) (pe_call GO hr rfl TO.g TO.F.kp TO.b .nil pass0 (pa_cons (pv 0) (pa_cons (pv 2) pa_nil))) (pv 9) (nomark _)) (pe_one (pe_cmpR (op_eqS hr.units) (pe_call GO hr rfl TO.g TO.F.kp TO.b .nil pass0 (pa_cons (pv 1) (pa_cons (pv 2) pa_nil))) (pv 10) (nomark _)))))))))))))))), ?_⟩
    have hd0 := hd
    obtain ⟨d1, d2, d3, d4⟩ := hd
    obtain ⟨fst, hf⟩ : ∃ f, ss[0]? = some f := ⟨_, List.getElem?_eq_getElem s0⟩
    obtain ⟨lst, hla⟩ : ∃ f, ss[ss.length - 1]? = some f := ⟨_, List.getElem?_eq_getElem (by omega)⟩
    have mf : fst ∈ ss := List.mem_of_getElem? hf
    have ml : lst ∈ ss := List.mem_of_getElem? hla
    obtain ⟨pf, hpf⟩ : ∃ q, ng[0]? = some q := ⟨_, List.getElem?_eq_getElem (by rw [pa.D.ln]; exact s0)⟩
    obtain ⟨pl, hpl⟩ : ∃ q, ng[ss.length - 1]? = some q := ⟨_, List.getElem?_eq_getElem (by rw [pa.D.ln]; omega)⟩
    have ul : us.length = ss.length := d4.len.trans (rowsOf_len pa.D.ln)
    have hfV : (ss.map V.str)[0]? = some (.str fst) := by rw [List.getElem?_map, hf]; rfl
    have hlV : (ss.map V.str)[(ss.map V.str).length - 1]? = some (.str lst) := by rw [List.length_map, List.getElem?_map, hla]; rfl
    have notes : ∀ {H1 : Hp} {a C dx : Addr} {nm : Str} {ds dd : Addr} {es : List Addr} {R1 : Str → Str → Bool} {m1 : Nat} {ng1 : List (List Str × List Str)} {ts1 : List Addr}, PA H1 a C dx nm ds dd ss es ts1 R1 m1 ng1 → ∀ b o, H1 b = some o → (∀ kvs, o ≠ .dK kvs) → b ∉ es ∧ b ≠ dd := fun {H1 a C dx nm ds dd es R1 m1 ng1 ts1} pa b o e n => by
      refine ⟨fun he => ?_, fun he => ?_⟩
      · obtain ⟨j, hj⟩ := List.mem_iff_getElem?.mp he
        have hjl : j < ss.length := by rw [pa.S.len]; exact (List.getElem?_eq_some_iff.mp hj).1
        obtain ⟨kvs, h, _⟩ := pa.S.at_ j b _ hj (List.getElem?_eq_getElem hjl)
        rw [e] at h
        exact n _ (Option.some.inj h)
      · subst he
        rw [pa.D.d] at e
        exact n _ (Option.some.inj e).symm
    -- standings, rows
    refine ⟨_, rfl, dq, _, 1, .ref x, rfl, rfl, SqT.of d1, at_c (j := 1) rfl rfl, ?_⟩
    refine ⟨_, rfl, dq, _, 2, .ref l, rfl, rfl, SqT.of d1, at_c (j := 2) rfl rfl, l, _, rfl, .inl (SqL.of d3), fun L1 hL1 => ?_⟩
    have q1 : Same H (upd H L1 (.lst (us.map V.ref))) := same_new hL1
    have eL1 : upd H L1 (.lst (us.map V.ref)) L1 = some (.lst (us.map V.ref)) := upd_same
    have lL1 : l ≠ L1 := ne_of_none d3 hL1
    generalize upd H L1 (.lst (us.map V.ref)) = H1 at q1 eL1
    have p1 := pa.keep q1
    have pb1 := pb.keep q1
    have hd1 := hd0.keep (fun b xs e => q1 _ _ e) (fun o e => q1 _ _ e)
    clear d1 d2 d3 pa pb hd0
    obtain ⟨d1, d2, d3, d4'⟩ := id hd1
    -- a step more, if there are two
    refine ⟨fun σ H' => ∃ (R' : Str → Str → Bool) (us1 : List Addr) (m' : Nat) (v7 v8 : Option V), PA H' a C dx nm ds dd ss es ts R' m' ng ∧ H' L1 = some (.lst (us1.map V.ref)) ∧ RowsAt H' us1 (rowsOf ss (fun s => ss.filter (R' s)) ng) ∧ (∀ b o, H1 b = some o → b ∉ es → b ≠ L1 → H' b = some o) ∧
      σ = [some (.ref a), some (.ref a2), some (.bl one), some (.ref dq), some (.str z), some (.ref x), some (.ref L1), v7, v8, none, none], ?_, ?_⟩
    · refine ⟨_, rfl, L1, _, rfl, .inl (SqL.of eL1), _, _, rfl, rfl, _, rfl, ite2 (fun hgt => ?_) (fun _ => ⟨R, us, m, _, _, p1, eL1, d4', fun b o e _ _ => e, rfl⟩)⟩
      have n2 : 1 < ss.length := by
        have q := of_decide_eq_true hgt
        rw [List.length_map, ul] at q
        omega
      have lf : lst ≠ fst := fun e => by
        have q := nd_ix p1.S.nd hla (by rw [e]; exact hf)
        omega
      refine ⟨_, rfl, a, dx, _, rfl, p1.at_, fs_no _ _ _ (by decide +kernel) (by decide +kernel) (by decide +kernel), _, rfl, 1, rfl, x, _, -1, .str lst, rfl, rfl, SqT.of d2, at_end hlV rfl, _, rfl, x, _, 0, .str fst, rfl, rfl, SqT.of d2, at_c (j := 0) hfV rfl,
        a, C, dx, _, ds, es, ss, R, m, lst, fst, rfl, pk.k.cls, pk.k.nS, p1.at_, fs_steps _ _ _, p1.S, by omega, hs _ ml, hs _ mf, fun hn => absurd ml hn, fun _ hn => absurd mf hn, fun _ _ e => absurd e lf, fun _ _ _ e H2 he g2 S2 => ?_⟩
      have p2 := p1.step he g2 S2
      have f2 : ∀ b o, H1 b = some o → b ∉ es → H2 b = some o := fun b o h nb => g2 b o h (by rintro rfl; exact nb he)
      have f2n : ∀ b o, H1 b = some o → (∀ kvs, o ≠ .dK kvs) → H2 b = some o := fun b o h n => f2 b o h (notes p1 b o h n).1
      have tk2 : ∀ b xs, H1 b = some (.tup xs) → H2 b = some (.tup xs) := fun b xs e => f2n _ _ e (fun kvs e => by cases e)
      have eL2 := f2n _ _ eL1 (fun kvs e => by cases e)
      have dx2 := tk2 _ _ d2
      obtain ⟨ul_, hul, xr, tr, nr, gr, w1, w2, w3, w4, w5⟩ := RowsAt.get d4' (rowsOf_get (L := fun s => ss.filter (R s)) hla hpl)
      have hulV : (us.map V.ref)[(us.map V.ref).length - 1]? = some (.ref ul_) := by rw [List.length_map, List.getElem?_map, ul, hul]; rfl
      refine ⟨_, rfl, x, rfl, ⟨_, SqT.of dx2⟩, fun D hD => ?_⟩
      refine lc_tup (K := K) (a := x) (xs := ss.map V.str) (fun j H3 => Same H2 H3 ∧ H3 D = some (.lst (((ss.take j).filter (addR R lst fst lst)).map V.str))) ⟨same_new hD, upd_same⟩ (fun j H3 _ h => SqT.of (h.1 _ _ dx2)) ?_ ?_
      · rintro j y H3 hj ⟨s3, e3⟩
        obtain ⟨d, hd, rfl⟩ := get_strs2 hj
        have md : d ∈ ss := List.mem_of_getElem? hd
        have addit : addR R lst fst lst d = true → ∃ acc, H3 D = some (.lst acc) ∧ acc.length < sizeLine ∧ Same H2 (upd H3 D (.lst (acc ++ [.str d]))) ∧ upd H3 D (.lst (acc ++ [.str d])) D = some (.lst (((ss.take (j + 1)).filter (addR R lst fst lst)).map V.str)) := fun hq => by
          refine ⟨_, e3, small1000 ?_, fun b o q => by rw [upd_ne (ne_of_none q hD)]; exact s3 b o q, ?_⟩
          · rw [List.length_map]
            exact Nat.le_trans (List.length_filter_le _ _) (by rw [List.length_take]; omega)
          · rw [upd_same, filter_more hd, if_pos hq, List.map_append]
            rfl
        refine ⟨rfl, _, rfl, _, rfl, x, _, 0, .str fst, rfl, rfl, SqT.of (s3 _ _ dx2), at_c (j := 0) hfV rfl, rfl, _, rfl, ?_⟩
        by_cases e1 : d = fst
        · exact yes (decide_eq_true (by rw [e1])) (yes rfl ⟨_, rfl, addit (by simp [addR, e1])⟩)
        · refine no (decide_eq_false fun q => e1 (by injection q)) ⟨_, rfl, _, rfl, 1, rfl, L1, _, -1, .ref ul_, rfl, rfl, SqL.of (s3 _ _ eL2), at_end hulV rfl, ul_, _, 1, .ref xr, rfl, rfl, SqT.of (s3 _ _ (tk2 _ _ w1)), at_c (j := 1) rfl rfl, xr, _, rfl, .inr (SqT.of (s3 _ _ (tk2 _ _ w2))), rfl, flat_strs _, _, rfl, ?_⟩
          show if (inV (.str d) ((ss.filter (R lst)).map V.str)) = true then _ else _
          rw [inV_strs]
          by_cases e2 : R lst d = true
          · exact yes (decide_eq_true (List.mem_filter.mpr ⟨md, e2⟩)) ⟨_, rfl, addit (by simp [addR, e2])⟩
          · refine no (decide_eq_false fun q => e2 (List.mem_filter.mp q).2) ⟨s3, ?_⟩
            rw [filter_more hd, if_neg (by simp [addR, e1, e2]), List.append_nil]
            exact e3
      rintro H3 ⟨s3, e3⟩
      rw [List.length_map, List.take_length] at e3
      -- rows[-1]
      refine ⟨_, rfl, 1, rfl, x, _, -1, .str lst, rfl, rfl, SqT.of (s3 _ _ dx2), at_end hlV rfl, _, rfl, D, _, rfl, .inl ⟨SqL.of e3, fun t4 ht4 => ?_⟩⟩
      have s4 : Same H3 (upd H3 t4 (.tup ((ss.filter (addR R lst fst lst)).map V.str))) := same_new ht4
      have t4e : upd H3 t4 (.tup ((ss.filter (addR R lst fst lst)).map V.str)) t4 = some (.tup ((ss.filter (addR R lst fst lst)).map V.str)) := upd_same
      generalize upd H3 t4 (.tup ((ss.filter (addR R lst fst lst)).map V.str)) = H4 at s4 t4e
      have s24 := s3.trans s4
      refine ⟨_, rfl, 1, rfl, L1, _, -1, .ref ul_, rfl, rfl, SqL.of (s24 _ _ eL2), at_end hulV rfl, ul_, _, 2, .ref tr, rfl, rfl, SqT.of (s24 _ _ (tk2 _ _ w1)), at_c (j := 2) rfl rfl, (by show 3 ≤ sizeLine; decide), fun u hu => ?_⟩
      have s5 : Same H4 (upd H4 u (.tup [.str lst, .ref t4, .ref tr])) := same_new hu
      have ue : upd H4 u (.tup [.str lst, .ref t4, .ref tr]) u = some (.tup [.str lst, .ref t4, .ref tr]) := upd_same
      generalize upd H4 u (.tup [.str lst, .ref t4, .ref tr]) = H5 at s5 ue
      have s25 := s24.trans s5
      have eL5 := s25 _ _ eL2
      refine ⟨_, rfl, 1, rfl, L1, _, _, (us.map V.ref).length - 1, rfl, rfl, eL5, ixN_end (by rw [List.length_map]; omega), ?_⟩
      have off : ∀ b o, H5 b = some o → (∀ xs, o ≠ .lst xs) → upd H5 L1 (.lst ((us.map V.ref).set ((us.map V.ref).length - 1) (.ref u))) b = some o := fun b o e n => by
        rw [upd_ne]
        · exact e
        · rintro rfl
          rw [eL5] at e
          exact n _ (Option.some.inj e).symm
      have tk5 : ∀ b xs, H5 b = some (.tup xs) → upd H5 L1 (.lst ((us.map V.ref).set ((us.map V.ref).length - 1) (.ref u))) b = some (.tup xs) := fun b xs e => off _ _ e (fun xs e => by cases e)
      refine ⟨addR R lst fst, us.set (ss.length - 1) u, m + 1, _, _, (p2.keep s25).keepL off, by rw [upd_same, List.length_map, ul, List.map_set], ?_, fun b o e n1 n3 => by rw [upd_ne n3]; exact s25 _ _ (f2 b o e n1), rfl⟩
      have st := rows_st (R := R) (R' := addR R lst fst) p1.D.ln p1.S.nd hla hpl (fun u t hu => by simp [addR, hu])
      rw [← st]
      exact RowsAt.set (r := (lst, ss.filter (addR R lst fst lst), pl)) ⟨t4, tr, nr, gr, tk5 _ _ ue, tk5 _ _ (s5 _ _ t4e), tk5 _ _ (s25 _ _ (tk2 _ _ w3)), tk5 _ _ (s25 _ _ (tk2 _ _ w4)), tk5 _ _ (s25 _ _ (tk2 _ _ w5))⟩ (RowsAt.keep (fun b xs e => tk5 _ _ (s25 _ _ (tk2 _ _ e))) d4')
    rintro σ H2 ⟨R', us1, m', v7, v8, p2, eL2, r2, f2, rfl⟩
    have nL : ∀ b o, H1 b = some o → (∀ xs, o ≠ .lst xs) → b ≠ L1 := fun b o e n => by
      rintro rfl
      rw [eL1] at e
      exact n _ (Option.some.inj e).symm
    have tk2 : ∀ b xs, H1 b = some (.tup xs) → H2 b = some (.tup xs) := fun b xs e => f2 _ _ e (notes p1 _ _ e (fun kvs e => by cases e)).1 (nL _ _ e (fun xs e => by cases e))
    have pb2 : PA H2 a2 C dx2 nm ds2 dd2 ss es2 ts2 R m2 ng := by
      refine ⟨f2 _ _ pb1.at_ (notes p1 _ _ pb1.at_ (fun kvs e => by cases e)).1 (nL _ _ pb1.at_ (fun xs e => by cases e)), ⟨f2 _ _ pb1.S.d (fun h => (xe _ h).1 rfl) (nL _ _ pb1.S.d (fun xs e => by cases e)), pb1.S.len, pb1.S.nd, pb1.S.ed, pb1.S.no, fun i e s h1 h2 => ?_⟩,
        pb1.D.keepT (f2 _ _ pb1.D.d y3 (nL _ _ pb1.D.d (fun xs e => by cases e))) tk2, pb1.n1, pb1.n2⟩
      obtain ⟨kvs, h, r⟩ := pb1.S.at_ i e s h1 h2
      exact ⟨kvs, f2 _ _ h (fun h' => (xe _ h').2.2 (List.mem_of_getElem? h1)) (nL _ _ h (fun xs e => by cases e)), r⟩
    have hd2 := hd1.keep tk2 (fun o e => f2 _ _ e (notes p1 _ _ d3 (fun kvs e => by cases e)).1 lL1)
    -- changed[standings[0]] = ..
    refine ⟨_, rfl, (by show 1 ≤ sizeLine; decide), fun N1 hN1 => ?_⟩
    have sa : Same H2 (upd H2 N1 (.lst [.str z])) := same_new hN1
    have ea : upd H2 N1 (.lst [.str z]) N1 = some (.lst [.str z]) := upd_same
    generalize upd H2 N1 (.lst [.str z]) = Ha at sa ea
    refine ⟨_, rfl, _, rfl, (by show 2 ≤ sizeLine; decide), fun t1 ht1 => ⟨(by show 2 ≤ sizeLine; decide), fun w1 hw1 => ?_⟩⟩
    have sb : Same Ha (upd Ha t1 (.tup [.str z, .str z])) := same_new ht1
    have eb : upd Ha t1 (.tup [.str z, .str z]) t1 = some (.tup [.str z, .str z]) := upd_same
    generalize upd Ha t1 (.tup [.str z, .str z]) = Hb at sb eb hw1
    have sc : Same Hb (upd Hb w1 (.tup [.ref N1, .ref t1])) := same_new hw1
    have ec : upd Hb w1 (.tup [.ref N1, .ref t1]) w1 = some (.tup [.ref N1, .ref t1]) := upd_same
    generalize upd Hb w1 (.tup [.ref N1, .ref t1]) = H3 at sc ec
    have s23 := (sa.trans sb).trans sc
    have p3 := p2.keep s23
    have pb3 := pb2.keep s23
    have hd3 := hd2.keep (fun b xs e => s23 _ _ e) (fun o e => s23 _ _ e)
    have eL3 := s23 _ _ eL2
    have r3' := RowsAt.keep (fun b xs e => s23 _ _ e) r2
    refine ⟨_, rfl, _, rfl, x, _, 0, .str fst, rfl, rfl, SqT.of hd3.2.1, at_c (j := 0) hfV rfl, a, dx, _, rfl, p3.at_, a, C, dx, _, dd, ts, ss, ng, fst, w1, N1, t1, [z], [z, z], rfl, pk.d.cls, pk.d.nD, p3.at_, fs_doors _ _ _, p3.D, hs _ mf, ec, .inl (SqL.of (sc _ _ (sb _ _ ea))), .inr (SqT.of (sc _ _ eb)), by show 1 ≤ 1000; omega, by show 2 ≤ 1000; omega, by omega, fun hn => absurd mf hn, fun i' hi' ts' H4 g4 D4 => ?_⟩
    have ei := nd_ix p3.S.nd hi' hf
    subst ei
    rw [once_one, once_two] at D4
    have p4 := p3.put g4 D4
    have pb4 := pb3.off g4 ⟨_, p3.D.d⟩ x1 x2 x3
    have f4n : ∀ b o, H3 b = some o → (∀ kvs, o ≠ .dK kvs) → H4 b = some o := fun b o e n => g4 b o e (notes p3 b o e n).2
    have tk4 : ∀ b xs, H3 b = some (.tup xs) → H4 b = some (.tup xs) := fun b xs e => f4n _ _ e (fun kvs e => by cases e)
    have l3 : H3 l = some (.lst (us.map V.ref)) := hd3.2.2.1
    have hd4 := hd3.keep tk4 (fun o e => f4n _ _ e (fun kvs q => by rw [l3] at e; rw [← Option.some.inj e] at q; cases q))
    have eL4 := f4n _ _ eL3 (fun kvs e => by cases e)
    have r4 := RowsAt.keep tk4 r3'
    -- rows[0] = ..
    obtain ⟨u0, hu0, x0, t0, n0, g0, w0, w2, w3, w4, w5⟩ := RowsAt.get r4 (rowsOf_get (L := fun s => ss.filter (R' s)) hf hpf)
    have ul1 : us1.length = ss.length := r4.len.trans (rowsOf_len p3.D.ln)
    have u0V : (us1.map V.ref)[0]? = some (.ref u0) := by rw [List.getElem?_map, hu0]; rfl
    refine ⟨_, rfl, x, _, 0, .str fst, rfl, rfl, SqT.of hd4.2.1, at_c (j := 0) hfV rfl, _, rfl, L1, _, 0, .ref u0, rfl, rfl, SqL.of eL4, at_c (j := 0) u0V rfl, u0, _, 1, .ref x0, rfl, rfl, SqT.of w0, at_c (j := 1) rfl rfl, ?_⟩
    refine ⟨_, rfl, (by show 1 ≤ sizeLine; decide), fun t2 ht2 => ⟨_, rfl, (by show 1 ≤ sizeLine; decide), fun t3 ht3 => ⟨(by show 2 ≤ sizeLine; decide), fun t4 ht4 => ⟨(by show 3 ≤ sizeLine; decide), fun u hu => ?_⟩⟩⟩⟩
    have sa2 : Same H4 (upd H4 t2 (.tup [.str z])) := same_new ht2
    have ea2 : upd H4 t2 (.tup [.str z]) t2 = some (.tup [.str z]) := upd_same
    generalize upd H4 t2 (.tup [.str z]) = Hd at sa2 ea2 ht3 ht4 hu
    have sb2 : Same Hd (upd Hd t3 (.tup [.str z])) := same_new ht3
    have eb2 : upd Hd t3 (.tup [.str z]) t3 = some (.tup [.str z]) := upd_same
    generalize upd Hd t3 (.tup [.str z]) = He at sb2 eb2 ht4 hu
    have sc2 : Same He (upd He t4 (.tup [.ref t2, .ref t3])) := same_new ht4
    have ec2 : upd He t4 (.tup [.ref t2, .ref t3]) t4 = some (.tup [.ref t2, .ref t3]) := upd_same
    generalize upd He t4 (.tup [.ref t2, .ref t3]) = Hf at sc2 ec2 hu
    have sd2 : Same Hf (upd Hf u (.tup [.str fst, .ref x0, .ref t4])) := same_new hu
    have ed2 : upd Hf u (.tup [.str fst, .ref x0, .ref t4]) u = some (.tup [.str fst, .ref x0, .ref t4]) := upd_same
    generalize upd Hf u (.tup [.str fst, .ref x0, .ref t4]) = Hg at sd2 ed2
    have s4g := ((sa2.trans sb2).trans sc2).trans sd2
    have eLg := s4g _ _ eL4
    refine ⟨_, rfl, L1, _, _, 0, rfl, rfl, eLg, ixN_c (by rw [List.length_map]; omega) rfl, ?_⟩
    have off5 : ∀ b o, Hg b = some o → b ≠ L1 → upd Hg L1 (.lst ((us1.map V.ref).set 0 (.ref u))) b = some o := fun b o e n => by rw [upd_ne n]; exact e
    have offL : ∀ b o, Hg b = some o → (∀ xs, o ≠ .lst xs) → upd Hg L1 (.lst ((us1.map V.ref).set 0 (.ref u))) b = some o := fun b o e n => off5 b o e (by
      rintro rfl
      rw [eLg] at e
      exact n _ (Option.some.inj e).symm)
    have tk5 : ∀ b xs, Hg b = some (.tup xs) → upd Hg L1 (.lst ((us1.map V.ref).set 0 (.ref u))) b = some (.tup xs) := fun b xs e => offL _ _ e (fun xs e => by cases e)
    have e5 : upd Hg L1 (.lst ((us1.map V.ref).set 0 (.ref u))) L1 = some (.lst ((us1.set 0 u).map V.ref)) := by rw [upd_same, List.map_set]
    have hd5 := (hd4.keep (fun b xs e => s4g _ _ e) (fun o e => s4g _ _ e)).keep tk5 (fun o e => off5 _ _ e lL1)
    have p5 := (p4.keep s4g).keepL offL
    have pb5 := (pb4.keep s4g).keepL offL
    have rr : RowsAt (upd Hg L1 (.lst ((us1.map V.ref).set 0 (.ref u)))) (us1.set 0 u) (rowsOf ss (fun s => ss.filter (R' s)) (ng.set 0 ([z], [z]))) := by
      rw [← rows_ng p3.D.ln hf]
      exact RowsAt.set (r := (fst, ss.filter (R' fst), ([z], [z]))) ⟨x0, t4, t2, t3, tk5 _ _ ed2, tk5 _ _ (s4g _ _ w2), tk5 _ _ (sd2 _ _ ec2), tk5 _ _ (sd2 _ _ (sc2 _ _ (sb2 _ _ ea2))), tk5 _ _ (sd2 _ _ (sc2 _ _ eb2))⟩ (RowsAt.keep (fun b xs e => tk5 _ _ (s4g _ _ e)) r4)
    generalize upd Hg L1 (.lst ((us1.map V.ref).set 0 (.ref u))) = H5 at off5 offL tk5 e5 hd5 p5 pb5 rr
    -- first
    refine ⟨_, rfl, dq, _, 0, .str nm, rfl, rfl, SqT.of hd5.1, at_c (j := 0) rfl rfl, _, rfl, _, rfl, _, rfl, dq, _, 3, .str (rowText nm ss ++ suf), rfl, rfl, SqT.of hd5.1, at_c (j := 3) rfl rfl, (by show 4 ≤ sizeLine; decide), fun Fq hFq => ?_⟩
    have s6 : Same H5 (upd H5 Fq (.tup [.str nm, .ref x, .ref L1, .str (rowText nm ss ++ suf)])) := same_new hFq
    have fd6 : DueAt (upd H5 Fq (.tup [.str nm, .ref x, .ref L1, .str (rowText nm ss ++ suf)])) Fq nm ss (rowsOf ss (fun s => ss.filter (R' s)) (ng.set 0 ([z], [z]))) (rowText nm ss ++ suf) x L1 (us1.set 0 u) :=
      ⟨upd_same, s6 _ _ hd5.2.1, s6 _ _ e5, RowsAt.keep (fun b xs e => s6 _ _ e) rr⟩
    generalize upd H5 Fq (.tup [.str nm, .ref x, .ref L1, .str (rowText nm ss ++ suf)]) = H6 at s6 fd6
    have hd6 := hd5.keep (fun b xs e => s6 _ _ e) (fun o e => s6 _ _ e)
    refine ⟨_, rfl, _, rfl, a, C, fR, one, suf, dx, nm, ds, dd, ss, es, ts', R', m', _, rfl, kd, p5.keep s6, s10, hs, hnm, fun qa xa la usa H7 s7 _ due7 => ?_⟩
    refine ⟨_, rfl, _, due7.dp, (fd6.keep (fun b xs e => s7 _ _ e) (fun o e => s7 _ _ e)).dp, due_plain _ _ _ _, due_depth _ _ _ _, _, rfl, no rfl ?_⟩
    have s57 := s6.trans s7
    refine ⟨_, rfl, _, rfl, a2, C, fR, one, suf, dx2, nm, ds2, dd2, ss, es2, ts2, R, m2, ng, rfl, kd, pb5.keep s57, s10, hs, hnm, fun qb xb lb usb H8 s8 _ due8 => ?_⟩
    have s58 := s57.trans s8
    have hd8 := hd5.keep (fun b xs e => s58 _ _ e) (fun o e => s58 _ _ e)
    have fd8 := fd6.keep (fun b xs e => (s7.trans s8) _ _ e) (fun o e => (s7.trans s8) _ _ e)
    have p8 := p5.keep s58
    have pb8 := pb5.keep s58
    refine ⟨_, rfl, _, due8.dp, hd8.dp, due_plain _ _ _ _, due_depth _ _ _ _, _, rfl, no rfl ?_⟩
    -- other[standings[-1]] = ((), ())
    refine ⟨(by show 0 ≤ sizeLine; omega), fun o1 ho1 => ⟨(by show 0 ≤ sizeLine; omega), fun o2 ho2 => ⟨(by show 2 ≤ sizeLine; decide), fun w9 hw9 => ?_⟩⟩⟩
    have sa3 : Same H8 (upd H8 o1 (.tup [])) := same_new ho1
    have ea3 : upd H8 o1 (.tup []) o1 = some (.tup []) := upd_same
    generalize upd H8 o1 (.tup []) = Ha8 at sa3 ea3 ho2 hw9
    have sb3 : Same Ha8 (upd Ha8 o2 (.tup [])) := same_new ho2
    have eb3 : upd Ha8 o2 (.tup []) o2 = some (.tup []) := upd_same
    generalize upd Ha8 o2 (.tup []) = Hb8 at sb3 eb3 hw9
    have sc3 : Same Hb8 (upd Hb8 w9 (.tup [.ref o1, .ref o2])) := same_new hw9
    have ec3 : upd Hb8 w9 (.tup [.ref o1, .ref o2]) w9 = some (.tup [.ref o1, .ref o2]) := upd_same
    generalize upd Hb8 w9 (.tup [.ref o1, .ref o2]) = H9 at sc3 ec3
    have s89 := (sa3.trans sb3).trans sc3
    have p9 := p8.keep s89
    have pb9 := pb8.keep s89
    have hd9 := hd8.keep (fun b xs e => s89 _ _ e) (fun o e => s89 _ _ e)
    have fd9 := fd8.keep (fun b xs e => s89 _ _ e) (fun o e => s89 _ _ e)
    refine ⟨_, rfl, _, rfl, 1, rfl, x, _, -1, .str lst, rfl, rfl, SqT.of hd9.2.1, at_end hlV rfl, a2, dx2, _, rfl, pb9.at_, a2, C, dx2, _, dd2, ts2, ss, ng, lst, w9, o1, o2, [], [], rfl, pk.d.cls, pk.d.nD, pb9.at_, fs_doors _ _ _, pb9.D, hs _ ml, ec3, .inr (SqT.of (sc3 _ _ (sb3 _ _ ea3))), .inr (SqT.of (sc3 _ _ eb3)), Nat.zero_le _, Nat.zero_le _, by omega, fun hn => absurd ml hn, fun i' hi' ts2' H10 g10 D10 => ?_⟩
    have ei := nd_ix pb9.S.nd hi' hla
    subst ei
    have pb10 := pb9.put g10 D10
    have p10 := p9.off g10 ⟨_, pb9.D.d⟩ y1 y2 y3
    have f10 : ∀ b o, H9 b = some o → (∀ kvs, o ≠ .dK kvs) → H10 b = some o := fun b o e n => g10 b o e (notes pb9 b o e n).2
    have tk10 : ∀ b xs, H9 b = some (.tup xs) → H10 b = some (.tup xs) := fun b xs e => f10 _ _ e (fun kvs e => by cases e)
    have l9 : H9 l = some (.lst (us.map V.ref)) := hd9.2.2.1
    have lF9 : H9 L1 = some (.lst ((us1.set 0 u).map V.ref)) := fd9.2.2.1
    have hd10 := hd9.keep tk10 (fun o e => f10 _ _ e (fun kvs q => by rw [l9] at e; rw [← Option.some.inj e] at q; cases q))
    have fd10 := fd9.keep tk10 (fun o e => f10 _ _ e (fun kvs q => by rw [lF9] at e; rw [← Option.some.inj e] at q; cases q))
    -- rows = list(due[2]); rows[-1] = ..
    refine ⟨_, rfl, dq, _, 2, .ref l, rfl, rfl, SqT.of hd10.1, at_c (j := 2) rfl rfl, l, _, rfl, .inl (SqL.of hd10.2.2.1), fun L2 hL2 => ?_⟩
    have s11 : Same H10 (upd H10 L2 (.lst (us.map V.ref))) := same_new hL2
    have eL2' : upd H10 L2 (.lst (us.map V.ref)) L2 = some (.lst (us.map V.ref)) := upd_same
    have lL2 : l ≠ L2 := ne_of_none hd10.2.2.1 hL2
    have lF2 : L1 ≠ L2 := ne_of_none fd10.2.2.1 hL2
    generalize upd H10 L2 (.lst (us.map V.ref)) = H11 at s11 eL2'
    have hd11 := hd10.keep (fun b xs e => s11 _ _ e) (fun o e => s11 _ _ e)
    have fd11 := fd10.keep (fun b xs e => s11 _ _ e) (fun o e => s11 _ _ e)
    obtain ⟨ulx, hulx, xr, tr, nr, gr, v1, v2, v3, v4, v5⟩ := RowsAt.get hd11.2.2.2 (rowsOf_get (L := fun s => ss.filter (R s)) hla hpl)
    have hulV : (us.map V.ref)[(us.map V.ref).length - 1]? = some (.ref ulx) := by rw [List.length_map, List.getElem?_map, ul, hulx]; rfl
    refine ⟨_, rfl, 1, rfl, x, _, -1, .str lst, rfl, rfl, SqT.of hd11.2.1, at_end hlV rfl, _, rfl, 1, rfl, L2, _, -1, .ref ulx, rfl, rfl, SqL.of eL2', at_end hulV rfl, ulx, _, 1, .ref xr, rfl, rfl, SqT.of v1, at_c (j := 1) rfl rfl, ?_⟩
    refine ⟨(by show 0 ≤ sizeLine; omega), fun o3 ho3 => ⟨(by show 0 ≤ sizeLine; omega), fun o4 ho4 => ⟨(by show 2 ≤ sizeLine; decide), fun w12 hw12 => ⟨(by show 3 ≤ sizeLine; decide), fun u' hu' => ?_⟩⟩⟩⟩
    have sa4 : Same H11 (upd H11 o3 (.tup [])) := same_new ho3
    have ea4 : upd H11 o3 (.tup []) o3 = some (.tup []) := upd_same
    generalize upd H11 o3 (.tup []) = Hc11 at sa4 ea4 ho4 hw12 hu'
    have sb4 : Same Hc11 (upd Hc11 o4 (.tup [])) := same_new ho4
    have eb4 : upd Hc11 o4 (.tup []) o4 = some (.tup []) := upd_same
    generalize upd Hc11 o4 (.tup []) = Hd11 at sb4 eb4 hw12 hu'
    have sc4 : Same Hd11 (upd Hd11 w12 (.tup [.ref o3, .ref o4])) := same_new hw12
    have ec4 : upd Hd11 w12 (.tup [.ref o3, .ref o4]) w12 = some (.tup [.ref o3, .ref o4]) := upd_same
    generalize upd Hd11 w12 (.tup [.ref o3, .ref o4]) = He11 at sc4 ec4 hu'
    have sd4 : Same He11 (upd He11 u' (.tup [.str lst, .ref xr, .ref w12])) := same_new hu'
    have ed4 : upd He11 u' (.tup [.str lst, .ref xr, .ref w12]) u' = some (.tup [.str lst, .ref xr, .ref w12]) := upd_same
    generalize upd He11 u' (.tup [.str lst, .ref xr, .ref w12]) = H12 at sd4 ed4
    have s112 := ((sa4.trans sb4).trans sc4).trans sd4
    have eL12 := s112 _ _ eL2'
    refine ⟨_, rfl, 1, rfl, L2, _, _, (us.map V.ref).length - 1, rfl, rfl, eL12, ixN_end (by rw [List.length_map]; omega), ?_⟩
    have off6 : ∀ b o, H12 b = some o → b ≠ L2 → upd H12 L2 (.lst ((us.map V.ref).set ((us.map V.ref).length - 1) (.ref u'))) b = some o := fun b o e n => by rw [upd_ne n]; exact e
    have off6L : ∀ b o, H12 b = some o → (∀ xs, o ≠ .lst xs) → upd H12 L2 (.lst ((us.map V.ref).set ((us.map V.ref).length - 1) (.ref u'))) b = some o := fun b o e n => off6 b o e (by
      rintro rfl
      rw [eL12] at e
      exact n _ (Option.some.inj e).symm)
    have tk6 : ∀ b xs, H12 b = some (.tup xs) → upd H12 L2 (.lst ((us.map V.ref).set ((us.map V.ref).length - 1) (.ref u'))) b = some (.tup xs) := fun b xs e => off6L _ _ e (fun xs e => by cases e)
    have e6 : upd H12 L2 (.lst ((us.map V.ref).set ((us.map V.ref).length - 1) (.ref u'))) L2 = some (.lst ((us.set (ss.length - 1) u').map V.ref)) := by rw [upd_same, List.length_map, ul, List.map_set]
    have rr2 : RowsAt (upd H12 L2 (.lst ((us.map V.ref).set ((us.map V.ref).length - 1) (.ref u')))) (us.set (ss.length - 1) u') (rowsOf ss (fun s => ss.filter (R s)) (ng.set (ss.length - 1) ([], []))) := by
      rw [← rows_ng p3.D.ln hla]
      exact RowsAt.set (r := (lst, ss.filter (R lst), ([], []))) ⟨xr, w12, o3, o4, tk6 _ _ ed4, tk6 _ _ (s112 _ _ v2), tk6 _ _ (sd4 _ _ ec4), tk6 _ _ (sd4 _ _ (sc4 _ _ (sb4 _ _ ea4))), tk6 _ _ (sd4 _ _ (sc4 _ _ eb4))⟩ (RowsAt.keep (fun b xs e => tk6 _ _ (s112 _ _ e)) hd11.2.2.2)
    have hd13 := (hd11.keep (fun b xs e => s112 _ _ e) (fun o e => s112 _ _ e)).keep tk6 (fun o e => off6 _ _ e lL2)
    have fd13 := (fd11.keep (fun b xs e => s112 _ _ e) (fun o e => s112 _ _ e)).keep tk6 (fun o e => off6 _ _ e lF2)
    have p13 := ((p10.keep s11).keep s112).keepL off6L
    have pb13 := ((pb10.keep s11).keep s112).keepL off6L
    generalize upd H12 L2 (.lst ((us.map V.ref).set ((us.map V.ref).length - 1) (.ref u'))) = H13 at off6 off6L tk6 e6 rr2 hd13 fd13 p13 pb13
    -- second
    refine ⟨_, rfl, dq, _, 0, .str nm, rfl, rfl, SqT.of hd13.1, at_c (j := 0) rfl rfl, _, rfl, _, rfl, _, rfl, dq, _, 3, .str (rowText nm ss ++ suf), rfl, rfl, SqT.of hd13.1, at_c (j := 3) rfl rfl, (by show 4 ≤ sizeLine; decide), fun Sq hSq => ?_⟩
    have s14 : Same H13 (upd H13 Sq (.tup [.str nm, .ref x, .ref L2, .str (rowText nm ss ++ suf)])) := same_new hSq
    have sd14 : DueAt (upd H13 Sq (.tup [.str nm, .ref x, .ref L2, .str (rowText nm ss ++ suf)])) Sq nm ss (rowsOf ss (fun s => ss.filter (R s)) (ng.set (ss.length - 1) ([], []))) (rowText nm ss ++ suf) x L2 (us.set (ss.length - 1) u') :=
      ⟨upd_same, s14 _ _ hd13.2.1, s14 _ _ e6, RowsAt.keep (fun b xs e => s14 _ _ e) rr2⟩
    generalize upd H13 Sq (.tup [.str nm, .ref x, .ref L2, .str (rowText nm ss ++ suf)]) = H14 at s14 sd14
    refine ⟨_, rfl, _, rfl, a, C, fR, one, suf, dx, nm, ds, dd, ss, es, ts', R', m', _, rfl, kd, p13.keep s14, s10, hs, hnm, fun qc xc lc usc H15 s15 _ due15 => ?_⟩
    have s135 := s14.trans s15
    refine ⟨_, rfl, _, due15.dp, (fd13.keep (fun b xs e => s135 _ _ e) (fun o e => s135 _ _ e)).dp, due_plain _ _ _ _, due_depth _ _ _ _, _, rfl, yes rfl ?_⟩
    refine ⟨_, rfl, _, rfl, a2, C, fR, one, suf, dx2, nm, ds2, dd2, ss, es2, ts2', R, m2, _, rfl, kd, pb13.keep s135, s10, hs, hnm, fun qd xd ld usd H16 s16 _ due16 => ?_⟩
    refine ⟨_, rfl, _, due16.dp, (sd14.keep (fun b xs e => (s15.trans s16) _ _ e) (fun o e => (s15.trans s16) _ _ e)).dp, due_plain _ _ _ _, due_depth _ _ _ _, k _ fun b o e n1 n2 n3 => ?_⟩
    have e10 := g10 b o (s89 b o (s58 b o (off5 b o (s4g b o (g4 b o (s23 b o (f2 b o (q1 b o e) n2 (ne_of_none e hL1))) n1)) (ne_of_none e hL1)))) n3
    exact s16 b o (s135 b o (off6 b o (s112 b o (s11 b o e10)) (ne_of_none e10 hL2)))
end
end Yd
namespace Yd
open PySem L2
/-! ### the names of a script are all different -/
theorem kSigns_nd : kSigns.Nodup := by decide +kernel
theorem sgn_not : ∀ s ∈ ("mnopqrstuvwxyz0123456789" : Str).cps.toList, s ∉ kSigns := by decide +kernel
theorem app_cps (a b : Str) : (a ++ b).cps.toList = a.cps.toList ++ b.cps.toList := by show (a.cps ++ b.cps).toList = _; rw [Array.toList_append]
theorem name_inj {i j : Nat} {x : Str} (hi : NameK i x) (hj : NameK j x) : i = j := by
  obtain ⟨_, s, a, b, hs, e, ha, hb⟩ := hi
  obtain ⟨_, t, a', b', ht, e', ha', hb'⟩ := hj
  have fl : ∀ (u : Nat) (c d : Str), u ∈ kSigns → Sgn c → Sgn d → ((c ++ (⟨#[u]⟩ : Str) ++ d).cps.toList).filter (fun c => decide (c ∈ kSigns)) = [u] := fun u c d hu hc hd => by
    have h1 : c.cps.toList.filter (fun c => decide (c ∈ kSigns)) = [] := List.filter_eq_nil_iff.mpr fun v hv => by simpa using sgn_not v (hc v hv)
    have h2 : d.cps.toList.filter (fun c => decide (c ∈ kSigns)) = [] := List.filter_eq_nil_iff.mpr fun v hv => by simpa using sgn_not v (hd v hv)
    rw [app_cps, app_cps, List.filter_append, List.filter_append, h1, h2, List.append_nil, List.nil_append]
    show List.filter _ [u] = [u]
    rw [List.filter_cons, if_pos (decide_eq_true hu)]
    rfl
  have f1 := fl s a b (List.mem_of_getElem? hs) ha hb
  have f2 := fl t a' b' (List.mem_of_getElem? ht) ha' hb'
  rw [← e, e', f2] at f1
  injection f1 with f1
  subst f1
  exact nd_ix kSigns_nd hs ht
theorem name_nodup {ns : List Str} (h : ∀ i s, ns[i]? = some s → NameK i s) : ns.Nodup := by
  refine List.pairwise_iff_getElem.mpr fun i j hi hj hij e => ?_
  have h1 : ns[j]? = some ns[j] := List.getElem?_eq_getElem hj
  have h2 : ns[i]? = some ns[j] := by rw [List.getElem?_eq_getElem hi, e]
  exact absurd (name_inj (h i _ h2) (h j _ h1)) (by omega)
theorem cut_take (ss : List Str) (n : Nat) : cutV (ss.map V.str) none (some (n : Int)) = (ss.take n).map V.str := by
  unfold cutV
  rw [HT.sIx_none, HT.sIx_nat, List.drop_zero, Nat.sub_zero, List.map_take, List.length_map]
  rcases Nat.le_total n ss.length with h | h
  · rw [Nat.min_eq_left h]
  · rw [Nat.min_eq_right h, List.take_of_length_le (by rw [List.length_map]; exact Nat.le_refl _), List.take_of_length_le (by rw [List.length_map]; exact h)]
theorem sizes {v : Int} (h0 : 0 ≤ v) (h1 : v < 10) : ∃ n : Nat, atI [V.int 2, V.int 1, V.int 3, V.int 4, V.int 5, V.int 6, V.int 7, V.int 8, V.int 9, V.int 10] v = some (.int (n : Int)) ∧ 1 ≤ n ∧ n ≤ 10 := by
  obtain ⟨j, rfl⟩ : ∃ j : Nat, v = (j : Int) := ⟨v.toNat, by omega⟩
  have hj : j < 10 := by omega
  match j, hj with
  | 0, _ => exact ⟨2, at_c rfl rfl, by omega, by omega⟩
  | 1, _ => exact ⟨1, at_c rfl rfl, by omega, by omega⟩
  | 2, _ => exact ⟨3, at_c rfl rfl, by omega, by omega⟩
  | 3, _ => exact ⟨4, at_c rfl rfl, by omega, by omega⟩
  | 4, _ => exact ⟨5, at_c rfl rfl, by omega, by omega⟩
  | 5, _ => exact ⟨6, at_c rfl rfl, by omega, by omega⟩
  | 6, _ => exact ⟨7, at_c rfl rfl, by omega, by omega⟩
  | 7, _ => exact ⟨8, at_c rfl rfl, by omega, by omega⟩
  | 8, _ => exact ⟨9, at_c rfl rfl, by omega, by omega⟩
  | 9, _ => exact ⟨10, at_c rfl rfl, by omega, by omega⟩
  | j + 10, h => omega
theorem small100 {n : Nat} (h : n ≤ 100) : n ≤ sizeLine := Nat.le_trans h (by decide)
end Yd
namespace Yd
open PySem L2
/-! ### o.m() where the class of o is known when it runs -/
section
variable {X : Cx} {m : Str} {pos apos : Pos} {o : Expr} {ta : TE} {pl : Sem Bool} {n : Nat}
def tDyn (P : Program) (w : World) (K : PySem.W.Frag) (mg : Str → Option Value) (base : Heap) (n : Nat) (m : Str) (ta : TE) : TE := fun σ H Q => ta σ H fun x H1 => ∃ (a C dx : Addr) (fs : List (Str × V)) (g : Addr) (gd : FuncData) (sp : Sp), x = .ref a ∧ H1 a = some (.ins C dx fs) ∧ fs.lookup m = none ∧
  Cls K C ∧ Meth K C m g ∧ FnOk P w K mg base CX0 n g gd ["self"] sp ∧ Binds K gd ["self"] [] ∧ sp [.ref a] H1 Q E0
theorem pe_dyn (he : PE X o ta) (hr : Room n X.A)
    (ht : eval (.Call (.Attribute o m apos) [] [] pos) X.env = (do
      let ov ← eval o X.env
      standAt apos.atName
      let (f, first) ← holding [ov] (getMethod ov m pl)
      callWith pos f first (backTo pos (starEach [] X.env)) (backToKw pos (keywordEach [] X.env))) := by rfl) :
    PE X (.Call (.Attribute o m apos) [] [] pos) (tDyn X.prog X.w X.K X.mg X.base n m ta) := by
  refine ⟨fun pins s σ H Q I h => PySem.W.methodCall_KW (pl := pl) (thn (he.run pins s σ H _ I h) fun u s1 ⟨x, H1, I1, rx, a, C, dx, fs, g, gd, sp, ex, ea, l, c, hm, F, hb, q⟩ => ?_) ht⟩
  subst ex
  obtain rfl : u = Value.ref a := rx
  exact getmeth_ok I1 ea c hm l (PySem.W.callWith_K0 (first := [.ref a]) I1.kIn hm.kp (run_fn (us := [.ref a]) (vs := [.ref a]) F hr hb .nil pass0 I1 (.cons rfl .nil) q))
end
theorem sizes6 {v : Int} (h0 : 0 ≤ v) (h1 : v < 6) : ∃ n : Nat, atI [V.int 2, V.int 1, V.int 3, V.int 4, V.int 5, V.int 6] v = some (.int (n : Int)) ∧ 1 ≤ n ∧ n ≤ 6 := by
  obtain ⟨j, rfl⟩ : ∃ j : Nat, v = (j : Int) := ⟨v.toNat, by omega⟩
  have hj : j < 6 := by omega
  match j, hj with
  | 0, _ => exact ⟨2, at_c rfl rfl, by omega, by omega⟩
  | 1, _ => exact ⟨1, at_c rfl rfl, by omega, by omega⟩
  | 2, _ => exact ⟨3, at_c rfl rfl, by omega, by omega⟩
  | 3, _ => exact ⟨4, at_c rfl rfl, by omega, by omega⟩
  | 4, _ => exact ⟨5, at_c rfl rfl, by omega, by omega⟩
  | 5, _ => exact ⟨6, at_c rfl rfl, by omega, by omega⟩
  | j + 6, h => omega
theorem PA.notd {H : Hp} {a C dx : Addr} {nm : Str} {ds dd : Addr} {ss : List Str} {es ts : List Addr} {R : Str → Str → Bool} {m : Nat} {ng : List (List Str × List Str)} (pa : PA H a C dx nm ds dd ss es ts R m ng) {b : Addr} {xs : List V} (e : H b = some (.lst xs)) : b ∉ es ∧ b ≠ dd := by
  refine ⟨fun he => ?_, fun he => ?_⟩
  · obtain ⟨j, hj⟩ := List.mem_iff_getElem?.mp he
    have hjl : j < ss.length := by rw [pa.S.len]; exact (List.getElem?_eq_some_iff.mp hj).1
    obtain ⟨kvs, h, _⟩ := pa.S.at_ j b _ hj (List.getElem?_eq_getElem hjl)
    rw [e] at h
    cases h
  · subst he
    have h := pa.D.d
    rw [e] at h
    cases h
theorem Pool.lists {H H' : Hp} {p c : Addr} (h : Pool H p c) (lk : ∀ b xs, H b = some (.lst xs) → H' b = some (.lst xs)) : Pool H' p c := by
  obtain ⟨ys, e, q⟩ := h
  refine ⟨ys, lk _ _ e, ?_⟩
  rcases q with q | ⟨x, i, cs, e1, e2, e3, q⟩
  · exact .inl q
  · exact .inr ⟨x, i, cs, e1, e2, lk _ _ e3, q⟩
def spLaw (K : PySem.W.Frag) : Sp := fun vs H Q _ => ∃ (a : Addr) (ns : List Int), vs = [.ref a] ∧ SqL K H a (ns.map V.int) ∧ ns.length ≤ 63 ∧ ∀ H', Q (.bl true) H'
section
variable {P : Program} {w : World} {K : PySem.W.Frag} {mg : Str → Option Value} {base : Heap}
def nLaw : List Str := ["_law_script", "_law_pool_here", "_law_base_here", "_law_name_here", "_law_size", "_law_standings", "_law_k", "_law_doors", "_law_strange", "_law_text", "_law_single", "_law_kind", "_law_words", "_law_rows", "_law_due", "_law_pair", "_law_which"]
theorem scLaw : FnScope nLaw ["_law_script"] (defScope sLaw) := ⟨rfl, rfl, rfl, by decide +kernel, rfl, by decide +kernel, by decide +kernel⟩
theorem ok_law {f fA fS fF fN fG fI fP fT fL CS CD CP CI CM CR fRP fRI fRM i1 i2 i3 fPo fTa fB fNa fTo fFi fAp : Addr} {fd e1 e2 e3 dRP dP dT dB dN dTo dFi dAp : FuncData} (F : Fun K "law" "law" sLaw f fd) (B : Blt mg) (hT : mg "tuple" = none)
    (TP : Fn K mg "_law_pool" sPool ["_law_script"] fPo dP) (TT : Fn K mg "_law_take" sTake ["_law_pool_here", "_law_size"] fTa dT) (TB : Fn K mg "_law_base" sBase ["_law_pool_here"] fB dB)
    (TN : Fn K mg "_law_name" sName ["_law_pool_here", "_law_base_here", "_law_k"] fNa dN) (TO : Fn K mg "_law_told" sTold ["_law_part", "_law_single"] fTo dTo)
    (TF : Fn K mg "_law_filled" sFilled ["_law_pool_here", "_law_kind", "_law_standings", "_law_doors"] fFi dFi) (TA : Fn K mg "_law_apart" sApart ["_law_changed", "_law_other", "_law_single", "_law_due", "_law_strange"] fAp dAp)
    (GO : FnOk P w K mg base CX0 5 fTo dTo ["_law_part", "_law_single"] (spTold P w K mg base fA fS fF fN fG fI fP fT fL CS CD CP CI CM)) (GF : FnOk P w K mg base CX0 4 fFi dFi ["_law_pool_here", "_law_kind", "_law_standings", "_law_doors"] (spFilled K fA fS fF fN fG fI fP fT fL))
    (GA : FnOk P w K mg base CX0 6 fAp dAp ["_law_changed", "_law_other", "_law_single", "_law_due", "_law_strange"] (spApart P w K mg base fA fS fF fN fG fI fP fT fL CS CD CP CI CM))
    (gP : mg "Part" = some (.ref CP)) (MP : Mk K CP i1) (G1 : FnOk P w K mg base (L2.CX P w) 4 i1 e1 ["self", "name", "standings"] (spPartInit K CR)) (b1 : Binds K e1 ["self", "name", "standings"] []) (kP : KindC K CP fA fS fF) (pP : PartC K CP) (mRP : Meth K CP "row" fRP)
    (GRP : FnOk P w K mg base CX0 2 fRP dRP ["self"] (spRow K fA fS fF)) (bRP : Binds K dRP ["self"] [])
    (gI : mg "Single" = some (.ref CI)) (MI : Mk K CI i2) (G2 : FnOk P w K mg base (L2.CX P w) 5 i2 e2 ["self", "name", "standings"] (spPartInit K CR)) (b2 : Binds K e2 ["self", "name", "standings"] []) (kdI : Kd P w K mg base fA fS fF fN fG fI fP fT fL CS CD CP CI CM CI fRI true " (one)")
    (gM : mg "Many" = some (.ref CM)) (MM : Mk K CM i3) (G3 : FnOk P w K mg base (L2.CX P w) 5 i3 e3 ["self", "name", "standings"] (spPartInit K CR)) (b3 : Binds K e3 ["self", "name", "standings"] []) (kdM : Kd P w K mg base fA fS fF fN fG fI fP fT fL CS CD CP CI CM CM fRM false " (any number)") :
    FnOk P w K mg base CX0 9 f fd ["_law_script"] (spLaw K) := by
  have GPo : FnOk P w K mg base CX0 1 fPo dP ["_law_script"] (spPool K) := ok_pool TP.F B
  have GT : FnOk P w K mg base CX0 1 fTa dT ["_law_pool_here", "_law_size"] spTake := ok_take TT.F B
  have GB : FnOk P w K mg base CX0 2 fB dB ["_law_pool_here"] (spBase 12) := ok_base TB.F B TT
  have GN : FnOk P w K mg base CX0 2 fNa dN ["_law_pool_here", "_law_base_here", "_law_k"] spName := ok_name TN.F B TT
  refine F.ok scLaw (fun vs H Q E h => ?_) (fun cdv A outer s H vs Q E hr h => ?_)
  · obtain ⟨a, ns, rfl, _⟩ := h
    rfl
  · obtain ⟨scr, script, rfl, hS, hlen, k⟩ := h
    have r1 : Room 1 _ := hr.mono (by decide)
    have r2 : Room 2 _ := hr.mono (by decide)
    have r4 : Room 4 _ := hr.mono (by decide)
    have r5 : Room 5 _ := hr.mono (by decide)
    have r6 : Room 6 _ := hr.mono (by decide)
    have r7 : Room 7 _ := hr.mono (by decide)
    refine ⟨_, pss_cons (ps_set (i := 1) scLaw.nd rfl (Or.inr rfl) (pe_call GPo r1 rfl TP.g TP.F.kp TP.b .nil pass0 (pa_cons (pv 0) pa_nil)))
      (pss_cons (ps_set (i := 2) scLaw.nd rfl (Or.inr rfl) (pe_call GB r2 rfl TB.g TB.F.kp TB.b .nil pass0 (pa_cons (pv 1) pa_nil)))
      (pss_cons (ps_set (i := 3) scLaw.nd rfl (Or.inl rfl) (pe_call GN r2 rfl TN.g TN.F.kp TN.b .nil pass0 (pa_cons (pv 1) (pa_cons (pv 2) (pa_cons (pe_call GT r1 rfl TT.g TT.F.kp TT.b .nil pass0 (pa_cons (pv 1) (pa_cons pe_int pa_nil))) pa_nil)))))
      (pss_cons (ps_set (i := 4) scLaw.nd rfl (Or.inl rfl) (pe_ix ix_list (pe_lst (pa_cons pe_int (pa_cons pe_int (pa_cons pe_int (pa_cons pe_int (pa_cons pe_int (pa_cons pe_int pa_nil)))))))
          (pe_call GT r1 rfl TT.g TT.F.kp TT.b .nil pass0 (pa_cons (pv 1) (pa_cons pe_int pa_nil))) (fun _ _ => rfl)))
      (pss_cons (ps_setLc (i := 5) (own := [("_law_k", 6)]) (g := gName 6) (tt := tYes) rfl scLaw.nd rfl rfl (sw_true rfl rfl rfl (by decide +kernel)) (pi_range1 rfl B.range (pa_cons (pv 4) pa_nil))
          (blkOk_by (N := nLaw) (sc := defScope sLaw) (by decide +kernel)) (fun _ _ _ _ _ => pg_name (i := 6) scLaw.nd rfl (Or.inl rfl)) (fun _ _ _ _ _ => pts_nil)
          (fun _ _ _ _ _ => pe_call GN r2 rfl TN.g TN.F.kp TN.b .nil pass0 (pa_cons (pv 1) (pa_cons (pv 2) (pa_cons (pv 6) pa_nil)))))
      (pss_cons (ps_setLc (i := 7) (own := [("_law_k", 6)]) (g := gName 6) (tt := tYes) rfl scLaw.nd rfl rfl (sw_true rfl rfl rfl (by decide +kernel)) (pi_range1 rfl B.range (pa_cons pe_int pa_nil))
          (blkOk_by (N := nLaw) (sc := defScope sLaw) (by decide +kernel)) (fun _ _ _ _ _ => pg_name (i := 6) scLaw.nd rfl (Or.inl rfl)) (fun _ _ _ _ _ => pts_nil)
          (fun _ _ _ _ _ => pe_call GN r2 rfl TN.g TN.F.kp TN.b .nil pass0 (pa_cons (pv 1) (pa_cons (pv 2) (pa_cons (pv 6) pa_nil)))))
      (pss_cons (ps_set (i := 8) scLaw.nd rfl (Or.inl rfl) (pe_call GN r2 rfl TN.g TN.F.kp TN.b .nil pass0 (pa_cons (pv 1) (pa_cons (pv 2) (pa_cons pe_int pa_nil)))))
      (pss_cons (ps_set (i := 9) scLaw.nd rfl (Or.inl rfl) (pe_op op_add_str (pe_op op_add_str (pv 3) pe_str) (pe_join pe_str (pv 5))))
      (pss_cons (ps_if (pt_cmpR op_ne (pe_meth0 (pe_make MP G1 r5 (by rfl) gP b1 .nil passF (pa_cons (pv 3) (pa_cons (pv 5) pa_nil))) kP.cls mRP GRP r2 bRP .nil pass0) (pv 9) (nomark _)) (pss_one (ps_ret pe_bl)) pss_nil)
      (pss_cons (ps_for PassesOwn.never rfl (pi_list (pe_lst (pa_cons pe_bl (pa_cons pe_bl pa_nil)))) (pg_name (i := 10) scLaw.nd rfl (Or.inl rfl))
        (pss_cons (ps_set (i := 11) scLaw.nd rfl (Or.inl rfl) (pe_make MM G3 r6 (by rfl) gM b3 .nil passF (pa_cons (pv 3) (pa_cons (pv 5) pa_nil))))
        (pss_cons (ps_set (i := 12) scLaw.nd rfl (Or.inl rfl) pe_str)
        (C8.pss_cut (ps_if (pt_val (pv 10)) (pss_cons (ps_set (i := 11) scLaw.nd rfl (Or.inl rfl) (pe_make MI G2 r6 (by rfl) gI b2 .nil passF (pa_cons (pv 3) (pa_cons (pv 5) pa_nil)))) (pss_one (ps_set (i := 12) scLaw.nd rfl (Or.inl rfl) pe_str))) pss_nil)
        (pss_cons (ps_set (i := 13) scLaw.nd rfl (Or.inl rfl) (pe_call GF r4 rfl TF.g TF.F.kp TF.b .nil pass0 (pa_cons (pv 1) (pa_cons (pv 11) (pa_cons (pv 5) (pa_cons (pv 7) pa_nil))))))
        (pss_cons (ps_set (i := 14) scLaw.nd rfl (Or.inl rfl) (pe_tup (pa_cons (pv 3) (pa_cons (pe_callTy call_tuple_of (by rfl) hT (by decide +kernel) (pa_cons (pv 5) pa_nil)) (pa_cons (pv 13) (pa_cons (pe_op op_add_str (pv 9) (pv 12)) pa_nil))))))
        (pss_cons (ps_set (i := 15) scLaw.nd rfl (Or.inl rfl) (pe_lst (pa_cons (pv 11) (pa_cons (pe_dyn (n := 7) (pv 11) r7) pa_nil))))
        (pss_cons (ps_if (PW.pt (pw_or (pt_cmpR (op_neS hr.units) (pe_call GO r5 rfl TO.g TO.F.kp TO.b .nil pass0 (pa_cons (pe_ix ix_list (pv 15) pe_int (fun _ _ => rfl)) (pa_cons (pv 10) pa_nil))) (pv 14) (nomark _)) (pw_or1 (pt_cmpR (op_neS hr.units) (pe_call GO r5 rfl TO.g TO.F.kp TO.b .nil pass0 (pa_cons (pe_ix ix_list (pv 15) pe_int (fun _ _ => rfl)) (pa_cons (pv 10) pa_nil))) (pv 14) (nomark _))))) (pss_one (ps_ret pe_bl)) pss_nil)
        (pss_cons (ps_set (i := 16) scLaw.nd rfl (Or.inl rfl) (pe_call GT r1 rfl TT.g TT.F.kp TT.b .nil pass0 (pa_cons (pv 1) (pa_cons pe_int pa_nil))))
        (pss_one (ps_if (pt_not (pt_val (pe_call GA r6 rfl TA.g TA.F.kp TA.b .nil pass0 (pa_cons (pe_ix ix_list (pv 15) (pv 16) (fun _ _ => rfl)) (pa_cons (pe_ix ix_list (pv 15) (pe_op op_sub pe_int (pv 16)) (fun _ _ => rfl)) (pa_cons (pv 10) (pa_cons (pv 14) (pa_cons (pv 8) pa_nil)))))))) (pss_one (ps_ret pe_bl)) pss_nil)))))))))))
      (pss_one (ps_ret pe_bl))))))))))), ?_⟩
    -- the pool, the base of the names, the name, the size
    refine ⟨_, rfl, scr, script, rfl, hS, hlen, fun p c H1 _ _ _ P1 => ?_⟩
    refine ⟨_, rfl, p, c, rfl, P1, fun b H2 hb hsb _ P2 => ?_⟩
    refine ⟨_, rfl, _, rfl, _, rfl, p, c, 12, rfl, P2, by decide, by decide, fun v H3 v0 v1 _ P3 => ?_⟩
    obtain ⟨k0, rfl⟩ : ∃ k0 : Nat, v = (k0 : Int) := ⟨v.toNat, by omega⟩
    refine ⟨p, c, b, k0, rfl, P3, by omega, hsb, by omega, fun nm H4 hnm0 _ P4 => ?_⟩
    have hnm : nm.length ≤ 100 := Nat.le_trans hnm0.1 (by omega)
    clear P1 P2 P3 v0 v1 hnm0
    refine ⟨(by show 6 ≤ sizeLine; decide), fun tl0 ht => ?_⟩
    obtain ⟨ntp, ntc⟩ := P4.ne ht
    refine ⟨_, rfl, p, c, 6, rfl, P4.new ht, by decide, by decide, fun v H5 v0 v1 g4 P5 => ?_⟩
    obtain ⟨n, hat, n1, n2⟩ := sizes6 v0 v1
    refine ⟨tl0, _, v, _, rfl, rfl, SqL.of (g4 _ _ upd_same ntp), hat, ?_⟩
    clear P4 g4 hat ht v0 v1
    -- a list of drawn names
    have drawn : ∀ (m : Nat) (D : Addr) (H5 : Hp), m ≤ 12 → D ≠ p → D ≠ c → ∀ (i : Nat) (H' : Hp), i < m → (Gro p H5 H' ∧ Pool H' p c ∧ ∃ ys : List Str, H' D = some (.lst (ys.map V.str)) ∧ ys.length = i ∧ ∀ j s, ys[j]? = some s → NameK j s) → H5 D = none →
        spName [.ref p, .str b, .int (0 + (i : Int))] H' (fun y H4 => ∃ acc, H4 D = some (.lst acc) ∧ acc.length < sizeLine ∧ (Gro p H5 (upd H4 D (.lst (acc ++ [y]))) ∧ Pool (upd H4 D (.lst (acc ++ [y]))) p c ∧ ∃ ys : List Str, upd H4 D (.lst (acc ++ [y])) D = some (.lst (ys.map V.str)) ∧ ys.length = i + 1 ∧ ∀ j s, ys[j]? = some s → NameK j s)) E0 := by
      intro m D H5 hm nDp nDc i H' hi ⟨g6, P6, ys, hys, hyl, hnm⟩ hD
      refine ⟨p, c, b, i, by rw [show (0 : Int) + (i : Int) = (i : Int) by omega], P6, by omega, hsb, by omega, fun z H7 hz g7 P7 => ?_⟩
      refine ⟨ys.map V.str, g7 D _ hys nDp, small1000 (by rw [List.length_map]; omega), fun bb o e ne => ?_, P7.off nDp nDc, ys ++ [z], by rw [upd_same, List.map_append]; rfl, by rw [List.length_append, hyl]; rfl, fun j s hj => ?_⟩
      · rw [upd_ne (ne_of_none e hD)]
        exact g7 _ _ (g6 _ _ e ne) ne
      · rcases Nat.lt_or_ge j ys.length with hlt | hge
        · rw [List.getElem?_append_left hlt] at hj
          exact hnm j s hj
        · rw [List.getElem?_append_right hge] at hj
          have h0 : j - ys.length = 0 := by
            have := (List.getElem?_eq_some_iff.mp hj).1
            simp at this
            omega
          rw [h0] at hj
          have ej : j = i := by omega
          subst ej
          cases Option.some.inj hj
          exact hz
    refine ⟨_, rfl, _, rfl, by omega, by omega, fun sl hsl0 => ?_⟩
    obtain ⟨nsp, nsc⟩ := P5.ne hsl0
    refine lc_range (lo := 0) (n := ((n : Int)).toNat) (fun i H' => Gro p H5 H' ∧ Pool H' p c ∧ ∃ ys : List Str, H' sl = some (.lst (ys.map V.str)) ∧ ys.length = i ∧ ∀ j s, ys[j]? = some s → NameK j s)
      ⟨.new hsl0, P5.new hsl0, [], upd_same, rfl, fun j s h => by simp at h⟩ ?_ ?_
    · intro i H' hi inv
      exact ⟨rfl, _, rfl, _, rfl, _, rfl, drawn n sl H5 (by omega) nsp nsc i H' (by omega) inv hsl0⟩
    rintro H6 ⟨_, P6, ss, hss, hsl, hsn⟩
    have sl_ : ss.length = n := by omega
    have s0 : 0 < ss.length := by omega
    have s10 : ss.length ≤ 10 := by omega
    have snd : ss.Nodup := name_nodup hsn
    have hs : ∀ s ∈ ss, s.length ≤ 100 := fun s hs => by
      obtain ⟨j, hj⟩ := List.mem_iff_getElem?.mp hs
      exact Nat.le_trans (hsn j s hj).1 (by omega)
    -- the doors
    refine ⟨_, rfl, by omega, by omega, fun dl hdl0 => ?_⟩
    obtain ⟨ndp, ndc⟩ := P6.ne hdl0
    refine lc_range (lo := 0) (n := ((3 : Int)).toNat) (fun i H' => Gro p H6 H' ∧ Pool H' p c ∧ ∃ ys : List Str, H' dl = some (.lst (ys.map V.str)) ∧ ys.length = i ∧ ∀ j s, ys[j]? = some s → NameK j s)
      ⟨.new hdl0, P6.new hdl0, [], upd_same, rfl, fun j s h => by simp at h⟩ ?_ ?_
    · intro i H' hi inv
      exact ⟨rfl, _, rfl, _, rfl, _, rfl, drawn 3 dl H6 (by omega) ndp ndc i H' hi inv hdl0⟩
    rintro H7 ⟨g7, P7, os, hos, hol, _⟩
    have hss7 := g7 _ _ hss nsp
    have o0 : 0 < os.length := by rw [hol]; decide
    have o10 : os.length ≤ 10 := by rw [hol]; decide
    clear drawn hss g7 P6 P5
    -- strange
    refine ⟨_, rfl, _, rfl, p, c, b, 11, rfl, P7, by omega, hsb, by omega, fun z H8 hz0 g8 P8 => ?_⟩
    have hz : z.length ≤ 100 := Nat.le_trans hz0.1 (by omega)
    have hss8 := g8 _ _ hss7 nsp
    have hos8 := g8 _ _ hos ndp
    clear g8 P7 hss7 hos hz0
    -- the text
    obtain ⟨jl, rl⟩ := row_len (nm := nm) (by omega : ss.length ≤ 100) hs hnm
    have c1 : (", " : Str).length = 2 := by decide +kernel
    have c2 : (": " : Str).length = 2 := by decide +kernel
    refine ⟨_, rfl, nm, _, rfl, rfl, small20k (by omega), ⟨⟨_, rfl⟩, _, rfl, _, sl, ss, rfl, rfl, .inl (SqL.of hss8), by have := sum_le hs; rw [c1]; omega, _, _, rfl, rfl, small20k (by rw [len_app, c2]; omega), ?_⟩⟩
    -- a part that is made
    have made : ∀ {C : Addr} {H : Hp} {Q : Addr → Hp → Prop}, PartC K C → H sl = some (.lst (ss.map V.str)) → (∀ (a dx ds dd : Addr) (es ts : List Addr) (H' : Hp), Same H H' → H a = none → H ds = none → H dd = none → (∀ e ∈ es, H e = none) → PA H' a C dx nm ds dd ss es ts (fun _ _ => false) 0 (ss.map fun _ => ([], [])) → Q a H') →
        ∀ x dx, H x = none → H dx = none → dx ≠ x → spPartInit K CR (.ref x :: ([.str nm, .ref sl] ++ [])) (upd (upd H dx (.own x)) x (.ins C dx [])) (fun v H2 => v = .non ∧ Q x H2) (fun _ _ _ => False) := fun {C H Q} pc hl k x dx nx nd ne => by
      have s2 : Same H (upd (upd H dx (.own x)) x (.ins C dx [])) := fun b o e => by rw [upd_ne (ne_of_none e nx), upd_ne (ne_of_none e nd)]; exact e
      have i2 : upd (upd H dx (.own x)) x (.ins C dx []) x = some (.ins C dx []) := upd_same
      generalize upd (upd H dx (.own x)) x (.ins C dx []) = H2 at s2 i2
      refine ⟨x, C, dx, nm, sl, ss, rfl, i2, pc, .inl (SqL.of (s2 _ _ hl)), by omega, hs, fun i s h1 h2 _ => ?_, fun _ ds es dd ts H3 m1 m2 m3 g3 e3 S3 D3 => ⟨rfl, ?_⟩⟩
      · obtain ⟨j, hj⟩ := List.mem_iff_getElem?.mp h2
        have hji : j < i := by
          have := (List.getElem?_eq_some_iff.mp hj).1
          rw [List.length_take] at this
          omega
        rw [List.getElem?_take_of_lt hji] at hj
        exact absurd (nd_ix snd h1 hj) (by omega)
      · exact k x dx ds dd es ts H3 (fun b o e => g3 b o (s2 b o e) (ne_of_none e nx)) nx (s2.free m1) (s2.free m3) (fun e he => s2.free (m2 e he)) (pa_new e3 S3 D3 s0)
    -- the row of a part
    refine ⟨_, rfl, _, rfl, made pP hss8 fun a dx ds dd es ts H9 q9 _ _ _ _ pa => ?_⟩
    refine ⟨a, dx, _, rfl, pa.at_, fs_no _ _ _ (by decide +kernel) (by decide +kernel) (by decide +kernel), a, CP, dx, nm, ds, dd, ss, es, ts, _, _, _, rfl, pa, kP, pP, by omega, hs, hnm, fun H10 q10 => ?_⟩
    refine ⟨_, rfl, rfl, _, rfl, no (congrArg (!·) (decide_eq_true rfl)) ?_⟩
    have q810 := q9.trans q10
    have hss10 := q810 _ _ hss8
    have hos10 := q810 _ _ hos8
    have P10 : Pool H10 p c := P8.keep (fun o e => q810 _ _ e) fun o e => q810 _ _ e
    clear hss8 hos8 P8 q10 q9 q810 pa
    -- the two classes, one after the other
    refine ⟨(by show 2 ≤ sizeLine; decide), fun T hT0 => ?_⟩
    have nTp : T ≠ p := (P10.ne hT0).1
    refine ⟨_, rfl, ⟨_, SqL.of upd_same⟩, for_list (K := K) (a := T) (xs := [V.bl true, V.bl false])
      (fun i σ H' => Pool H' p c ∧ H' sl = some (.lst (ss.map V.str)) ∧ H' dl = some (.lst (os.map V.str)) ∧ H' T = some (.lst [.bl true, .bl false]) ∧ ∃ v10 v11 v12 v13 v14 v15 v16 : Option V,
        σ = [some (.ref scr), some (.ref p), some (.str b), some (.str nm), some (.int (n : Int)), some (.ref sl), none, some (.ref dl), some (.str z), some (.str (rowText nm ss)), v10, v11, v12, v13, v14, v15, v16])
      ⟨P10.new hT0, by rw [upd_ne (ne_of_none hss10 hT0)]; exact hss10, by rw [upd_ne (ne_of_none hos10 hT0)]; exact hos10, upd_same, _, _, _, _, _, _, _, rfl⟩
      (fun i σ H' _ h => SqL.of h.2.2.2.1) ?_ ?_⟩
    · clear P10 hss10 hos10 hT0
      rintro i y σ H' hi ⟨P1, l1, o1, t1, v10, v11, v12, v13, v14, v15, v16, rfl⟩
      obtain ⟨one, rfl⟩ : ∃ one, y = V.bl one := by
        match i, hi with
        | 0, h => exact ⟨_, (Option.some.inj h).symm⟩
        | 1, h => exact ⟨_, (Option.some.inj h).symm⟩
        | i + 2, h => cases h
      refine ⟨_, rfl, _, rfl, made kdM.pk.pc l1 fun a dx ds dd es ts H2 q2 _ _ _ _ pa => ?_⟩
      refine ⟨fun σ H3 => ∃ (a C fR dx : Addr) (suf : Str) (ds dd : Addr) (es ts : List Addr), Kd P w K mg base fA fS fF fN fG fI fP fT fL CS CD CP CI CM C fR one suf ∧ PA H3 a C dx nm ds dd ss es ts (fun _ _ => false) 0 (ss.map fun _ => ([], [])) ∧ Same H' H3 ∧ suf.length ≤ 100 ∧
        σ = [some (.ref scr), some (.ref p), some (.str b), some (.str nm), some (.int (n : Int)), some (.ref sl), none, some (.ref dl), some (.str z), some (.str (rowText nm ss)), some (.bl one), some (.ref a), some (.str suf), v13, v14, v15, v16], ?_, ?_⟩
      · refine ⟨_, rfl, one, rfl, ?_⟩
        cases one with
        | true =>
          refine yes rfl ⟨_, rfl, _, rfl, made kdI.pk.pc (q2 _ _ l1) fun a dx ds dd es ts H3 q3 _ _ _ _ pa => ?_⟩
          exact ⟨a, CI, fRI, dx, _, ds, dd, es, ts, kdI, pa, q2.trans q3, by decide +kernel, rfl⟩
        | false => exact no rfl ⟨a, CM, fRM, dx, _, ds, dd, es, ts, kdM, pa, q2, by decide +kernel, rfl⟩
      clear q2 pa
      rintro σ H3 ⟨a, C, fR, dx, suf, ds, dd, es, ts, kd, pa, q3, hsuf, rfl⟩
      obtain ⟨fW, dW, mW, GW, bW⟩ := kd.tw
      have l3 := q3 _ _ l1
      have o3 := q3 _ _ o1
      have t3 := q3 _ _ t1
      have nl := pa.notd l3
      have no_ := pa.notd o3
      have nt := pa.notd t3
      -- it is filled
      refine ⟨_, rfl, _, rfl, _, rfl, _, rfl, p, c, a, sl, dl, C, fR, dx, nm, ds, dd, ss, es, ts, os, rfl, P1.lists (fun b xs e => q3 _ _ e), pa, kd.pk, l3, o3, nsp, ndp, s0, s10, o0, o10, hs, fun q us R m ng ts' H4 f4 P4 pa4 gd hm hq hq4 rows4 => ?_⟩
      have l4 := f4 _ _ l3 nsp nl.2 nl.1
      have o4 := f4 _ _ o3 ndp no_.2 no_.1
      have t4 := f4 _ _ t3 nTp nt.2 nt.1
      have nqp : q ≠ p := by
        rintro rfl
        obtain ⟨ys, e, _⟩ := P1
        rw [q3 _ _ e] at hq
        cases hq
      clear f4 pa l3 o3 t3 nl no_ nt q3 P1 l1 o1 t1 hq
      -- what is due
      refine ⟨_, rfl, _, rfl, sl, _, rfl, .inl ⟨SqL.of l4, fun x hx => ?_⟩⟩
      have q5 : Same H4 (upd H4 x (.tup (ss.map V.str))) := same_new hx
      have x5 : upd H4 x (.tup (ss.map V.str)) x = some (.tup (ss.map V.str)) := upd_same
      generalize upd H4 x (.tup (ss.map V.str)) = H5 at q5 x5
      refine ⟨_, rfl, _, rfl, _, rfl, _, _, rfl, rfl, small20k (by omega), (by show 4 ≤ sizeLine; decide), fun dq hdq => ?_⟩
      have q6 : Same H5 (upd H5 dq (.tup [.str nm, .ref x, .ref q, .str (rowText nm ss ++ suf)])) := same_new hdq
      have due : DueAt (upd H5 dq (.tup [.str nm, .ref x, .ref q, .str (rowText nm ss ++ suf)])) dq nm ss (rowsOf ss (fun s => ss.filter (R s)) ng) (rowText nm ss ++ suf) x q us :=
        ⟨upd_same, q6 _ _ x5, q6 _ _ (q5 _ _ hq4), RowsAt.keep (fun b xs e => q6 _ _ (q5 _ _ e)) rows4⟩
      generalize upd H5 dq (.tup [.str nm, .ref x, .ref q, .str (rowText nm ss ++ suf)]) = H6 at q6 due
      have q46 := q5.trans q6
      have pa6 := pa4.keep q46
      have P6 := P4.lists fun b xs e => q46 _ _ e
      have l6 := q46 _ _ l4
      have o6 := q46 _ _ o4
      have t6 := q46 _ _ t4
      clear q46 q6 q5 x5 rows4 hq4 l4 o4 t4 P4 pa4 hx hdq
      -- its twin
      refine ⟨_, rfl, _, rfl, a, C, dx, _, fW, dW, _, rfl, pa6.at_, fs_no _ _ _ (by decide +kernel) (by decide +kernel) (by decide +kernel), kd.pk.k.cls, mW, GW, bW, a, dx, nm, ds, dd, ss, es, ts', R, m, ng, rfl, pa6, kd.pk, gd, s0, s10, hs,
        fun a2 dx2 ds2 dd2 es2 ts2 m2 H7 q7 y1 y2 y3 y4 pb hm2 => ⟨(by show 2 ≤ sizeLine; decide), fun L hL => ?_⟩⟩
      have tr := pa6.tracked
      have q8 : Same H7 (upd H7 L (.lst [.ref a, .ref a2])) := same_new hL
      have L8 : upd H7 L (.lst [.ref a, .ref a2]) L = some (.lst [.ref a, .ref a2]) := upd_same
      generalize upd H7 L (.lst [.ref a, .ref a2]) = H8 at q8 L8
      have q68 := q7.trans q8
      have pa8 := pa6.keep q68
      have pb8 := pb.keep q8
      have due8 := due.keep (fun b xs e => q68 _ _ e) (fun o e => q68 _ _ e)
      -- both are told
      refine ⟨_, rfl, L, _, 0, .ref a, rfl, rfl, SqL.of L8, at_c (j := 0) rfl rfl, _, rfl, a, C, fR, one, suf, dx, nm, ds, dd, ss, es, ts', R, m, ng, rfl, kd, pa8, s10, hs, hnm, fun e1 x1 w1 us1 H9 q9 _ due9 => ?_⟩
      refine ⟨_, rfl, _, due9.dp, (due8.keep (fun b xs e => q9 _ _ e) (fun o e => q9 _ _ e)).dp, due_plain _ _ _ _, due_depth _ _ _ _, _, rfl, no rfl ?_⟩
      refine ⟨_, rfl, L, _, 1, .ref a2, rfl, rfl, SqL.of (q9 _ _ L8), at_c (j := 1) rfl rfl, _, rfl, a2, C, fR, one, suf, dx2, nm, ds2, dd2, ss, es2, ts2, R, m2, ng, rfl, kd, pb8.keep q9, s10, hs, hnm, fun e2 x2 w2 us2 H10 q10 _ due10 => ?_⟩
      have q810 := q9.trans q10
      refine ⟨_, rfl, _, due10.dp, (due8.keep (fun b xs e => q810 _ _ e) (fun o e => q810 _ _ e)).dp, due_plain _ _ _ _, due_depth _ _ _ _, _, rfl, no rfl ?_⟩
      have q610 := q68.trans q810
      -- which one is changed
      refine ⟨_, rfl, p, c, 2, rfl, P6.lists (fun b xs e => q610 _ _ e), by decide, by decide, fun v H11 v0 v1 g11 P11 => ?_⟩
      have nLp : L ≠ p := by
        rintro rfl
        obtain ⟨ys, e, _⟩ := P6
        rw [q7 _ _ e] at hL
        cases hL
      have noL := (P6.lists (fun b xs e => q610 _ _ e)).noL g11
      have pa11 := (pa8.keep q810).keepL noL
      have pb11 := (pb8.keep q810).keepL noL
      have due11 := (due8.keep (fun b xs e => q810 _ _ e) (fun o e => q810 _ _ e)).keep (fun b xs e => noL _ _ e (fun xs e => by cases e)) (fun o e => g11 _ _ e nqp)
      have L11 := g11 _ _ (q810 _ _ L8) nLp
      have l11 := g11 _ _ (q610 _ _ l6) nsp
      have o11 := g11 _ _ (q610 _ _ o6) ndp
      have t11 := g11 _ _ (q610 _ _ t6) nTp
      have nn : ∀ {b c : Addr}, H6 b = none → (∃ o, H6 c = some o) → b ≠ c := fun {b c} n ⟨o, e⟩ => (ne_of_none e n).symm
      have d1 : dd ≠ ds2 ∧ dd ≠ dd2 ∧ dd ∉ es2 := ⟨(nn y2 tr.2.1).symm, (nn y3 tr.2.1).symm, fun h => nn (y4 _ h) tr.2.1 rfl⟩
      have d2 : ∀ e ∈ es, e ≠ ds2 ∧ e ≠ dd2 ∧ e ∉ es2 := fun e he => ⟨(nn y2 (tr.2.2 e he)).symm, (nn y3 (tr.2.2 e he)).symm, fun h => nn (y4 _ h) (tr.2.2 e he) rfl⟩
      have d3 : dd2 ≠ ds ∧ dd2 ≠ dd ∧ dd2 ∉ es := ⟨nn y3 tr.1, nn y3 tr.2.1, fun h => nn y3 (tr.2.2 _ h) rfl⟩
      have d4 : dd2 ≠ ds ∧ dd2 ≠ dd ∧ dd2 ∉ es := d3
      have d5 : ∀ e ∈ es2, e ≠ ds ∧ e ≠ dd ∧ e ∉ es := fun e he => ⟨nn (y4 e he) tr.1, nn (y4 e he) tr.2.1, fun h => nn (y4 e he) (tr.2.2 _ h) rfl⟩
      have fin : ∀ H', (∀ b xs, H11 b = some (.lst xs) → H' b = some (.lst xs)) → Pool H' p c ∧ H' sl = some (.lst (ss.map V.str)) ∧ H' dl = some (.lst (os.map V.str)) ∧ H' T = some (.lst [.bl true, .bl false]) :=
        fun H' f => ⟨P11.lists f, f _ _ l11, f _ _ o11, f _ _ t11⟩
      rcases (by omega : v = 0 ∨ v = 1) with rfl | rfl
      · refine ⟨_, rfl, _, rfl, L, _, 0, .ref a, rfl, rfl, SqL.of L11, at_c (j := 0) rfl rfl, _, rfl, _, rfl, _, _, rfl, rfl, L, _, 1, .ref a2, rfl, rfl, SqL.of L11, at_c (j := 1) rfl rfl, _, rfl, _, rfl, _, rfl,
          a, a2, C, fR, one, suf, dx, nm, ds, dd, ss, es, ts', R, m, ng, dx2, ds2, dd2, es2, ts2, m2, dq, z, x, q, us, rfl, kd, pa11, pb11, due11, d1, d2, d3, s0, s10, hs, hnm, hz, by omega, fun H' f => ⟨true, rfl, no rfl ?_⟩⟩
        obtain ⟨a1, a2, a3, a4⟩ := fin H' fun b xs e => f _ _ e (pa11.notd e).2 (pa11.notd e).1 (pb11.notd e).2
        exact ⟨a1, a2, a3, a4, _, _, _, _, _, _, _, rfl⟩
      · refine ⟨_, rfl, _, rfl, L, _, 1, .ref a2, rfl, rfl, SqL.of L11, at_c (j := 1) rfl rfl, _, rfl, _, rfl, _, _, rfl, rfl, L, _, 0, .ref a, rfl, rfl, SqL.of L11, at_c (j := 0) rfl rfl, _, rfl, _, rfl, _, rfl,
          a2, a, C, fR, one, suf, dx2, nm, ds2, dd2, ss, es2, ts2, R, m2, ng, dx, ds, dd, es, ts', m, dq, z, x, q, us, rfl, kd, pb11, pa11, due11, d4, d5, d1, s0, s10, hs, hnm, hz, by omega, fun H' f => ⟨true, rfl, no rfl ?_⟩⟩
        obtain ⟨a1, a2, a3, a4⟩ := fin H' fun b xs e => f _ _ e (pb11.notd e).2 (pb11.notd e).1 (pa11.notd e).2
        exact ⟨a1, a2, a3, a4, _, _, _, _, _, _, _, rfl⟩
    · rintro σ H' ⟨_, _, _, _, v10, v11, v12, v13, v14, v15, v16, rfl⟩
      exact k _
end
end Yd
namespace Yd
open PySem L2
/-! ### isinstance, of an own class -/
theorem kit_is {K : PySem.W.Frag} {C D : Addr} {b : Bool} (h1 : PySem.W.isClsIn K D = true) (h2 : PySem.W.typeIn K (.ref D) = some (.type "type")) (h3 : PySem.W.subIn K (.ref C) (.ref D) = some b) (h4 : C = D → b = true) : PySem.W.kitOne K (.ref C) (.ref D) = some b := by
  have h5 : (PySem.W.clsIn K D).isSome = true := h1
  have a2 : ((PySem.W.clsIn K D).isSome && PySem.W.typeIn K (.ref D) == some (.type "type")) = true := by rw [h5, h2]; rfl
  unfold PySem.W.kitOne
  split
  · rename_i q
    have q' : C = D := by
      first
        | exact Value.ref.inj (eq_of_beq q)
        | simpa using q
    rw [h4 q']
  · exact (if_pos a2).trans h3
end Yd
namespace Yd
open PySem L2
/-! ### what the top has written -/
theorem all_mk {P : Program} {w : World} {K : PySem.W.Frag} {h : Heap} {mg : Str → Option Value} {fa : Addr} (X : K.In h) (G : h.Ns mainGlobals mg) (hfa : mg "law" = some (.ref fa))
    {ER fR ccR cdaR : Addr} {nmR qR : Str} {NR : Addr} {bsR bmR : List Value} {snR : List Str} {subR : List Value} {abR : Bool} {colR : Option Bool} {ddR : Option Addr} {m0R m1R m2R m3R m5R : Option Value} {odR anR : Option Addr} {slR : Array (Option Value)} {ocR kVR dcR pmR ctR : Value} {cclR : Value} {cddR : Option Addr} {vsR : Array Value} {ccsR : Array (Option Value)} {fileR : Str} {tfR : Nat} {clR : Value} {cldR : Option Addr} {cslR : Array (Option Value)} {cdDR : ClassData} {EU fU ccU cdaU : Addr} {nmU qU : Str} {NU : Addr} {bsU bmU : List Value} {snU : List Str} {subU : List Value} {abU : Bool} {colU : Option Bool} {ddU : Option Addr} {m0U m1U m2U m3U m5U : Option Value} {odU anU : Option Addr} {slU : Array (Option Value)} {ocU kVU dcU pmU ctU : Value} {cclU : Value} {cddU : Option Addr} {vsU : Array Value} {ccsU : Array (Option Value)} {fileU : Str} {tfU : Nat} {clU : Value} {cldU : Option Addr} {cslU : Array (Option Value)} {cdDU : ClassData} {EN fN ccN cdaN : Addr} {nmN qN : Str} {NN : Addr} {bsN bmN : List Value} {snN : List Str} {subN : List Value} {abN : Bool} {colN : Option Bool} {ddN : Option Addr} {m0N m1N m2N m3N m5N : Option Value} {odN anN : Option Addr} {slN : Array (Option Value)} {ocN kVN dcN pmN ctN : Value} {cclN : Value} {cddN : Option Addr} {vsN : Array Value} {ccsN : Array (Option Value)} {fileN : Str} {tfN : Nat} {clN : Value} {cldN : Option Addr} {cslN : Array (Option Value)} {cdDN : ClassData} {CS : Addr} {CD : Addr} {CP : Addr} {CI : Addr} {CM : Addr} {fSI : Addr} {odSI anSI : Option Addr} {slSI : Array (Option Value)} {ocSI kVSI dcSI pmSI cdSI ctSI : Value} {fSt : Addr} {odSt anSt : Option Addr} {slSt : Array (Option Value)} {ocSt kVSt dcSt pmSt cdSt ctSt : Value} {fAl : Addr} {odAl anAl : Option Addr} {slAl : Array (Option Value)} {ocAl kVAl dcAl pmAl cdAl ctAl : Value} {fFr : Addr} {odFr anFr : Option Addr} {slFr : Array (Option Value)} {ocFr kVFr dcFr pmFr cdFr ctFr : Value} {fDI : Addr} {odDI anDI : Option Addr} {slDI : Array (Option Value)} {ocDI kVDI dcDI pmDI cdDI ctDI : Value} {fDt : Addr} {odDt anDt : Option Addr} {slDt : Array (Option Value)} {ocDt kVDt dcDt pmDt cdDt ctDt : Value} {fDg : Addr} {odDg anDg : Option Addr} {slDg : Array (Option Value)} {ocDg kVDg dcDg pmDg cdDg ctDg : Value} {fDp : Addr} {odDp anDp : Option Addr} {slDp : Array (Option Value)} {ocDp kVDp dcDp pmDp cdDp ctDp : Value} {fDn : Addr} {odDn anDn : Option Addr} {slDn : Array (Option Value)} {ocDn kVDn dcDn pmDn cdDn ctDn : Value} {fDv : Addr} {odDv anDv : Option Addr} {slDv : Array (Option Value)} {ocDv kVDv dcDv pmDv cdDv ctDv : Value} {fPI : Addr} {odPI anPI : Option Addr} {slPI : Array (Option Value)} {ocPI kVPI dcPI pmPI cdPI ctPI : Value} {fRP : Addr} {odRP anRP : Option Addr} {slRP : Array (Option Value)} {ocRP kVRP dcRP pmRP cdRP ctRP : Value} {fFo : Addr} {odFo anFo : Option Addr} {slFo : Array (Option Value)} {ocFo kVFo dcFo pmFo cdFo ctFo : Value} {fII : Addr} {odII anII : Option Addr} {slII : Array (Option Value)} {ocII kVII dcII pmII cdII ctII : Value} {fWI : Addr} {odWI anWI : Option Addr} {slWI : Array (Option Value)} {ocWI kVWI dcWI pmWI cdWI ctWI : Value} {fMI : Addr} {odMI anMI : Option Addr} {slMI : Array (Option Value)} {ocMI kVMI dcMI pmMI cdMI ctMI : Value} {fWM : Addr} {odWM anWM : Option Addr} {slWM : Array (Option Value)} {ocWM kVWM dcWM pmWM cdWM ctWM : Value} {fRI ccRI cdaRI : Addr} {odRI anRI : Option Addr} {slRI : Array (Option Value)} {ocRI kVRI dcRI pmRI ctRI : Value} {cclRI : Value} {cddRI : Option Addr} {vsRI : Array Value} {ccsRI : Array (Option Value)} {fileRI : Str} {tfRI : Nat} {cllRI : Value} {cldRI : Option Addr} {cslRI : Array (Option Value)} {cdDRI : ClassData} {fRM ccRM cdaRM : Addr} {odRM anRM : Option Addr} {slRM : Array (Option Value)} {ocRM kVRM dcRM pmRM ctRM : Value} {cclRM : Value} {cddRM : Option Addr} {vsRM : Array Value} {ccsRM : Array (Option Value)} {fileRM : Str} {tfRM : Nat} {cllRM : Value} {cldRM : Option Addr} {cslRM : Array (Option Value)} {cdDRM : ClassData} {fdis : Addr} {oddis andis : Option Addr} {sldis : Array (Option Value)} {ocdis kVdis dcdis pmdis cddis ctdis : Value} {fpool : Addr} {odpool anpool : Option Addr} {slpool : Array (Option Value)} {ocpool kVpool dcpool pmpool cdpool ctpool : Value} {ftake : Addr} {odtake antake : Option Addr} {sltake : Array (Option Value)} {octake kVtake dctake pmtake cdtake cttake : Value} {fbase : Addr} {odbase anbase : Option Addr} {slbase : Array (Option Value)} {ocbase kVbase dcbase pmbase cdbase ctbase : Value} {fname : Addr} {odname anname : Option Addr} {slname : Array (Option Value)} {ocname kVname dcname pmname cdname ctname : Value} {fsom : Addr} {odsom ansom : Option Addr} {slsom : Array (Option Value)} {ocsom kVsom dcsom pmsom cdsom ctsom : Value} {ftold : Addr} {odtold antold : Option Addr} {sltold : Array (Option Value)} {octold kVtold dctold pmtold cdtold cttold : Value} {ffil : Addr} {odfil anfil : Option Addr} {slfil : Array (Option Value)} {ocfil kVfil dcfil pmfil cdfil ctfil : Value} {fapa : Addr} {odapa anapa : Option Addr} {slapa : Array (Option Value)} {ocapa kVapa dcapa pmapa cdapa ctapa : Value} {flaw : Addr} {odlaw anlaw : Option Addr} {sllaw : Array (Option Value)} {oclaw kVlaw dclaw pmlaw cdlaw ctlaw : Value}
    (z0 : PySem.W.nsIn K mainGlobals "len" = some none)
    (z1 : PySem.W.nsIn K mainGlobals "int" = some none)
    (z2 : PySem.W.nsIn K mainGlobals "range" = some none)
    (z3 : PySem.W.nsIn K mainGlobals "tuple" = some none)
    (z4 : PySem.W.nsIn K mainGlobals "list" = some none)
    (z5 : PySem.W.nsIn K mainGlobals "isinstance" = some none)
    (z6 : PySem.W.nsIn K mainGlobals "iter" = some none)
    (aR : PySem.W.nsIn K mainGlobals "Repeated" = some (some (.ref ER)))
    (xR : K.lookup ER = some (excClassObj nmR qR ER NR bsR bmR true snR subR abR colR ddR m0R m1R m2R m3R m5R "ValueError.__new__"))
    (rvR : HandSPX.refsVE bmR = true)
    (saR : PySem.W.findIn K (.ref ER) "__setattr__" = some (some (.builtin "object.__setattr__")))
    (gaR : PySem.W.findIn K (.ref ER) "__getattribute__" = some (some (.builtin "BaseException.__getattribute__")))
    (ggR : PySem.W.findIn K (.ref ER) "__getattr__" = some none)
    (n0R : PySem.W.findIn K (.ref ER) "name" = some none)
    (eR : PySem.W.subIn K (.ref ER) (.type "BaseException") = some true)
    (tR : PySem.W.typeIn K (.ref ER) = some (.type "type"))
    (kCR : PySem.W.keepIn K (.ref ER) = true)
    (hCR : PySem.W.hasDictIn K ER = true)
    (iCR : PySem.W.isClsIn K ER = true)
    (sCR : PySem.W.subIn K (.ref ER) (.ref ER) = some true)
    (aiR : PySem.W.findIn K (.ref ER) "__init__" = some (some (.ref fR)))
    (tiR : PySem.W.typeIn K (.ref fR) = some (.type "function"))
    (lR : K.lookup fR = some ⟨ocR, odR, .func (PySem.W.fnX "__init__" "Repeated.__init__" (defArgs sRepeatedInit) (defBody sRepeatedInit) (defScope sRepeatedInit) [("__class__", ccR)] .none kVR dcR pmR anR (.ref cdaR) ctR), slR⟩)
    (cR : PySem.W.codeIn K (.ref cdaR) "Repeated.__init__" = true)
    (lcR : K.lookup cdaR = some ⟨cclR, cddR, .fields vsR, ccsR⟩)
    (hvR : vsR[2]? = some (.str fileR tfR))
    (hfR : (P.main.file == fileR) = true)
    (ceR : K.lookup ccR = some ⟨clR, cldR, .cell (some (.ref ER)), cslR⟩)
    (cdR : PySem.W.clsIn K ER = some cdDR)
    (ovR : PySem.W.ks_superIn K ER ER "__init__" = some (some (.builtin "ValueError.__init__")))
    (svR : PySem.W.subIn K (.ref ER) (.type "ValueError") = some true)
    (mrR : PySem.W.mroIn K ER (.ref ER) = some true)
    (z7 : PySem.W.nsIn K mainGlobals "super" = some none)
    (top : (P.main.scope.names.lookup ("super" : Str)).isSome = false)
    (any : PySem.W.nsIn K cStatics "thirdparty.any" = some none)
    (aU : PySem.W.nsIn K mainGlobals "Unknown" = some (some (.ref EU)))
    (xU : K.lookup EU = some (excClassObj nmU qU EU NU bsU bmU true snU subU abU colU ddU m0U m1U m2U m3U m5U "ValueError.__new__"))
    (rvU : HandSPX.refsVE bmU = true)
    (saU : PySem.W.findIn K (.ref EU) "__setattr__" = some (some (.builtin "object.__setattr__")))
    (gaU : PySem.W.findIn K (.ref EU) "__getattribute__" = some (some (.builtin "BaseException.__getattribute__")))
    (ggU : PySem.W.findIn K (.ref EU) "__getattr__" = some none)
    (n0U : PySem.W.findIn K (.ref EU) "name" = some none)
    (eU : PySem.W.subIn K (.ref EU) (.type "BaseException") = some true)
    (tU : PySem.W.typeIn K (.ref EU) = some (.type "type"))
    (kCU : PySem.W.keepIn K (.ref EU) = true)
    (hCU : PySem.W.hasDictIn K EU = true)
    (iCU : PySem.W.isClsIn K EU = true)
    (sCU : PySem.W.subIn K (.ref EU) (.ref EU) = some true)
    (aiU : PySem.W.findIn K (.ref EU) "__init__" = some (some (.ref fU)))
    (tiU : PySem.W.typeIn K (.ref fU) = some (.type "function"))
    (lU : K.lookup fU = some ⟨ocU, odU, .func (PySem.W.fnX "__init__" "Unknown.__init__" (defArgs sUnknownInit) (defBody sUnknownInit) (defScope sUnknownInit) [("__class__", ccU)] .none kVU dcU pmU anU (.ref cdaU) ctU), slU⟩)
    (cU : PySem.W.codeIn K (.ref cdaU) "Unknown.__init__" = true)
    (lcU : K.lookup cdaU = some ⟨cclU, cddU, .fields vsU, ccsU⟩)
    (hvU : vsU[2]? = some (.str fileU tfU))
    (hfU : (P.main.file == fileU) = true)
    (ceU : K.lookup ccU = some ⟨clU, cldU, .cell (some (.ref EU)), cslU⟩)
    (cdU : PySem.W.clsIn K EU = some cdDU)
    (ovU : PySem.W.ks_superIn K EU EU "__init__" = some (some (.builtin "ValueError.__init__")))
    (svU : PySem.W.subIn K (.ref EU) (.type "ValueError") = some true)
    (mrU : PySem.W.mroIn K EU (.ref EU) = some true)
    (aN : PySem.W.nsIn K mainGlobals "NoStep" = some (some (.ref EN)))
    (xN : K.lookup EN = some (excClassObj nmN qN EN NN bsN bmN true snN subN abN colN ddN m0N m1N m2N m3N m5N "ValueError.__new__"))
    (rvN : HandSPX.refsVE bmN = true)
    (saN : PySem.W.findIn K (.ref EN) "__setattr__" = some (some (.builtin "object.__setattr__")))
    (gaN : PySem.W.findIn K (.ref EN) "__getattribute__" = some (some (.builtin "BaseException.__getattribute__")))
    (ggN : PySem.W.findIn K (.ref EN) "__getattr__" = some none)
    (n0N : PySem.W.findIn K (.ref EN) "before" = some none)
    (n1N : PySem.W.findIn K (.ref EN) "after" = some none)
    (eN : PySem.W.subIn K (.ref EN) (.type "BaseException") = some true)
    (tN : PySem.W.typeIn K (.ref EN) = some (.type "type"))
    (kCN : PySem.W.keepIn K (.ref EN) = true)
    (hCN : PySem.W.hasDictIn K EN = true)
    (iCN : PySem.W.isClsIn K EN = true)
    (sCN : PySem.W.subIn K (.ref EN) (.ref EN) = some true)
    (aiN : PySem.W.findIn K (.ref EN) "__init__" = some (some (.ref fN)))
    (tiN : PySem.W.typeIn K (.ref fN) = some (.type "function"))
    (lN : K.lookup fN = some ⟨ocN, odN, .func (PySem.W.fnX "__init__" "NoStep.__init__" (defArgs sNoStepInit) (defBody sNoStepInit) (defScope sNoStepInit) [("__class__", ccN)] .none kVN dcN pmN anN (.ref cdaN) ctN), slN⟩)
    (cN : PySem.W.codeIn K (.ref cdaN) "NoStep.__init__" = true)
    (lcN : K.lookup cdaN = some ⟨cclN, cddN, .fields vsN, ccsN⟩)
    (hvN : vsN[2]? = some (.str fileN tfN))
    (hfN : (P.main.file == fileN) = true)
    (ceN : K.lookup ccN = some ⟨clN, cldN, .cell (some (.ref EN)), cslN⟩)
    (cdN : PySem.W.clsIn K EN = some cdDN)
    (ovN : PySem.W.ks_superIn K EN EN "__init__" = some (some (.builtin "ValueError.__init__")))
    (svN : PySem.W.subIn K (.ref EN) (.type "ValueError") = some true)
    (mrN : PySem.W.mroIn K EN (.ref EN) = some true)
    (aCS : PySem.W.nsIn K mainGlobals "Steps" = some (some (.ref CS)))
    (pgCS : PySem.W.plainGet K CS Str.empty = true)
    (hdCS : PySem.W.hasDictIn K CS = true)
    (poCS : PySem.W.plainOver K CS = true)
    (saCS : PySem.W.findIn K (.ref CS) "__setattr__" = some (some (.builtin "object.__setattr__")))
    (mkCS : PySem.W.makesIn K CS = true)
    (kcCS : PySem.W.keepIn K (.ref CS) = true)
    (aCD : PySem.W.nsIn K mainGlobals "Doors" = some (some (.ref CD)))
    (pgCD : PySem.W.plainGet K CD Str.empty = true)
    (hdCD : PySem.W.hasDictIn K CD = true)
    (poCD : PySem.W.plainOver K CD = true)
    (saCD : PySem.W.findIn K (.ref CD) "__setattr__" = some (some (.builtin "object.__setattr__")))
    (mkCD : PySem.W.makesIn K CD = true)
    (kcCD : PySem.W.keepIn K (.ref CD) = true)
    (aCP : PySem.W.nsIn K mainGlobals "Part" = some (some (.ref CP)))
    (pgCP : PySem.W.plainGet K CP Str.empty = true)
    (hdCP : PySem.W.hasDictIn K CP = true)
    (poCP : PySem.W.plainOver K CP = true)
    (saCP : PySem.W.findIn K (.ref CP) "__setattr__" = some (some (.builtin "object.__setattr__")))
    (mkCP : PySem.W.makesIn K CP = true)
    (kcCP : PySem.W.keepIn K (.ref CP) = true)
    (aCI : PySem.W.nsIn K mainGlobals "Single" = some (some (.ref CI)))
    (pgCI : PySem.W.plainGet K CI Str.empty = true)
    (hdCI : PySem.W.hasDictIn K CI = true)
    (poCI : PySem.W.plainOver K CI = true)
    (saCI : PySem.W.findIn K (.ref CI) "__setattr__" = some (some (.builtin "object.__setattr__")))
    (mkCI : PySem.W.makesIn K CI = true)
    (kcCI : PySem.W.keepIn K (.ref CI) = true)
    (aCM : PySem.W.nsIn K mainGlobals "Many" = some (some (.ref CM)))
    (pgCM : PySem.W.plainGet K CM Str.empty = true)
    (hdCM : PySem.W.hasDictIn K CM = true)
    (poCM : PySem.W.plainOver K CM = true)
    (saCM : PySem.W.findIn K (.ref CM) "__setattr__" = some (some (.builtin "object.__setattr__")))
    (mkCM : PySem.W.makesIn K CM = true)
    (kcCM : PySem.W.keepIn K (.ref CM) = true)
    (lSI : K.lookup fSI = some ⟨ocSI, odSI, .func (PySem.W.fnOf "__init__" "Steps.__init__" (defArgs sStepsInit) (defBody sStepsInit) (defScope sStepsInit) .none kVSI dcSI pmSI anSI cdSI ctSI), slSI⟩)
    (cSI : PySem.W.codeIn K cdSI "Steps.__init__" = true)
    (kSI : PySem.W.keepIn K (.ref fSI) = true)
    (iSI : PySem.W.isFn K (.ref fSI) = true)
    (lSt : K.lookup fSt = some ⟨ocSt, odSt, .func (PySem.W.fnOf "standings" "Steps.standings" (defArgs sStepsStandings) (defBody sStepsStandings) (defScope sStepsStandings) .none kVSt dcSt pmSt anSt cdSt ctSt), slSt⟩)
    (cSt : PySem.W.codeIn K cdSt "Steps.standings" = true)
    (kSt : PySem.W.keepIn K (.ref fSt) = true)
    (iSt : PySem.W.isFn K (.ref fSt) = true)
    (lAl : K.lookup fAl = some ⟨ocAl, odAl, .func (PySem.W.fnOf "allow" "Steps.allow" (defArgs sStepsAllow) (defBody sStepsAllow) (defScope sStepsAllow) .none kVAl dcAl pmAl anAl cdAl ctAl), slAl⟩)
    (cAl : PySem.W.codeIn K cdAl "Steps.allow" = true)
    (kAl : PySem.W.keepIn K (.ref fAl) = true)
    (iAl : PySem.W.isFn K (.ref fAl) = true)
    (lFr : K.lookup fFr = some ⟨ocFr, odFr, .func (PySem.W.fnOf "steps_from" "Steps.steps_from" (defArgs sStepsStepsFrom) (defBody sStepsStepsFrom) (defScope sStepsStepsFrom) .none kVFr dcFr pmFr anFr cdFr ctFr), slFr⟩)
    (cFr : PySem.W.codeIn K cdFr "Steps.steps_from" = true)
    (kFr : PySem.W.keepIn K (.ref fFr) = true)
    (iFr : PySem.W.isFn K (.ref fFr) = true)
    (lDI : K.lookup fDI = some ⟨ocDI, odDI, .func (PySem.W.fnOf "__init__" "Doors.__init__" (defArgs sDoorsInit) (defBody sDoorsInit) (defScope sDoorsInit) .none kVDI dcDI pmDI anDI cdDI ctDI), slDI⟩)
    (cDI : PySem.W.codeIn K cdDI "Doors.__init__" = true)
    (kDI : PySem.W.keepIn K (.ref fDI) = true)
    (iDI : PySem.W.isFn K (.ref fDI) = true)
    (lDt : K.lookup fDt = some ⟨ocDt, odDt, .func (PySem.W.fnOf "__iter__" "Doors.__iter__" (defArgs sDoorsIter) (defBody sDoorsIter) (defScope sDoorsIter) .none kVDt dcDt pmDt anDt cdDt ctDt), slDt⟩)
    (cDt : PySem.W.codeIn K cdDt "Doors.__iter__" = true)
    (kDt : PySem.W.keepIn K (.ref fDt) = true)
    (iDt : PySem.W.isFn K (.ref fDt) = true)
    (lDg : K.lookup fDg = some ⟨ocDg, odDg, .func (PySem.W.fnOf "__getitem__" "Doors.__getitem__" (defArgs sDoorsGet) (defBody sDoorsGet) (defScope sDoorsGet) .none kVDg dcDg pmDg anDg cdDg ctDg), slDg⟩)
    (cDg : PySem.W.codeIn K cdDg "Doors.__getitem__" = true)
    (kDg : PySem.W.keepIn K (.ref fDg) = true)
    (iDg : PySem.W.isFn K (.ref fDg) = true)
    (lDp : K.lookup fDp = some ⟨ocDp, odDp, .func (PySem.W.fnOf "__setitem__" "Doors.__setitem__" (defArgs sDoorsPut) (defBody sDoorsPut) (defScope sDoorsPut) .none kVDp dcDp pmDp anDp cdDp ctDp), slDp⟩)
    (cDp : PySem.W.codeIn K cdDp "Doors.__setitem__" = true)
    (kDp : PySem.W.keepIn K (.ref fDp) = true)
    (iDp : PySem.W.isFn K (.ref fDp) = true)
    (lDn : K.lookup fDn = some ⟨ocDn, odDn, .func (PySem.W.fnOf "needs" "Doors.needs" (defArgs sDoorsNeeds) (defBody sDoorsNeeds) (defScope sDoorsNeeds) .none kVDn dcDn pmDn anDn cdDn ctDn), slDn⟩)
    (cDn : PySem.W.codeIn K cdDn "Doors.needs" = true)
    (kDn : PySem.W.keepIn K (.ref fDn) = true)
    (iDn : PySem.W.isFn K (.ref fDn) = true)
    (lDv : K.lookup fDv = some ⟨ocDv, odDv, .func (PySem.W.fnOf "gives" "Doors.gives" (defArgs sDoorsGives) (defBody sDoorsGives) (defScope sDoorsGives) .none kVDv dcDv pmDv anDv cdDv ctDv), slDv⟩)
    (cDv : PySem.W.codeIn K cdDv "Doors.gives" = true)
    (kDv : PySem.W.keepIn K (.ref fDv) = true)
    (iDv : PySem.W.isFn K (.ref fDv) = true)
    (lPI : K.lookup fPI = some ⟨ocPI, odPI, .func (PySem.W.fnOf "__init__" "Part.__init__" (defArgs sPartInit) (defBody sPartInit) (defScope sPartInit) .none kVPI dcPI pmPI anPI cdPI ctPI), slPI⟩)
    (cPI : PySem.W.codeIn K cdPI "Part.__init__" = true)
    (kPI : PySem.W.keepIn K (.ref fPI) = true)
    (iPI : PySem.W.isFn K (.ref fPI) = true)
    (lRP : K.lookup fRP = some ⟨ocRP, odRP, .func (PySem.W.fnOf "row" "Part.row" (defArgs sPartRow) (defBody sPartRow) (defScope sPartRow) .none kVRP dcRP pmRP anRP cdRP ctRP), slRP⟩)
    (cRP : PySem.W.codeIn K cdRP "Part.row" = true)
    (kRP : PySem.W.keepIn K (.ref fRP) = true)
    (iRP : PySem.W.isFn K (.ref fRP) = true)
    (lFo : K.lookup fFo = some ⟨ocFo, odFo, .func (PySem.W.fnOf "_follow" "Part._follow" (defArgs sPartFollow) (defBody sPartFollow) (defScope sPartFollow) .none kVFo dcFo pmFo anFo cdFo ctFo), slFo⟩)
    (cFo : PySem.W.codeIn K cdFo "Part._follow" = true)
    (kFo : PySem.W.keepIn K (.ref fFo) = true)
    (iFo : PySem.W.isFn K (.ref fFo) = true)
    (lII : K.lookup fII = some ⟨ocII, odII, .func (PySem.W.fnOf "__init__" "Single.__init__" (defArgs sSingleInit) (defBody sSingleInit) (defScope sSingleInit) .none kVII dcII pmII anII cdII ctII), slII⟩)
    (cII : PySem.W.codeIn K cdII "Single.__init__" = true)
    (kII : PySem.W.keepIn K (.ref fII) = true)
    (iII : PySem.W.isFn K (.ref fII) = true)
    (lWI : K.lookup fWI = some ⟨ocWI, odWI, .func (PySem.W.fnOf "twin" "Single.twin" (defArgs sSingleTwin) (defBody sSingleTwin) (defScope sSingleTwin) .none kVWI dcWI pmWI anWI cdWI ctWI), slWI⟩)
    (cWI : PySem.W.codeIn K cdWI "Single.twin" = true)
    (kWI : PySem.W.keepIn K (.ref fWI) = true)
    (iWI : PySem.W.isFn K (.ref fWI) = true)
    (lMI : K.lookup fMI = some ⟨ocMI, odMI, .func (PySem.W.fnOf "__init__" "Many.__init__" (defArgs sManyInit) (defBody sManyInit) (defScope sManyInit) .none kVMI dcMI pmMI anMI cdMI ctMI), slMI⟩)
    (cMI : PySem.W.codeIn K cdMI "Many.__init__" = true)
    (kMI : PySem.W.keepIn K (.ref fMI) = true)
    (iMI : PySem.W.isFn K (.ref fMI) = true)
    (lWM : K.lookup fWM = some ⟨ocWM, odWM, .func (PySem.W.fnOf "twin" "Many.twin" (defArgs sManyTwin) (defBody sManyTwin) (defScope sManyTwin) .none kVWM dcWM pmWM anWM cdWM ctWM), slWM⟩)
    (cWM : PySem.W.codeIn K cdWM "Many.twin" = true)
    (kWM : PySem.W.keepIn K (.ref fWM) = true)
    (iWM : PySem.W.isFn K (.ref fWM) = true)
    (figDg : PySem.W.fnIn K fDg = true)
    (figDp : PySem.W.fnIn K fDp = true)
    (tyRP : PySem.W.typeIn K (.ref fRP) = some (.type "function"))
    (fiRP : PySem.W.fnIn K fRP = true)
    (lRI : K.lookup fRI = some ⟨ocRI, odRI, .func (PySem.W.fnX "row" "Single.row" (defArgs sSingleRow) (defBody sSingleRow) (defScope sSingleRow) [("__class__", ccRI)] .none kVRI dcRI pmRI anRI (.ref cdaRI) ctRI), slRI⟩)
    (cRI : PySem.W.codeIn K (.ref cdaRI) "Single.row" = true)
    (kRI : PySem.W.keepIn K (.ref fRI) = true)
    (iRI : PySem.W.isFn K (.ref fRI) = true)
    (lcRI : K.lookup cdaRI = some ⟨cclRI, cddRI, .fields vsRI, ccsRI⟩)
    (hvRI : vsRI[2]? = some (.str fileRI tfRI))
    (hfRI : (P.main.file == fileRI) = true)
    (ceRI : K.lookup ccRI = some ⟨cllRI, cldRI, .cell (some (.ref CI)), cslRI⟩)
    (cdRI : PySem.W.clsIn K CI = some cdDRI)
    (ovRI : PySem.W.ks_superIn K CI CI "row" = some (some (.ref fRP)))
    (mrRI : PySem.W.mroIn K CI (.ref CI) = some true)
    (lRM : K.lookup fRM = some ⟨ocRM, odRM, .func (PySem.W.fnX "row" "Many.row" (defArgs sManyRow) (defBody sManyRow) (defScope sManyRow) [("__class__", ccRM)] .none kVRM dcRM pmRM anRM (.ref cdaRM) ctRM), slRM⟩)
    (cRM : PySem.W.codeIn K (.ref cdaRM) "Many.row" = true)
    (kRM : PySem.W.keepIn K (.ref fRM) = true)
    (iRM : PySem.W.isFn K (.ref fRM) = true)
    (lcRM : K.lookup cdaRM = some ⟨cclRM, cddRM, .fields vsRM, ccsRM⟩)
    (hvRM : vsRM[2]? = some (.str fileRM tfRM))
    (hfRM : (P.main.file == fileRM) = true)
    (ceRM : K.lookup ccRM = some ⟨cllRM, cldRM, .cell (some (.ref CM)), cslRM⟩)
    (cdRM : PySem.W.clsIn K CM = some cdDRM)
    (ovRM : PySem.W.ks_superIn K CM CM "row" = some (some (.ref fRP)))
    (mrRM : PySem.W.mroIn K CM (.ref CM) = some true)
    (nsCP : PySem.W.findIn K (.ref CP) "_steps" = some none)
    (ndCP : PySem.W.findIn K (.ref CP) "_doors" = some none)
    (nnCP : PySem.W.findIn K (.ref CP) "name" = some none)
    (nqCP : PySem.W.noSeq K CP = true)
    (m_CP_Al : PySem.W.findIn K (.ref CP) "allow" = some (some (.ref fAl)))
    (m_CP_St : PySem.W.findIn K (.ref CP) "standings" = some (some (.ref fSt)))
    (m_CP_Fr : PySem.W.findIn K (.ref CP) "steps_from" = some (some (.ref fFr)))
    (m_CP_Dn : PySem.W.findIn K (.ref CP) "needs" = some (some (.ref fDn)))
    (m_CP_Dv : PySem.W.findIn K (.ref CP) "gives" = some (some (.ref fDv)))
    (g_CP : PySem.W.findIn K (.ref CP) "__getitem__" = some (some (.ref fDg)))
    (p_CP : PySem.W.findIn K (.ref CP) "__setitem__" = some (some (.ref fDp)))
    (t_CP : PySem.W.findIn K (.ref CP) "__iter__" = some (some (.ref fDt)))
    (inCP : PySem.W.findIn K (.ref CP) "__init__" = some (some (.ref fPI)))
    (m_CP_RP : PySem.W.findIn K (.ref CP) "row" = some (some (.ref fRP)))
    (nsCI : PySem.W.findIn K (.ref CI) "_steps" = some none)
    (ndCI : PySem.W.findIn K (.ref CI) "_doors" = some none)
    (nnCI : PySem.W.findIn K (.ref CI) "name" = some none)
    (nqCI : PySem.W.noSeq K CI = true)
    (m_CI_Al : PySem.W.findIn K (.ref CI) "allow" = some (some (.ref fAl)))
    (m_CI_St : PySem.W.findIn K (.ref CI) "standings" = some (some (.ref fSt)))
    (m_CI_Fr : PySem.W.findIn K (.ref CI) "steps_from" = some (some (.ref fFr)))
    (m_CI_Dn : PySem.W.findIn K (.ref CI) "needs" = some (some (.ref fDn)))
    (m_CI_Dv : PySem.W.findIn K (.ref CI) "gives" = some (some (.ref fDv)))
    (g_CI : PySem.W.findIn K (.ref CI) "__getitem__" = some (some (.ref fDg)))
    (p_CI : PySem.W.findIn K (.ref CI) "__setitem__" = some (some (.ref fDp)))
    (t_CI : PySem.W.findIn K (.ref CI) "__iter__" = some (some (.ref fDt)))
    (inCI : PySem.W.findIn K (.ref CI) "__init__" = some (some (.ref fII)))
    (m_CI_RI : PySem.W.findIn K (.ref CI) "row" = some (some (.ref fRI)))
    (nsCM : PySem.W.findIn K (.ref CM) "_steps" = some none)
    (ndCM : PySem.W.findIn K (.ref CM) "_doors" = some none)
    (nnCM : PySem.W.findIn K (.ref CM) "name" = some none)
    (nqCM : PySem.W.noSeq K CM = true)
    (m_CM_Al : PySem.W.findIn K (.ref CM) "allow" = some (some (.ref fAl)))
    (m_CM_St : PySem.W.findIn K (.ref CM) "standings" = some (some (.ref fSt)))
    (m_CM_Fr : PySem.W.findIn K (.ref CM) "steps_from" = some (some (.ref fFr)))
    (m_CM_Dn : PySem.W.findIn K (.ref CM) "needs" = some (some (.ref fDn)))
    (m_CM_Dv : PySem.W.findIn K (.ref CM) "gives" = some (some (.ref fDv)))
    (g_CM : PySem.W.findIn K (.ref CM) "__getitem__" = some (some (.ref fDg)))
    (p_CM : PySem.W.findIn K (.ref CM) "__setitem__" = some (some (.ref fDp)))
    (t_CM : PySem.W.findIn K (.ref CM) "__iter__" = some (some (.ref fDt)))
    (inCM : PySem.W.findIn K (.ref CM) "__init__" = some (some (.ref fMI)))
    (m_CM_RM : PySem.W.findIn K (.ref CM) "row" = some (some (.ref fRM)))
    (m_CI_Fo : PySem.W.findIn K (.ref CI) "_follow" = some (some (.ref fFo)))
    (m_CI_WI : PySem.W.findIn K (.ref CI) "twin" = some (some (.ref fWI)))
    (m_CM_Fo : PySem.W.findIn K (.ref CM) "_follow" = some (some (.ref fFo)))
    (m_CM_WM : PySem.W.findIn K (.ref CM) "twin" = some (some (.ref fWM)))
    (icCS : PySem.W.isClsIn K CS = true)
    (tyCS : PySem.W.typeIn K (.ref CS) = some (.type "type"))
    (icCD : PySem.W.isClsIn K CD = true)
    (tyCD : PySem.W.typeIn K (.ref CD) = some (.type "type"))
    (icCP : PySem.W.isClsIn K CP = true)
    (tyCP : PySem.W.typeIn K (.ref CP) = some (.type "type"))
    (icCI : PySem.W.isClsIn K CI = true)
    (tyCI : PySem.W.typeIn K (.ref CI) = some (.type "type"))
    (icCM : PySem.W.isClsIn K CM = true)
    (tyCM : PySem.W.typeIn K (.ref CM) = some (.type "type"))
    (cn : PySem.W.specialIn K (.builtin "object.__class__") "__get__" = some (some (.builtin "getset_descriptor.__get__")))
    (ct : PySem.W.takesIn K (.builtin "object.__class__") = some true)
    (caCI : PySem.W.findIn K (.ref CI) "__class__" = some (some (.builtin "object.__class__")))
    (cmCI : PySem.W.mroIn K CI (.type "object") = some true)
    (suCICS : PySem.W.subIn K (.ref CI) (.ref CS) = some true)
    (suCICD : PySem.W.subIn K (.ref CI) (.ref CD) = some true)
    (suCICP : PySem.W.subIn K (.ref CI) (.ref CP) = some true)
    (suCICI : PySem.W.subIn K (.ref CI) (.ref CI) = some true)
    (suCICM : PySem.W.subIn K (.ref CI) (.ref CM) = some false)
    (caCM : PySem.W.findIn K (.ref CM) "__class__" = some (some (.builtin "object.__class__")))
    (cmCM : PySem.W.mroIn K CM (.type "object") = some true)
    (suCMCS : PySem.W.subIn K (.ref CM) (.ref CS) = some true)
    (suCMCD : PySem.W.subIn K (.ref CM) (.ref CD) = some true)
    (suCMCP : PySem.W.subIn K (.ref CM) (.ref CP) = some true)
    (suCMCI : PySem.W.subIn K (.ref CM) (.ref CI) = some false)
    (suCMCM : PySem.W.subIn K (.ref CM) (.ref CM) = some true)
    (rdCS : PySem.W.readsIn K CS (.type "type") = true)
    (gtCS : PySem.W.specialIn K (.ref CS) "__getattribute__" = some (some (.builtin "type.__getattribute__")))
    (fcqS : PySem.W.findCls K (.ref CS) (.type "type") "__init__" = some (.val (.ref fSI)))
    (rdCD : PySem.W.readsIn K CD (.type "type") = true)
    (gtCD : PySem.W.specialIn K (.ref CD) "__getattribute__" = some (some (.builtin "type.__getattribute__")))
    (fcqD : PySem.W.findCls K (.ref CD) (.type "type") "__init__" = some (.val (.ref fDI)))
    (rdCP : PySem.W.readsIn K CP (.type "type") = true)
    (gtCP : PySem.W.specialIn K (.ref CP) "__getattribute__" = some (some (.builtin "type.__getattribute__")))
    (fcqP : PySem.W.findCls K (.ref CP) (.type "type") "__init__" = some (.val (.ref fPI)))
    (ldis : K.lookup fdis = some ⟨ocdis, oddis, .func (PySem.W.fnOf "distinct" "distinct" (defArgs sDistinct) (defBody sDistinct) (defScope sDistinct) .none kVdis dcdis pmdis andis cddis ctdis), sldis⟩)
    (cdis : PySem.W.codeIn K cddis "distinct" = true)
    (kdis : PySem.W.keepIn K (.ref fdis) = true)
    (adis : PySem.W.nsIn K mainGlobals "distinct" = some (some (.ref fdis)))
    (lpool : K.lookup fpool = some ⟨ocpool, odpool, .func (PySem.W.fnOf "_law_pool" "_law_pool" (defArgs sPool) (defBody sPool) (defScope sPool) .none kVpool dcpool pmpool anpool cdpool ctpool), slpool⟩)
    (cpool : PySem.W.codeIn K cdpool "_law_pool" = true)
    (kpool : PySem.W.keepIn K (.ref fpool) = true)
    (apool : PySem.W.nsIn K mainGlobals "_law_pool" = some (some (.ref fpool)))
    (ltake : K.lookup ftake = some ⟨octake, odtake, .func (PySem.W.fnOf "_law_take" "_law_take" (defArgs sTake) (defBody sTake) (defScope sTake) .none kVtake dctake pmtake antake cdtake cttake), sltake⟩)
    (ctake : PySem.W.codeIn K cdtake "_law_take" = true)
    (ktake : PySem.W.keepIn K (.ref ftake) = true)
    (atake : PySem.W.nsIn K mainGlobals "_law_take" = some (some (.ref ftake)))
    (lbase : K.lookup fbase = some ⟨ocbase, odbase, .func (PySem.W.fnOf "_law_base" "_law_base" (defArgs sBase) (defBody sBase) (defScope sBase) .none kVbase dcbase pmbase anbase cdbase ctbase), slbase⟩)
    (cbase : PySem.W.codeIn K cdbase "_law_base" = true)
    (kbase : PySem.W.keepIn K (.ref fbase) = true)
    (abase : PySem.W.nsIn K mainGlobals "_law_base" = some (some (.ref fbase)))
    (lname : K.lookup fname = some ⟨ocname, odname, .func (PySem.W.fnOf "_law_name" "_law_name" (defArgs sName) (defBody sName) (defScope sName) .none kVname dcname pmname anname cdname ctname), slname⟩)
    (cname : PySem.W.codeIn K cdname "_law_name" = true)
    (kname : PySem.W.keepIn K (.ref fname) = true)
    (aname : PySem.W.nsIn K mainGlobals "_law_name" = some (some (.ref fname)))
    (lsom : K.lookup fsom = some ⟨ocsom, odsom, .func (PySem.W.fnOf "_law_some" "_law_some" (defArgs sSome) (defBody sSome) (defScope sSome) .none kVsom dcsom pmsom ansom cdsom ctsom), slsom⟩)
    (csom : PySem.W.codeIn K cdsom "_law_some" = true)
    (ksom : PySem.W.keepIn K (.ref fsom) = true)
    (asom : PySem.W.nsIn K mainGlobals "_law_some" = some (some (.ref fsom)))
    (ltold : K.lookup ftold = some ⟨octold, odtold, .func (PySem.W.fnOf "_law_told" "_law_told" (defArgs sTold) (defBody sTold) (defScope sTold) .none kVtold dctold pmtold antold cdtold cttold), sltold⟩)
    (ctold : PySem.W.codeIn K cdtold "_law_told" = true)
    (ktold : PySem.W.keepIn K (.ref ftold) = true)
    (atold : PySem.W.nsIn K mainGlobals "_law_told" = some (some (.ref ftold)))
    (lfil : K.lookup ffil = some ⟨ocfil, odfil, .func (PySem.W.fnOf "_law_filled" "_law_filled" (defArgs sFilled) (defBody sFilled) (defScope sFilled) .none kVfil dcfil pmfil anfil cdfil ctfil), slfil⟩)
    (cfil : PySem.W.codeIn K cdfil "_law_filled" = true)
    (kfil : PySem.W.keepIn K (.ref ffil) = true)
    (afil : PySem.W.nsIn K mainGlobals "_law_filled" = some (some (.ref ffil)))
    (lapa : K.lookup fapa = some ⟨ocapa, odapa, .func (PySem.W.fnOf "_law_apart" "_law_apart" (defArgs sApart) (defBody sApart) (defScope sApart) .none kVapa dcapa pmapa anapa cdapa ctapa), slapa⟩)
    (capa : PySem.W.codeIn K cdapa "_law_apart" = true)
    (kapa : PySem.W.keepIn K (.ref fapa) = true)
    (aapa : PySem.W.nsIn K mainGlobals "_law_apart" = some (some (.ref fapa)))
    (llaw : K.lookup flaw = some ⟨oclaw, odlaw, .func (PySem.W.fnOf "law" "law" (defArgs sLaw) (defBody sLaw) (defScope sLaw) .none kVlaw dclaw pmlaw anlaw cdlaw ctlaw), sllaw⟩)
    (claw : PySem.W.codeIn K cdlaw "law" = true)
    (klaw : PySem.W.keepIn K (.ref flaw) = true)
    (alaw : PySem.W.nsIn K mainGlobals "law" = some (some (.ref flaw))) :
    ∃ fd : FuncData, (∀ (s : Shared) (v : Value), BindsTo s fd ⟨[v], []⟩ [("_law_script", v)]) ∧ ∀ base : Heap, K.In base → base.Ns mainGlobals mg → FnOk P w K mg base CX0 9 fa fd ["_law_script"] (spLaw K) := by
  have e := hfa.symm.trans (PySem.W.mg_of X G alaw)
  cases e
  have oR : OexC K ER := ⟨⟨_, _, _, _, _, _, _, _, _, _, _, _, _, _, _, xR, rvR⟩, saR, eR, tR, kCR⟩
  have FR : SupFn P K mg "__init__" "Repeated.__init__" sRepeatedInit fR ER ccR _ := ⟨⟨_, _, _, _, _, _, _, _, _, _, _, _, _, _, _, rfl, lR, cR, lcR, hvR, hfR⟩, ⟨_, _, _, ceR⟩, ⟨_, cdR⟩, (PySem.W.mg_none_of X G z7), top, any⟩
  have sR : SupC K ER ER := ⟨oR, ovR, svR, mrR⟩
  have bR : ∀ K : PySem.W.Frag, Binds K (PySem.W.fnX "__init__" "Repeated.__init__" (defArgs sRepeatedInit) (defBody sRepeatedInit) (defScope sRepeatedInit) [("__class__", ccR)] .none kVR dcR pmR anR (.ref cdaR) ctR) ["self", "name"] [] := fun _ s us _ hl => match us, hl with | [_, _], _ => .of_eq rfl
  have OR : ∀ base : Heap, ErrOk P w K mg base "Repeated" ER 1 okRepeated fsRepeated := fun base => ⟨(PySem.W.mg_of X G aR), oR, ⟨_, _, _, aiR, tiR, ok_RepeatedInit FR sR n0R, bR K⟩⟩
  have oU : OexC K EU := ⟨⟨_, _, _, _, _, _, _, _, _, _, _, _, _, _, _, xU, rvU⟩, saU, eU, tU, kCU⟩
  have FU : SupFn P K mg "__init__" "Unknown.__init__" sUnknownInit fU EU ccU _ := ⟨⟨_, _, _, _, _, _, _, _, _, _, _, _, _, _, _, rfl, lU, cU, lcU, hvU, hfU⟩, ⟨_, _, _, ceU⟩, ⟨_, cdU⟩, (PySem.W.mg_none_of X G z7), top, any⟩
  have sU : SupC K EU EU := ⟨oU, ovU, svU, mrU⟩
  have bU : ∀ K : PySem.W.Frag, Binds K (PySem.W.fnX "__init__" "Unknown.__init__" (defArgs sUnknownInit) (defBody sUnknownInit) (defScope sUnknownInit) [("__class__", ccU)] .none kVU dcU pmU anU (.ref cdaU) ctU) ["self", "name"] [] := fun _ s us _ hl => match us, hl with | [_, _], _ => .of_eq rfl
  have OU : ∀ base : Heap, ErrOk P w K mg base "Unknown" EU 1 okUnknown fsUnknown := fun base => ⟨(PySem.W.mg_of X G aU), oU, ⟨_, _, _, aiU, tiU, ok_UnknownInit FU sU n0U, bU K⟩⟩
  have oN : OexC K EN := ⟨⟨_, _, _, _, _, _, _, _, _, _, _, _, _, _, _, xN, rvN⟩, saN, eN, tN, kCN⟩
  have FN : SupFn P K mg "__init__" "NoStep.__init__" sNoStepInit fN EN ccN _ := ⟨⟨_, _, _, _, _, _, _, _, _, _, _, _, _, _, _, rfl, lN, cN, lcN, hvN, hfN⟩, ⟨_, _, _, ceN⟩, ⟨_, cdN⟩, (PySem.W.mg_none_of X G z7), top, any⟩
  have sN : SupC K EN EN := ⟨oN, ovN, svN, mrN⟩
  have bN : ∀ K : PySem.W.Frag, Binds K (PySem.W.fnX "__init__" "NoStep.__init__" (defArgs sNoStepInit) (defBody sNoStepInit) (defScope sNoStepInit) [("__class__", ccN)] .none kVN dcN pmN anN (.ref cdaN) ctN) ["self", "before", "after"] [] := fun _ s us _ hl => match us, hl with | [_, _, _], _ => .of_eq rfl
  have ON : ∀ base : Heap, ErrOk P w K mg base "NoStep" EN 2 okNoStep fsNoStep := fun base => ⟨(PySem.W.mg_of X G aN), oN, ⟨_, _, _, aiN, tiN, ok_NoStepInit FN sN n0N n1N, bN K⟩⟩
  have clCS : Cls K CS := ⟨pgCS, hdCS, poCS, saCS⟩
  have gCS : mg "Steps" = some (.ref CS) := (PySem.W.mg_of X G aCS)
  have clCD : Cls K CD := ⟨pgCD, hdCD, poCD, saCD⟩
  have gCD : mg "Doors" = some (.ref CD) := (PySem.W.mg_of X G aCD)
  have clCP : Cls K CP := ⟨pgCP, hdCP, poCP, saCP⟩
  have gCP : mg "Part" = some (.ref CP) := (PySem.W.mg_of X G aCP)
  have clCI : Cls K CI := ⟨pgCI, hdCI, poCI, saCI⟩
  have gCI : mg "Single" = some (.ref CI) := (PySem.W.mg_of X G aCI)
  have clCM : Cls K CM := ⟨pgCM, hdCM, poCM, saCM⟩
  have gCM : mg "Many" = some (.ref CM) := (PySem.W.mg_of X G aCM)
  have FSI := fun_mk (st := sStepsInit) lSI cSI kSI
  have bSI := FSI.binds (ps := ["self", "standings"]) fun _ _ _ _ _ _ us hl => match us, hl with | [_, _], _ => rfl
  have FSt := fun_mk (st := sStepsStandings) lSt cSt kSt
  have bSt := FSt.binds (ps := ["self"]) fun _ _ _ _ _ _ us hl => match us, hl with | [_], _ => rfl
  have FAl := fun_mk (st := sStepsAllow) lAl cAl kAl
  have bAl := FAl.binds (ps := ["self", "before", "after"]) fun _ _ _ _ _ _ us hl => match us, hl with | [_, _, _], _ => rfl
  have FFr := fun_mk (st := sStepsStepsFrom) lFr cFr kFr
  have bFr := FFr.binds (ps := ["self", "standing"]) fun _ _ _ _ _ _ us hl => match us, hl with | [_, _], _ => rfl
  have FDI := fun_mk (st := sDoorsInit) lDI cDI kDI
  have bDI := FDI.binds (ps := ["self", "standings"]) fun _ _ _ _ _ _ us hl => match us, hl with | [_, _], _ => rfl
  have FDt := fun_mk (st := sDoorsIter) lDt cDt kDt
  have bDt := FDt.binds (ps := ["self"]) fun _ _ _ _ _ _ us hl => match us, hl with | [_], _ => rfl
  have FDg := fun_mk (st := sDoorsGet) lDg cDg kDg
  have bDg := FDg.binds (ps := ["self", "at"]) fun _ _ _ _ _ _ us hl => match us, hl with | [_, _], _ => rfl
  have FDp := fun_mk (st := sDoorsPut) lDp cDp kDp
  have bDp := FDp.binds (ps := ["self", "at", "worth"]) fun _ _ _ _ _ _ us hl => match us, hl with | [_, _, _], _ => rfl
  have FDn := fun_mk (st := sDoorsNeeds) lDn cDn kDn
  have bDn := FDn.binds (ps := ["self", "standing"]) fun _ _ _ _ _ _ us hl => match us, hl with | [_, _], _ => rfl
  have FDv := fun_mk (st := sDoorsGives) lDv cDv kDv
  have bDv := FDv.binds (ps := ["self", "standing"]) fun _ _ _ _ _ _ us hl => match us, hl with | [_, _], _ => rfl
  have FPI := fun_mk (st := sPartInit) lPI cPI kPI
  have bPI := FPI.binds (ps := ["self", "name", "standings"]) fun _ _ _ _ _ _ us hl => match us, hl with | [_, _, _], _ => rfl
  have FRP := fun_mk (st := sPartRow) lRP cRP kRP
  have bRP := FRP.binds (ps := ["self"]) fun _ _ _ _ _ _ us hl => match us, hl with | [_], _ => rfl
  have FFo := fun_mk (st := sPartFollow) lFo cFo kFo
  have bFo := FFo.binds (ps := ["self", "other"]) fun _ _ _ _ _ _ us hl => match us, hl with | [_, _], _ => rfl
  have FII := fun_mk (st := sSingleInit) lII cII kII
  have bII := FII.binds (ps := ["self", "name", "standings"]) fun _ _ _ _ _ _ us hl => match us, hl with | [_, _, _], _ => rfl
  have FWI := fun_mk (st := sSingleTwin) lWI cWI kWI
  have bWI := FWI.binds (ps := ["self"]) fun _ _ _ _ _ _ us hl => match us, hl with | [_], _ => rfl
  have FMI := fun_mk (st := sManyInit) lMI cMI kMI
  have bMI := FMI.binds (ps := ["self", "name", "standings"]) fun _ _ _ _ _ _ us hl => match us, hl with | [_, _, _], _ => rfl
  have FWM := fun_mk (st := sManyTwin) lWM cWM kWM
  have bWM := FWM.binds (ps := ["self"]) fun _ _ _ _ _ _ us hl => match us, hl with | [_], _ => rfl
  have FRI : SupFn P K mg "row" "Single.row" sSingleRow fRI CI ccRI _ := ⟨⟨_, _, _, _, _, _, _, _, _, _, _, _, _, _, _, rfl, lRI, cRI, lcRI, hvRI, hfRI⟩, ⟨_, _, _, ceRI⟩, ⟨_, cdRI⟩, (PySem.W.mg_none_of X G z7), top, any⟩
  have SRI : SupM K CI CI "row" fRP := ⟨ovRI, tyRP, fiRP, mrRI⟩
  have bRI : Binds K (PySem.W.fnX "row" "Single.row" (defArgs sSingleRow) (defBody sSingleRow) (defScope sSingleRow) [("__class__", ccRI)] .none kVRI dcRI pmRI anRI (.ref cdaRI) ctRI) ["self"] [] := fun s us _ hl => match us, hl with | [_], _ => .of_eq rfl
  have FRM : SupFn P K mg "row" "Many.row" sManyRow fRM CM ccRM _ := ⟨⟨_, _, _, _, _, _, _, _, _, _, _, _, _, _, _, rfl, lRM, cRM, lcRM, hvRM, hfRM⟩, ⟨_, _, _, ceRM⟩, ⟨_, cdRM⟩, (PySem.W.mg_none_of X G z7), top, any⟩
  have SRM : SupM K CM CM "row" fRP := ⟨ovRM, tyRP, fiRP, mrRM⟩
  have bRM : Binds K (PySem.W.fnX "row" "Many.row" (defArgs sManyRow) (defBody sManyRow) (defScope sManyRow) [("__class__", ccRM)] .none kVRM dcRM pmRM anRM (.ref cdaRM) ctRM) ["self"] [] := fun s us _ hl => match us, hl with | [_], _ => .of_eq rfl
  have kkCP : KindC K CP fAl fSt fFr := ⟨clCP, nsCP, ⟨m_CP_Al, iAl, kAl⟩, ⟨m_CP_St, iSt, kSt⟩, ⟨m_CP_Fr, iFr, kFr⟩⟩
  have ddCP : DoorC K CP fDn fDv fDg fDp fDt := ⟨clCP, ndCP, ⟨m_CP_Dn, iDn, kDn⟩, ⟨m_CP_Dv, iDv, kDv⟩, ⟨g_CP, iDg, figDg, nqCP⟩, ⟨p_CP, iDp, figDp, nqCP⟩, t_CP, iDt⟩
  have ppCP : PartC K CP := ⟨clCP, nsCP, ndCP, nnCP⟩
  have mmCP : Mk K CP fPI := ⟨mkCP, inCP, iPI, kcCP⟩
  have mrCP : Meth K CP "row" fRP := ⟨m_CP_RP, iRP, kRP⟩
  have kkCI : KindC K CI fAl fSt fFr := ⟨clCI, nsCI, ⟨m_CI_Al, iAl, kAl⟩, ⟨m_CI_St, iSt, kSt⟩, ⟨m_CI_Fr, iFr, kFr⟩⟩
  have ddCI : DoorC K CI fDn fDv fDg fDp fDt := ⟨clCI, ndCI, ⟨m_CI_Dn, iDn, kDn⟩, ⟨m_CI_Dv, iDv, kDv⟩, ⟨g_CI, iDg, figDg, nqCI⟩, ⟨p_CI, iDp, figDp, nqCI⟩, t_CI, iDt⟩
  have ppCI : PartC K CI := ⟨clCI, nsCI, ndCI, nnCI⟩
  have mmCI : Mk K CI fII := ⟨mkCI, inCI, iII, kcCI⟩
  have mrCI : Meth K CI "row" fRI := ⟨m_CI_RI, iRI, kRI⟩
  have kkCM : KindC K CM fAl fSt fFr := ⟨clCM, nsCM, ⟨m_CM_Al, iAl, kAl⟩, ⟨m_CM_St, iSt, kSt⟩, ⟨m_CM_Fr, iFr, kFr⟩⟩
  have ddCM : DoorC K CM fDn fDv fDg fDp fDt := ⟨clCM, ndCM, ⟨m_CM_Dn, iDn, kDn⟩, ⟨m_CM_Dv, iDv, kDv⟩, ⟨g_CM, iDg, figDg, nqCM⟩, ⟨p_CM, iDp, figDp, nqCM⟩, t_CM, iDt⟩
  have ppCM : PartC K CM := ⟨clCM, nsCM, ndCM, nnCM⟩
  have mmCM : Mk K CM fMI := ⟨mkCM, inCM, iMI, kcCM⟩
  have mrCM : Meth K CM "row" fRM := ⟨m_CM_RM, iRM, kRM⟩
  have pkCI : PartK K CI fAl fSt fFr fDn fDv fDg fDp fDt fRI fFo := ⟨ppCI, kkCI, ddCI, mrCI, ⟨m_CI_Fo, iFo, kFo⟩⟩
  have mwCI : Meth K CI "twin" fWI := ⟨m_CI_WI, iWI, kWI⟩
  have pkCM : PartK K CM fAl fSt fFr fDn fDv fDg fDp fDt fRM fFo := ⟨ppCM, kkCM, ddCM, mrCM, ⟨m_CM_Fo, iFo, kFo⟩⟩
  have mwCM : Meth K CM "twin" fWM := ⟨m_CM_WM, iWM, kWM⟩
  have kiCICS : PySem.W.kitOne K (.ref CI) (.ref CS) = some true := kit_is icCS tyCS suCICS (fun _ => rfl)
  have kiCICD : PySem.W.kitOne K (.ref CI) (.ref CD) = some true := kit_is icCD tyCD suCICD (fun _ => rfl)
  have kiCICP : PySem.W.kitOne K (.ref CI) (.ref CP) = some true := kit_is icCP tyCP suCICP (fun _ => rfl)
  have kiCICI : PySem.W.kitOne K (.ref CI) (.ref CI) = some true := kit_is icCI tyCI suCICI (fun _ => rfl)
  have kiCICM : PySem.W.kitOne K (.ref CI) (.ref CM) = some false := kit_is icCM tyCM suCICM (fun q => by have z := suCICM; subst q; exact Option.some.inj (z.symm.trans suCMCM))
  have kiCMCS : PySem.W.kitOne K (.ref CM) (.ref CS) = some true := kit_is icCS tyCS suCMCS (fun _ => rfl)
  have kiCMCD : PySem.W.kitOne K (.ref CM) (.ref CD) = some true := kit_is icCD tyCD suCMCD (fun _ => rfl)
  have kiCMCP : PySem.W.kitOne K (.ref CM) (.ref CP) = some true := kit_is icCP tyCP suCMCP (fun _ => rfl)
  have kiCMCI : PySem.W.kitOne K (.ref CM) (.ref CI) = some false := kit_is icCI tyCI suCMCI (fun q => by have z := suCMCI; subst q; exact Option.some.inj (z.symm.trans suCICI))
  have kiCMCM : PySem.W.kitOne K (.ref CM) (.ref CM) = some true := kit_is icCM tyCM suCMCM (fun _ => rfl)
  have qS : ClsFn K mg "Steps" CS "__init__" fSI := ⟨gCS, _, ⟨rdCS, gtCS⟩, fcqS⟩
  have qD : ClsFn K mg "Doors" CD "__init__" fDI := ⟨gCD, _, ⟨rdCD, gtCD⟩, fcqD⟩
  have qP : ClsFn K mg "Part" CP "__init__" fPI := ⟨gCP, _, ⟨rdCP, gtCP⟩, fcqP⟩
  have Fdis := fun_mk (st := sDistinct) ldis cdis kdis
  have bdis := Fdis.binds (ps := ["names"]) fun _ _ _ _ _ _ us hl => match us, hl with | [_], _ => rfl
  have Qdis : Fn K mg "distinct" sDistinct ["names"] fdis _ := ⟨Fdis, (PySem.W.mg_of X G adis), bdis⟩
  have Fpool := fun_mk (st := sPool) lpool cpool kpool
  have bpool := Fpool.binds (ps := ["_law_script"]) fun _ _ _ _ _ _ us hl => match us, hl with | [_], _ => rfl
  have Qpool : Fn K mg "_law_pool" sPool ["_law_script"] fpool _ := ⟨Fpool, (PySem.W.mg_of X G apool), bpool⟩
  have Ftake := fun_mk (st := sTake) ltake ctake ktake
  have btake := Ftake.binds (ps := ["_law_pool_here", "_law_size"]) fun _ _ _ _ _ _ us hl => match us, hl with | [_, _], _ => rfl
  have Qtake : Fn K mg "_law_take" sTake ["_law_pool_here", "_law_size"] ftake _ := ⟨Ftake, (PySem.W.mg_of X G atake), btake⟩
  have Fbase := fun_mk (st := sBase) lbase cbase kbase
  have bbase := Fbase.binds (ps := ["_law_pool_here"]) fun _ _ _ _ _ _ us hl => match us, hl with | [_], _ => rfl
  have Qbase : Fn K mg "_law_base" sBase ["_law_pool_here"] fbase _ := ⟨Fbase, (PySem.W.mg_of X G abase), bbase⟩
  have Fname := fun_mk (st := sName) lname cname kname
  have bname := Fname.binds (ps := ["_law_pool_here", "_law_base_here", "_law_k"]) fun _ _ _ _ _ _ us hl => match us, hl with | [_, _, _], _ => rfl
  have Qname : Fn K mg "_law_name" sName ["_law_pool_here", "_law_base_here", "_law_k"] fname _ := ⟨Fname, (PySem.W.mg_of X G aname), bname⟩
  have Fsom := fun_mk (st := sSome) lsom csom ksom
  have bsom := Fsom.binds (ps := ["_law_pool_here", "_law_rows", "_law_most"]) fun _ _ _ _ _ _ us hl => match us, hl with | [_, _, _], _ => rfl
  have Qsom : Fn K mg "_law_some" sSome ["_law_pool_here", "_law_rows", "_law_most"] fsom _ := ⟨Fsom, (PySem.W.mg_of X G asom), bsom⟩
  have Ftold := fun_mk (st := sTold) ltold ctold ktold
  have btold := Ftold.binds (ps := ["_law_part", "_law_single"]) fun _ _ _ _ _ _ us hl => match us, hl with | [_, _], _ => rfl
  have Qtold : Fn K mg "_law_told" sTold ["_law_part", "_law_single"] ftold _ := ⟨Ftold, (PySem.W.mg_of X G atold), btold⟩
  have Ffil := fun_mk (st := sFilled) lfil cfil kfil
  have bfil := Ffil.binds (ps := ["_law_pool_here", "_law_kind", "_law_standings", "_law_doors"]) fun _ _ _ _ _ _ us hl => match us, hl with | [_, _, _, _], _ => rfl
  have Qfil : Fn K mg "_law_filled" sFilled ["_law_pool_here", "_law_kind", "_law_standings", "_law_doors"] ffil _ := ⟨Ffil, (PySem.W.mg_of X G afil), bfil⟩
  have Fapa := fun_mk (st := sApart) lapa capa kapa
  have bapa := Fapa.binds (ps := ["_law_changed", "_law_other", "_law_single", "_law_due", "_law_strange"]) fun _ _ _ _ _ _ us hl => match us, hl with | [_, _, _, _, _], _ => rfl
  have Qapa : Fn K mg "_law_apart" sApart ["_law_changed", "_law_other", "_law_single", "_law_due", "_law_strange"] fapa _ := ⟨Fapa, (PySem.W.mg_of X G aapa), bapa⟩
  have Flaw := fun_mk (st := sLaw) llaw claw klaw
  have blaw := Flaw.binds (ps := ["_law_script"]) fun _ _ _ _ _ _ us hl => match us, hl with | [_], _ => rfl
  exact ⟨PySem.W.fnOf "law" "law" (defArgs sLaw) (defBody sLaw) (defScope sLaw) .none kVlaw dclaw pmlaw anlaw cdlaw ctlaw, fun s v => .of_eq rfl, fun base _ _ => by
    have GP := ok_partInit (P := P) (w := w) (base := base) FPI (OR base) FSI bSI qS FDI bDI qD
    have GI := ok_singleInit (P := P) (w := w) (base := base) FII GP kPI bPI qP
    have GMa := ok_manyInit (P := P) (w := w) (base := base) FMI GP kPI bPI qP
    have GX := ok_distinct (P := P) (w := w) (base := base) Fdis (PySem.W.mg_none_of X G z3)
    have Gget := ok_dGet (P := P) (w := w) (base := base) FDg (OU base)
    have Gput := ok_dPut (P := P) (w := w) (base := base) FDp (OU base) GX Qdis.g kdis bdis
    have Git := ok_dIter (P := P) (w := w) (base := base) FDt (PySem.W.mg_none_of X G z6)
    have Gst := ok_standings (P := P) (w := w) (base := base) FSt (PySem.W.mg_none_of X G z3)
    have Gfr := ok_stepsFrom (P := P) (w := w) (base := base) FFr (OU base) (PySem.W.mg_none_of X G z3)
    have Gal := ok_allow (P := P) (w := w) (base := base) FAl (OU base) (ON base)
    have Grow := ok_row (P := P) (w := w) (base := base) (fA := fAl) (fS := fSt) (fF := fFr) FRP Gst bSt
    have GrI := ok_singleRow (P := P) (w := w) (base := base) (fA := fAl) (fS := fSt) (fF := fFr) FRI SRI Grow bRP
    have GrM := ok_manyRow (P := P) (w := w) (base := base) (fA := fAl) (fS := fSt) (fF := fFr) FRM SRM Grow bRP
    have GfI := ok_follow (P := P) (w := w) (base := base) (fA := fAl) (fS := fSt) (fF := fFr) (fN := fDn) (fG := fDv) (fI := fDg) (fP := fDp) (fT := fDt) (fR := fRI) (fL := fFo) FFo Gst bSt Gfr bFr Gal bAl Gget bDg Gput bDp
    have GfM := ok_follow (P := P) (w := w) (base := base) (fA := fAl) (fS := fSt) (fF := fFr) (fN := fDn) (fG := fDv) (fI := fDg) (fP := fDp) (fT := fDt) (fR := fRM) (fL := fFo) FFo Gst bSt Gfr bFr Gal bAl Gget bDg Gput bDp
    have GwI := ok_singleTwin (P := P) (w := w) (base := base) (fA := fAl) (fS := fSt) (fF := fFr) (fN := fDn) (fG := fDv) (fI := fDg) (fP := fDp) (fT := fDt) (fR := fRI) (fL := fFo) FWI gCI mmCI GI bII Gst bSt GfI bFo
    have GwM := ok_manyTwin (P := P) (w := w) (base := base) (fA := fAl) (fS := fSt) (fF := fFr) (fN := fDn) (fG := fDv) (fI := fDg) (fP := fDp) (fT := fDt) (fR := fRM) (fL := fFo) FWM gCM mmCM GMa bMI Gst bSt GfM bFo
    have kdI : Kd P w K mg base fAl fSt fFr fDn fDv fDg fDp fDt fFo CS CD CP CI CM CI fRI true " (one)" := ⟨pkCI, ⟨_, GrI, bRI⟩, ⟨_, _, mwCI, GwI, bWI⟩, caCI, cn, ct, cmCI, kiCICI, kiCICM, kiCICP, kiCICS, kiCICD⟩
    have kdM : Kd P w K mg base fAl fSt fFr fDn fDv fDg fDp fDt fFo CS CD CP CI CM CM fRM false " (any number)" := ⟨pkCM, ⟨_, GrM, bRM⟩, ⟨_, _, mwCM, GwM, bWM⟩, caCM, cn, ct, cmCM, kiCMCI, kiCMCM, kiCMCP, kiCMCS, kiCMCD⟩
    have Gto := ok_told (P := P) (w := w) (base := base) (fA := fAl) (fS := fSt) (fF := fFr) (fN := fDn) (fG := fDv) (fI := fDg) (fP := fDp) (fT := fDt) (fL := fFo) (CS := CS) (CD := CD) (CP := CP) (CI := CI) (CM := CM) Ftold (PySem.W.mg_none_of X G z5) gCS gCD gCP gCI gCM Gst bSt Gfr bFr Gget bDg Git bDt
    have Gso := ok_some (P := P) (w := w) (base := base) Fsom ⟨(PySem.W.mg_none_of X G z0), (PySem.W.mg_none_of X G z1), (PySem.W.mg_none_of X G z2)⟩ Qtake
    have Gfi := ok_filled (P := P) (w := w) (base := base) (fA := fAl) (fS := fSt) (fF := fFr) (fN := fDn) (fG := fDv) (fI := fDg) (fP := fDp) (fT := fDt) (fL := fFo) Ffil (PySem.W.mg_none_of X G z3) Gso Qsom Gal bAl Gput bDp
    have Gap := ok_apart (P := P) (w := w) (base := base) (fA := fAl) (fS := fSt) (fF := fFr) (fN := fDn) (fG := fDv) (fI := fDg) (fP := fDp) (fT := fDt) (fL := fFo) (CS := CS) (CD := CD) (CP := CP) (CI := CI) (CM := CM) Fapa ⟨(PySem.W.mg_none_of X G z0), (PySem.W.mg_none_of X G z1), (PySem.W.mg_none_of X G z2)⟩ (PySem.W.mg_none_of X G z3) (PySem.W.mg_none_of X G z4) Gto Qtold Gal bAl Gput bDp
    exact ok_law Flaw ⟨(PySem.W.mg_none_of X G z0), (PySem.W.mg_none_of X G z1), (PySem.W.mg_none_of X G z2)⟩ (PySem.W.mg_none_of X G z3) Qpool Qtake Qbase Qname Qtold Qfil Qapa Gto Gfi Gap gCP mmCP GP bPI kkCP ppCP mrCP Grow bRP gCI mmCI GI bII kdI gCM mmCM GMa bMI kdM⟩
theorem walk {l : PySem.W.OpenLaw} {q : Program} {loose : List Str} {XP : (Str → Option Value) → Heap → Prop} {YP : World → Heap → Prop} {d : DefRec} {K : Params → PySem.W.Frag} (hn : l.most = some 63) (hdf : d.params.defaults = [])
    (hY : ∀ (w : World) (h : Heap), YP w h → (K w.params).In h)
    (F : ∀ (w : World) (mg : Str → Option Value) (fa : Addr) (h : Heap), (K w.params).In h → h.Ns mainGlobals mg → mg d.name = some (.ref fa) →
      ∃ fd : FuncData, (∀ (s : Shared) (u : Value), BindsTo s fd ⟨[u], []⟩ [("_law_script", u)]) ∧ ∀ base : Heap, (K w.params).In base → base.Ns mainGlobals mg → FnOk l.prog w (K w.params) mg base CX0 9 fa fd ["_law_script"] (spLaw (K w.params))) :
    PySem.W.WalkO q loose XP YP l.row.toRowW d [] (fun f vs => PySem.call f vs) :=
  L2.walk_of (n := 63) (k := 9) (x := "_law_script") (CX := fun _ => CX0) (sp := fun w => spLaw (K w.params)) hn (by decide) hdf ⟨rfl, by decide, by decide⟩ hY F (fun _ _ a ns hl _ hS => ⟨a, ns, rfl, hS, hl, fun _ => rfl⟩) fun _ _ _ _ _ z => z
end Yd
--END
open PySem PySem.W PyProof.Rows
set_option maxRecDepth 100000 in
set_option maxHeartbeats 0 in
theorem PySem.Challenge.cw_soundyard_k08_rows_and_twins_holds : PySem.Challenge.rw_soundyard_k08_rows_and_twins.Holds := by
  w_on; o_law; k_head; (case hw => w_witness2)
  k_fill
  refine Yd.walk (l := PySem.Challenge.rw_soundyard_k08_rows_and_twins) rfl rfl (fun w h Y => PySem.W.kIn_of Y) ?F
  case F =>
    intro w mg fa h KX G hmg
    refine' Yd.all_mk KX G hmg ?z0 ?z1 ?z2 ?z3 ?z4 ?z5 ?z6 ?aR ?xR ?rvR ?saR ?gaR ?ggR ?n0R ?eR ?tR ?kCR ?hCR ?iCR ?sCR ?aiR ?tiR ?lR ?cR ?lcR ?hvR ?hfR ?ceR ?cdR ?ovR ?svR ?mrR ?z7 ?top ?any ?aU ?xU ?rvU ?saU ?gaU ?ggU ?n0U ?eU ?tU ?kCU ?hCU ?iCU ?sCU ?aiU ?tiU ?lU ?cU ?lcU ?hvU ?hfU ?ceU ?cdU ?ovU ?svU ?mrU ?aN ?xN ?rvN ?saN ?gaN ?ggN ?n0N ?n1N ?eN ?tN ?kCN ?hCN ?iCN ?sCN ?aiN ?tiN ?lN ?cN ?lcN ?hvN ?hfN ?ceN ?cdN ?ovN ?svN ?mrN ?aCS ?pgCS ?hdCS ?poCS ?saCS ?mkCS ?kcCS ?aCD ?pgCD ?hdCD ?poCD ?saCD ?mkCD ?kcCD ?aCP ?pgCP ?hdCP ?poCP ?saCP ?mkCP ?kcCP ?aCI ?pgCI ?hdCI ?poCI ?saCI ?mkCI ?kcCI ?aCM ?pgCM ?hdCM ?poCM ?saCM ?mkCM ?kcCM ?lSI ?cSI ?kSI ?iSI ?lSt ?cSt ?kSt ?iSt ?lAl ?cAl ?kAl ?iAl ?lFr ?cFr ?kFr ?iFr ?lDI ?cDI ?kDI ?iDI ?lDt ?cDt ?kDt ?iDt ?lDg ?cDg ?kDg ?iDg ?lDp ?cDp ?kDp ?iDp ?lDn ?cDn ?kDn ?iDn ?lDv ?cDv ?kDv ?iDv ?lPI ?cPI ?kPI ?iPI ?lRP ?cRP ?kRP ?iRP ?lFo ?cFo ?kFo ?iFo ?lII ?cII ?kII ?iII ?lWI ?cWI ?kWI ?iWI ?lMI ?cMI ?kMI ?iMI ?lWM ?cWM ?kWM ?iWM ?figDg ?figDp ?tyRP ?fiRP ?lRI ?cRI ?kRI ?iRI ?lcRI ?hvRI ?hfRI ?ceRI ?cdRI ?ovRI ?mrRI ?lRM ?cRM ?kRM ?iRM ?lcRM ?hvRM ?hfRM ?ceRM ?cdRM ?ovRM ?mrRM ?nsCP ?ndCP ?nnCP ?nqCP ?m_CP_Al ?m_CP_St ?m_CP_Fr ?m_CP_Dn ?m_CP_Dv ?g_CP ?p_CP ?t_CP ?inCP ?m_CP_RP ?nsCI ?ndCI ?nnCI ?nqCI ?m_CI_Al ?m_CI_St ?m_CI_Fr ?m_CI_Dn ?m_CI_Dv ?g_CI ?p_CI ?t_CI ?inCI ?m_CI_RI ?nsCM ?ndCM ?nnCM ?nqCM ?m_CM_Al ?m_CM_St ?m_CM_Fr ?m_CM_Dn ?m_CM_Dv ?g_CM ?p_CM ?t_CM ?inCM ?m_CM_RM ?m_CI_Fo ?m_CI_WI ?m_CM_Fo ?m_CM_WM ?icCS ?tyCS ?icCD ?tyCD ?icCP ?tyCP ?icCI ?tyCI ?icCM ?tyCM ?cn ?ct ?caCI ?cmCI ?suCICS ?suCICD ?suCICP ?suCICI ?suCICM ?caCM ?cmCM ?suCMCS ?suCMCD ?suCMCP ?suCMCI ?suCMCM ?rdCS ?gtCS ?fcqS ?rdCD ?gtCD ?fcqD ?rdCP ?gtCP ?fcqP ?ldis ?cdis ?kdis ?adis ?lpool ?cpool ?kpool ?apool ?ltake ?ctake ?ktake ?atake ?lbase ?cbase ?kbase ?abase ?lname ?cname ?kname ?aname ?lsom ?csom ?ksom ?asom ?ltold ?ctold ?ktold ?atold ?lfil ?cfil ?kfil ?afil ?lapa ?capa ?kapa ?aapa ?llaw ?claw ?klaw ?alaw
    (case z0 => k_is)
    (case z1 => k_is)
    (case z2 => k_is)
    (case z3 => k_is)
    (case z4 => k_is)
    (case z5 => k_is)
    (case z6 => k_is)
    (case aR => k_is)
    (case z7 => k_is)
    (case aU => k_is)
    (case aN => k_is)
    (case aCS => k_is)
    (case aCD => k_is)
    (case aCP => k_is)
    (case aCI => k_is)
    (case aCM => k_is)
    (case adis => k_is)
    (case apool => k_is)
    (case atake => k_is)
    (case abase => k_is)
    (case aname => k_is)
    (case asom => k_is)
    (case atold => k_is)
    (case afil => k_is)
    (case aapa => k_is)
    (case alaw => k_is)
    (case saR => k_is)
    (case gaR => k_is)
    (case ggR => k_is)
    (case n0R => k_is)
    (case aiR => k_is)
    (case saU => k_is)
    (case gaU => k_is)
    (case ggU => k_is)
    (case n0U => k_is)
    (case aiU => k_is)
    (case saN => k_is)
    (case gaN => k_is)
    (case ggN => k_is)
    (case n0N => k_is)
    (case n1N => k_is)
    (case aiN => k_is)
    (case saCS => k_is)
    (case saCD => k_is)
    (case saCP => k_is)
    (case saCI => k_is)
    (case saCM => k_is)
    (case nsCP => k_is)
    (case ndCP => k_is)
    (case nnCP => k_is)
    (case m_CP_Al => k_is)
    (case m_CP_St => k_is)
    (case m_CP_Fr => k_is)
    (case m_CP_Dn => k_is)
    (case m_CP_Dv => k_is)
    (case g_CP => k_is)
    (case p_CP => k_is)
    (case t_CP => k_is)
    (case inCP => k_is)
    (case m_CP_RP => k_is)
    (case nsCI => k_is)
    (case ndCI => k_is)
    (case nnCI => k_is)
    (case m_CI_Al => k_is)
    (case m_CI_St => k_is)
    (case m_CI_Fr => k_is)
    (case m_CI_Dn => k_is)
    (case m_CI_Dv => k_is)
    (case g_CI => k_is)
    (case p_CI => k_is)
    (case t_CI => k_is)
    (case inCI => k_is)
    (case m_CI_RI => k_is)
    (case nsCM => k_is)
    (case ndCM => k_is)
    (case nnCM => k_is)
    (case m_CM_Al => k_is)
    (case m_CM_St => k_is)
    (case m_CM_Fr => k_is)
    (case m_CM_Dn => k_is)
    (case m_CM_Dv => k_is)
    (case g_CM => k_is)
    (case p_CM => k_is)
    (case t_CM => k_is)
    (case inCM => k_is)
    (case m_CM_RM => k_is)
    (case m_CI_Fo => k_is)
    (case m_CI_WI => k_is)
    (case m_CM_Fo => k_is)
    (case m_CM_WM => k_is)
    (case caCI => k_is)
    (case caCM => k_is)
    (case fcqS => k_is)
    (case fcqD => k_is)
    (case fcqP => k_is)
    (case xR => k_is)
    (case rvR => decide +kernel)
    (case eR => k_is)
    (case tR => k_is)
    (case kCR => k_is)
    (case hCR => k_is)
    (case iCR => k_is)
    (case sCR => first | rfl | k_is)
    (case tiR => k_is)
    (case lR => k_is)
    (case cR => k_is)
    (case lcR => k_is)
    (case hvR => exact rfl)
    (case hfR => first | exact rfl | decide +kernel)
    (case ceR => k_is)
    (case cdR => k_is)
    (case ovR => first | ks_is | k_is)
    (case svR => k_is)
    (case mrR => k_is)
    (case top => first | exact rfl | decide +kernel)
    (case any => k_is)
    (case xU => k_is)
    (case rvU => decide +kernel)
    (case eU => k_is)
    (case tU => k_is)
    (case kCU => k_is)
    (case hCU => k_is)
    (case iCU => k_is)
    (case sCU => first | rfl | k_is)
    (case tiU => k_is)
    (case lU => k_is)
    (case cU => k_is)
    (case lcU => k_is)
    (case hvU => exact rfl)
    (case hfU => first | exact rfl | decide +kernel)
    (case ceU => k_is)
    (case cdU => k_is)
    (case ovU => first | ks_is | k_is)
    (case svU => k_is)
    (case mrU => k_is)
    (case xN => k_is)
    (case rvN => decide +kernel)
    (case eN => k_is)
    (case tN => k_is)
    (case kCN => k_is)
    (case hCN => k_is)
    (case iCN => k_is)
    (case sCN => first | rfl | k_is)
    (case tiN => k_is)
    (case lN => k_is)
    (case cN => k_is)
    (case lcN => k_is)
    (case hvN => exact rfl)
    (case hfN => first | exact rfl | decide +kernel)
    (case ceN => k_is)
    (case cdN => k_is)
    (case ovN => first | ks_is | k_is)
    (case svN => k_is)
    (case mrN => k_is)
    (case pgCS => k_is)
    (case hdCS => k_is)
    (case poCS => k_is)
    (case mkCS => k_is)
    (case kcCS => k_is)
    (case pgCD => k_is)
    (case hdCD => k_is)
    (case poCD => k_is)
    (case mkCD => k_is)
    (case kcCD => k_is)
    (case pgCP => k_is)
    (case hdCP => k_is)
    (case poCP => k_is)
    (case mkCP => k_is)
    (case kcCP => k_is)
    (case pgCI => k_is)
    (case hdCI => k_is)
    (case poCI => k_is)
    (case mkCI => k_is)
    (case kcCI => k_is)
    (case pgCM => k_is)
    (case hdCM => k_is)
    (case poCM => k_is)
    (case mkCM => k_is)
    (case kcCM => k_is)
    (case lSI => k_is)
    (case cSI => k_is)
    (case kSI => k_is)
    (case iSI => k_is)
    (case lSt => k_is)
    (case cSt => k_is)
    (case kSt => k_is)
    (case iSt => k_is)
    (case lAl => k_is)
    (case cAl => k_is)
    (case kAl => k_is)
    (case iAl => k_is)
    (case lFr => k_is)
    (case cFr => k_is)
    (case kFr => k_is)
    (case iFr => k_is)
    (case lDI => k_is)
    (case cDI => k_is)
    (case kDI => k_is)
    (case iDI => k_is)
    (case lDt => k_is)
    (case cDt => k_is)
    (case kDt => k_is)
    (case iDt => k_is)
    (case lDg => k_is)
    (case cDg => k_is)
    (case kDg => k_is)
    (case iDg => k_is)
    (case lDp => k_is)
    (case cDp => k_is)
    (case kDp => k_is)
    (case iDp => k_is)
    (case lDn => k_is)
    (case cDn => k_is)
    (case kDn => k_is)
    (case iDn => k_is)
    (case lDv => k_is)
    (case cDv => k_is)
    (case kDv => k_is)
    (case iDv => k_is)
    (case lPI => k_is)
    (case cPI => k_is)
    (case kPI => k_is)
    (case iPI => k_is)
    (case lRP => k_is)
    (case cRP => k_is)
    (case kRP => k_is)
    (case iRP => k_is)
    (case lFo => k_is)
    (case cFo => k_is)
    (case kFo => k_is)
    (case iFo => k_is)
    (case lII => k_is)
    (case cII => k_is)
    (case kII => k_is)
    (case iII => k_is)
    (case lWI => k_is)
    (case cWI => k_is)
    (case kWI => k_is)
    (case iWI => k_is)
    (case lMI => k_is)
    (case cMI => k_is)
    (case kMI => k_is)
    (case iMI => k_is)
    (case lWM => k_is)
    (case cWM => k_is)
    (case kWM => k_is)
    (case iWM => k_is)
    (case figDg => first | k_is | rfl)
    (case figDp => first | k_is | rfl)
    (case tyRP => k_is)
    (case fiRP => first | k_is | rfl)
    (case lRI => k_is)
    (case cRI => k_is)
    (case kRI => k_is)
    (case iRI => k_is)
    (case lcRI => k_is)
    (case hvRI => exact rfl)
    (case hfRI => first | exact rfl | decide +kernel)
    (case ceRI => k_is)
    (case cdRI => k_is)
    (case ovRI => first | ks_is | k_is)
    (case mrRI => k_is)
    (case lRM => k_is)
    (case cRM => k_is)
    (case kRM => k_is)
    (case iRM => k_is)
    (case lcRM => k_is)
    (case hvRM => exact rfl)
    (case hfRM => first | exact rfl | decide +kernel)
    (case ceRM => k_is)
    (case cdRM => k_is)
    (case ovRM => first | ks_is | k_is)
    (case mrRM => k_is)
    (case nqCP => first | k_is | rfl)
    (case nqCI => first | k_is | rfl)
    (case nqCM => first | k_is | rfl)
    (case icCS => k_is)
    (case tyCS => k_is)
    (case icCD => k_is)
    (case tyCD => k_is)
    (case icCP => k_is)
    (case tyCP => k_is)
    (case icCI => k_is)
    (case tyCI => k_is)
    (case icCM => k_is)
    (case tyCM => k_is)
    (case cn => first | k_is | rfl)
    (case ct => first | k_is | rfl)
    (case cmCI => k_is)
    (case suCICS => first | rfl | k_is)
    (case suCICD => first | rfl | k_is)
    (case suCICP => first | rfl | k_is)
    (case suCICI => first | rfl | k_is)
    (case suCICM => first | rfl | k_is)
    (case cmCM => k_is)
    (case suCMCS => first | rfl | k_is)
    (case suCMCD => first | rfl | k_is)
    (case suCMCP => first | rfl | k_is)
    (case suCMCI => first | rfl | k_is)
    (case suCMCM => first | rfl | k_is)
    (case rdCS => k_is)
    (case gtCS => k_is)
    (case rdCD => k_is)
    (case gtCD => k_is)
    (case rdCP => k_is)
    (case gtCP => k_is)
    (case ldis => k_is)
    (case cdis => k_is)
    (case kdis => k_is)
    (case lpool => k_is)
    (case cpool => k_is)
    (case kpool => k_is)
    (case ltake => k_is)
    (case ctake => k_is)
    (case ktake => k_is)
    (case lbase => k_is)
    (case cbase => k_is)
    (case kbase => k_is)
    (case lname => k_is)
    (case cname => k_is)
    (case kname => k_is)
    (case lsom => k_is)
    (case csom => k_is)
    (case ksom => k_is)
    (case ltold => k_is)
    (case ctold => k_is)
    (case ktold => k_is)
    (case lfil => k_is)
    (case cfil => k_is)
    (case kfil => k_is)
    (case lapa => k_is)
    (case capa => k_is)
    (case kapa => k_is)
    (case llaw => k_is)
    (case claw => k_is)
    (case klaw => k_is)
