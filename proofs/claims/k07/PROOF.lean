import PyProof.Rows.All
import Wide.All
import OpenK.AllK
import Wide.FinOn
import HandS.ForMost
import HandS.Wide
import KE.KExcSuper
import HandS.ForSpec
import HandS.ExcInit
import HandS.ExcField
import HandS.TryMany
import HandS.FStr
import HandS.DictComp
import HandS.Conv
import HandS.ClsMeth
import HandS.Nested
import KE.Datum
import HandS.IsInst
import HandS.Codes
import HandS.IterVal
import KE.KOwnIter
import KE.KOpsOwn
import OpenK.KMeth
import OpenK.KOps
import PySem.Challenge.RW_soundyard_k07_doors_of_a_kind
set_option Elab.async false
set_option linter.all false
set_option maxRecDepth 100000
set_option maxHeartbeats 4000000
namespace Yd
open PySem L2
/-! ### the text by places -/
def topS (i : Nat) : Stmt := PySem.Challenge.pw_soundyard_k07_doors_of_a_kind.main.body.getD i (.Pass ⟨0, 0, 0, 0⟩)
abbrev sWall : Stmt := topS 0
abbrev sRepeatedInit : Stmt := inClass (topS 3) 0
abbrev sUnknownInit : Stmt := inClass (topS 4) 0
abbrev sDistinct : Stmt := topS 6
abbrev sStepsInit : Stmt := inClass (topS 7) 0
abbrev sStepsStandings : Stmt := inClass (topS 7) 1
abbrev sStepsAllow : Stmt := inClass (topS 7) 2
abbrev sStepsStepsFrom : Stmt := inClass (topS 7) 3
abbrev sDoorsInit : Stmt := inClass (topS 8) 0
abbrev sDoorsIter : Stmt := inClass (topS 8) 1
abbrev sDoorsGet : Stmt := inClass (topS 8) 2
abbrev sDoorsPut : Stmt := inClass (topS 8) 3
abbrev sDoorsNeeds : Stmt := inClass (topS 8) 4
abbrev sDoorsGives : Stmt := inClass (topS 8) 5
abbrev sPartInit : Stmt := inClass (topS 9) 0
abbrev sPartRow : Stmt := inClass (topS 9) 1
abbrev sPartFollow : Stmt := inClass (topS 9) 2
abbrev sSingleInit : Stmt := inClass (topS 10) 0
abbrev sSingleRow : Stmt := inClass (topS 10) 1
abbrev sSingleTwin : Stmt := inClass (topS 10) 2
abbrev sManyInit : Stmt := inClass (topS 11) 0
abbrev sManyRow : Stmt := inClass (topS 11) 1
abbrev sManyTwin : Stmt := inClass (topS 11) 2
abbrev sPool : Stmt := topS 13
abbrev sTake : Stmt := topS 14
abbrev sBase : Stmt := topS 15
abbrev sName : Stmt := topS 16
abbrev sIsTuple : Stmt := topS 17
abbrev sMade : Stmt := topS 18
abbrev sSet : Stmt := topS 19
abbrev sGot : Stmt := topS 20
abbrev sOnce : Stmt := topS 21
abbrev sAgrees : Stmt := topS 22
abbrev sLaw : Stmt := topS 23
end Yd
namespace Yd
open PySem L2
/-! ### tests whose answer is known -/
theorem yes {b : Bool} {A B : Prop} (e : b = true) (h : A) : if b = true then A else B := by subst e; exact (if_pos rfl).mpr h
theorem no {b : Bool} {A B : Prop} (e : b = false) (h : B) : if b = true then A else B := by subst e; exact (if_neg Bool.false_ne_true).mpr h
/-! ### the drawing of a script: the pool, a draw, the base of the names, a name -/
/-- what holds of the list of the pool at p (its cells, if it has some, at c) -/
def PoolL (H : Hp) (p c : Addr) (xs : List V) : Prop :=
  (c = p ∧ ∃ n : Int, xs = [.int n]) ∨ ∃ (x i : Int) (cs : List Int), xs = [.int x, .int i, .ref c] ∧ c ≠ p ∧ H c = some (.lst (cs.map V.int)) ∧ 0 < cs.length ∧ cs.length ≤ 63 ∧ (∀ z ∈ cs, 0 ≤ z ∧ z < 65537) ∧ 0 ≤ x ∧ x < 65537
def Pool (H : Hp) (p c : Addr) : Prop := ∃ xs, H p = some (.lst xs) ∧ PoolL H p c xs
theorem Pool.two {H : Hp} {p c : Addr} (h : Pool H p c) : (∃ o, H p = some o) ∧ ∃ o, H c = some o := by
  obtain ⟨xs, e, q⟩ := h
  refine ⟨⟨_, e⟩, ?_⟩
  rcases q with ⟨rfl, _⟩ | ⟨x, i, cs, _, _, e3, _⟩
  · exact ⟨_, e⟩
  · exact ⟨_, e3⟩
theorem Pool.ne {H : Hp} {p c q : Addr} (h : Pool H p c) (n : H q = none) : q ≠ p ∧ q ≠ c := by
  obtain ⟨⟨o, e⟩, u, e'⟩ := h.two
  exact ⟨(ne_of_none e n).symm, (ne_of_none e' n).symm⟩
theorem Pool.keep {H H' : Hp} {p c : Addr} (h : Pool H p c) (hp : ∀ o, H p = some o → H' p = some o) (hc : ∀ o, H c = some o → H' c = some o) : Pool H' p c := by
  obtain ⟨xs, e, q⟩ := h
  refine ⟨xs, hp _ e, ?_⟩
  rcases q with q | ⟨x, i, cs, e1, e2, e3, q⟩
  · exact .inl q
  · exact .inr ⟨x, i, cs, e1, e2, hc _ e3, q⟩
/-- all but p is as it was, and there may be more -/
def Gro (p : Addr) (H H' : Hp) : Prop := ∀ b o, H b = some o → b ≠ p → H' b = some o
theorem Gro.rfl' {p : Addr} {H : Hp} : Gro p H H := fun _ _ e _ => e
theorem Gro.trans {p : Addr} {H H1 H2 : Hp} (a : Gro p H H1) (b : Gro p H1 H2) : Gro p H H2 := fun q o e n => b q o (a q o e n) n
theorem Gro.new {p q : Addr} {H : Hp} {o : HO} (n : H q = none) : Gro p H (upd H q o) := fun b u e _ => by rw [upd_ne (ne_of_none e n)]; exact e
theorem Gro.own {p : Addr} {H : Hp} {o : HO} : Gro p H (upd H p o) := fun b u e n => by rw [upd_ne n]; exact e
theorem Gro.of_same {p : Addr} {H H' : Hp} (s : Same H H') : Gro p H H' := fun b o e _ => s b o e
theorem Gro.free {p q : Addr} {H H' : Hp} (g : Gro p H H') (n : H' q = none) (hq : q ≠ p) : H q = none := by
  cases e : H q with
  | none => rfl
  | some o => rw [g q o e hq] at n; cases n
theorem Pool.off {H : Hp} {p c q : Addr} {o : HO} (h : Pool H p c) (n1 : q ≠ p) (n2 : q ≠ c) : Pool (upd H q o) p c :=
  h.keep (fun u e => by rw [upd_ne n1.symm]; exact e) fun u e => by rw [upd_ne n2.symm]; exact e
theorem Pool.new {p c q : Addr} {H : Hp} {o : HO} (h : Pool H p c) (n : H q = none) : Pool (upd H q o) p c :=
  h.keep (fun u e => by rw [upd_ne (ne_of_none e n)]; exact e) fun u e => by rw [upd_ne (ne_of_none e n)]; exact e

def spPool (K : PySem.W.Frag) : Sp := fun vs H Q _ => ∃ (a : Addr) (ns : List Int), vs = [.ref a] ∧ SqL K H a (ns.map V.int) ∧ ns.length ≤ 63 ∧
  ∀ p c H', Same H H' → H p = none → (c = p ∨ H c = none) → Pool H' p c → Q (.ref p) H'
def spTake : Sp := fun vs H Q _ => ∃ (p c : Addr) (n : Int), vs = [.ref p, .int n] ∧ Pool H p c ∧ 0 < n ∧ n.natAbs < 2 ^ 200 ∧
  ∀ v H', 0 ≤ v → v < n → Gro p H H' → Pool H' p c → Q (.int v) H'
/-- the signs of a base -/
def Sgn (z : Str) : Prop := ∀ s ∈ z.cps.toList, s ∈ ("mnopqrstuvwxyz0123456789" : Str).cps.toList
def spBase (m : Nat) : Sp := fun vs H Q _ => ∃ (p c : Addr), vs = [.ref p] ∧ Pool H p c ∧
  ∀ z H', z.length < m → Sgn z → Gro p H H' → Pool H' p c → Q (.str z) H'
def kSigns : List Nat := ("afkdibglejch" : Str).cps.toList
/-- the name number k: its sign between two texts of the base's signs -/
def NameK (k : Nat) (z : Str) : Prop := z.length ≤ 12 ∧ ∃ (s : Nat) (a b : Str), kSigns[k]? = some s ∧ z = a ++ (⟨#[s]⟩ : Str) ++ b ∧ Sgn a ∧ Sgn b
def spName : Sp := fun vs H Q _ => ∃ (p c : Addr) (b : Str) (k : Nat), vs = [.ref p, .str b, .int k] ∧ Pool H p c ∧ b.length ≤ 11 ∧ Sgn b ∧ k < 12 ∧
  ∀ z H', NameK k z → Gro p H H' → Pool H' p c → Q (.str z) H'

/-- the built-ins that the drawing reads -/
structure Blt (mg : Str → Option Value) : Prop where
  len : mg "len" = none
  int : mg "int" = none
  range : mg "range" = none

section
variable {P : Program} {w : World} {K : PySem.W.Frag} {mg : Str → Option Value} {base : Heap}
theorem get_map {ns : List Int} {i : Nat} {x : V} (h : (ns.map V.int)[i]? = some x) : ∃ z, ns[i]? = some z ∧ x = .int z := by
  rw [List.getElem?_map] at h
  cases e : ns[i]? with
  | none => rw [e] at h; cases h
  | some z => rw [e] at h; exact ⟨z, rfl, (Option.some.inj h).symm⟩
def nPool : List Str := ["_law_script", "_law_cell"]
theorem scPool : FnScope nPool ["_law_script"] (defScope sPool) := ⟨rfl, rfl, rfl, by decide +kernel, rfl, by decide +kernel, by decide +kernel⟩
theorem ok_pool {f : Addr} {fd : FuncData} (F : Fun K "_law_pool" "_law_pool" sPool f fd) (B : Blt mg) : FnOk P w K mg base CX0 1 f fd ["_law_script"] (spPool K) := by
  refine F.ok scPool (fun vs H Q E h => ?_) (fun cdv A outer s H vs Q E hr h => ?_)
  · obtain ⟨a, ns, rfl, _⟩ := h
    rfl
  · obtain ⟨a, ns, rfl, hS, hlen, k⟩ := h
    refine ⟨_, pss_cons (ps_if (pt_cmpR op_eq (pe_callB call_len_seq (by rfl) B.len PySem.boot_len (pa_cons (pv 0) pa_nil)) pe_int (nomark _)) (pss_one (ps_ret (pe_lst (pa_cons pe_int pa_nil)))) pss_nil)
      (pss_cons (ps_if (pt_cmpR op_ge (pe_ix ix_list (pv 0) pe_int (fun _ _ => rfl)) (pe_op op_pow pe_int pe_int) (nomark _))
        (pss_one (ps_ret (pe_lst (pa_cons (pe_op op_sub (pe_ix ix_list (pv 0) pe_int (fun _ _ => rfl)) (pe_op op_pow pe_int pe_int)) pa_nil)))) pss_nil)
      (pss_one (ps_ret (pe_lst (pa_cons pe_int (pa_cons pe_int (pa_cons
        (pe_lc (own := [("_law_cell", 1)]) (g := gName 1) (tt := tYes) rfl scPool.nd (pi_list (pv 0)) (blkOk_by (N := nPool) (sc := defScope sPool) (by decide +kernel))
          (fun _ _ _ _ _ => pg_name (i := 1) scPool.nd rfl (Or.inl rfl)) (fun _ _ _ _ _ => pts_nil)
          (fun _ _ _ _ _ => pe_op op_mod (pe_callTy call_int1 (by rfl) B.int (by decide +kernel) (pa_cons (pv 1) pa_nil)) pe_int)) pa_nil))))))), ?_⟩
    refine ⟨_, rfl, a, _, rfl, .inl hS, rfl, _, rfl, ?_⟩
    rw [List.length_map]
    by_cases h0 : ns.length = 0
    · have e : decide (V.int (ns.length : Int) = V.int 0) = true := decide_eq_true (by rw [h0]; rfl)
      rw [e]
      refine iteT ⟨(by show 1 ≤ sizeLine; decide), fun p hp => ?_⟩
      exact k p p _ (fun b o q => by rw [upd_ne (ne_of_none q hp)]; exact q) hp (.inl rfl) ⟨_, upd_same, .inl ⟨rfl, 0, rfl⟩⟩
    · have e : decide (V.int (ns.length : Int) = V.int 0) = false := decide_eq_false (fun q => h0 (by injection q with q; omega))
      rw [e]
      refine iteF ?_
      obtain ⟨n0, hn0⟩ : ∃ n0, ns[0]? = some n0 := ⟨ns[0], List.getElem?_eq_getElem (by omega)⟩
      have at0 : atI (ns.map V.int) 0 = some (V.int n0) := atI_nat (j := 0) (by rw [List.getElem?_map, hn0]; rfl)
      refine ⟨_, rfl, a, _, 0, _, rfl, rfl, hS, at0, 10, 18, rfl, rfl, ⟨by decide, by decide, by decide⟩, _, _, rfl, rfl, _, rfl, ?_⟩
      refine ite2 (fun _ => ?_) (fun _ => ?_)
      · refine ⟨_, rfl, a, _, 0, _, rfl, rfl, hS, at0, 10, 18, rfl, rfl, ⟨by decide, by decide, by decide⟩, _, _, rfl, rfl, (by show 1 ≤ sizeLine; decide), fun p hp => ?_⟩
        exact k p p _ (fun b o q => by rw [upd_ne (ne_of_none q hp)]; exact q) hp (.inl rfl) ⟨_, upd_same, .inl ⟨rfl, _, rfl⟩⟩
      · refine ⟨_, rfl, a, rfl, ⟨_, hS⟩, fun D hD => ?_⟩
        refine lc_list (K := K) (a := a) (xs := ns.map V.int) (fun i H' => Same H H' ∧ ∃ cs : List Int, H' D = some (.lst (cs.map V.int)) ∧ cs.length = i ∧ ∀ z ∈ cs, 0 ≤ z ∧ z < 65537)
          ⟨fun b o q => by rw [upd_ne (ne_of_none q hD)]; exact q, [], upd_same, rfl, fun z hz => nomatch hz⟩ (fun i H' _ ⟨s5, _⟩ => s5.seq hS) ?_ ?_
        · rintro i x H' hi ⟨s5, cs, hcs, hcl, hb⟩
          obtain ⟨z, hz, rfl⟩ := get_map hi
          have hil : i < ns.length := (List.getElem?_eq_some_iff.mp hz).1
          refine ⟨rfl, _, rfl, .inl ⟨z, rfl, z, 65537, rfl, rfl, (by show (0 : Int) < 65537; decide), cs.map V.int, hcs, small1000 (by rw [List.length_map]; omega), ?_⟩⟩
          refine ⟨fun b o q => ?_, cs ++ [z % 65537], ?_, by rw [List.length_append, hcl]; rfl, fun y hy => ?_⟩
          · have nb : b ≠ D := ne_of_none q hD
            rw [upd_ne nb]
            exact s5 b o q
          · rw [upd_same, List.map_append]
            rfl
          · rcases List.mem_append.mp hy with hy | hy
            · exact hb y hy
            · rw [List.mem_singleton.mp hy]
              exact ⟨Int.emod_nonneg _ (by decide), Int.emod_lt_of_pos _ (by decide)⟩
        · rintro H' ⟨s5, cs, hcs, hcl, hb⟩
          rw [List.length_map] at hcl
          refine ⟨(by show 3 ≤ sizeLine; decide), fun p hp => ?_⟩
          have npD : D ≠ p := ne_of_none hcs hp
          refine k p D _ (fun b o q => ?_) (s5.free hp) (.inr hD) ⟨_, upd_same, .inr ⟨1, 0, cs, rfl, npD, by rw [upd_ne npD]; exact hcs, by omega, by omega, hb, by decide, by decide⟩⟩
          rw [upd_ne (ne_of_none (s5 b o q) hp)]
          exact s5 b o q
end
end Yd
namespace Yd
open PySem L2
section
variable {P : Program} {w : World} {K : PySem.W.Frag} {mg : Str → Option Value} {base : Heap}
theorem scTake : FnScope ["_law_pool_here", "_law_size", "_law_value", "_law_cells"] ["_law_pool_here", "_law_size"] (defScope sTake) := ⟨rfl, rfl, rfl, by decide +kernel, rfl, by decide +kernel, by decide +kernel⟩
theorem at_c {α : Type} {xs : List α} {j : Nat} {v : α} (h : xs[j]? = some v) {z : Int} (e : z = (j : Int)) : atI xs z = some v := by rw [e]; exact atI_nat h
theorem ixN_c {n j : Nat} (h : j < n) {z : Int} (e : z = (j : Int)) : ixN n z = some j := by
  subst e
  unfold ixN
  rw [if_pos (by omega), if_pos (by omega), Int.toNat_natCast]
theorem len_one {xs : List V} {n : Int} (h : xs = [.int n]) : xs.length = 1 := by rw [h]; rfl
/-- what is left of a draw -/
theorem drawn {n v : Int} (h : 0 < n) : 0 ≤ v % n ∧ v % n < n := ⟨Int.emod_nonneg _ (by omega), Int.emod_lt_of_pos _ h⟩
theorem pow7 {x : Int} (h0 : 0 ≤ x) (h1 : x < 65537) : CPow x 7 := by
  refine ⟨by decide, by decide, ?_⟩
  have e : (65537 : Nat) < 2 ^ 64 := by decide
  omega
theorem ok_take {f : Addr} {fd : FuncData} (F : Fun K "_law_take" "_law_take" sTake f fd) (B : Blt mg) : FnOk P w K mg base CX0 1 f fd ["_law_pool_here", "_law_size"] spTake := by
  refine F.ok scTake (fun vs H Q E h => ?_) (fun cdv A outer s H vs Q E hr h => ?_)
  · obtain ⟨p, c, n, rfl, _⟩ := h
    rfl
  · obtain ⟨p, c, n, rfl, ⟨xs, hp, hx⟩, hn, hb, k⟩ := h
    refine ⟨_, pss_cons (ps_if (pt_cmpR op_eq (pe_callB call_len_seq (by rfl) B.len PySem.boot_len (pa_cons (pv 0) pa_nil)) pe_int (nomark _))
        (pss_cons (ps_set (i := 2) scTake.nd rfl (Or.inl rfl) (pe_op op_mod (pe_callTy call_int1 (by rfl) B.int (by decide +kernel) (pa_cons (pe_ix ix_list (pv 0) pe_int (fun _ _ => rfl)) pa_nil)) (pv 1)))
        (pss_cons (ps_asg (pe_op op_fdivW (pe_ix ix_list (pv 0) pe_int (fun _ _ => rfl)) (pv 1)) (pg_sub (pv 0) pe_int set_list))
        (pss_one (ps_ret (pv 2))))) pss_nil)
      (pss_cons (ps_set (i := 3) scTake.nd rfl (Or.inl rfl) (pe_ix ix_list (pv 0) pe_int (fun _ _ => rfl)))
      (pss_cons (ps_asg (pe_op op_mod (pe_callTy call_int1 (by rfl) B.int (by decide +kernel) (pa_cons (pe_op op_add (pe_op op_add (pe_op op_mul (pe_ix ix_list (pv 0) pe_int (fun _ _ => rfl)) pe_int)
          (pe_ix ix_list (pv 3) (pe_op op_mod (pe_callTy call_int1 (by rfl) B.int (by decide +kernel) (pa_cons (pe_ix ix_list (pv 0) pe_int (fun _ _ => rfl)) pa_nil)) (pe_callB call_len_seq (by rfl) B.len PySem.boot_len (pa_cons (pv 3) pa_nil))) (fun _ _ => rfl))) pe_int) pa_nil)) pe_int)
          (pg_sub (pv 0) pe_int set_list))
      (pss_cons (ps_asg (pe_op op_add (pe_ix ix_list (pv 0) pe_int (fun _ _ => rfl)) pe_int) (pg_sub (pv 0) pe_int set_list))
      (pss_cons (ps_if (pt_cmpR op_gt (pv 1) pe_int (nomark _))
        (pss_one (ps_ret (pe_op op_mod (pe_callTy call_int1 (by rfl) B.int (by decide +kernel) (pa_cons (pe_op op_pow (pe_ix ix_list (pv 0) pe_int (fun _ _ => rfl)) pe_int) pa_nil)) (pv 1)))) pss_nil)
      (pss_one (ps_ret (pe_op op_mod (pe_callTy call_int1 (by rfl) B.int (by decide +kernel) (pa_cons (pe_ix ix_list (pv 0) pe_int (fun _ _ => rfl)) pa_nil)) (pv 1)))))))), ?_⟩
    rcases hx with ⟨hcc, m, rfl⟩ | ⟨x, i, cs, rfl, hcp, hc, hl0, hl1, hcs, hx0, hx1⟩
    · refine ⟨_, rfl, p, _, rfl, .inl (SqL.of hp), rfl, _, rfl, ?_⟩
      refine yes (by rfl) ?_
      have a0 : atI [V.int m] 0 = some (V.int m) := at_c (j := 0) rfl rfl
      refine ⟨_, rfl, p, _, 0, _, rfl, rfl, SqL.of hp, a0, .inl ⟨m, rfl, _, rfl, m, n, rfl, rfl, hn, ?_⟩⟩
      refine ⟨_, rfl, p, _, 0, _, rfl, rfl, SqL.of hp, a0, _, rfl, m, n, rfl, rfl, wide_div hn hb (by decide) (by decide), ?_⟩
      refine ⟨_, rfl, p, _, 0, 0, rfl, rfl, hp, ixN_c (by show 0 < 1; omega) rfl, ?_⟩
      refine ⟨_, rfl, ?_⟩
      exact k _ _ (drawn hn).1 (drawn hn).2 .own ⟨_, upd_same, .inl ⟨hcc, _, rfl⟩⟩
    · refine ⟨_, rfl, p, _, rfl, .inl (SqL.of hp), rfl, _, rfl, ?_⟩
      refine no (by rfl) ?_
      have hn0 : 0 < ((cs.map V.int).length : Int) := by rw [List.length_map]; omega
      obtain ⟨z, hz⟩ : ∃ z, atI (cs.map V.int) (i % ((cs.map V.int).length : Int)) = some (V.int z) := by
        have d := drawn (v := i) hn0
        obtain ⟨j, ej⟩ : ∃ j : Nat, i % ((cs.map V.int).length : Int) = (j : Int) := ⟨(i % ((cs.map V.int).length : Int)).toNat, by omega⟩
        have hj : j < cs.length := by rw [List.length_map] at d ej; omega
        exact ⟨cs[j], at_c (j := j) (by rw [List.getElem?_map, List.getElem?_eq_getElem hj]; rfl) ej⟩
      refine ⟨_, rfl, p, _, 2, _, rfl, rfl, SqL.of hp, at_c (j := 2) rfl rfl, ?_⟩
      refine ⟨_, rfl, p, _, 0, _, rfl, rfl, SqL.of hp, at_c (j := 0) rfl rfl, x, 75, rfl, rfl, .inl ⟨by omega, by omega⟩, ?_⟩
      refine ⟨_, rfl, _, rfl, p, _, 1, _, rfl, rfl, SqL.of hp, at_c (j := 1) rfl rfl, .inl ⟨i, rfl, ?_⟩⟩
      refine ⟨_, rfl, c, _, rfl, .inl (SqL.of hc), i, _, rfl, rfl, hn0, ?_⟩
      refine ⟨c, _, _, _, rfl, rfl, SqL.of hc, hz, _, _, rfl, rfl, _, 74, rfl, rfl, .inl ⟨_, rfl, _, 65537, rfl, rfl, (by show (0 : Int) < 65537; decide), ?_⟩⟩
      refine ⟨_, rfl, p, _, 0, 0, rfl, rfl, hp, ixN_c (by show 0 < 3; omega) rfl, ?_⟩
      have d2 := drawn (n := 65537) (v := x * 75 + z + 74) (by decide)
      refine ⟨_, rfl, p, _, 1, _, rfl, rfl, SqL.of upd_same, at_c (j := 1) rfl rfl, _, 1, rfl, rfl, ?_⟩
      refine ⟨_, rfl, p, _, 1, 1, rfl, rfl, upd_same, ixN_c (by show 1 < 3; omega) rfl, ?_⟩
      rw [upd_upd]
      have hP : Pool (upd H p (.lst [V.int ((x * 75 + z + 74) % 65537), V.int (i + 1), V.ref c])) p c :=
        ⟨_, upd_same, .inr ⟨_, _, cs, rfl, hcp, by rw [upd_ne hcp]; exact hc, hl0, hl1, hcs, d2.1, d2.2⟩⟩
      refine ⟨_, rfl, n, 60000, rfl, rfl, _, rfl, ?_⟩
      refine ite2 (fun _ => ?_) (fun _ => ?_)
      · refine ⟨_, rfl, p, _, 0, _, rfl, rfl, SqL.of upd_same, at_c (j := 0) rfl rfl, _, 7, rfl, rfl, pow7 d2.1 d2.2, .inl ⟨_, rfl, _, rfl, _, n, rfl, rfl, hn, ?_⟩⟩
        exact k _ _ (drawn hn).1 (drawn hn).2 .own hP
      · refine ⟨_, rfl, p, _, 0, _, rfl, rfl, SqL.of upd_same, at_c (j := 0) rfl rfl, .inl ⟨_, rfl, _, rfl, _, n, rfl, rfl, hn, ?_⟩⟩
        exact k _ _ (drawn hn).1 (drawn hn).2 .own hP
end
end Yd
namespace Yd
open PySem L2
/-! ### the base and the names -/
theorem Sgn.nil : Sgn "" := fun s h => by have e : ("" : Str).cps.toList = [] := by decide +kernel
                                          rw [e] at h; cases h
theorem Sgn.app {a b : Str} (x : Sgn a) (y : Sgn b) : Sgn (a ++ b) := fun s h => by
  have e : (a ++ b).cps.toList = a.cps.toList ++ b.cps.toList := by show (a.cps ++ b.cps).toList = _; rw [Array.toList_append]
  rw [e] at h
  exact (List.mem_append.mp h).elim (x s) (y s)
theorem Sgn.cut {z : Str} (x : Sgn z) (lo hi : Option Int) : Sgn (cutS z lo hi) := fun s h => by
  have h : s ∈ ((z.cps.toList.drop (HT.sIx z.length 0 lo)).take (HT.sIx z.length z.length hi - HT.sIx z.length 0 lo)) := by simpa [cutS] using h
  exact x s (List.mem_of_mem_drop (List.mem_of_mem_take h))
theorem Sgn.one {c : Nat} (h : c ∈ ("mnopqrstuvwxyz0123456789" : Str).cps.toList) : Sgn ⟨#[c]⟩ := fun s hs => by
  have e : s = c := by simpa using hs
  rw [e]; exact h
theorem len_app (a b : Str) : (a ++ b).length = a.length + b.length := by show (a.cps ++ b.cps).size = _; rw [Array.size_append]; rfl
theorem join_ok : ∀ ys : List Str, (∀ y ∈ ys, Sgn y ∧ y.length = 1) → Sgn (Txt.join "" ys) ∧ (Txt.join "" ys).length = ys.length
  | [], _ => ⟨Sgn.nil, by decide +kernel⟩
  | [y], h => h y (List.mem_singleton.mpr rfl)
  | y :: z :: r, h => by
    have ih := join_ok (z :: r) fun q hq => h q (List.mem_cons_of_mem _ hq)
    have h0 := h y (List.mem_cons_self ..)
    have e0 : ("" : Str).length = 0 := by decide +kernel
    have e : Txt.join "" (y :: z :: r) = y ++ "" ++ Txt.join "" (z :: r) := by
      show Builtin.Str.glued "" (y :: z :: r) = y ++ "" ++ Builtin.Str.glued "" (z :: r)
      rw [StrLaws.glued_eq_join, StrLaws.glued_eq_join]
      rfl
    rw [e]
    refine ⟨(h0.1.app Sgn.nil).app ih.1, ?_⟩
    rw [len_app, len_app, ih.2, h0.2, e0, List.length_cons (a := y)]
    omega
theorem sum_ones : ∀ {ys : List Str}, (∀ y ∈ ys, Sgn y ∧ y.length = 1) → (ys.map (·.length)).sum = ys.length
  | [], _ => rfl
  | y :: r, h => by
    have ih := sum_ones (ys := r) fun q hq => h q (List.mem_cons_of_mem _ hq)
    rw [List.map_cons, List.sum_cons, ih, (h y (List.mem_cons_self ..)).2, List.length_cons]
    omega
structure Fn (K : PySem.W.Frag) (mg : Str → Option Value) (x : Str) (st : Stmt) (ps : List Str) (f : Addr) (fd : FuncData) : Prop where
  F : Fun K x x st f fd
  g : mg x = some (.ref f)
  b : Binds K fd ps []
section
variable {P : Program} {w : World} {K : PySem.W.Frag} {mg : Str → Option Value} {base : Heap}
def nBase : List Str := ["_law_pool_here", "_law_signs", "_law_k"]
theorem scBase : FnScope nBase ["_law_pool_here"] (defScope sBase) := ⟨rfl, rfl, rfl, by decide +kernel, rfl, by decide +kernel, by decide +kernel⟩
theorem sgn_at {v : Int} (h0 : 0 ≤ v) (h1 : v < 24) : ∃ c, atI ("mnopqrstuvwxyz0123456789" : Str).cps.toList v = some c ∧ c ∈ ("mnopqrstuvwxyz0123456789" : Str).cps.toList := by
  have hl : ("mnopqrstuvwxyz0123456789" : Str).cps.toList.length = 24 := by decide +kernel
  have hj : v.toNat < ("mnopqrstuvwxyz0123456789" : Str).cps.toList.length := by omega
  exact ⟨_, at_c (j := v.toNat) (z := v) (List.getElem?_eq_getElem hj) (by omega), List.getElem_mem hj⟩
theorem ok_base {f fT : Addr} {fd fdT : FuncData} (F : Fun K "_law_base" "_law_base" sBase f fd) (B : Blt mg) (T : Fn K mg "_law_take" sTake ["_law_pool_here", "_law_size"] fT fdT) : FnOk P w K mg base CX0 2 f fd ["_law_pool_here"] (spBase 12) := by
  have GT : FnOk P w K mg base CX0 1 fT fdT ["_law_pool_here", "_law_size"] spTake := ok_take T.F B
  refine F.ok scBase (fun vs H Q E h => ?_) (fun cdv A outer s H vs Q E hr h => ?_)
  · obtain ⟨p, c, rfl, _⟩ := h
    rfl
  · obtain ⟨p, c, rfl, hP, k⟩ := h
    refine ⟨_, pss_cons (ps_set (i := 1) scBase.nd rfl (Or.inr rfl) pe_str)
      (pss_one (ps_ret (pe_join pe_str (pe_lc (own := [("_law_k", 2)]) (g := gName 2) (tt := tYes) rfl scBase.nd
        (pi_range1 rfl B.range (pa_cons (pe_call GT hr rfl T.g T.F.kp T.b .nil pass0 (pa_cons (pv 0) (pa_cons pe_int pa_nil))) pa_nil))
        (blkOk_by (N := nBase) (sc := defScope sBase) (by decide +kernel))
        (fun _ _ _ _ _ => pg_name (i := 2) scBase.nd rfl (Or.inl rfl)) (fun _ _ _ _ _ => pts_nil)
        (fun _ _ _ _ _ => pe_ix ix_str (pv 1) (pe_call GT hr rfl T.g T.F.kp T.b .nil pass0 (pa_cons (pv 0) (pa_cons pe_int pa_nil))) (fun _ _ => rfl)))))), ?_⟩
    refine ⟨⟨_, rfl⟩, _, rfl, p, c, 12, rfl, hP, by decide, by decide, fun n H1 n0 n1 g1 P1 => ⟨n, rfl, by omega, by omega, fun D hD => ?_⟩⟩
    obtain ⟨nDp, nDc⟩ := P1.ne hD
    refine lc_range (lo := 0) (n := n.toNat) (fun i H' => Gro p H H' ∧ Pool H' p c ∧ ∃ ys : List Str, H' D = some (.lst (ys.map V.str)) ∧ ys.length = i ∧ ∀ y ∈ ys, Sgn y ∧ y.length = 1)
      ⟨g1.trans (.new hD), P1.new hD, [], upd_same, rfl, fun y hy => nomatch hy⟩ ?_ ?_
    · rintro i H' hi ⟨g5, P5, ys, hys, hyl, hb⟩
      refine ⟨rfl, _, rfl, _, rfl, p, c, 24, rfl, P5, by decide, by decide, fun v H6 v0 v1 g6 P6 => ?_⟩
      obtain ⟨ch, hch, hm⟩ := sgn_at v0 v1
      have h6 : H6 D = some (.lst (ys.map V.str)) := g6 D _ hys nDp
      refine ⟨_, v, ch, rfl, rfl, (by decide +kernel), hch, ys.map V.str, h6, small1000 (by rw [List.length_map]; omega), ?_⟩
      refine ⟨fun b o q hb' => ?_, P6.off nDp nDc, ys ++ [⟨#[ch]⟩], ?_, by rw [List.length_append, hyl]; rfl, fun y hy => ?_⟩
      · rw [upd_ne (ne_of_none (g1 b o q hb') hD)]
        exact g6 b o (g5 b o q hb') hb'
      · rw [upd_same, List.map_append]
        rfl
      · rcases List.mem_append.mp hy with hy | hy
        · exact hb y hy
        · rw [List.mem_singleton.mp hy]
          exact ⟨Sgn.one hm, rfl⟩
    · rintro H' ⟨g5, P5, ys, hys, hyl, hb⟩
      have j := join_ok ys hb
      refine ⟨_, D, ys, rfl, rfl, .inl (SqL.of hys), ?_, ?_⟩
      · have e0 : ("" : Str).length = 0 := by decide +kernel
        rw [sum_ones hb, e0]
        omega
      · exact k _ _ (by rw [j.2]; omega) j.1 g5 P5
def nName : List Str := ["_law_pool_here", "_law_base_here", "_law_k", "_law_text", "_law_at"]
theorem scName : FnScope nName ["_law_pool_here", "_law_base_here", "_law_k"] (defScope sName) := ⟨rfl, rfl, rfl, by decide +kernel, rfl, by decide +kernel, by decide +kernel⟩
theorem small16 {n : Nat} (h : n ≤ 16) : n ≤ sizeLine := Nat.le_trans h (by decide)
theorem ok_name {f fT : Addr} {fd fdT : FuncData} (F : Fun K "_law_name" "_law_name" sName f fd) (B : Blt mg) (T : Fn K mg "_law_take" sTake ["_law_pool_here", "_law_size"] fT fdT) : FnOk P w K mg base CX0 2 f fd ["_law_pool_here", "_law_base_here", "_law_k"] spName := by
  have GT : FnOk P w K mg base CX0 1 fT fdT ["_law_pool_here", "_law_size"] spTake := ok_take T.F B
  refine F.ok scName (fun vs H Q E h => ?_) (fun cdv A outer s H vs Q E hr h => ?_)
  · obtain ⟨p, c, b, k, rfl, _⟩ := h
    rfl
  · obtain ⟨p, c, b, kk, rfl, hP, hb, hsb, hk, k⟩ := h
    refine ⟨_, pss_cons (ps_set (i := 3) scName.nd rfl (Or.inl rfl) (pe_slice sl_str (pv 1) po_none (po_some (pe_call GT hr rfl T.g T.F.kp T.b .nil pass0 (pa_cons (pv 0) (pa_cons (pe_op op_add (pe_callB call_len_str (by rfl) B.len PySem.boot_len (pa_cons (pv 1) pa_nil)) pe_int) pa_nil))))))
      (pss_cons (ps_set (i := 4) scName.nd rfl (Or.inl rfl) (pe_call GT hr rfl T.g T.F.kp T.b .nil pass0 (pa_cons (pv 0) (pa_cons (pe_op op_add (pe_callB call_len_str (by rfl) B.len PySem.boot_len (pa_cons (pv 3) pa_nil)) pe_int) pa_nil))))
      (pss_one (ps_ret (pe_op op_add_str (pe_op op_add_str (pe_slice sl_str (pv 3) po_none (po_some (pv 4))) (pe_ix ix_str pe_str (pv 2) (fun _ _ => rfl))) (pe_slice sl_str (pv 3) (po_some (pv 4)) po_none))))), ?_⟩
    have n20 : ∀ n : Nat, n ≤ 11 → ((n : Int) + 1).natAbs < 2 ^ 200 := fun n h => Nat.lt_of_le_of_lt (m := 12) (by omega) (by decide)
    refine ⟨_, rfl, _, rfl, _, rfl, b, rfl, small16 (by omega), _, 1, rfl, rfl, p, c, _, rfl, hP, by omega, n20 _ hb, fun v H1 v0 v1 g1 P1 => ⟨v, rfl, b, rfl, small16 (by omega), ?_⟩⟩
    generalize hz : cutS b none (some v) = z
    have hzl : z.length ≤ 11 := by rw [← hz]; exact Nat.le_trans (cutS_length _ _ _) hb
    have hzs : Sgn z := by rw [← hz]; exact hsb.cut _ _
    refine ⟨_, rfl, _, rfl, z, rfl, small16 (by omega), _, 1, rfl, rfl, p, c, _, rfl, P1, by omega, n20 _ hzl, fun u H2 u0 u1 g2 P2 => ?_⟩
    obtain ⟨sg, hsg⟩ : ∃ sg, ("afkdibglejch" : Str).cps.toList[kk]? = some sg := ⟨_, List.getElem?_eq_getElem (by have : ("afkdibglejch" : Str).cps.toList.length = 12 := by decide +kernel
                                                                                                                  omega)⟩
    have l1 := cutS_length z none (some u)
    have l2 := cutS_length z (some u) none
    have lt : (cutS z none (some u)).length + (cutS z (some u) none).length ≤ z.length := by
      obtain ⟨j, rfl⟩ : ∃ j : Nat, u = (j : Int) := ⟨u.toNat, by omega⟩
      have e1 : ∀ lo hi, (cutS z lo hi).length = min (HT.sIx z.length z.length hi - HT.sIx z.length 0 lo) (z.length - HT.sIx z.length 0 lo) := fun lo hi => by
        show (((z.cps.toList.drop (HT.sIx z.length 0 lo)).take (HT.sIx z.length z.length hi - HT.sIx z.length 0 lo)).toArray).size = _
        rw [List.size_toArray, List.length_take, List.length_drop, Array.length_toList]
        rfl
      simp only [e1, HT.sIx_none, HT.sIx_nat]
      omega
    have o1 : (⟨#[sg]⟩ : Str).length = 1 := rfl
    refine ⟨_, rfl, _, rfl, u, rfl, z, rfl, small16 (by omega), _, rfl, _, kk, sg, rfl, rfl, (by decide +kernel), at_c (j := kk) hsg rfl, _, _, rfl, rfl, small16 (by omega), ?_⟩
    refine ⟨_, rfl, _, rfl, u, rfl, z, rfl, small16 (by omega), _, _, rfl, rfl, small16 (by rw [len_app]; omega), ?_⟩
    exact k _ _ ⟨by rw [len_app, len_app]; omega, sg, _, _, hsg, rfl, hzs.cut _ _, hzs.cut _ _⟩ (g1.trans g2) P2
end
end Yd
namespace Yd
open PySem L2
/-! ### a def that begins with super().__init__(text): how the errors of the program are made -/
/-- such a def as it stands behind the top: D its class, cc the cell that holds D -/
structure SupFn (P : Program) (K : PySem.W.Frag) (mg : Str → Option Value) (x qual : Str) (st : Stmt) (f D cc : Addr) (fd : FuncData) : Prop where
  fn : ∃ (oc : Value) (od : Option Addr) (kV doc pm : Value) (an : Option Addr) (cda : Addr) (ct : Value) (osl : Array (Option Value)) (ccl : Value) (cdd : Option Addr) (vs : Array Value) (ccs : Array (Option Value)) (file : Str) (tf : Tok),
    fd = PySem.W.fnX x qual (defArgs st) (defBody st) (defScope st) [("__class__", cc)] .none kV doc pm an (.ref cda) ct ∧ K.lookup f = some ⟨oc, od, .func fd, osl⟩ ∧ PySem.W.codeIn K (.ref cda) qual = true ∧
    K.lookup cda = some ⟨ccl, cdd, .fields vs, ccs⟩ ∧ vs[2]? = some (.str file tf) ∧ ((P.main.file : Str) == file) = true
  cell : ∃ (cl : Value) (cld : Option Addr) (csl : Array (Option Value)), K.lookup cc = some ⟨cl, cld, .cell (some (.ref D)), csl⟩
  cd : ∃ cdD, PySem.W.clsIn K D = some cdD
  sup : mg "super" = none
  top : (P.main.scope.names.lookup ("super" : Str)).isSome = false
  any : PySem.W.nsIn K PySem.cStatics "thirdparty.any" = some none
/-- the class at C of the object, seen from a def of the class at D -/
structure SupC (K : PySem.W.Frag) (C D : Addr) : Prop where
  ox : OexC K C
  over : PySem.W.ks_superIn K C D "__init__" = some (some (.builtin "ValueError.__init__"))
  sub : PySem.W.subIn K (.ref C) (.type "ValueError") = some true
  mro : PySem.W.mroIn K C (.ref D) = some true
section
open PySem.W PySem.Calls
variable {X : Cx} {pins : List (Addr × Obj)} {σ : St} {H : Hp} {s : Shared} {a C D f cc cda : Addr} {E : Value → Shared → Prop}
theorem inst_exo {hh : Heap} {t1 : Addr} (h : hh.get? a = some (PySem.HandSPX.excO C t1)) : InstAt hh a (PySem.HandSPX.excO C t1) C none := ⟨h, rfl, rfl, trivial⟩
/-- super(), ahead of its attribute -/
theorem sup_base {qual : Str} {scope : Scope} {L : Addr} {fd : FuncData} {of oc : Obj} {ar : Arg} {vs : Array Value} {file : Str} {tf : Tok} {body : List Stmt} {p0 p1 : Pos} {attr : Str} {whole : Sem Value} {ox : Obj} {odx : Option Obj} {ocl : Obj}
    (I : Inv X pins σ H s) (hE : X.env = envX qual scope L f (.ref cda) [("__class__", cc)]) (hks : scope.names.lookup ("super" : Str) = some .globalImplicit) (hkc : scope.names.lookup ("__class__" : Str) = some .free)
    (hat : (attr == ("__class__" : Str)) = false) (hf : X.K.lookup f = some of) (hfd : of.data = .func fd) (hp : (fd.params.posonlyargs ++ fd.params.args).head? = some ar) (hself : X.N[0]? = some ar.arg) (hloc : scope.names.lookup ar.arg = some .local)
    (hv : σ[0]? = some (some (.ref a))) (hco : X.K.lookup cda = some oc) (hoc : oc.data = .fields vs) (hvs : vs[2]? = some (.str file tf)) (hfile : ((X.prog.main.file : Str) == file) = true)
    (htop : (X.prog.main.scope.names.lookup ("super" : Str)).isSome = false) (hmg : X.mg "super" = none) (hcell : X.K.lookup cc = some ocl) (hcd : ocl.data = .cell (some (.ref D))) (hD : ∃ cdD, clsIn X.K D = some cdD)
    (J : InstAt s.heap a ox C odx) (hm : mroIn X.K C (.ref D) = some true) :
    PySem.wpAt (model X.prog X.w) X.A (.func body X.env) (attributeBase (.Call (.Name "super" p0) [] [] p1) attr X.env whole)
      (fun v s' => ∃ so, v = .ref so ∧ s'.heap.get? so = some (ks_superObj D a C) ∧ (∀ b o, s.heap.get? b = some o → s'.heap.get? b = some o) ∧ Inv X pins σ H s') E s := by
  have KI := I.kIn
  have hkind : scope.kind = .function := by have z := I.ok.kind; rw [hE] at z; exact z
  have hglob : X.env.globals = mainGlobals := I.ok.glob
  obtain ⟨mb, hb1, hb2⟩ := I.mod.blt
  have hbl : s.heap.Ns builtinsNs mb := hb1.keeps I.bk
  have hgl : s.heap.Ns mainGlobals X.mg := I.mod.glob.keeps I.bk
  obtain ⟨m, hns, hlk⟩ := id I.loc
  have vis : Vis X.env.scope ar.arg := by rw [hE]; exact .inl hloc
  obtain ⟨u, hru, hlook⟩ := hlk 0 ar.arg (.ref a) hself hv vis
  have hu : u = Value.ref a := hru
  subst hu
  have hma : m ar.arg = some (.ref a) := by
    rcases hlook with ⟨_, z⟩ | ⟨k, _⟩
    · exact z
    · rw [hE] at k
      have k' : scope.names.lookup ar.arg = some .cell ∨ scope.names.lookup ar.arg = some .free := k
      rw [hloc] at k'
      rcases k' with k' | k' <;> cases k'
  obtain ⟨cdD, hcdD⟩ := hD
  obtain ⟨oD, hD1, hD2⟩ : ∃ oD, s.heap.get? D = some oD ∧ oD.data = .cls cdD := by
    unfold clsIn at hcdD
    split at hcdD
    · rename_i q1 q2 q3 q4 hq
      cases hcdD
      exact ⟨_, KI _ _ hq, rfl⟩
    · cases hcdD
  have hlocals : X.env.locals = L := by rw [hE]
  rw [hlocals] at hns
  have hK : ∀ {b o}, X.K.lookup b = some o → s.heap.get? b = some o := fun {b o} e => KI b o e
  have keep : ∀ h', (∀ b o, s.heap.get? b = some o → h'.get? b = some o) → Inv X pins σ H { s with heap := h' } := fun h' k => I.kept (t' := s.toks) k
  rw [hE]
  obtain ⟨hh, g, d, t, os⟩ := s
  refine ks_wpAt_super_base (env := envX qual scope L f (.ref cda) [("__class__", cc)]) hks hkc hat rfl (hK hf) hfd hp rfl (hK hco) hoc hvs hfile htop ?_
  refine ks_loadName_global hkind hks (loadGlobal_builtin (env := envX qual scope L f (.ref cda) [("__class__", cc)]) hgl hmg hbl ((hb2 _ (by decide +kernel)).trans (by decide +kernel)) ⟨rfl, ?_⟩)
  refine wpAny_loadName_free hkind hkc rfl ⟨_, hK hcell, hcd⟩ ?_
  refine wpAny_loadName_local hkind hloc hns hma ?_
  refine ks_wpAny_isType_cls hD1 hD2 ⟨rfl, ?_⟩
  refine ks_wpAny_call_super hD1 hD2 J.at_ J.cls (fun c e => ?_) (looks_mroIn KI hm) fun h' e k => ⟨_, rfl, e, k, keep h' k⟩
  have z := J.no
  unfold notCls at z
  rw [e] at z
  exact Bool.noConfusion z
end
end Yd
namespace Yd
open PySem L2
section
open PySem.W PySem.Calls
variable {X : Cx} {pins : List (Addr × Obj)} {σ : St} {H : Hp} {s : Shared} {a C D f cc cda u : Addr} {E : Value → Shared → Prop}
/-- a record of ours is pinned -/
theorem pin_new (I : Inv X pins σ H s) {o : Obj} (hu : s.heap.get? u = some o) (hn : H u = none) (hL : u ≠ X.env.locals) (hf : u ∉ X.fs) (hd : ∀ v, o.data ≠ .cell v) : Inv X ((u, o) :: pins) σ H s :=
  I.pins_of fun p hp => by
    rcases List.mem_cons.mp hp with rfl | hp
    · exact ⟨hu, hn, hL, hf, hd⟩
    · exact I.pin p (List.mem_append_right _ hp)
theorem pin_off {o : Obj} (I : Inv X ((u, o) :: pins) σ H s) : Inv X pins σ H s := I.pins_of fun p hp => I.pin p (List.mem_append_right _ (List.mem_cons_of_mem _ hp))
theorem mw_nocell {i : String} {x : Addr} : ∀ v, (kxs_mw i x).data ≠ .cell v := fun _ z => by cases z
/-- the bound ValueError.__init__ runs -/
theorem mw_run {us : List Value} {Q : Value → Shared → Prop} (T : OexC X.K C) (I : Inv X pins σ H s) (e : H a = some (exo a C none)) (hu : s.heap.get? u = some (kxs_mw "ValueError.__init__" a)) (hl : us.length ≤ sizeLine)
    (h : ∀ s', Inv X pins σ H s' → Q .none s') : wpAny (model X.prog X.w) X.A (call (.ref u) us) Q E s := by
  obtain ⟨nm, q, N, bs, bm, sn, sub, ab, col, dd, k0, k1, k2, k3, k5, hC, hbm⟩ := T.cls
  obtain ⟨t1, ho⟩ := exo_at I.hok e
  obtain ⟨hp, g, d, t, os⟩ := s
  have hTy : ∀ n : String, n = "method-wrapper" → (Value.type n == Value.type "method" || Value.type n == Value.type "builtin_function_or_method" || Value.type n == Value.type "method-wrapper") = true := fun n hn => by subst hn; decide
  refine wpAny_call (codeAny_of_tree (?_ : wpAny _ X.A.in1 (callAny (.ref u) ⟨us, []⟩) _ _ _))
  simp only [callAny]
  refine wpAny_bind (wpAny_load hu ?_)
  simp only [kxs_mw, hTy "method-wrapper" rfl, if_true]
  refine KFB.if_so (by decide) (wpAny_bind (check_bound_init F.excBase_ValueError.toExcCallFacts (I.kIn _ _ hC) ho rfl (wpAny_bind (wpAny_pure (wpAny_pure ?_)))))
  refine ⟨plainId_quiet F.excBase_ValueError.init.plain _, codeAny_builtin F.excBase_ValueError.initEntry ?_⟩
  refine exc_init_tree (cls := .ref C) (t0 := t1) (dv := none) (c2 := .none) (c3 := .none) (b4 := .bool false) ho hl fun h' k hx _ => ?_
  have same : upd H a (exo a C none) = H := funext fun b => by
    by_cases hb : b = a
    · rw [hb, upd_same, e]
    · exact upd_ne hb
  have J := I.write (t' := t) (x := a) (e := a) (o := exo a C none) (by rw [e]; exact True.intro) (.inl rfl) k ⟨_, hx⟩ (exo_ok hx)
  rw [same] at J
  exact h _ J
end
end Yd
namespace Yd
open PySem L2
section
open PySem.W PySem.Calls
variable {X : Cx} {pins : List (Addr × Obj)} {σ : St} {H : Hp} {s : Shared} {a C D f cc cda u : Addr} {E : Value → Shared → Prop}
/-- super().__init__(e), the whole statement, where the def's own code runs -/
theorem sup_stmt {qual : Str} {scope : Scope} {L : Addr} {fd : FuncData} {of oc : Obj} {ar : Arg} {vs : Array Value} {file : Str} {tf : Tok} {body : List Stmt} {p0 p1 p2 p3 p4 : Pos} {ocl : Obj} {e : Expr} {te : TE} {Q : Hp → Prop} {pl : Sem Bool}
    (I : Inv X pins σ H s) (hE : X.env = envX qual scope L f (.ref cda) [("__class__", cc)]) (hks : scope.names.lookup ("super" : Str) = some .globalImplicit) (hkc : scope.names.lookup ("__class__" : Str) = some .free)
    (hf : X.K.lookup f = some of) (hfd : of.data = .func fd) (hp : (fd.params.posonlyargs ++ fd.params.args).head? = some ar) (hself : X.N[0]? = some ar.arg) (hloc : scope.names.lookup ar.arg = some .local)
    (hv : σ[0]? = some (some (.ref a))) (hco : X.K.lookup cda = some oc) (hoc : oc.data = .fields vs) (hvs : vs[2]? = some (.str file tf)) (hfile : ((X.prog.main.file : Str) == file) = true)
    (htop : (X.prog.main.scope.names.lookup ("super" : Str)).isSome = false) (hmg : X.mg "super" = none) (hcell : X.K.lookup cc = some ocl) (hcd : ocl.data = .cell (some (.ref D))) (hD : ∃ cdD, clsIn X.K D = some cdD)
    (hany : nsIn X.K cStatics "thirdparty.any" = some none) (S : SupC X.K C D) (he : PE X e te) (ha : H a = some (exo a C none)) (hq : te σ H fun _ H1 => H1 a = some (exo a C none) ∧ Q H1)
    (hi : interactive X.env = false := by rfl) (hsw : swapsWith (.Call (.Attribute (.Call (.Name "super" p0) [] [] p1) "__init__" p2) [e] [] p3) none p4.line X.env = pure false := by rfl)
    (hst : starEach [e] X.env = (false, eval e X.env) :: starEach [] X.env := by rfl)
    (hc : eval (.Call (.Attribute (.Call (.Name "super" p0) [] [] p1) "__init__" p2) [e] [] p3) X.env = (do
      let ov ← attributeBase (.Call (.Name "super" p0) [] [] p1) "__init__" X.env (eval (.Call (.Name "super" p0) [] [] p1) X.env)
      standAt p2.atName
      let (f, first) ← holding [ov] (getMethod ov "__init__" pl)
      callWith p3 f first (backTo p3 (starEach [e] X.env)) []) := by rfl) :
    PySem.wpAt (model X.prog X.w) X.A (.func body X.env) (exec (.Expr (.Call (.Attribute (.Call (.Name "super" p0) [] [] p1) "__init__" p2) [e] [] p3) p4) X.env)
      (fun fl s' => fl = .next ∧ ∃ H', Inv X pins σ H' s' ∧ Q H') X.xe s := by
  obtain ⟨t1, ho⟩ := exo_at I.hok ha
  refine ks_wpAt_Expr_any ?_ hi hsw
  refine ks_wpAt_MethodCall ?_ hc
  · refine ks_wpAt_mono (sup_base I hE hks hkc (by decide) hf hfd hp hself hloc hv hco hoc hvs hfile htop hmg hcell hcd hD (inst_exo ho) S.mro) (fun v s1 hh => ?_) fun _ _ z => z
    obtain ⟨so, rfl, hso, k1, I1⟩ := hh
    obtain ⟨t2, ho1⟩ := exo_at I1.hok ha
    have KI := I1.kIn
    have hcls : ∃ cd, clsIn X.K C = some cd ∧ alongIn X.K "__init__" ((cd.mro.dropWhile (· != .ref D)).drop 1) = some (some (.builtin "ValueError.__init__")) := by
      have z := S.over
      unfold ks_superIn at z
      cases q : clsIn X.K C with
      | none => rw [q] at z; cases z
      | some cd => rw [q] at z; exact ⟨cd, rfl, z⟩
    obtain ⟨cd, hcdC, hal⟩ := hcls
    have hI : Looks (model X.prog X.w) s1.heap (isInstance (.ref a) (.type "ValueError")) true := (inst_exo ho1).type.andThen (looks_subIn KI S.sub)
    have hmro : Looks (model X.prog X.w) s1.heap (mroOf (.ref C)) cd.mro := fun A' Q' E' s' k q => wpAny_bind ((looks_clsIn KI hcdC) A' _ E' s' k (wpAny_pure q))
    have hne : a ≠ C := ks_ne KI (inst_exo ho1) hcdC
    obtain ⟨hp1, g, d, t, os⟩ := s1
    refine kxs_getMethod kxs_ValueError hso (looks_opaque KI hany) hmro rfl KI hal hI hne (by decide) ?_
    -- the bound method is a new record
    have hnew : H hp1.objs.size = none := I1.hok.fresh (Nat.le_refl _)
    have I2 : Inv X pins σ H ⟨hp1.push (kxs_mw "ValueError.__init__" a), g, d, t + 1, os⟩ := I1.kept (t' := t + 1) fun b o q => Heap.get?_push_of_some _ q
    have hL : hp1.objs.size ≠ X.env.locals := (Nat.ne_of_lt I1.lt).symm
    have I3 := pin_new (o := kxs_mw "ValueError.__init__" a) I2 (Heap.get?_push_at rfl rfl) hnew hL (I1.nofs (Nat.le_refl _)) mw_nocell
    have hplain : ((false, eval e X.env) :: backTo p3 (starEach [] X.env)).any (·.1) = false := by rfl
    rw [hst]
    refine kxs_callWith (i := "ValueError.__init__") (x := a) hplain (evalArgs_plain ?_)
    refine spliced_cons (thn (he.run _ _ σ H _ I3 hq) fun v s2 ⟨x, H2, I4, _, ha2, q2⟩ => ?_)
    refine spliced_nil ⟨(I4.pin _ (List.mem_append_right _ (List.mem_cons_self ..))).1, ?_⟩
    exact mw_run S.ox I4 ha2 (I4.pin _ (List.mem_append_right _ (List.mem_cons_self ..))).1 (by show 1 ≤ sizeLine; decide) fun s' J => ⟨rfl, H2, pin_off J, q2⟩
/-- the names of such a def: the parameters, then __class__ -/
structure SupScope (N ps : List Str) (sc : Scope) : Prop where
  ns : NdefX.NScope N ps ["__class__"] sc
  sup : sc.names.lookup ("super" : Str) = some .globalImplicit
/-- THE RULE for a def that begins so: its text, and what is behind it -/
theorem fn_sup {P : Program} {w : World} {K : Frag} {mg : Str → Option Value} {base : Heap} {CX : CXT} {x qual : Str} {st : Stmt} {fd : FuncData} {N ps : List Str} {k : Nat} {sp : Sp} {ar : Arg} {e : Expr} {rest : List Stmt} {p0 p1 p2 p3 p4 : Pos} {pl : Sem Bool}
    (F : SupFn P K mg x qual st f D cc fd) (S : SupScope N ps (defScope st)) (hp : ((defArgs st).posonlyargs ++ (defArgs st).args).head? = some ar) (hself : N[0]? = some ar.arg) (hloc : (defScope st).names.lookup ar.arg = some .local)
    (hb : defBody st = .Expr (.Call (.Attribute (.Call (.Name "super" p0) [] [] p1) "__init__" p2) [e] [] p3) p4 :: rest) (len : ∀ vs H Q E, sp vs H Q E → vs.length = ps.length)
    (hsw : ∀ env : Env, env.scope = defScope st → swapsWith (.Call (.Attribute (.Call (.Name "super" p0) [] [] p1) "__init__" p2) [e] [] p3) none p4.line env = pure false)
    (hst : ∀ env, starEach [e] env = (false, eval e env) :: starEach [] env)
    (hc : ∀ env, eval (.Call (.Attribute (.Call (.Name "super" p0) [] [] p1) "__init__" p2) [e] [] p3) env = (do
      let ov ← attributeBase (.Call (.Name "super" p0) [] [] p1) "__init__" env (eval (.Call (.Name "super" p0) [] [] p1) env)
      standAt p2.atName
      let (f, first) ← holding [ov] (getMethod ov "__init__" pl)
      callWith p3 f first (backTo p3 (starEach [e] env)) []))
    (hbody : ∀ (Fn : NdefX.NF) (A : Around) (outer : List Env) (s : Shared) (H : Hp) (vs : List V) (Q : VK) (E : XK), Fn.scope = defScope st → Fn.cl = [(("__class__" : Str), cc)] → Room k (A.deeper (NdefX.envF Fn f s.heap.objs.size)) → sp vs H Q E →
      ∃ te t a C, PE (NdefX.ncx CX P w K mg base N Fn f A outer s H E) e te ∧ PSs (NdefX.ncx CX P w K mg base N Fn f A outer s H E) rest t ∧ vs[0]? = some (.ref a) ∧ SupC K C D ∧ H a = some (exo a C none) ∧
        te (NdefX.startF N vs [some (.ref D)]) H fun _ H1 => H1 a = some (exo a C none) ∧ t { nx := fun _ H' => Q .non H', rt := Q } (NdefX.startF N vs [some (.ref D)]) H1) :
    FnOk P w K mg base CX (k + 1) f fd ps sp := by
  obtain ⟨oc, od, kV, doc, pm, an, cda, ct, osl, ccl, cdd, vsC, ccs, file, tf, rfl, lk, hcd, lkC, hvs, hfile⟩ := F.fn
  obtain ⟨cl, cld, csl, lkc⟩ := F.cell
  refine ⟨len, fun A outer s H args us vs Q E hr e0 hb' r hsp => ?_⟩
  have hl := len _ _ _ _ hsp
  have inK : ∀ {b o}, K.lookup b = some o → s.heap.get? b = some o ∧ H b = none := fun {b o} z => e0.bs b o (e0.mod.kin b o z)
  have KX : K.In s.heap := fun b o z => (inK z).1
  have lim : s.heap.NoLimit := e0.mod.nolimit.keeps fun b o z => (e0.bs b o z).1
  refine ks_codeAny_call_defAt (fd := fnX x qual (defArgs st) (defBody st) (defScope st) [("__class__", cc)] .none kV doc pm an (.ref cda) ct) (body := defBody st) (binds := ps.zip us) hr.depth (inK lk).1 rfl lim (codeRec_of KX hcd) rfl hb' S.ns.nocell
    (fun y hy => S.ns.par _ (List.of_mem_zip hy).1) (fun h₁ hns kp => ?_) S.ns.co S.ns.gen S.ns.kind
  let Fn : NdefX.NF := ⟨x, qual, defArgs st, defBody st, defScope st, [(("__class__" : Str), cc)], cda⟩
  have C1 : NdefX.CellsAt Fn.cl ["__class__"] [some (.ref D)] s.heap H := by
    have one : ∀ y c, List.lookup y [(("__class__" : Str), cc)] = some c → y = "__class__" ∧ c = cc := fun y c z => by
      by_cases hy : y = "__class__"
      · subst hy
        refine ⟨rfl, ?_⟩
        simp [List.lookup] at z
        exact z.symm
      · have q : (y == ("__class__" : Str)) = false := by simpa using hy
        simp [List.lookup, q] at z
    refine ⟨rfl, fun y c z => ?_, fun y z c h1 h2 => (one y c h1).1.trans (one z c h2).1.symm, fun i y hy => ?_⟩
    · obtain ⟨_, rfl⟩ := one y c z
      exact ⟨(inK lkc).2, _, _, (inK lkc).1, rfl⟩
    · match i, hy with
      | 0, hy =>
        have ey : ("__class__" : Str) = y := Option.some.inj hy
        subst ey
        refine ⟨cc, by show List.lookup _ [(("__class__" : Str), cc)] = _; simp [List.lookup], fun v hv => ?_⟩
        have ev : V.ref D = v := Option.some.inj (Option.some.inj hv)
        subst ev
        exact ⟨_, rfl, _, (inK lkc).1, rfl⟩
      | i + 1, hy => simp at hy
  have I : Inv (NdefX.ncx CX P w K mg base N Fn f A outer s H E) [] (NdefX.startF N vs [some (.ref D)]) H { s with heap := h₁, toks := s.toks + (ps.zip us).length } := NdefX.inv_startN S.ns hr.hd e0 hl r C1 hns kp
  obtain ⟨te, t, a, C, pe, pss, hv0, hS, ha, hq⟩ := hbody Fn A outer s H vs Q E rfl rfl (hr.deeper _) hsp
  have hσ : (NdefX.startF N vs [some (.ref D)])[0]? = some (some (.ref a)) := by
    unfold NdefX.startF
    have h0 : 0 < vs.length := (List.getElem?_eq_some_iff.mp hv0).1
    rw [List.getElem?_append_left (by rw [List.length_map]; exact h0), List.getElem?_map, hv0]
    rfl
  rw [hb]
  refine ks_wpAt_execs_cons (ks_wpAt_mono (sup_stmt (X := NdefX.ncx CX P w K mg base N Fn f A outer s H E) (qual := qual) (scope := defScope st) (L := s.heap.objs.size) I rfl S.sup (S.ns.frk _ (List.mem_singleton.mpr rfl)) lk rfl hp hself hloc hσ lkC rfl hvs hfile F.top F.sup lkc rfl F.cd F.any hS pe ha hq
    (by unfold interactive; rw [show (NdefX.ncx CX P w K mg base N Fn f A outer s H E).env.scope.kind = .function from S.ns.kind]; rfl) (hsw _ rfl) (hst _) (hc _)) (fun fl s' hh => ?_) fun _ _ z => z)
  obtain ⟨rfl, H1, I1, q1⟩ := hh
  refine wpAt_of_wpAny (wpAny_mono (pss.run [] s' _ H1 _ I1 q1) (fun fl s2 hs => ?_) fun _ _ z => z)
  have fin : ∀ {σ' : L2.St} {H' : Hp} {v : V} {u : Value}, Inv (NdefX.ncx CX P w K mg base N Fn f A outer s H E) [] σ' H' s2 → RelV v u → Q v H' → CE outer P w H s Q u s2 :=
    fun {σ' H' v u} J rv q => ⟨v, H', J.os, J.bare, J.base, J.hok, rv, q⟩
  cases fl with
  | ret u =>
    obtain ⟨v, σ', H', J, rv, q⟩ := hs
    exact fin J rv q
  | next =>
    obtain ⟨σ', H', J, q⟩ := hs
    exact fin (v := V.non) (u := Value.none) J rfl q
  | brk =>
    obtain ⟨_, _, _, q⟩ := hs
    exact q.elim
  | cont =>
    obtain ⟨_, _, _, q⟩ := hs
    exact q.elim
end
end Yd
namespace Yd
open PySem L2
/-! ### the errors: a text, then the fields -/
/-- a part of a text that is short -/
def Short (σ : St) (H : Hp) (t : TE) : Prop := ∃ y : Str, y.length ≤ 100 ∧ ∀ Q : VK, Q (.str y) H → t σ H Q
theorem short_c {σ : St} {H : Hp} {x : Str} (h : x.length ≤ 100 := by decide +kernel) : Short σ H (tC (.str x)) := ⟨x, h, fun _ q => q⟩
theorem short_v {σ : St} {H : Hp} {i : Nat} {x : Str} (e : σ[i]? = some (some (.str x))) (h : x.length ≤ 100) : Short σ H (tFmt (tVar i)) :=
  ⟨x, h, fun _ q => ⟨_, e, .inl ⟨x, rfl, Nat.le_trans h (by decide), q⟩⟩⟩
theorem js_short {σ : St} {H : Hp} {Q : Str → Hp → Prop} (hq : ∀ out, Q out H) : ∀ (ts : List TE) (acc : Str), (∀ t ∈ ts, Short σ H t) → acc.length + 100 * ts.length ≤ 10000 → tJs ts acc σ H Q
  | [], acc, _, _ => hq acc
  | t :: ts, acc, h, hl => by
    obtain ⟨y, hy, ht⟩ := h t (List.mem_cons_self ..)
    rw [List.length_cons] at hl
    have e : (acc ++ y).length = acc.length + y.length := len_app acc y
    refine ht _ ⟨y, rfl, ?_, js_short hq ts (acc ++ y) (fun u hu => h u (List.mem_cons_of_mem _ hu)) (by omega)⟩
    exact Nat.le_trans (show (acc ++ y).length ≤ 10000 by omega) (by decide)
/-- what an error's __init__ promises: fs, the fields, the last one stored first -/
def spErr (C : Addr) (n : Nat) (ok : List V → Prop) (fs : List V → List (Str × V)) : Sp := fun vs H Q _ => ∃ (a : Addr) (us : List V), vs = .ref a :: us ∧ us.length = n ∧ ok us ∧ H a = some (exo a C none) ∧
  ∀ d H', H d = none → d ≠ a → H' a = some (exo a C (some d)) → H' d = some (exd d (fs us)) → (∀ b, b ≠ a → b ≠ d → H' b = H b) → Q .non H'
def isTxt (v : V) : Prop := ∃ x : Str, v = .str x ∧ x.length ≤ 100
end Yd
namespace Yd
open PySem L2
section
variable {P : Program} {w : World} {K : PySem.W.Frag} {mg : Str → Option Value} {base : Heap} {CX : CXT}
theorem scRepeatedInit : SupScope ["self", "name", "__class__"] ["self", "name"] (defScope sRepeatedInit) := ⟨NdefX.nscope_by (by decide +kernel), rfl⟩
def fsRepeated : List V → List (Str × V)
  | [v0] => [("name", v0)]
  | _ => []
def okRepeated : List V → Prop
  | [v0] => isTxt v0
  | _ => False
theorem ok_RepeatedInit {f D cc : Addr} {fd : FuncData} (F : SupFn P K mg "__init__" "Repeated.__init__" sRepeatedInit f D cc fd) (S : SupC K D D) (n0 : PySem.W.findIn K (.ref D) "name" = some none) : FnOk P w K mg base CX 1 f fd ["self", "name"] (spErr D 1 okRepeated fsRepeated) := by
  refine fn_sup F scRepeatedInit rfl rfl rfl rfl (fun vs H Q E h => ?_) (fun _ _ => rfl) (fun _ => rfl) (fun _ => rfl) (fun Fn A outer s H vs Q E hsc hcl hr h => ?_)
  · obtain ⟨a, us, rfl, hl, _⟩ := h
    rw [List.length_cons, hl]
    rfl
  · obtain ⟨a, us, rfl, hl, ok, ha, k⟩ := h
    obtain ⟨nm, ql, pr, bd, scp, cl, cdx⟩ := Fn
    simp only at hsc hcl
    subst hsc hcl
    match us, hl, ok, k with
    | [v0], _, ⟨x0, e0, l0⟩, k =>
      subst e0
      refine ⟨_, _, a, D, pe_joined (PJ.cons pe_str (PJ.cons (pe_fmt (pv 1)) (PJ.cons pe_str PJ.nil))), (pss_one (ps_ost (pv 0) (pv 1))), rfl, S, ha, ?_⟩
      refine js_short (fun out => ?_) _ _ (fun t ht => ?_) (by decide)
      rotate_left
      · simp only [List.mem_cons, List.not_mem_nil, or_false] at ht
        rcases ht with rfl | rfl | rfl
        · exact short_c
        · exact short_v rfl l0
        · exact short_c
      refine ⟨ha, ?_⟩
      refine ⟨_, rfl, _, rfl, a, D, rfl, S.ox, n0, .inl ⟨ha, fun dx hd hda => ?_⟩⟩
      refine k dx _ hd hda upd_same (by rw [upd_ne hda]; exact upd_same) fun b hb1 hb2 => ?_
      rw [upd_ne hb1, upd_ne hb2]
theorem scUnknownInit : SupScope ["self", "name", "__class__"] ["self", "name"] (defScope sUnknownInit) := ⟨NdefX.nscope_by (by decide +kernel), rfl⟩
def fsUnknown : List V → List (Str × V)
  | [v0] => [("name", v0)]
  | _ => []
def okUnknown : List V → Prop
  | [v0] => isTxt v0
  | _ => False
theorem ok_UnknownInit {f D cc : Addr} {fd : FuncData} (F : SupFn P K mg "__init__" "Unknown.__init__" sUnknownInit f D cc fd) (S : SupC K D D) (n0 : PySem.W.findIn K (.ref D) "name" = some none) : FnOk P w K mg base CX 1 f fd ["self", "name"] (spErr D 1 okUnknown fsUnknown) := by
  refine fn_sup F scUnknownInit rfl rfl rfl rfl (fun vs H Q E h => ?_) (fun _ _ => rfl) (fun _ => rfl) (fun _ => rfl) (fun Fn A outer s H vs Q E hsc hcl hr h => ?_)
  · obtain ⟨a, us, rfl, hl, _⟩ := h
    rw [List.length_cons, hl]
    rfl
  · obtain ⟨a, us, rfl, hl, ok, ha, k⟩ := h
    obtain ⟨nm, ql, pr, bd, scp, cl, cdx⟩ := Fn
    simp only at hsc hcl
    subst hsc hcl
    match us, hl, ok, k with
    | [v0], _, ⟨x0, e0, l0⟩, k =>
      subst e0
      refine ⟨_, _, a, D, pe_joined (PJ.cons pe_str (PJ.cons (pe_fmt (pv 1)) (PJ.cons pe_str PJ.nil))), (pss_one (ps_ost (pv 0) (pv 1))), rfl, S, ha, ?_⟩
      refine js_short (fun out => ?_) _ _ (fun t ht => ?_) (by decide)
      rotate_left
      · simp only [List.mem_cons, List.not_mem_nil, or_false] at ht
        rcases ht with rfl | rfl | rfl
        · exact short_c
        · exact short_v rfl l0
        · exact short_c
      refine ⟨ha, ?_⟩
      refine ⟨_, rfl, _, rfl, a, D, rfl, S.ox, n0, .inl ⟨ha, fun dx hd hda => ?_⟩⟩
      refine k dx _ hd hda upd_same (by rw [upd_ne hda]; exact upd_same) fun b hb1 hb2 => ?_
      rw [upd_ne hb1, upd_ne hb2]
end
end Yd
namespace Yd
open PySem L2
/-! ### tuple(d) of a dict: its keys -/
section
open PySem.W PySem.Calls PyProof.Rows
variable {prog : Program} {w : World} {A : Around} {E : Value → Shared → Prop} {s : Shared} {T : String} {r d : Addr} {n : Nat} {P : Nat → Value → Prop} {OK : Heap → Prop}
/-- what is collected of such a thing -/
theorem collect_src {Q : List Value → Shared → Prop} (Z : KdlSrc prog w T r d n P OK) (hh : A.handled = none) (hok : OK s.heap) (hn : n ≤ sizeLine)
    (hQ : ∀ (h' : Heap) (tk : Nat) (acc : Array Value), (∀ b o, s.heap.get? b = some o → h'.get? b = some o) → ItemsOf P acc n → Q acc.toList { s with heap := h', toks := tk }) :
    wpAny (model prog w) A (collect (.ref r)) Q E s := by
  have new : (s.heap.push { cls := .type "list", data := .seq ([] : List Value).toArray }).get? s.heap.objs.size = some { cls := .type "list", data := .seq #[] 0 } := Heap.get?_push_size _ rfl
  have up : ∀ b o, s.heap.get? b = some o → (s.heap.push { cls := .type "list", data := .seq ([] : List Value).toArray }).get? b = some o := fun b o e => Heap.get?_push_of_some _ e
  have lt := Z.there _ hok
  unfold collect
  refine wpAny_bind (wpAny_runValue (codeAny_builtin F.entry_proto_collect ?_))
  rw [Around.under_plainId F.plain_proto_collect _]
  refine wpAny_bind (m := newList []) (wpAny_newObj_type (wpAny_pure ⟨plainId_quiet F.plain_list_iadd _, codeAny_builtin F.entry_list_iadd ?_⟩))
  rw [Around.under_plainId F.plain_list_iadd _]
  refine wpAny_mono (kdl_extend (A := A) (s := { s with heap := s.heap.push { cls := .type "list", data := .seq ([] : List Value).toArray } })
    (R := fun rr s' => rr = .ok (.ret (.ref s.heap.objs.size)) ∧ ∃ (h' : Heap) (tk : Nat) (acc : Array Value) (c' : Nat), s' = { s with heap := h', toks := tk } ∧ (∀ b o, s.heap.get? b = some o → h'.get? b = some o) ∧
      h'.get? s.heap.objs.size = some { cls := .type "list", dict := none, data := .seq acc c', slots := #[] } ∧ ItemsOf P acc n)
    Z hh (Z.keep _ _ hok fun b _ o e => up b o e) s.heap.objs.size (Nat.ne_of_gt lt.1) (Nat.ne_of_gt lt.2) (.ref s.heap.objs.size) 0 new
    (fun h' tk acc c' k e hi => ⟨rfl, h', tk, acc, c', rfl, fun b o q => k b o (Nat.ne_of_lt (Heap.lt_size q)) (up b o q), e, hi⟩) hn) (fun fin s' z => ?_) fun e s' z => absurd z.1 (by simp)
  have done : ∀ {rr : Result} {s2 : Shared}, (rr = .ok (.ret (.ref s.heap.objs.size)) ∧ ∃ (h' : Heap) (tk : Nat) (acc : Array Value) (c' : Nat), s2 = { s with heap := h', toks := tk } ∧ (∀ b o, s.heap.get? b = some o → h'.get? b = some o) ∧
      h'.get? s.heap.objs.size = some { cls := .type "list", dict := none, data := .seq acc c', slots := #[] } ∧ ItemsOf P acc n) → ∃ h' tk acc c', rr = .ok (.ret (.ref s.heap.objs.size)) ∧ s2 = { s with heap := h', toks := tk } ∧
      h'.get? s.heap.objs.size = some { cls := .type "list", dict := none, data := .seq acc c', slots := #[] } ∧ Q acc.toList { s with heap := h', toks := tk } := fun ⟨e1, h', tk, acc, c', e2, k, e3, hi⟩ => ⟨h', tk, acc, c', e1, e2, e3, hQ h' tk acc k hi⟩
  cases fin with
  | done f =>
    obtain ⟨h', tk, acc, c', e, rfl, hS, q⟩ := done z
    cases e
    exact wpAny_bind (m := load s.heap.objs.size) (wpAny_load hS (wpAny_pure q))
  | again c2 =>
    refine ⟨z.1, codeAny_mono z.2 fun rr s'' y => ?_⟩
    obtain ⟨h', tk, acc, c', rfl, rfl, hS, q⟩ := done y
    exact wpAny_bind (m := load s.heap.objs.size) (wpAny_load hS (wpAny_pure q))
theorem tuple_src {Q : Value → Shared → Prop} (Z : KdlSrc prog w T r d n P OK) (hh : A.handled = none) (hok : OK s.heap) (hn : n ≤ sizeLine)
    (hQ : ∀ (h' : Heap) (tk : Nat) (acc : Array Value), (∀ b o, s.heap.get? b = some o → h'.get? b = some o) → ItemsOf P acc n → Q (.ref h'.objs.size) { s with heap := h'.push { cls := .type "tuple", data := .seq acc }, toks := tk }) :
    wpAny (model prog w) A (call (.type "tuple") [.ref r]) Q E s := by
  refine callType_codes (Q₁ := fun obj s₁ => s₁.TypeIs obj "tuple" ∧ Q obj s₁) F.called_tuple (F.typeCall_tuple_1 _) F.entry_object_init ?_ fun obj s₁ h₁ =>
    ⟨h₁.1, F.args_object_init_2 obj _, object_init_meets F.called_tuple.init.lookup F.called_tuple.made (by decide) prog w A.in1 _ s₁ ⟨h₁.1, rfl, h₁.2⟩⟩
  refine codeAny_of_tree (wpAny_bind (wpAny_of_eq (F.newCall_tuple_1 _) (wpAny_pure ⟨plainId_quiet F.plain_tuple_new _, codeAny_builtin F.entry_tuple_new ?_⟩)))
  rw [Around.under_plainId F.plain_tuple_new _]
  have f1 := sub_tuple_self
  have f2 := init_tuple_lookup
  have f3 := madeHere_tuple
  have f4 := Z.type s hok
  have f5 := Z.notTuple
  have f6 := Z.notList
  have hz : A.in1.in1.handled = none := hh
  wp_walk using wpAny_typeOf f4, collect_src (A := A.in1.in1) Z hz hok hn
  intro h' tk acc hk hacc
  have sz : acc.toList.toArray.size ≤ sizeLine := by rw [Array.toArray_toList, hacc.1]; exact hn
  have back : acc.toList.toArray = acc := by simp
  refine wpAny_bind (m := Builtin.Tuple.tupleExact acc.toList.toArray) ?_
  unfold Builtin.Tuple.tupleExact
  refine wpAny_newObj_type ?k1 ?k2
  case k2 => exact sz
  refine wpAny_pure ?_
  rw [back]
  exact ⟨⟨_, Heap.get?_push_size _ rfl, rfl⟩, hQ h' tk acc hk hacc⟩
end
section
open PySem.W PySem.Calls PyProof.Rows
variable {X : Cx}
/-- tuple(d), d with keys that are ints and texts -/
theorem call_tupleD (hc : X.calm = true) : CallR X (.type "tuple") (fun xs H Q => ∃ (a : Addr) (kvs : List (Key × V)), xs = [.ref a] ∧ Rd H a (.dK kvs) ∧ ∀ p, H p = none → Q (.ref p) (upd H p (.tup (kvs.map fun kv => kV kv.1)))) := by
  rintro pins s σ H xs us Q I r ⟨a, kvs, rfl, hd, q⟩
  obtain ⟨u, rfl, rx⟩ := vals1 r
  cases rx
  obtain ⟨z, lo, vs, rel, dd⟩ := dk_rd I.hok hd
  obtain ⟨ep, hat⟩ := dd.dictAt
  have ek : (kvs.map fun kv => kV kv.1) = vs.map fun p => kV p.1 := by
    have e := congrArg (List.map kV) rel.keys
    rw [List.map_map, List.map_map] at e
    exact e
  have hlen : vs.length ≤ sizeLine := by rw [← rel.length]; exact z
  refine tuple_src (kdl_dict (knd := mixKind X.prog X.w) (kvs := vs) (ep := ep) lo) (I.ok.hd hc) hat hlen fun h' tk acc hk hacc => ?_
  have hv : Vals (vs.map fun p => kV p.1) acc.toList := keys_at (by rw [Array.length_toList]; exact hacc.1) fun j v e => hacc.2 j v (by rw [← Array.getElem?_toList]; exact e)
  have I1 : Inv X pins σ H { s with heap := h', toks := tk } := I.kept hk
  refine ⟨.ref h'.objs.size, upd H h'.objs.size (.tup (kvs.map fun kv => kV kv.1)), I1.laid (t' := tk) (fun b o e => Heap.get?_push_of_some _ e) (Nat.le_refl _) ?_, rfl, q _ (I1.hok.fresh (Nat.le_refl _))⟩
  refine ⟨by rw [List.length_map]; exact z, acc.toList, by rw [ek]; exact hv, ?_⟩
  have e : acc = acc.toList.toArray := by simp
  rw [e]
  exact IsTup.new _ _
end
end Yd
namespace Yd
open PySem L2
/-! ### a def read off its class: C.m(..) -/
section
open PySem.W
variable {X : Cx} {CX : CXT} {k : Nat} {f C : Addr} {mc : Value} {fd : FuncData} {ps : List Str} {sp : Sp} {dvs : List V} {ds : List Value} {E : XK} {m : Str} {pos apos : Pos} {e o : Expr} {es : List Expr} {ta : TE} {t : TA} {pl : Sem Bool}
def tCfun (C : Addr) (sp : Sp) (dvs : List V) (E : XK) (ta : TE) (t : TA) : TE := fun σ H Q => ta σ H fun x H1 => x = .ref C ∧ t σ H1 fun vs H2 => sp (vs ++ dvs) H2 Q E
theorem pe_cfun (he : PE X o ta) (r : ClX.CRead X.K C mc) (c : findCls X.K (.ref C) mc m = some (.val (.ref f))) (F : FnOk X.prog X.w X.K X.mg X.base CX k f fd ps sp) (hr : Room k X.A) (hk : keepIn X.K (.ref f) = true) (hb : Binds X.K fd ps ds) (hd : Vals dvs ds) (hx : Passes CX X E)
    (ha : PA X (e :: es) t) (hst : starEach (e :: es) X.env = (false, eval e X.env) :: starEach es X.env := by rfl) (hpl : (backTo pos (starEach es X.env)).any (·.1) = false := by rfl)
    (ht : eval (.Call (.Attribute o m apos) (e :: es) [] pos) X.env = (do
      let ov ← eval o X.env
      standAt apos.atName
      let (f, first) ← holding [ov] (getMethod ov m pl)
      callWith pos f first (backTo pos (starEach (e :: es) X.env)) (backToKw pos (keywordEach [] X.env))) := by rfl) :
    PE X (.Call (.Attribute o m apos) (e :: es) [] pos) (tCfun C sp dvs E ta t) := by
  refine ⟨fun pins s σ H Q I h => methodCall_KW (thn (he.run pins s σ H _ I h) fun u s1 ⟨x, H1, I1, rx, ex, q⟩ => ?_) ht⟩
  subst ex
  obtain rfl : u = Value.ref C := rx
  refine method_cls I1.kIn r.ga (cls_value I1.kIn r.rd c rfl ?_)
  have I2 := I1.tok (s1.toks + 1)
  exact callWith_K (first := []) (h₀ := X.base) I.ok.mod.kin hk (thn (ha.run pos pins _ σ H1 _ I2 q) fun us s2 ⟨vs, H2, I3, rv, q2⟩ => ⟨I3.kIn, run_fn F hr hb hd hx I3 rv q2⟩) hst hpl
end
/-! ### o.m(..) within a try -/
section
variable {X : Cx} {CX : CXT} {k : Nat} {f C : Addr} {fd : FuncData} {ps : List Str} {sp : Sp} {E : St → XK} {m : Str} {pos apos : Pos} {e o : Expr} {es : List Expr} {ta : TE} {t : TA} {pl : Sem Bool}
def tMethE (C : Addr) (m : Str) (sp : Sp) (E : St → XK) (ta : TE) (t : TA) : TE := fun σ H Q => ta σ H fun x H1 => ∃ a dx fs, x = .ref a ∧ H1 a = some (.ins C dx fs) ∧ fs.lookup m = none ∧ t σ H1 fun vs H2 => sp (x :: vs) H2 Q (E σ)
theorem pe_methE (he : PE X o ta) (c : Cls X.K C) (hm : Meth X.K C m f) (F : FnOk X.prog X.w X.K X.mg X.base CX k f fd ps sp) (hr : Room k X.A) (hb : Binds X.K fd ps []) (hx : ∀ σ, PassesAt CX X σ (E σ)) (ha : PA X (e :: es) t)
    (hst : starEach (e :: es) X.env = (false, eval e X.env) :: starEach es X.env := by rfl) (hpl : (backTo pos (starEach es X.env)).any (·.1) = false := by rfl)
    (ht : eval (.Call (.Attribute o m apos) (e :: es) [] pos) X.env = (do
      let ov ← eval o X.env
      standAt apos.atName
      let (f, first) ← holding [ov] (getMethod ov m pl)
      callWith pos f first (backTo pos (starEach (e :: es) X.env)) (backToKw pos (keywordEach [] X.env))) := by rfl) :
    PE X (.Call (.Attribute o m apos) (e :: es) [] pos) (tMethE C m sp E ta t) := by
  refine ⟨fun pins s σ H Q I h => PySem.W.methodCall_KW (thn (he.run pins s σ H _ I h) fun u s1 ⟨x, H1, I1, rx, a, dx, fs, ex, ea, l, q⟩ => ?_) ht⟩
  subst ex
  obtain rfl : u = Value.ref a := rx
  refine getmeth_ok I1 ea c hm l ?_
  exact PySem.W.callWith_K (first := [.ref a]) (h₀ := X.base) I.ok.mod.kin hm.kp (thn (ha.run pos pins s1 σ H1 _ I1 q) fun us s2 ⟨vs, H2, I2, r, q2⟩ => ⟨I2.kIn, run_fnS (us := .ref a :: us) (vs := .ref a :: vs) F hr hb (hx σ) I2 (.cons rfl r) q2⟩) hst hpl
end
end Yd
namespace Yd
open PySem L2
/-! ### the errors as they are raised; the steps of a kind in the heap -/
/-- an error class as the top has made it, with what its __init__ promises -/
structure ErrOk (P : Program) (w : World) (K : PySem.W.Frag) (mg : Str → Option Value) (base : Heap) (x : Str) (C : Addr) (n : Nat) (ok : List V → Prop) (fs : List V → List (Str × V)) : Prop where
  g : mg x = some (.ref C)
  ox : OexC K C
  ini : ∃ fI fd ps, PySem.W.findIn K (.ref C) "__init__" = some (some (.ref fI)) ∧ PySem.W.typeIn K (.ref fI) = some (.type "function") ∧ FnOk P w K mg base CX0 1 fI fd ps (spErr C n ok fs) ∧ Binds K fd ps []
/-- what a raised error asks: its class, its fields, its own new dict -/
def Raised (C : Addr) (us : List V) (fs : List V → List (Str × V)) (H : Hp) (E : XK) : Prop := ∀ d H', Same H H' → H d = none → H' d = some (.xd (fs us)) → E (.ref C) (some d) H'
section
variable {X : Cx} {x : Str} {C : Addr} {n : Nat} {ok : List V → Prop} {fs : List V → List (Str × V)} {e : Expr} {es : List Expr} {ta : TA} {p pos : Pos}
theorem pmk_err (O : ErrOk X.prog X.w X.K X.mg X.base x C n ok fs) (hr : Room 2 X.A) (hg : Gl X x) (ha : PA X (e :: es) ta)
    (hdb : (x == ("__debug__" : Str)) = false := by decide) (he : starEach (e :: es) X.env = (false, eval e X.env) :: starEach es X.env := by rfl) (hpl : (backTo pos (starEach es X.env)).any (·.1) = false := by rfl) :
    PMk X (.Call (.Name x p) (e :: es) [] pos) (tMkO C (spErr C n ok fs) [] ta) := by
  obtain ⟨fI, fd, ps, i1, i2, F, b⟩ := O.ini
  exact pmk_oex O.ox i1 i2 F hr b .nil pass0 hg O.g ha hdb he hpl
/-- the reading of a raise, answered -/
theorem err_read {us : List V} {H1 : Hp} {Q : XK} (hl : us.length = n) (hn : n ≤ 1000) (hok : ok us) (hR : Raised C us fs H1 Q) : us.length ≤ 1000 ∧ ∀ a, H1 a = none → spErr C n ok fs (.ref a :: (us ++ [])) (upd H1 a (exo a C none))
      (fun v H2 => v = .non ∧ ∃ (d : Addr) (gs : List (Str × V)), H2 a = some (exo a C (some d)) ∧ H2 d = some (exd d gs) ∧ H1 d = none ∧ Q (.ref C) (some d) (upd (del H2 a) d (.xd gs))) (fun _ _ _ => False) := by
  refine ⟨by omega, fun a ha => ⟨a, us, by rw [List.append_nil], hl, hok, upd_same, fun d H' hd hda h1 h2 h3 => ?_⟩⟩
  have hd1 : H1 d = none := by rw [upd_ne hda] at hd; exact hd
  refine ⟨rfl, d, fs us, h1, h2, hd1, hR d _ (fun b o q => ?_) hd1 upd_same⟩
  have nb : b ≠ a := ne_of_none q ha
  have nd : b ≠ d := ne_of_none q hd1
  rw [upd_ne nd, del_ne nb, h3 b nb nd, upd_ne nb]
  exact q
end

/-! ### dicts from texts to addresses -/
def dP (ss : List Str) (es : List Addr) : List (Key × V) := (ss.zip es).map fun p => (Sum.inr p.1, V.ref p.2)
theorem dP_nil {es : List Addr} : dP [] es = [] := rfl
theorem dP_cons {s : Str} {ss : List Str} {e : Addr} {es : List Addr} : dP (s :: ss) (e :: es) = (Sum.inr s, V.ref e) :: dP ss es := rfl
theorem dP_none : ∀ {ss : List Str} {es : List Addr} {s : Str}, s ∉ ss → valV (dP ss es) (Sum.inr s : Key) = none
  | [], _, _, _ => rfl
  | _ :: _, [], _, _ => rfl
  | a :: r, e :: es, s, h => by
    have h1 : ¬ (Sum.inr a : Key) = Sum.inr s := fun z => h (by injection z with z; rw [z]; exact List.mem_cons_self ..)
    rw [dP_cons, valV_neg h1]
    exact dP_none fun m => h (List.mem_cons_of_mem _ m)
theorem dP_some : ∀ {ss : List Str} {es : List Addr} {i : Nat} {s : Str} {e : Addr}, ss.Nodup → ss[i]? = some s → es[i]? = some e → valV (dP ss es) (Sum.inr s : Key) = some (.ref e)
  | [], _, _, _, _, _, h, _ => by simp at h
  | _ :: _, [], _, _, _, _, _, h => by simp at h
  | a :: r, b :: es, 0, s, e, _, h1, h2 => by
    simp at h1 h2
    subst h1 h2
    exact valV_pos rfl
  | a :: r, b :: es, i + 1, s, e, nd, h1, h2 => by
    have hm : s ∈ r := List.mem_of_getElem? (by simpa using h1)
    have n1 : ¬ (Sum.inr a : Key) = Sum.inr s := fun z => (List.nodup_cons.mp nd).1 (by injection z with z; rw [z]; exact hm)
    rw [dP_cons, valV_neg n1]
    exact dP_some (i := i) (List.nodup_cons.mp nd).2 (by simpa using h1) (by simpa using h2)
theorem dP_snoc {s : Str} {e : Addr} : ∀ {ss : List Str} {es : List Addr}, ss.length = es.length → dP (ss ++ [s]) (es ++ [e]) = dP ss es ++ [(Sum.inr s, V.ref e)]
  | [], [], _ => rfl
  | [], _ :: _, h => by simp at h
  | _ :: _, [], h => by simp at h
  | a :: r, b :: es, h => by
    show (Sum.inr a, V.ref b) :: dP (r ++ [s]) (es ++ [e]) = _
    rw [dP_snoc (by simpa using h)]
    rfl
theorem dP_len : ∀ {ss : List Str} {es : List Addr}, ss.length = es.length → (dP ss es).length = ss.length
  | [], [], _ => rfl
  | [], _ :: _, h => by simp at h
  | _ :: _, [], h => by simp at h
  | a :: r, b :: es, h => by rw [dP_cons, List.length_cons, List.length_cons, dP_len (by simpa using h)]
theorem dP_is {ss : List Str} {es : List Addr} {s : Str} (nd : ss.Nodup) (hl : ss.length = es.length) : (valV (dP ss es) (Sum.inr s : Key)).isSome = decide (s ∈ ss) := by
  by_cases h : s ∈ ss
  · obtain ⟨i, hi⟩ := List.mem_iff_getElem?.mp h
    have hj : i < es.length := by rw [← hl]; exact (List.getElem?_eq_some_iff.mp hi).1
    rw [dP_some nd hi (List.getElem?_eq_getElem hj), decide_eq_true h]
    rfl
  · rw [dP_none h, decide_eq_false h]
    rfl
theorem dP_key {ss : List Str} {es : List Addr} {i : Nat} {k : Key} {v : V} (hl : ss.length = es.length) (h : (dP ss es)[i]? = some (k, v)) : ∃ s e, ss[i]? = some s ∧ es[i]? = some e ∧ k = Sum.inr s ∧ v = .ref e := by
  have hi : i < ss.length := by rw [← dP_len hl]; exact (List.getElem?_eq_some_iff.mp h).1
  have hj : i < es.length := by omega
  unfold dP at h
  have ez : (ss.zip es)[i]? = some (ss[i], es[i]) := List.getElem?_zip_eq_some.mpr ⟨List.getElem?_eq_getElem hi, List.getElem?_eq_getElem hj⟩
  rw [List.getElem?_map, ez] at h
  have h := Option.some.inj h
  injection h with h1 h2
  exact ⟨_, _, List.getElem?_eq_getElem hi, List.getElem?_eq_getElem hj, h1.symm, h2.symm⟩
theorem dP_keys {ss : List Str} {es : List Addr} (hl : ss.length = es.length) : ((dP ss es).map fun kv => kV kv.1) = ss.map V.str := by
  unfold dP
  rw [List.map_map]
  have e : ((fun kv : Key × V => kV kv.1) ∘ fun p : Str × Addr => ((Sum.inr p.1 : Key), V.ref p.2)) = V.str ∘ Prod.fst := rfl
  rw [e, ← List.map_map, List.map_fst_zip (by omega)]

/-- the steps of a kind: at ds the dict of its standings ss, at es the dicts of the standings to which R leads, at most m in each -/
structure StepsAt (H : Hp) (ds : Addr) (ss : List Str) (es : List Addr) (R : Str → Str → Bool) (m : Nat) : Prop where
  d : H ds = some (.dK (dP ss es))
  len : ss.length = es.length
  nd : ss.Nodup
  ed : es.Nodup
  no : ds ∉ es
  at_ : ∀ (i : Nat) (e : Addr) (s : Str), es[i]? = some e → ss[i]? = some s → ∃ kvs : List (Key × V), H e = some (.dK kvs) ∧ kvs.length ≤ m ∧ ∀ t : Str, (valV kvs (Sum.inr t)).isSome = R s t
theorem StepsAt.keep {H H' : Hp} {ds : Addr} {ss : List Str} {es : List Addr} {R : Str → Str → Bool} {m : Nat} (S : StepsAt H ds ss es R m) (k : ∀ b kvs, H b = some (.dK kvs) → H' b = some (.dK kvs)) : StepsAt H' ds ss es R m :=
  ⟨k _ _ S.d, S.len, S.nd, S.ed, S.no, fun i e s h1 h2 => let ⟨kvs, h, r⟩ := S.at_ i e s h1 h2; ⟨kvs, k _ _ h, r⟩⟩
/-- an object of the class at C with these steps -/
def KindAt (H : Hp) (a C : Addr) (ss : List Str) (R : Str → Str → Bool) (m : Nat) : Prop := ∃ dx fs ds es, H a = some (.ins C dx fs) ∧ fs.lookup ("_steps" : Str) = some (.ref ds) ∧ fs.lookup ("allow" : Str) = none ∧ fs.lookup ("standings" : Str) = none ∧ fs.lookup ("steps_from" : Str) = none ∧ StepsAt H ds ss es R m
/-- nothing that isn't a dict has changed -/
def NoD (H H' : Hp) : Prop := ∀ b o, H b = some o → (∀ kvs, o ≠ .dK kvs) → H' b = some o
/-- what a class of kinds must have -/
structure KindC (K : PySem.W.Frag) (C fA fS fF : Addr) : Prop where
  cls : Cls K C
  nS : NoAttr K C "_steps"
  mA : Meth K C "allow" fA
  mS : Meth K C "standings" fS
  mF : Meth K C "steps_from" fF
end Yd
namespace Yd
open PySem L2
/-! ### the class Steps -/
def spStepsInit (K : PySem.W.Frag) (CR : Addr) : Sp := fun vs H Q E => ∃ (a C dx : Addr) (fs : List (Str × V)) (l : Addr) (ss : List Str), vs = [.ref a, .ref l] ∧ H a = some (.ins C dx fs) ∧ fs.length ≤ 900 ∧ Cls K C ∧ NoAttr K C "_steps" ∧
  SqL K H l (ss.map V.str) ∧ ss.length ≤ 1000 ∧ (∀ s ∈ ss, s.length ≤ 100) ∧
  (∀ (i : Nat) (s : Str), ss[i]? = some s → s ∈ ss.take i → (ss.take i).Nodup → ∀ d H', Gro a H H' → H d = none → H' d = some (.xd (fsRepeated [.str s])) → E (.ref CR) (some d) H') ∧
  (ss.Nodup → ∀ ds es H', H ds = none → (∀ e ∈ es, H e = none) → Gro a H H' → H' a = some (.ins C dx (putF "_steps" (.ref ds) fs)) → StepsAt H' ds ss es (fun _ _ => false) 0 → Q .non H')
section
variable {P : Program} {w : World} {K : PySem.W.Frag} {mg : Str → Option Value} {base : Heap}
theorem take_more {α : Type} {l : List α} {i : Nat} {x : α} (h : l[i]? = some x) : l.take (i + 1) = l.take i ++ [x] := by
  rw [List.take_add_one, h]
  rfl
theorem get_strs {ns : List Str} {i : Nat} {x : V} (h : (ns.map V.str)[i]? = some x) : ∃ z, ns[i]? = some z ∧ x = .str z := by
  rw [List.getElem?_map] at h
  cases e : ns[i]? with
  | none => rw [e] at h; cases h
  | some z => rw [e] at h; exact ⟨z, rfl, (Option.some.inj h).symm⟩
theorem scStepsInit : FnScope ["self", "standings", "standing"] ["self", "standings"] (defScope sStepsInit) := ⟨rfl, rfl, rfl, by decide +kernel, rfl, by decide +kernel, by decide +kernel⟩
theorem ok_stepsInit {f CR : Addr} {fd : FuncData} (F : Fun K "__init__" "Steps.__init__" sStepsInit f fd) (O : ErrOk P w K mg base "Repeated" CR 1 okRepeated fsRepeated) :
    FnOk P w K mg base (L2.CX P w) 3 f fd ["self", "standings"] (spStepsInit K CR) := by
  refine F.okX scStepsInit (fun vs H Q E h => ?_) (fun cdv A outer s H vs Q E hr h => ?_)
  · obtain ⟨a, C, dx, fs, l, ss, rfl, _⟩ := h
    rfl
  · obtain ⟨a, C, dx, fs, l, ss, rfl, ha, hfs, cls, nS, hl, hsl, hsh, kR, kN⟩ := h
    have hu := hu_of hr
    refine ⟨_, pss_cons (ps_fld (pv 0) pe_dnewK rfl)
      (pss_one (ps_for (passes_of rfl) rfl (pi_list (pv 1)) (pg_name (i := 2) scStepsInit.nd rfl (Or.inl rfl))
        (pss_cons (ps_if (pt_cmp (pc_din hu (pv 2) (pe_fld (pv 0) rfl))) (pss_one (ps_raise rfl (takes_of rfl rfl rfl rfl) (pmk_err O hr rfl (pa_cons (pv 2) pa_nil)))) pss_nil)
        (pss_one (ps_dput hu (pe_fld (pv 0) rfl) (pv 2) pe_dnewK rfl))))), ?_⟩
    -- self._steps = {}
    intro ds hds
    have nad : a ≠ ds := ne_of_none ha hds
    refine ⟨_, rfl, a, C, dx, fs, rfl, (by rw [upd_ne nad]; exact ha), cls, nS, by omega, ?_⟩
    generalize hH1 : upd (upd H ds (.dK [])) a (.ins C dx (putF "_steps" (.ref ds) fs)) = H1
    have g1 : Gro a H H1 := fun b o q n => by rw [← hH1, upd_ne n, upd_ne (ne_of_none q hds)]; exact q
    have e1 : H1 a = some (.ins C dx (putF "_steps" (.ref ds) fs)) := by rw [← hH1, upd_same]
    have d1 : H1 ds = some (.dK []) := by rw [← hH1, upd_ne nad.symm, upd_same]
    have hla : ∀ H' : Hp, Gro a H H' → SqL K H' l (ss.map V.str) := fun H' g => by
      rcases hl with (h | ⟨o, h⟩) | h
      · exact .inl (.inl (g _ _ h (ne_of h ha (by intro z; cases z))))
      · exact .inl (.inr ⟨o, g _ _ h (ne_of h ha (by intro z; cases z))⟩)
      · exact .inr h
    have lk : (putF "_steps" (.ref ds) fs).lookup ("_steps" : Str) = some (V.ref ds) := by rw [lookup_putF, if_pos rfl]
    refine ⟨_, rfl, l, rfl, ⟨_, hla _ g1⟩, for_list (K := K) (a := l) (xs := ss.map V.str)
      (fun i σ H' => ∃ (v : Option V) (es : List Addr), σ = [some (.ref a), some (.ref l), v] ∧ Gro a H H' ∧ H' a = some (.ins C dx (putF "_steps" (.ref ds) fs)) ∧ (∀ e ∈ es, H e = none) ∧ StepsAt H' ds (ss.take i) es (fun _ _ => false) 0)
      ⟨none, [], rfl, g1, e1, (fun e h => nomatch h), ⟨d1, rfl, List.nodup_nil, List.nodup_nil, (fun h => nomatch h), fun i e s h => by simp at h⟩⟩
      (fun i σ H' _ ⟨_, _, _, g, _⟩ => hla _ g) ?_ ?_⟩
    · rintro i y σ H' hi ⟨v, es, rfl, g, ea, hes, S⟩
      obtain ⟨z, hz, rfl⟩ := get_strs hi
      have hzl := hsh z (List.mem_of_getElem? hz)
      refine ⟨_, rfl, _, rfl, a, C, dx, _, _, rfl, ea, cls, nS, lk, ds, _, rfl, DGet.k (k := Sum.inr z) S.d, _, rfl, ?_⟩
      rw [dP_is S.nd S.len]
      refine ite2 (fun hm => ?_) (fun hm => ?_)
      · have hm := of_decide_eq_true hm
        refine ⟨_, rfl, err_read rfl (by decide) ⟨z, rfl, hzl⟩ fun d H2 s2 hd hx => ?_⟩
        exact kR i z hz hm S.nd d H2 (fun b o q n => s2 _ _ (g b o q n)) (by
          by_cases q : d = a
          · rw [q, ea] at hd; cases hd
          · exact g.free hd q) hx
      · have hm : z ∉ ss.take i := fun q => hm (decide_eq_true q)
        -- self._steps[standing] = {}
        intro e he
        have nea : a ≠ e := ne_of_none ea he
        have ned : ds ≠ e := ne_of_none S.d he
        refine ⟨_, rfl, a, C, dx, _, _, rfl, (by rw [upd_ne nea]; exact ea), cls, nS, lk, _, rfl, ds, _, rfl, DPut.k (k := Sum.inr z) (by rw [upd_ne ned]; exact S.d) (small1000 (by rw [dP_len S.len, List.length_take]; omega)), ?_⟩
        refine ⟨_, es ++ [e], rfl, fun b o q n => ?_, ?_, fun c hc => ?_, ?_⟩
        · have nb : b ≠ ds := by rintro rfl; rw [hds] at q; cases q
          rw [upd_ne nb, upd_ne (ne_of_none (g b o q n) he)]
          exact g b o q n
        · rw [upd_ne nad, upd_ne nea]; exact ea
        · rcases List.mem_append.mp hc with hc | hc
          · exact hes c hc
          · rw [List.mem_singleton.mp hc]
            exact g.free he nea.symm
        · have fresh : ∀ c ∈ es, c ≠ e := fun c hc => by
            obtain ⟨j, hj⟩ := List.mem_iff_getElem?.mp hc
            have hjl : j < (ss.take i).length := by rw [S.len]; exact (List.getElem?_eq_some_iff.mp hj).1
            obtain ⟨kvs, h, _⟩ := S.at_ j c _ hj (List.getElem?_eq_getElem hjl)
            exact ne_of_none h he
          refine ⟨?_, by rw [take_more hz, List.length_append, List.length_append, S.len]; rfl, ?_, ?_, ?_, ?_⟩
          · rw [upd_same, take_more hz, dP_snoc S.len, putK_new _ (dP_none hm)]
          · rw [take_more hz]; exact nd_snoc S.nd hm
          · exact nd_snoc S.ed fun m => fresh e m rfl
          · intro m
            rcases List.mem_append.mp m with m | m
            · exact S.no m
            · exact ned (List.mem_singleton.mp m)
          · intro j c q h1 h2
            by_cases hj : j < es.length
            · rw [List.getElem?_append_left hj] at h1
              have h2' : (ss.take i)[j]? = some q := by
                rw [take_more hz, List.getElem?_append_left (by rw [S.len]; exact hj)] at h2
                exact h2
              obtain ⟨kvs, h, r⟩ := S.at_ j c q h1 h2'
              have hc := List.mem_of_getElem? h1
              exact ⟨kvs, by rw [upd_ne (show c ≠ ds from fun q => S.no (by rw [← q]; exact hc)), upd_ne (fresh c hc)]; exact h, r⟩
            · rw [List.getElem?_append_right (by omega)] at h1
              have hj0 : j - es.length = 0 := by
                have := (List.getElem?_eq_some_iff.mp h1).1
                simp at this
                omega
              rw [hj0] at h1
              have hc : e = c := Option.some.inj h1
              subst hc
              exact ⟨[], by rw [upd_ne ned.symm, upd_same], by simp, fun t => rfl⟩
    · rintro σ H' ⟨v, es, rfl, g, ea, hes, S⟩
      rw [List.length_map, List.take_length] at S
      exact kN S.nd ds es H' hds hes g ea S
end
end Yd
namespace Yd
open PySem L2
/-! ### a dict comprehension over a list -/
theorem dc_list {K : PySem.W.Frag} {a : Addr} {xs : List V} {g : TG} {tt : TT} {tk tv : TE} {vs : List Nat} {σ : St} {H1 : Hp} {D : Addr} {Qd : Hp → Prop} (Pv : Nat → Hp → Prop) (h0 : Pv 0 (upd H1 D (.dK []))) (hl : ∀ i H, i ≤ xs.length → Pv i H → SqL K H a xs)
    (hs : ∀ i x H, xs[i]? = some x → Pv i H → g x (wipe σ vs) H fun σ2 H2 => wipe σ2 vs = wipe σ vs ∧ tt σ2 H2 fun b H3 =>
      if b = true then tk σ2 H3 fun y H4 => tv σ2 H4 fun z H5 => ∃ kvs k, y = kV k ∧ H5 D = some (.dK kvs) ∧ kvs.length < sizeLine ∧ Pv (i + 1) (upd H5 D (.dK (putK kvs k z))) else Pv (i + 1) H3) (hd : ∀ H, Pv xs.length H → Qd H) :
    ∃ W : Nat → Nat → Hp → Prop, (∃ m, W 0 m (upd H1 D (.dK []))) ∧ ∀ i m H, W i m H →
      ((Itl K a).stop i H ∧ Qd H) ∨ ((Itl K a).go i H ∧ ∃ Nx : Hp → Prop, (∀ H', Nx H' → ∃ m', m' < m ∧ W (i + 1) m' H') ∧ ∀ x H', (Itl K a).yld i H x H' → g x (wipe σ vs) H' fun σ2 H2 => wipe σ2 vs = wipe σ vs ∧ tt σ2 H2 fun b H3 =>
        if b = true then tk σ2 H3 fun y H4 => tv σ2 H4 fun z H5 => ∃ kvs k, y = kV k ∧ H5 D = some (.dK kvs) ∧ kvs.length < sizeLine ∧ Nx (upd H5 D (.dK (putK kvs k z))) else Nx H3) := by
  refine ⟨fun i m H => m = xs.length - i ∧ i ≤ xs.length ∧ Pv i H, ⟨_, rfl, Nat.zero_le _, h0⟩, fun i m H ⟨em, hi, p⟩ => ?_⟩
  subst em
  have q := hl i H hi p
  by_cases hlt : i < xs.length
  · refine .inr ⟨⟨xs, xs[i], q, by simp [hlt]⟩, Pv (i + 1), fun H' p' => ⟨xs.length - (i + 1), by omega, rfl, hlt, p'⟩, fun x H' y => ?_⟩
    obtain ⟨e, y⟩ := y
    subst e
    exact hs i x _ (y xs q) p
  · have e : i = xs.length := by omega
    subst e
    exact .inl ⟨⟨xs, q, by simp⟩, hd H p⟩
/-! ### the class Doors: its dict of doors -/
/-- at dd the dict of the doors of the standings ss: at ts the pairs, ng what they need and give -/
structure DoorsAt (H : Hp) (dd : Addr) (ss : List Str) (ts : List Addr) (ng : List (List Str × List Str)) : Prop where
  d : H dd = some (.dK (dP ss ts))
  len : ss.length = ts.length
  nd : ss.Nodup
  ln : ng.length = ss.length
  at_ : ∀ (i : Nat) (t : Addr) (p : List Str × List Str), ts[i]? = some t → ng[i]? = some p → ∃ n g, H t = some (.tup [.ref n, .ref g]) ∧ H n = some (.tup (p.1.map V.str)) ∧ H g = some (.tup (p.2.map V.str))
def spDoorsInit (K : PySem.W.Frag) : Sp := fun vs H Q _ => ∃ (a C dx : Addr) (fs : List (Str × V)) (l : Addr) (ss : List Str), vs = [.ref a, .ref l] ∧ H a = some (.ins C dx fs) ∧ fs.length ≤ 900 ∧ Cls K C ∧ NoAttr K C "_doors" ∧
  SqL K H l (ss.map V.str) ∧ ss.length ≤ 1000 ∧ ss.Nodup ∧
  (∀ dd ts H', H dd = none → Gro a H H' → H' a = some (.ins C dx (putF "_doors" (.ref dd) fs)) → DoorsAt H' dd ss ts (ss.map fun _ => ([], [])) → Q .non H')
section
variable {P : Program} {w : World} {K : PySem.W.Frag} {mg : Str → Option Value} {base : Heap}
def nDoorsInit : List Str := ["self", "standings", "standing"]
theorem scDoorsInit : FnScope nDoorsInit ["self", "standings"] (defScope sDoorsInit) := ⟨rfl, rfl, rfl, by decide +kernel, rfl, by decide +kernel, by decide +kernel⟩
theorem ok_doorsInit {f : Addr} {fd : FuncData} (F : Fun K "__init__" "Doors.__init__" sDoorsInit f fd) : FnOk P w K mg base CX0 1 f fd ["self", "standings"] (spDoorsInit K) := by
  refine F.ok scDoorsInit (fun vs H Q E h => ?_) (fun cdv A outer s H vs Q E hr h => ?_)
  · obtain ⟨a, C, dx, fs, l, ss, rfl, _⟩ := h
    rfl
  · obtain ⟨a, C, dx, fs, l, ss, rfl, ha, hfs, cls, nD, hl, hsl, hnd, k⟩ := h
    refine ⟨_, pss_one (ps_fld (pv 0) (pe_dc (own := [("standing", 2)]) (g := gName 2) (tt := tYes) rfl scDoorsInit.nd (pi_list (pv 1)) (blkOk_by (N := nDoorsInit) (sc := defScope sDoorsInit) (by decide +kernel))
      (fun _ _ _ _ _ => pg_name (i := 2) scDoorsInit.nd rfl (Or.inl rfl)) (fun _ _ _ _ _ => pts_nil) (fun _ _ _ _ _ => pv 2) (fun _ _ _ _ _ => pe_tup (pa_cons (pe_tup pa_nil) (pa_cons (pe_tup pa_nil) pa_nil)))) rfl), ?_⟩
    refine ⟨_, rfl, l, rfl, ⟨_, hl⟩, fun D hD => ?_⟩
    have naD : a ≠ D := ne_of_none ha hD
    have grow : ∀ H' : Hp, Same H H' → SqL K H' l (ss.map V.str) := fun H' g => g.seq hl
    refine dc_list (K := K) (a := l) (xs := ss.map V.str) (fun i H' => Same H H' ∧ ∃ ts : List Addr, DoorsAt H' D (ss.take i) ts ((ss.take i).map fun _ => ([], [])))
      ⟨fun b o q => by rw [upd_ne (ne_of_none q hD)]; exact q, [], ⟨by rw [upd_same]; rfl, rfl, List.nodup_nil, rfl, fun i t p h => by simp at h⟩⟩ (fun i H' _ h => grow H' h.1) ?_ ?_
    · rintro i x H' hi ⟨s5, ts, S⟩
      obtain ⟨z, hz, rfl⟩ := get_strs hi
      have hm : z ∉ ss.take i := fun q => by
        obtain ⟨j, hj⟩ := List.mem_iff_getElem?.mp q
        have hji : j < i := by
          have := (List.getElem?_eq_some_iff.mp hj).1
          rw [List.length_take] at this
          omega
        rw [List.getElem?_take_of_lt hji] at hj
        exact absurd (nd_ix hnd hj hz) (by omega)
      refine ⟨rfl, _, rfl, (by show 0 ≤ sizeLine; omega), fun n hn => ⟨(by show 0 ≤ sizeLine; omega), fun g hg => ⟨(by show 2 ≤ sizeLine; decide), fun t ht => ?_⟩⟩⟩
      have n1 : D ≠ n := ne_of_none S.d hn
      have n2 : D ≠ g := ne_of_none (by rw [upd_ne n1]; exact S.d) hg
      have n3 : D ≠ t := ne_of_none (by rw [upd_ne n2, upd_ne n1]; exact S.d) ht
      have n4 : n ≠ g := ne_of_none upd_same hg
      have n5 : n ≠ t := ne_of_none (by rw [upd_ne n4, upd_same]) ht
      have n6 : g ≠ t := ne_of_none upd_same ht
      have old : ∀ b o, H' b = some o → b ≠ n ∧ b ≠ g ∧ b ≠ t := fun b o q => by
        have m1 := ne_of_none q hn
        have m2 : b ≠ g := ne_of_none (by rw [upd_ne m1]; exact q) hg
        exact ⟨m1, m2, ne_of_none (by rw [upd_ne m2, upd_ne m1]; exact q) ht⟩
      refine ⟨dP (ss.take i) ts, Sum.inr z, rfl, by rw [upd_ne n3, upd_ne n2, upd_ne n1]; exact S.d, small1000 (by rw [dP_len S.len, List.length_take]; omega), ?_⟩
      refine ⟨fun b o q => ?_, ts ++ [t], ⟨?_, by rw [take_more hz, List.length_append, List.length_append, S.len]; rfl, by rw [take_more hz]; exact nd_snoc S.nd hm, by rw [List.length_map], fun j c p h1 h2 => ?_⟩⟩
      · have q5 := s5 b o q
        obtain ⟨m1, m2, m3⟩ := old b o q5
        rw [upd_ne (ne_of_none q hD), upd_ne m3, upd_ne m2, upd_ne m1]
        exact q5
      · rw [upd_same, take_more hz, dP_snoc S.len, putK_new _ (dP_none hm)]
      · by_cases hj : j < ts.length
        · rw [List.getElem?_append_left hj] at h1
          have h2' : ((ss.take i).map fun _ => (([], []) : List Str × List Str))[j]? = some p := by
            rw [take_more hz, List.map_append, List.getElem?_append_left (by rw [List.length_map, S.len]; exact hj)] at h2
            exact h2
          obtain ⟨n', g', q1, q2, q3⟩ := S.at_ j c p h1 h2'
          have up : ∀ b o, H' b = some o → b ≠ D → upd (upd (upd (upd H' n (.tup [])) g (.tup [])) t (.tup [.ref n, .ref g])) D (.dK (putK (dP (ss.take i) ts) (Sum.inr z) (.ref t))) b = some o := fun b o q nb => by
            obtain ⟨m1, m2, m3⟩ := old b o q
            rw [upd_ne nb, upd_ne m3, upd_ne m2, upd_ne m1]
            exact q
          exact ⟨n', g', up _ _ q1 (ne_of q1 S.d (by intro z; cases z)), up _ _ q2 (ne_of q2 S.d (by intro z; cases z)), up _ _ q3 (ne_of q3 S.d (by intro z; cases z))⟩
        · rw [List.getElem?_append_right (by omega)] at h1
          have hj0 : j - ts.length = 0 := by
            have := (List.getElem?_eq_some_iff.mp h1).1
            simp at this
            omega
          rw [hj0] at h1
          have hc : t = c := Option.some.inj h1
          subst hc
          have hp : p = ([], []) := by
            obtain ⟨u, hu, e⟩ := List.mem_map.mp (List.mem_of_getElem? h2)
            exact e.symm
          subst hp
          exact ⟨n, g, by rw [upd_ne n3.symm, upd_same], by rw [upd_ne n1.symm, upd_ne n5, upd_ne n4, upd_same]; rfl, by rw [upd_ne n2.symm, upd_ne n6, upd_same]; rfl⟩
    · rintro H' ⟨s5, ts, S⟩
      rw [List.length_map, List.take_length] at S
      refine ⟨_, rfl, a, C, dx, fs, rfl, s5 _ _ ha, cls, nD, by omega, ?_⟩
      refine k D ts _ hD (fun b o q n => by rw [upd_ne n]; exact s5 b o q) upd_same ⟨by rw [upd_ne naD.symm]; exact S.d, S.len, S.nd, S.ln, fun i t p h1 h2 => ?_⟩
      obtain ⟨n, g, q1, q2, q3⟩ := S.at_ i t p h1 h2
      have na : ∀ b xs, H' b = some (.tup xs) → b ≠ a := fun b xs q => ne_of q (s5 _ _ ha) (by intro z; cases z)
      exact ⟨n, g, by rw [upd_ne (na _ _ q1)]; exact q1, by rw [upd_ne (na _ _ q2)]; exact q2, by rw [upd_ne (na _ _ q3)]; exact q3⟩
end
end Yd
namespace Yd
open PySem L2
/-! ### Part, Single, Many: how they are made -/
/-- the def m of the class named x, read off that class -/
structure ClsFn (K : PySem.W.Frag) (mg : Str → Option Value) (x : Str) (C : Addr) (m : Str) (f : Addr) : Prop where
  g : mg x = some (.ref C)
  r : ∃ mc, ClX.CRead K C mc ∧ PySem.W.findCls K (.ref C) mc m = some (.val (.ref f))
/-- a part's attributes -/
def fsPart (nm : Str) (ds dd : Addr) : List (Str × V) := putF "name" (.str nm) (putF "_doors" (.ref dd) (putF "_steps" (.ref ds) []))
structure PartC (K : PySem.W.Frag) (C : Addr) : Prop where
  cls : Cls K C
  nS : NoAttr K C "_steps"
  nD : NoAttr K C "_doors"
  nN : NoAttr K C "name"
def spPartInit (K : PySem.W.Frag) (CR : Addr) : Sp := fun vs H Q E => ∃ (a C dx : Addr) (nm : Str) (l : Addr) (ss : List Str), vs = [.ref a, .str nm, .ref l] ∧ H a = some (.ins C dx []) ∧ PartC K C ∧
  SqL K H l (ss.map V.str) ∧ ss.length ≤ 1000 ∧ (∀ s ∈ ss, s.length ≤ 100) ∧
  (∀ (i : Nat) (s : Str), ss[i]? = some s → s ∈ ss.take i → (ss.take i).Nodup → ∀ d H', Gro a H H' → H d = none → H' d = some (.xd (fsRepeated [.str s])) → E (.ref CR) (some d) H') ∧
  (ss.Nodup → ∀ ds es dd ts H', Gro a H H' → H' a = some (.ins C dx (fsPart nm ds dd)) → StepsAt H' ds ss es (fun _ _ => false) 0 → DoorsAt H' dd ss ts (ss.map fun _ => ([], [])) → Q .non H')
theorem nodup_take {ss : List Str} (h : ¬ ∃ (i : Nat) (s : Str), ss[i]? = some s ∧ s ∈ ss.take i ∧ (ss.take i).Nodup) : ss.Nodup := by
  have all : ∀ i, i ≤ ss.length → (ss.take i).Nodup := by
    intro i
    induction i with
    | zero => intro _; exact List.nodup_nil
    | succ i ih =>
      intro hi
      have e : ss[i]? = some ss[i] := List.getElem?_eq_getElem (by omega)
      rw [take_more e]
      exact nd_snoc (ih (by omega)) fun m => h ⟨i, _, e, m, ih (by omega)⟩
  have q := all ss.length (Nat.le_refl _)
  rwa [List.take_length] at q
/-- a def that hands on the call of another one: its own end is None -/
theorem part_non {K : PySem.W.Frag} {CR : Addr} {vs : List V} {H : Hp} {Q : VK} {E : XK} (h : spPartInit K CR vs H Q E) : spPartInit K CR vs H (fun _ H' => Q .non H') E := by
  obtain ⟨a, C, dx, nm, l, ss, h1, h2, h3, h4, h5, h6, h7, h8⟩ := h
  exact ⟨a, C, dx, nm, l, ss, h1, h2, h3, h4, h5, h6, h7, h8⟩
section
variable {P : Program} {w : World} {K : PySem.W.Frag} {mg : Str → Option Value} {base : Heap}
theorem scPartInit : FnScope ["self", "name", "standings"] ["self", "name", "standings"] (defScope sPartInit) := ⟨rfl, rfl, rfl, by decide +kernel, rfl, by decide +kernel, by decide +kernel⟩
theorem ok_partInit {f CR CS CD fS fD : Addr} {fd fdS fdD : FuncData} (F : Fun K "__init__" "Part.__init__" sPartInit f fd) (O : ErrOk P w K mg base "Repeated" CR 1 okRepeated fsRepeated)
    (FS : Fun K "__init__" "Steps.__init__" sStepsInit fS fdS) (bS : Binds K fdS ["self", "standings"] []) (cS : ClsFn K mg "Steps" CS "__init__" fS)
    (FD : Fun K "__init__" "Doors.__init__" sDoorsInit fD fdD) (bD : Binds K fdD ["self", "standings"] []) (cD : ClsFn K mg "Doors" CD "__init__" fD) :
    FnOk P w K mg base (L2.CX P w) 4 f fd ["self", "name", "standings"] (spPartInit K CR) := by
  obtain ⟨gS, mcS, rS, vS⟩ := cS
  obtain ⟨gD, mcD, rD, vD⟩ := cD
  have GS : FnOk P w K mg base (L2.CX P w) 3 fS fdS ["self", "standings"] (spStepsInit K CR) := ok_stepsInit FS O
  have GD : FnOk P w K mg base CX0 1 fD fdD ["self", "standings"] (spDoorsInit K) := ok_doorsInit FD
  refine F.okX scPartInit (fun vs H Q E h => ?_) (fun cdv A outer s H vs Q E hr h => ?_)
  · obtain ⟨a, C, dx, nm, l, ss, rfl, _⟩ := h
    rfl
  · obtain ⟨a, C, dx, nm, l, ss, rfl, ha, pc, hl, hsl, hsh, kR, kN⟩ := h
    have hr1 : Room 1 _ := hr.mono (by decide)
    refine ⟨_, pss_cons (ps_expr (pe_cfun (E := E) (pe_glob (v := .ref CS) (by rfl) gS rfl) rS vS GS hr FS.kp bS .nil (passes_call (takes_of rfl rfl rfl rfl) fun _ _ _ _ h => h) (pa_cons (pv 0) (pa_cons (pv 2) pa_nil))))
      (pss_cons (ps_expr (pe_cfun (pe_glob (v := .ref CD) (by rfl) gD rfl) rD vD GD hr1 FD.kp bD .nil pass0 (pa_cons (pv 0) (pa_cons (pv 2) pa_nil))))
      (pss_one (ps_fld (pv 0) (pv 1) rfl))), ?_⟩
    have sq : ∀ H' : Hp, Gro a H H' → SqL K H' l (ss.map V.str) := fun H' g => by
      rcases hl with (h | ⟨o, h⟩) | h
      · exact .inl (.inl (g _ _ h (ne_of h ha (by intro z; cases z))))
      · exact .inl (.inr ⟨o, g _ _ h (ne_of h ha (by intro z; cases z))⟩)
      · exact .inr h
    refine ⟨rfl, _, rfl, _, rfl, a, C, dx, [], l, ss, rfl, ha, Nat.zero_le _, pc.cls, pc.nS, hl, hsl, hsh, kR, fun nd ds es H1 hds hes g1 e1 S1 => ?_⟩
    have l0 : (putF "_steps" (V.ref ds) []).length ≤ 1 := length_putF _ _ _
    have l1 : (putF "_steps" (V.ref ds) []).length ≤ 900 := Nat.le_trans l0 (by decide)
    have l2 : ∀ dd, (putF "_doors" (V.ref dd) (putF "_steps" (V.ref ds) [])).length < 1000 := fun dd => by
      have q := length_putF "_doors" (V.ref dd) (putF "_steps" (V.ref ds) [])
      omega
    refine ⟨rfl, _, rfl, _, rfl, a, C, dx, _, l, ss, rfl, e1, l1, pc.cls, pc.nD, sq H1 g1, hsl, nd, fun dd ts H2 hdd g2 e2 D2 => ?_⟩
    refine ⟨_, rfl, _, rfl, a, C, dx, _, rfl, e2, pc.cls, pc.nN, l2 dd, ?_⟩
    refine kN nd ds es dd ts _ ((g1.trans g2).trans .own) upd_same (S1.keep fun b kvs q => ?_) ⟨?_, D2.len, D2.nd, D2.ln, fun i t p h1 h2 => ?_⟩
    · have nb : b ≠ a := ne_of q e1 (by intro z; cases z)
      rw [upd_ne nb]
      exact g2 b _ q nb
    · rw [upd_ne (ne_of D2.d e2 (by intro z; cases z))]; exact D2.d
    · obtain ⟨n, g, q1, q2, q3⟩ := D2.at_ i t p h1 h2
      have na : ∀ b xs, H2 b = some (.tup xs) → b ≠ a := fun b xs q => ne_of q e2 (by intro z; cases z)
      exact ⟨n, g, by rw [upd_ne (na _ _ q1)]; exact q1, by rw [upd_ne (na _ _ q2)]; exact q2, by rw [upd_ne (na _ _ q3)]; exact q3⟩
theorem scSingleInit : FnScope ["self", "name", "standings"] ["self", "name", "standings"] (defScope sSingleInit) := ⟨rfl, rfl, rfl, by decide +kernel, rfl, by decide +kernel, by decide +kernel⟩
theorem ok_singleInit {f CR CP fP : Addr} {fd fdP : FuncData} (F : Fun K "__init__" "Single.__init__" sSingleInit f fd) (GP : FnOk P w K mg base (L2.CX P w) 4 fP fdP ["self", "name", "standings"] (spPartInit K CR)) (kP : PySem.W.keepIn K (.ref fP) = true)
    (bP : Binds K fdP ["self", "name", "standings"] []) (cP : ClsFn K mg "Part" CP "__init__" fP) : FnOk P w K mg base (L2.CX P w) 5 f fd ["self", "name", "standings"] (spPartInit K CR) := by
  obtain ⟨gP, mcP, rP, vP⟩ := cP
  refine F.okX scSingleInit (fun vs H Q E h => GP.len vs H Q E h) (fun cdv A outer s H vs Q E hr h => ?_)
  have h0 := h
  obtain ⟨a, C, dx, nm, l, ss, rfl, _⟩ := h0
  exact ⟨_, pss_one (ps_expr (pe_cfun (E := E) (pe_glob (v := .ref CP) (by rfl) gP rfl) rP vP GP hr kP bP .nil (passes_call (takes_of rfl rfl rfl rfl) fun _ _ _ _ h => h) (pa_cons (pv 0) (pa_cons (pv 1) (pa_cons (pv 2) pa_nil))))),
    rfl, _, rfl, _, rfl, _, rfl, part_non h⟩
theorem scManyInit : FnScope ["self", "name", "standings"] ["self", "name", "standings"] (defScope sManyInit) := ⟨rfl, rfl, rfl, by decide +kernel, rfl, by decide +kernel, by decide +kernel⟩
theorem ok_manyInit {f CR CP fP : Addr} {fd fdP : FuncData} (F : Fun K "__init__" "Many.__init__" sManyInit f fd) (GP : FnOk P w K mg base (L2.CX P w) 4 fP fdP ["self", "name", "standings"] (spPartInit K CR)) (kP : PySem.W.keepIn K (.ref fP) = true)
    (bP : Binds K fdP ["self", "name", "standings"] []) (cP : ClsFn K mg "Part" CP "__init__" fP) : FnOk P w K mg base (L2.CX P w) 5 f fd ["self", "name", "standings"] (spPartInit K CR) := by
  obtain ⟨gP, mcP, rP, vP⟩ := cP
  refine F.okX scManyInit (fun vs H Q E h => GP.len vs H Q E h) (fun cdv A outer s H vs Q E hr h => ?_)
  have h0 := h
  obtain ⟨a, C, dx, nm, l, ss, rfl, _⟩ := h0
  exact ⟨_, pss_one (ps_expr (pe_cfun (E := E) (pe_glob (v := .ref CP) (by rfl) gP rfl) rP vP GP hr kP bP .nil (passes_call (takes_of rfl rfl rfl rfl) fun _ _ _ _ h => h) (pa_cons (pv 0) (pa_cons (pv 1) (pa_cons (pv 2) pa_nil))))),
    rfl, _, rfl, _, rfl, _, rfl, part_non h⟩
end
end Yd
namespace Yd
open PySem L2
/-! ### an own __iter__ that gives a dict's iterator -/
/-- an iterator over the keys of the locked dict at d, at its start -/
def KIo (d it : Addr) (od : Obj) (n : Nat) : HO := .ext fun h => ∃ es ep, od.data = .dict es ep ∧ h.IsKeyIter it d 0 n ep
/-- the locked dict at d has n keys -/
def Keyed (H : Hp) (d : Addr) (od : Obj) (n : Nat) : Prop := (∃ kvs, H d = some (.frz od (.dK kvs)) ∧ n = kvs.length) ∨ ∃ kvs, H d = some (.frz od (.dT kvs)) ∧ n = kvs.length
/-- a def whose promise may speak of the size of the heap at its entry -/
structure FnN (P : Program) (w : World) (K : PySem.W.Frag) (mg : Str → Option Value) (base : Heap) (k : Nat) (f : Addr) (fd : FuncData) (ps : List Str) (sp : Nat → Sp) : Prop where
  len : ∀ n vs H Q E, sp n vs H Q E → vs.length = ps.length
  run : ∀ (A : Around) (out : List Env) (s : Shared) (H : Hp) (args : Args) (us : List Value) (vs : List V) (Q : VK) (E : XK), Room k A → Env0 P w K mg base A out s H → BindsTo s fd args (ps.zip us) → Vals vs us → sp s.heap.objs.size vs H Q E →
    codeAny (model P w) A (.call (.ref f) args) (CR CX0 out P w H s Q E) s
section
variable {P : Program} {w : World} {K : PySem.W.Frag} {mg : Str → Option Value} {base : Heap}
theorem fun_N {x qual : Str} {st : Stmt} {f : Addr} {fd : FuncData} {N ps : List Str} {k : Nat} {sp : Nat → Sp} (F : Fun K x qual st f fd) (S : FnScope N ps (defScope st)) (len : ∀ n vs H Q E, sp n vs H Q E → vs.length = ps.length)
    (body : ∀ (cdv : Value) (A : Around) (out : List Env) (s : Shared) (H : Hp) (vs : List V) (Q : VK) (E : XK), Room k (A.deeper (PyProof.Rows.envOfC qual (defScope st) s.heap.objs.size f cdv)) → sp s.heap.objs.size vs H Q E →
      ∃ t, PSs (cxOf CX0 P w K mg base N qual (defScope st) f cdv A out s H E) (defBody st) t ∧ t { nx := fun _ H' => Q .non H', rt := Q } (start N vs) H) : FnN P w K mg base (k + 1) f fd ps sp := by
  obtain ⟨oc, od, kV, doc, pm, an, cdv, ct, osl, rfl, lk, hcd⟩ := F.ex
  refine ⟨len, fun A out s H args us vs Q E hr e0 hb r hsp => ?_⟩
  have KX : K.In s.heap := e0.mod.kin.keeps fun b o e => (e0.bs b o e).1
  refine codeAny_call_function hr.depth (KX _ _ lk) rfl S.co S.gen rfl (PySem.W.codeRec_of KX hcd) (hb _ _ _ _ (wpAny_newFunctionEnv_cells S.kind (fun ⟨y, v⟩ hy => ?_) fun env he s1 x => ?_))
  · rcases S.par y (List.of_mem_zip hy).1 with q | q
    · exact Or.inl q
    · exact Or.inr ⟨q, PySem.W.cellsFrom_some _ _ _ (Or.inl q)⟩
  subst he
  obtain ⟨t, ht, hq⟩ := body cdv A out s H vs Q E (hr.deeper _) hsp
  refine ⟨(e0.mod.nolimit.keeps fun b o e => (e0.bs b o e).1).keeps x.toInCall.keep, codeAny_func (wpAny_mono (ht.run [] s1 (start N vs) H _ (inv_start S hr.hd e0 (len _ _ _ _ _ hsp) r x) hq) (fun fl s' hs => ?_) fun _ _ z => z)⟩
  match fl, hs with
  | .ret u, ⟨v, σ', H', J, rv, q⟩ => exact ⟨v, H', J.os, J.bare, J.base, J.hok, rv, q⟩
  | .next, ⟨σ', H', J, q⟩ => exact ⟨V.non, H', J.os, J.bare, J.base, J.hok, rfl, q⟩
  | .brk, ⟨_, _, _, q⟩ => exact q.elim
  | .cont, ⟨_, _, _, q⟩ => exact q.elim
end
section
open PySem.W
variable {X : Cx}
theorem kio_ok {P : Program} {w : World} {H : Hp} {h : Heap} {d it n ep : Nat} {od : Obj} {es : Array DictEntry} (hd : od.data = .dict es ep) (st : h.IsKeyIter it d 0 n ep) : ObjOk P w H h it (KIo d it od n) :=
  ⟨⟨es, ep, hd, st⟩, (let ⟨o, ho, _⟩ := st; ⟨o, ho⟩), fun _ _ ⟨e1, p1, a1, a2⟩ k => ⟨e1, p1, a1, a2.at k⟩⟩
/-- iter(d), d locked: a young iterator -/
theorem call_iterK : CallR X (.builtin "iter") (fun xs H Q => ∃ d od n, xs = [.ref d] ∧ Keyed H d od n ∧ ∀ it, H it = none → X.s_0.heap.objs.size ≤ it → Q (.ref it) (upd H it (KIo d it od n))) := by
  intro pins s σ H xs us Q I r h
  obtain ⟨d, od, n, rfl, hk, q⟩ := h
  obtain ⟨u, rfl, ru⟩ := vals1 r
  cases ru
  obtain ⟨hs, hgd, hx, es, ep, hdt, hsz⟩ : (d == sysModules) = false ∧ s.heap.get? d = some od ∧ od.ExactDict ∧ ∃ es ep, od.data = .dict es ep ∧ es.size = n := by
    rcases hk with ⟨kvs, hd, rfl⟩ | ⟨kvs, hd, rfl⟩
    · obtain ⟨hs, hgd, hx, es, ep, vs, hdt, hsz, kv, hm⟩ := I.frzK hd
      exact ⟨hs, hgd, hx, es, ep, hdt, by rw [hsz, Paired.length kv]⟩
    · obtain ⟨hs, hgd, hx, es, ep, hdt, hsz, _⟩ := I.frzT hd
      exact ⟨hs, hgd, hx, es, ep, hdt, hsz⟩
  refine Calls.call_function_entry (by decide +kernel) (by decide +kernel) kdk_entry_iter (kdk_args_iter _) ?_
  unfold Builtin.«iter»
  refine wpAny_bind (m := someArgs "iter" 1 2 _) (wpAny_of_eq (a := [.ref d]) (by first | rfl | kernel_rfl!) (wpAny_bind (m := pyIter (.ref d)) (iter_keys hs hgd hx hdt ?_)))
  refine wpAny_pure ⟨_, rfl, ?_⟩
  have st : (s.heap.push { cls := .type "dict_keyiterator", data := .fields #[.ref d, .int 0 0, .int es.size 0, .int ep 0] }).IsKeyIter s.heap.objs.size d 0 n ep := ⟨_, Heap.get?_push_size _ rfl, rfl, by rw [hsz]; rfl⟩
  exact ⟨.ref s.heap.objs.size, _, I.laid (t' := s.toks) (fun b ob e => Heap.get?_push_of_some _ e) (Nat.le_refl _) (kio_ok hdt st), rfl, q _ (I.hok.fresh (Nat.le_refl _)) I.sz⟩
/-- for x in o, o an instance whose class has such an __iter__ -/
def iOwn (sp : Nat → Sp) (C : Addr) (te : TE) : TI := fun σ H R => te σ H fun x H1 => ∃ a dx fs, x = .ref a ∧ H1 a = some (.ins C dx fs) ∧ ∀ n, sp n [.ref a] H1 (fun v H2 => ∃ it d od m, v = .ref it ∧ n ≤ it ∧ H2 it = some (KIo d it od m) ∧
  ((∃ kvs, H2 d = some (.frz od (.dK kvs)) ∧ m = kvs.length ∧ R (Itk d od kvs) (ItX.dropH H2 it)) ∨ ∃ kvs, H2 d = some (.frz od (.dT kvs)) ∧ m = kvs.length ∧ R (Itkt d od kvs) (ItX.dropH H2 it))) (fun _ _ _ => False)
theorem pi_own {C f : Addr} {fd : FuncData} {k : Nat} {sp : Nat → Sp} {tg e : Expr} {te : TE} (he : PE X e te) (hi : findIn X.K (.ref C) "__iter__" = some (some (.ref f))) (hf : isFn X.K (.ref f) = true) (F : FnN X.prog X.w X.K X.mg X.base k f fd ["self"] sp) (hr : Room k X.A)
    (hb : Binds X.K fd ["self"] []) : PI X tg e (iOwn sp C te) := by
  refine ⟨fun pins s σ H R I h => thn (he.run pins s σ H _ I h) fun u s1 ⟨x, H1, I1, rx, a, dx, fs, ex, ha, q⟩ => ?_⟩
  subst ex
  obtain rfl : u = Value.ref a := rx
  obtain ⟨m, hF⟩ := I1.fr
  obtain ⟨mA, O, _⟩ := ins_get I1.hok ha
  obtain ⟨oa, J, _⟩ := O.look
  have b1 := hb s1 [.ref a] I1.kIn rfl
  refine owit_iter hF I1.ok.mod.kin J hi hf (wpAny_call (codeAny_mono (F.run X.A X.stack s1 H1 ⟨[.ref a], []⟩ [.ref a] [.ref a] _ (fun _ _ _ => False) hr I1.env0 b1 (.cons rfl .nil) (q s1.heap.objs.size)) fun r s' hq => ?_))
  match r, hq with
  | .ok (.ret u), hq =>
    obtain ⟨v, H2, I2, rv, it, d, od, n, rfl, hn, e2, hR⟩ := I1.after hq
    obtain rfl : u = Value.ref it := rv
    have young : X.s_0.heap.objs.size ≤ it := Nat.le_trans I1.sz hn
    obtain ⟨⟨es, ep, hd, st⟩, _⟩ := (show ObjOk X.prog X.w H2 s'.heap it (KIo d it od n) from I2.hok it _ e2)
    have hT : s'.TypeIs (.ref it) "dict_keyiterator" := let ⟨o, ho, hc, _⟩ := st; ⟨o, ho, hc⟩
    have e2' := e2
    unfold KIo at e2'
    refine wpAny_specialOf hT PySem.F.slot_dict_keyiterator_next.lookup ?_
    rcases hR with ⟨kvs, ed, rfl, hR⟩ | ⟨kvs, ed, rfl, hR⟩
    · exact ⟨it, [it], _, _, _, rfl, ItX.inv_drop I2 e2', turn_keys it hd, st, fun b hb => by rw [List.mem_singleton.mp hb]; exact ItX.inv_fp I2 e2 young, hR⟩
    · exact ⟨it, [it], _, _, _, rfl, ItX.inv_drop I2 e2', turn_keysT it hd, st, fun b hb => by rw [List.mem_singleton.mp hb]; exact ItX.inv_fp I2 e2 young, hR⟩
end
end Yd
namespace Yd
open PySem L2
/-! ### own __getitem__ and __setitem__ -/
section
open PySem.W
theorem deeper1 {P : Program} {w : World} {K : Frag} {mg : Str → Option Value} {base : Heap} {A : Around} {out : List Env} {s : Shared} {H : Hp} (e : Env0 P w K mg base A out s H) : Env0 P w K mg base A.in1 out s H :=
  ⟨by exact e.frames, e.mod, e.bs, e.bsz, e.funs, e.frf, e.hok, e.bare⟩
theorem at_all {CX : CXT} {X : Cx} {E : XK} (h : Passes CX X E) : ∀ σ : St, PassesAt CX X σ E := fun σ pins H s e s' I c => h pins σ H s e s' I c
variable {X : Cx} {CX : CXT} {k : Nat} {f C : Addr} {fd : FuncData} {ps : List Str} {sp : Sp} {E : St → XK} {pos : Pos} {o i : Expr} {to ti : TE}
/-- a call of a def one level down -/
theorem run_in1 {pins : List (Addr × Obj)} {σ : St} {H : Hp} {s : Shared} {Q : VK} {us : List Value} {vs : List V} (F : FnOk X.prog X.w X.K X.mg X.base CX k f fd ps sp) (hr : Room (k + 1) X.A) (hb : Binds X.K fd ps []) (hx : PassesAt CX X σ (E σ))
    (I : Inv X pins σ H s) (r : Vals vs us) (h : sp vs H Q (E σ)) : wpAny (model X.prog X.w) X.A.in1 (call (.ref f) us) (EP X pins σ Q) X.xe s := by
  have hl : (us ++ []).length = ps.length := by rw [List.append_nil, ← r.length]; exact F.len _ _ _ _ h
  have b := hb s us I.kIn hl
  rw [List.append_nil] at b
  refine wpAny_call (codeAny_mono (F.run X.A.in1 X.stack s H ⟨us, []⟩ us vs Q (E σ) hr.in1 (deeper1 I.env0) b r h) fun r s' hq => ?_)
  match r, hq with
  | .error e, hq => exact hx pins H s e s' I hq
  | .ok (.ret u), hq => exact I.after hq
/-- an own class whose items are read by a def of its own -/
structure ItemC (K : Frag) (C : Addr) (m : Str) (f : Addr) : Prop where
  at_ : findIn K (.ref C) m = some (some (.ref f))
  fn : isFn K (.ref f) = true
  fi : fnIn K f = true
  noq : noSeq K C = true
def tSubO (C : Addr) (sp : Sp) (E : St → XK) (to ti : TE) : TE := fun σ H Q => to σ H fun x H1 => ti σ H1 fun y H2 => ∃ a dx fs, x = .ref a ∧ H2 a = some (.ins C dx fs) ∧ sp [x, y] H2 Q (E σ)
theorem pe_subO (ho : PE X o to) (hi : PE X i ti) (c : ItemC X.K C "__getitem__" f) (F : FnOk X.prog X.w X.K X.mg X.base CX k f fd ps sp) (hr : Room (k + 1) X.A) (hb : Binds X.K fd ps []) (hx : ∀ σ, PassesAt CX X σ (E σ))
    (hsl : ∀ x i', subscripted i true (.ref x) i' = runValue (.builtin "lifetime.subscript" ⟨[.ref x, i'], []⟩) := by intro _ _; with_unfolding_all rfl) : PE X (.Subscript o i pos) (tSubO C sp E to ti) := by
  refine ⟨fun pins s σ H Q I h => PyProof.Rows.Subscript_ (binT (R := fun x y H2 => ∃ a dx fs, x = V.ref a ∧ H2 a = some (.ins C dx fs) ∧ sp [x, y] H2 Q (E σ)) ho hi I h fun v u s2 x y H2 I2 rx ry hq => ?_)⟩
  obtain ⟨a, dx, fs, rfl, ha, q⟩ := hq
  obtain rfl : v = Value.ref a := rx
  obtain ⟨m, hF⟩ := I2.fr
  obtain ⟨mA, O, _⟩ := ins_get I2.hok ha
  obtain ⟨oa, J, _⟩ := O.look
  exact sub_K hF I2.ok.mod.kin J c.at_ c.fi c.fn (run_in1 F hr hb (hx σ) I2 (Paired.cons (a := V.ref a) rfl (.cons ry .nil)) q) (hsl a u)
def gSubO (C : Addr) (sp : Sp) (E : St → XK) (to ti : TE) : TG := fun v σ H Q => to σ H fun x H1 => ti σ H1 fun y H2 => ∃ a dx fs, x = .ref a ∧ H2 a = some (.ins C dx fs) ∧ sp [x, y, v] H2 (fun _ H3 => Q σ H3) (E σ)
theorem pg_subO (ho : PE X o to) (hi : PE X i ti) (c : ItemC X.K C "__setitem__" f) (F : FnOk X.prog X.w X.K X.mg X.base CX k f fd ps sp) (hr : Room k X.A) (hb : Binds X.K fd ps []) (hx : ∀ σ, PassesAt CX X σ (E σ))
    (ha : ∀ v, assign (.Subscript o i pos) X.env v = (do
      let ov ← holding [v] (eval o X.env)
      let iv ← holding [v, ov] (eval i X.env)
      standAt pos
      holding [v, ov, iv] (setItem ov iv v)
      release [v, ov, iv] []) := by intro _; rfl) : PG X (.Subscript o i pos) (gSubO C sp E to ti) := by
  refine ⟨fun pins s σ H v u Q I r h => ?_⟩
  rw [ha]
  refine wpAny_bind (wpAny_holding (thn (ho.run pins s σ H _ I h) fun ov s1 ⟨x, H1, I1, r1, q1⟩ => wpAny_bind (wpAny_holding (thn (hi.run pins s1 σ H1 _ I1 q1) fun iv s2 ⟨y, H2, I2, r2, a, dx, fs, ex, e2, q2⟩ => ?_))))
  subst ex
  obtain rfl : ov = Value.ref a := r1
  obtain ⟨m, hF⟩ := I2.fr
  obtain ⟨mA, O, _⟩ := ins_get I2.hok e2
  obtain ⟨oa, J, _⟩ := O.look
  refine wpAny_bind (wpAny_standAt (wpAny_bind (wpAny_holding (ksp_setItem hF I2.ok.mod.kin J c.noq c.at_ c.fn (thn (run_fnS F hr hb (hx σ) I2 (Paired.cons (a := V.ref a) rfl (.cons r2 (.cons r .nil))) q2) fun _ s3 ⟨_, H3, I3, _, q3⟩ => wpAny_release ⟨σ, H3, I3, q3⟩)))))
end
end Yd
namespace Yd
open PySem L2
/-! ### several clauses, each «except X as n» -/
/-- behind the suite n has no value any more -/
def offAt (i : Nat) (D : Ends) : Ends := { nx := fun σ' H' => D.nx (σ'.set i none) H', rt := D.rt, bk := fun σ' H' => D.bk (σ'.set i none) H', ct := fun σ' H' => D.ct (σ'.set i none) H' }
def wAses (K : PySem.W.Frag) (i : Nat) (Wout : WX) (D : Ends) : List (Value × (Addr → Value → Option Addr → TS)) → WX
  | [] => Wout
  | (c, ts) :: r => fun cls d σ H => ∃ b, PySem.W.exmOne K cls c = some b ∧ (b = true → ∀ a, H a = none → ts a cls d (offAt i D) (σ.set i (some (.ref a))) H) ∧ (b = false → wAses K i Wout D r cls d σ H)
inductive HdsAs (X : Cx) (n : Str) : List ExceptHandler → List (Value × (Addr → Value → Option Addr → TS)) → Prop
  | nil : HdsAs X n [] []
  | cons {x : Str} {c : Value} {ts : Addr → Value → Option Addr → TS} {b₀ : Stmt} {suite : List Stmt} {np ps : Pos} {hds : List ExceptHandler} {l : List (Value × (Addr → Value → Option Addr → TS))} (hc : Names X x c)
      (hsu : ∀ (a : Addr) (oe : Obj) (cls : Value) (d : Option Addr) (pn : List (Addr × Obj)), Zc cls d oe → (∃ vs, oe.data = .fields vs) → PSs (X.suite a ((a, oe) :: pn)) (b₀ :: suite) (ts a cls d)) (r : HdsAs X n hds l) :
      HdsAs X n (.ExceptHandler (some (.Name x np)) (some n) (b₀ :: suite) ps :: hds) ((c, ts) :: l)
section
variable {X : Cx} {n : Str} {i : Nat} {body : List Stmt} {k₀ : ExceptHandler} {ks : List ExceptHandler} {l : List (Value × (Addr → Value → Option Addr → TS))} {pos : Pos} {tb : WX → TS} {Wout : WX}
theorem ps_try_ases (hst : X.stack = X.env :: X.outer) (hfr0 : X.env.frame = some X.env.locals) (hN : X.N.Nodup) (hi : X.N[i]? = some n) (hln : X.env.kindOf n = some .local) (out : Takes X Wout)
    (hb : ∀ (W : WX) (pn : List (Addr × Obj)) (xe : Value → Shared → Prop), Takes (X.tr pn xe) W → PassesOwn (model X.prog X.w) X.A X.env xe → PSs (X.tr pn xe) body (tb W))
    (hh : HdsAs X n (k₀ :: ks) l) : PS X (.Try body (k₀ :: ks) [] [] pos) (fun D σ H => tb (wAses X.K i Wout D l) D σ H) := by
  refine ⟨fun pins s σ H D I h => wpAny_Try_except ?_⟩
  have okX := I.ok
  have frames : X.A.frames = some (X.env :: X.outer) := by rw [okX.frames, hst]
  have nloc : Loc X.env.scope n := .inl hln
  let wish : Value → Shared → Prop := fun e s₁ => wpAny (model X.prog X.w) X.A (noteFrame e X.env) (fun _ s₂ => wpAny (model X.prog X.w) X.A (setFlight e none) (fun _ s₃ => wpAny (model X.prog X.w) X.A (handleBy e X.env (k₀ :: ks)) (SP X pins D) X.xe s₃) X.xe s₂) X.xe s₁
  refine wpAny_mono ((hb (wAses X.K i Wout D l) (X.pn ++ pins) wish (fun u s' xx => ?_) PassesOwn.looking).run [] s σ H D (I.toTry _) h) (fun f s1 ended => ?_) fun e s1 he => he
  · obtain ⟨a, B, sI, pins', σ1, H1, cls, d, rfl, J0, nb, up, sky, na, os, ag, ww⟩ := xx
    have J : Inv X pins σ1 H1 sI := J0.ofTry okX
    have sky1 : Sky B (X.env :: X.outer) a (Zc cls d) X.env.locals s'.heap := hst ▸ sky
    refine Sky.land Zc.steady frames hfr0 sky1 fun h3 fl3 up3 => ?_
    have JL : Inv X pins σ1 H1 { s' with heap := h3 } := J.landed nb fl3.1 (up.trans up3) os ag
    obtain ⟨oe3, vs3, he3, hz3, hd3⟩ := fl3.there
    have outside : a ∉ frs (X.env :: X.outer) := fun hm => by
      obtain ⟨_, o', e', hnf⟩ := fl3.2.2.1.mem hm
      rw [he3] at e'
      cases e'
      exact hnf _ hd3
    have nL : a ≠ X.env.locals := fun z => outside (List.mem_filterMap.mpr ⟨X.env, List.mem_cons_self, by rw [hfr0, z]⟩)
    have nF : a ∉ X.fs := fun hm => by
      obtain ⟨e, he, q⟩ := List.mem_filterMap.mp hm
      exact outside (List.mem_filterMap.mpr ⟨e, List.mem_cons_of_mem _ he, q⟩)
    have SL := JL.suite he3 hd3 na nL nF
    have LT : PySem.W.Looks (model X.prog X.w) h3 (typeOf (.ref a)) cls := fun A Q E s k q => wpAny_typeOf_ref (k _ _ he3) (hz3.1 ▸ q)
    have each : ∀ {hs : List ExceptHandler} {ls : List (Value × (Addr → Value → Option Addr → TS))}, HdsAs X n hs ls → wAses X.K i Wout D ls cls d σ1 H1 →
        wpAny (model X.prog X.w) X.A (handleBy (.ref a) X.env hs) (SP X pins D) X.xe { s' with heap := h3 } := by
      intro hs ls hh
      induction hh with
      | nil =>
        intro w0
        refine wpAny_handleBy_nil ?_
        obtain ⟨_, _, _, oe, vs, T, oT, _, he, hz, hd, h1, _⟩ := id fl3
        unfold PySem.passOn
        refine wpAny_bind (wpAny_field he hd h1 ?_)
        have nt : ¬ ((Value.ref T == Value.none) = true) := by simp
        rw [if_neg nt]
        have fin : wpAny (model X.prog X.w) X.A (setFlight (.ref a) X.env.frame) (fun _ s4 => wpAny (model X.prog X.w) X.A (throw (.ref a) : Sem Flow) (SP X pins D) X.xe s4) X.xe { s' with heap := h3 } := by
          rw [hfr0]
          refine HandSPX.setFlight_upZ fl3 fun h4 hh4 up4 => wpAny_throw (out _ _ ?_)
          exact ⟨a, B, sI, pins, σ1, H1, cls, d, rfl, J, nb, (up.trans up3).trans up4, .inr (.inr (hst.symm ▸ hh4)), na, os, ag, w0⟩
        first
          | exact wpAny_bind (wpAny_pure (wpAny_bind fin))
          | exact wpAny_bind fin
      | @cons x c ts b₀ suite np ps hds2 l2 hc hsu r ih =>
        rintro ⟨b, hb1, hyes, hno⟩
        refine wpAny_handleBy_cons (codeAny_handlers_test ?_) (by intro q; cases q)
        have LM := PySem.W.exm_one (M := model X.prog X.w) JL.kIn LT hb1
        have named : ∀ {Q : Value → Shared → Prop} {E : Value → Shared → Prop}, Q c { s' with heap := h3 } → wpAny (model X.prog X.w) (X.A.mark (some (.ref a))) (eval (.Name x np) X.env) Q E { s' with heap := h3 } := fun {Q E} q => by
          obtain ⟨hg, hdbg, hm | ⟨hm, hv, hnn⟩⟩ := hc
          · exact ld_glob (X := X.suite a ((a, oe3) :: (X.pn ++ pins))) SL hg hm q hdbg
          · exact ld_blt (X := X.suite a ((a, oe3) :: (X.pn ++ pins))) SL hg hm hv q hnn hdbg
        refine named (LM.here ?_)
        cases b with
        | false =>
          show wpAny (model X.prog X.w) X.A (handleBy (.ref a) X.env hds2) (SP X pins D) X.xe _
          exact ih (hno rfl)
        | true =>
          refine codeAny_handlers_suite_as (HandSPX.lands_againZ fl3 fun h4 fl4 up4 => ?_)
          have J4 : Inv X pins σ1 H1 { s' with heap := h4 } := J.landed nb fl4.1 ((up.trans up3).trans up4) os ag
          obtain ⟨oe4, vs4, he4, hz4, hd4⟩ := fl4.there
          refine store_ok (X := X.suite a ((a, oe4) :: (X.pn ++ pins))) (v := .ref a) (J4.suite he4 hd4 na nL nF) hN hi nloc rfl (fun s5 S5 => ?_) (.inr hln)
          refine wpAny_mono ((hsu a oe4 cls d (X.pn ++ pins) hz4 ⟨_, hd4⟩).run [] s5 _ H1 _ S5 (hyes rfl a na)) (fun f s6 he6 => ?_) fun _ _ z => z.elim
          have gone : ∀ {σ6 : St} {H6 : Hp} {Q : Shared → Prop}, Inv (X.suite a ((a, oe4) :: (X.pn ++ pins))) [] σ6 H6 s6 → (∀ s7, Inv X pins (σ6.set i none) H6 s7 → Q s7) →
              wpAny (model X.prog X.w) X.A (do bindName X.env n .none; unbindBehindTheSuite X.env n ps) (fun _ s7 => Q s7) X.xe s6 := fun S6 hq => gone_ok (S6.unsuite okX) hN hi hln hq
          cases f with
          | next => exact let ⟨_, _, S6, q6⟩ := he6; gone S6 fun s7 J7 => ⟨_, _, J7, q6⟩
          | brk => exact let ⟨_, _, S6, q6⟩ := he6; gone S6 fun s7 J7 => ⟨_, _, J7, q6⟩
          | cont => exact let ⟨_, _, S6, q6⟩ := he6; gone S6 fun s7 J7 => ⟨_, _, J7, q6⟩
          | ret u => exact let ⟨_, _, _, S6, r6, q6⟩ := he6; gone S6 fun s7 J7 => ⟨_, _, _, J7, r6, q6⟩
    exact each hh ww
  · cases f with
    | next => exact let ⟨σ', H', J', q⟩ := ended; wpAny_execs_nil ⟨σ', H', J'.ofTry okX, q⟩
    | brk => exact let ⟨σ', H', J', q⟩ := ended; ⟨σ', H', J'.ofTry okX, q⟩
    | cont => exact let ⟨σ', H', J', q⟩ := ended; ⟨σ', H', J'.ofTry okX, q⟩
    | ret u => exact let ⟨v, σ', H', J', r, q⟩ := ended; ⟨v, σ', H', J'.ofTry okX, r, q⟩
end
end Yd
namespace Yd
open PySem L2
/-! ### == and in of data -/
section
variable {X : Cx}
/-- both read as the same data -/
def rEqS (K : PySem.W.Frag) : R2 := fun x y H Q => ∃ d, Dp K H x d ∧ Dp K H y d ∧ d.plain = true ∧ d.depth ≤ 60 ∧ Q (.bl true) H
def rNeS (K : PySem.W.Frag) : R2 := fun x y H Q => ∃ d, Dp K H x d ∧ Dp K H y d ∧ d.plain = true ∧ d.depth ≤ 60 ∧ Q (.bl false) H
theorem op_eqS (hu : X.A.units + 64 < cLine) : OpR X (compareOp .Eq) (rEqS X.K) := by
  intro pins s σ H x y v u Q I rx ry h
  obtain ⟨d, hd, he, pd, dd, q⟩ := h
  obtain ⟨as, r1⟩ := Dp.reads I d x v hd rx
  obtain ⟨bs, r2⟩ := Dp.reads I d y u he ry
  refine SeqAt.eq_plain r1 r2 pd pd (by omega) ⟨.bl _, H, I, rfl, ?_⟩
  rw [SeqAt.eqv_refl_plain d pd]
  exact q
theorem op_neS (hu : X.A.units + 64 < cLine) : OpR X (compareOp .NotEq) (rNeS X.K) := by
  intro pins s σ H x y v u Q I rx ry h
  obtain ⟨d, hd, he, pd, dd, q⟩ := h
  obtain ⟨as, r1⟩ := Dp.reads I d x v hd rx
  obtain ⟨bs, r2⟩ := Dp.reads I d y u he ry
  refine SeqAt.ne_plain r1 r2 pd pd (by omega) ⟨.bl _, H, I, rfl, ?_⟩
  rw [SeqAt.eqv_refl_plain d pd]
  exact q
/-- an item in a list, both with a Lean type -/
def rInY (K : PySem.W.Frag) (α : Type) [DecidableEq α] [PySem.W.Datum α] : R2 := fun x y H Q => ∃ (a : α) (as : List α), Dp K H x (PySem.W.Datum.toD a) ∧ Dp K H y (.list (as.map PySem.W.Datum.toD)) ∧ Q (.bl (decide (a ∈ as))) H
theorem any_toD {α : Type} [DecidableEq α] [PySem.W.Datum α] (a : α) : ∀ as : List α, ((as.map PySem.W.Datum.toD).any fun z => PyData.eqv z (PySem.W.Datum.toD a)) = decide (a ∈ as)
  | [] => by simp
  | b :: bs => by
    rw [List.map_cons, List.any_cons, any_toD a bs, PySem.W.Datum.eqv, ← Bool.decide_or]
    refine decide_eq_decide.mpr ?_
    rw [List.mem_cons]
    exact ⟨fun h => h.imp Eq.symm id, fun h => h.imp Eq.symm id⟩
theorem op_inY {α : Type} [DecidableEq α] [PySem.W.Datum α] (hd : PySem.W.Datum.depth α ≤ 60) (hu : X.A.units + 65 < cLine) : OpR X (compareOp .In) (rInY X.K α) := by
  intro pins s σ H x y v u Q I rx ry h
  obtain ⟨a, as, h1, h2, q⟩ := h
  obtain ⟨_, r1⟩ := Dp.reads I _ x v h1 rx
  obtain ⟨_, r2⟩ := Dp.reads I _ y u h2 ry
  have d1 := PySem.W.Datum.depth_le (α := α) a
  refine SeqAt.in_list_data r2 r1 (PySem.W.plainAll_map as) (PySem.W.Datum.plain a) (by omega) ⟨.bl _, H, I, rfl, ?_⟩
  rw [any_toD]
  exact q
end
theorem dp_strs {K : PySem.W.Frag} {H : Hp} : ∀ ss : List Str, DpAll K H (ss.map V.str) (ss.map PyData.str)
  | [] => .nil
  | s :: ss => .cons (.str s) (dp_strs ss)
theorem plain_strs (ss : List Str) : PyData.plainAll (ss.map PyData.str) = true := PySem.W.plainAll_map (α := Str) ss
theorem depth_strs (ss : List Str) : PyData.depthAll (ss.map PyData.str) ≤ 0 := PySem.W.depthAll_map (α := Str) ss
theorem plain_tup (ss : List Str) : (PyData.tuple (ss.map PyData.str)).plain = true := by simp only [PyData.plain]; exact plain_strs ss
theorem depth_tup (ss : List Str) : (PyData.tuple (ss.map PyData.str)).depth ≤ 60 := by
  have h := depth_strs ss
  simp only [PyData.depth]
  omega
theorem plain_lst (ss : List Str) : (PyData.list (ss.map PyData.str)).plain = true := by simp only [PyData.plain]; exact plain_strs ss
theorem depth_lst (ss : List Str) : (PyData.list (ss.map PyData.str)).depth ≤ 60 := by
  have h := depth_strs ss
  simp only [PyData.depth]
  omega
/-- a tuple of texts -/
theorem dp_tup {K : PySem.W.Frag} {H : Hp} {a : Addr} {ss : List Str} (h : SqT K H a (ss.map V.str)) : Dp K H (.ref a) (.tuple (ss.map PyData.str)) := .tup h (dp_strs ss)
theorem dp_lst {K : PySem.W.Frag} {H : Hp} {a : Addr} {ss : List Str} (h : SqL K H a (ss.map V.str)) : Dp K H (.ref a) (.list (ss.map PyData.str)) := .lst h (dp_strs ss)
/-- a list of pairs of texts -/
def PairsAt (H : Hp) : List V → List (Str × Str) → Prop
  | [], [] => True
  | v :: xs, p :: ps => (∃ t, v = .ref t ∧ H t = some (.tup [.str p.1, .str p.2])) ∧ PairsAt H xs ps
  | _, _ => False
theorem PairsAt.keep {H H' : Hp} (k : ∀ t xs, H t = some (.tup xs) → H' t = some (.tup xs)) : ∀ {xs : List V} {ps : List (Str × Str)}, PairsAt H xs ps → PairsAt H' xs ps
  | [], [], _ => True.intro
  | v :: xs, p :: ps, ⟨⟨t, e, h⟩, r⟩ => ⟨⟨t, e, k _ _ h⟩, PairsAt.keep k r⟩
  | [], _ :: _, h => h.elim
  | _ :: _, [], h => h.elim
theorem PairsAt.snoc {H : Hp} {t : Addr} {p : Str × Str} (e : H t = some (.tup [.str p.1, .str p.2])) : ∀ {xs : List V} {ps : List (Str × Str)}, PairsAt H xs ps → PairsAt H (xs ++ [.ref t]) (ps ++ [p])
  | [], [], _ => ⟨⟨t, rfl, e⟩, True.intro⟩
  | v :: xs, q :: ps, ⟨h, r⟩ => ⟨h, PairsAt.snoc e r⟩
  | [], _ :: _, h => h.elim
  | _ :: _, [], h => h.elim
theorem PairsAt.len {H : Hp} : ∀ {xs : List V} {ps : List (Str × Str)}, PairsAt H xs ps → xs.length = ps.length
  | [], [], _ => rfl
  | v :: xs, q :: ps, ⟨_, r⟩ => by rw [List.length_cons, List.length_cons, PairsAt.len r]
  | [], _ :: _, h => h.elim
  | _ :: _, [], h => h.elim
theorem dp_pair {K : PySem.W.Frag} {H : Hp} {t : Addr} {p : Str × Str} (h : H t = some (.tup [.str p.1, .str p.2])) : Dp K H (.ref t) (PySem.W.Datum.toD p) := .tup (SqT.of h) (.cons (.str _) (.cons (.str _) .nil))
theorem PairsAt.dp {K : PySem.W.Frag} {H : Hp} : ∀ {xs : List V} {ps : List (Str × Str)}, PairsAt H xs ps → DpAll K H xs (ps.map PySem.W.Datum.toD)
  | [], [], _ => .nil
  | v :: xs, q :: ps, ⟨⟨t, e, h⟩, r⟩ => by subst e; exact .cons (dp_pair h) (PairsAt.dp r)
  | [], _ :: _, h => h.elim
  | _ :: _, [], h => h.elim
end Yd
namespace Yd
open PySem L2
/-! ### each name once, in the order of the first occurrences -/
def addOnce (acc : List Str) (s : Str) : List Str := if s ∈ acc then acc else acc ++ [s]
def onceS (ss : List Str) : List Str := ss.foldl addOnce []
theorem once_more {ss : List Str} {i : Nat} {s : Str} (h : ss[i]? = some s) : onceS (ss.take (i + 1)) = addOnce (onceS (ss.take i)) s := by
  unfold onceS
  rw [take_more h, List.foldl_append]
  rfl
theorem add_nd {acc : List Str} {s : Str} (h : acc.Nodup) : (addOnce acc s).Nodup := by
  unfold addOnce
  by_cases m : s ∈ acc
  · rw [if_pos m]; exact h
  · rw [if_neg m]; exact nd_snoc h m
theorem once_nd (ss : List Str) : (onceS ss).Nodup := by
  unfold onceS
  suffices q : ∀ (l acc : List Str), acc.Nodup → (l.foldl addOnce acc).Nodup from q ss [] List.nodup_nil
  intro l
  induction l with
  | nil => intro acc h; exact h
  | cons s l ih => intro acc h; exact ih _ (add_nd h)
theorem once_len (ss : List Str) : (onceS ss).length ≤ ss.length := by
  unfold onceS
  suffices q : ∀ (l acc : List Str), (l.foldl addOnce acc).length ≤ acc.length + l.length by
    have := q ss []
    rw [List.length_nil, Nat.zero_add] at this
    exact this
  intro l
  induction l with
  | nil => intro acc; exact Nat.le_refl _
  | cons s l ih =>
    intro acc
    have h1 := ih (addOnce acc s)
    have h2 : (addOnce acc s).length ≤ acc.length + 1 := by
      unfold addOnce
      split
      · omega
      · rw [List.length_append]; exact Nat.le_refl _
    rw [List.foldl_cons, List.length_cons]
    omega
/-- a dict whose keys are these texts, each with True -/
def trueD (ss : List Str) : List (Key × V) := ss.map fun s => (Sum.inr s, V.bl true)
theorem trueD_val (s : Str) : ∀ ss : List Str, valV (trueD ss) (Sum.inr s : Key) = if s ∈ ss then some (.bl true) else none
  | [] => by simp [trueD, valV_nil]
  | t :: ss => by
    have e : trueD (t :: ss) = (Sum.inr t, V.bl true) :: trueD ss := rfl
    rw [e]
    by_cases h : t = s
    · subst h
      rw [valV_pos rfl, if_pos (List.mem_cons_self ..)]
    · rw [valV_neg (fun z => h (by injection z)), trueD_val s ss]
      by_cases m : s ∈ ss
      · rw [if_pos m, if_pos (List.mem_cons_of_mem _ m)]
      · rw [if_neg m, if_neg fun q => (List.mem_cons.mp q).elim (fun z => h z.symm) m]
theorem trueD_put (acc : List Str) (s : Str) : putK (trueD acc) (Sum.inr s : Key) (.bl true) = trueD (addOnce acc s) := by
  unfold addOnce
  by_cases m : s ∈ acc
  · rw [if_pos m]
    unfold putK
    have a : ((trueD acc).any fun kv => decide (kv.1 = (Sum.inr s : Key))) = true := by
      rw [valV_any, trueD_val, if_pos m]
      rfl
    rw [if_pos a]
    have e : ∀ kv ∈ trueD acc, (if kv.1 = (Sum.inr s : Key) then (kv.1, V.bl true) else kv) = kv := fun kv hk => by
      obtain ⟨t, _, rfl⟩ := List.mem_map.mp hk
      split <;> rfl
    rw [List.map_congr_left e, List.map_id']
  · rw [if_neg m, putK_new _ (by rw [trueD_val, if_neg m])]
    unfold trueD
    rw [List.map_append]
    rfl
theorem trueD_keys (ss : List Str) : ((trueD ss).map fun kv => kV kv.1) = ss.map V.str := by
  unfold trueD
  rw [List.map_map]
  rfl
/-- the same over a tuple -/
theorem dc_tup {K : PySem.W.Frag} {a : Addr} {xs : List V} {g : TG} {tt : TT} {tk tv : TE} {vs : List Nat} {σ : St} {H1 : Hp} {D : Addr} {Qd : Hp → Prop} (Pv : Nat → Hp → Prop) (h0 : Pv 0 (upd H1 D (.dK []))) (hl : ∀ i H, i ≤ xs.length → Pv i H → SqT K H a xs)
    (hs : ∀ i x H, xs[i]? = some x → Pv i H → g x (wipe σ vs) H fun σ2 H2 => wipe σ2 vs = wipe σ vs ∧ tt σ2 H2 fun b H3 =>
      if b = true then tk σ2 H3 fun y H4 => tv σ2 H4 fun z H5 => ∃ kvs k, y = kV k ∧ H5 D = some (.dK kvs) ∧ kvs.length < sizeLine ∧ Pv (i + 1) (upd H5 D (.dK (putK kvs k z))) else Pv (i + 1) H3) (hd : ∀ H, Pv xs.length H → Qd H) :
    ∃ W : Nat → Nat → Hp → Prop, (∃ m, W 0 m (upd H1 D (.dK []))) ∧ ∀ i m H, W i m H →
      ((Itt K a).stop i H ∧ Qd H) ∨ ((Itt K a).go i H ∧ ∃ Nx : Hp → Prop, (∀ H', Nx H' → ∃ m', m' < m ∧ W (i + 1) m' H') ∧ ∀ x H', (Itt K a).yld i H x H' → g x (wipe σ vs) H' fun σ2 H2 => wipe σ2 vs = wipe σ vs ∧ tt σ2 H2 fun b H3 =>
        if b = true then tk σ2 H3 fun y H4 => tv σ2 H4 fun z H5 => ∃ kvs k, y = kV k ∧ H5 D = some (.dK kvs) ∧ kvs.length < sizeLine ∧ Nx (upd H5 D (.dK (putK kvs k z))) else Nx H3) := by
  refine ⟨fun i m H => m = xs.length - i ∧ i ≤ xs.length ∧ Pv i H, ⟨_, rfl, Nat.zero_le _, h0⟩, fun i m H ⟨em, hi, p⟩ => ?_⟩
  subst em
  have q := hl i H hi p
  by_cases hlt : i < xs.length
  · exact .inr ⟨⟨xs, xs[i], q, List.getElem?_eq_getElem hlt⟩, Pv (i + 1), fun _ p' => ⟨xs.length - (i + 1), by omega, rfl, hlt, p'⟩, fun x H' ⟨e, y⟩ => by subst e; exact hs i x _ (y xs q) p⟩
  · have e : i = xs.length := by omega
    subst e
    exact .inl ⟨⟨xs, q, Nat.le_refl _⟩, hd H p⟩
/-- a list or a tuple of texts -/
def TxS (K : PySem.W.Frag) (H : Hp) (a : Addr) (ss : List Str) : Prop := SqL K H a (ss.map V.str) ∨ SqT K H a (ss.map V.str)
theorem Same.seqT {K : PySem.W.Frag} {H H' : Hp} {a : Addr} {xs : List V} (s : Same H H') (h : SqT K H a xs) : SqT K H' a xs := by
  rcases h with (h | ⟨o, h⟩) | h
  · exact .inl (.inl (s _ _ h))
  · exact .inl (.inr ⟨o, s _ _ h⟩)
  · exact .inr h
theorem TxS.keep {K : PySem.W.Frag} {H H' : Hp} {a : Addr} {ss : List Str} (h : TxS K H a ss) (s : Same H H') : TxS K H' a ss := h.imp (fun h => Same.seq s h) fun h => Yd.Same.seqT s h
def spDistinct (K : PySem.W.Frag) : Sp := fun vs H Q _ => ∃ (a : Addr) (ss : List Str), vs = [.ref a] ∧ TxS K H a ss ∧ ss.length ≤ 1000 ∧ ∀ q H', Same H H' → H q = none → H' q = some (.tup ((onceS ss).map V.str)) → Q (.ref q) H'
section
variable {P : Program} {w : World} {K : PySem.W.Frag} {mg : Str → Option Value} {base : Heap}
theorem get_strs2 {ns : List Str} {i : Nat} {x : V} (h : (ns.map V.str)[i]? = some x) : ∃ z, ns[i]? = some z ∧ x = .str z := by
  rw [List.getElem?_map] at h
  cases e : ns[i]? with
  | none => rw [e] at h; cases h
  | some z => rw [e] at h; exact ⟨z, rfl, (Option.some.inj h).symm⟩
def nDistinct : List Str := ["names", "name"]
theorem scDistinct : FnScope nDistinct ["names"] (defScope sDistinct) := ⟨rfl, rfl, rfl, by decide +kernel, rfl, by decide +kernel, by decide +kernel⟩
theorem ok_distinct {f : Addr} {fd : FuncData} (F : Fun K "distinct" "distinct" sDistinct f fd) (hT : mg "tuple" = none) : FnOk P w K mg base CX0 1 f fd ["names"] (spDistinct K) := by
  refine F.ok scDistinct (fun vs H Q E h => ?_) (fun cdv A outer s H vs Q E hr h => ?_)
  · obtain ⟨a, ss, rfl, _⟩ := h
    rfl
  · obtain ⟨a, ss, rfl, ha, hl, k⟩ := h
    have start : ∀ D, H D = none → Same H (upd H D (.dK [])) ∧ upd H D (.dK []) D = some (.dK (trueD (onceS (ss.take 0)))) := fun D hD => ⟨fun b o e => by rw [upd_ne (ne_of_none e hD)]; exact e, upd_same⟩
    have turn : ∀ (D : Addr) (i : Nat) (x : V) (H' : Hp), H D = none → (ss.map V.str)[i]? = some x → Same H H' → H' D = some (.dK (trueD (onceS (ss.take i)))) →
        ∃ kvs k, x = kV k ∧ H' D = some (.dK kvs) ∧ kvs.length < sizeLine ∧ Same H (upd H' D (.dK (putK kvs k (.bl true)))) ∧ upd H' D (.dK (putK kvs k (.bl true))) D = some (.dK (trueD (onceS (ss.take (i + 1))))) := fun D i x H' hD hi s e => by
      obtain ⟨z, hz, rfl⟩ := get_strs2 hi
      refine ⟨_, Sum.inr z, rfl, e, ?_, fun b o q => by rw [upd_ne (ne_of_none q hD)]; exact s b o q, ?_⟩
      · have q := once_len (ss.take i)
        rw [List.length_take] at q
        refine small1000 ?_
        unfold trueD
        rw [List.length_map]
        omega
      · rw [upd_same, trueD_put, once_more hz]
    have fin : ∀ (D : Addr) (H' : Hp), H D = none → Same H H' → H' D = some (.dK (trueD (onceS (ss.take (ss.map V.str).length)))) → ∃ a kvs, [V.ref D] = [V.ref a] ∧ Rd H' a (.dK kvs) ∧ ∀ p, H' p = none → Q (.ref p) (upd H' p (.tup (kvs.map fun kv => kV kv.1))) := fun D H' hD s e => by
      rw [List.length_map, List.take_length] at e
      refine ⟨D, _, rfl, .of e, fun p hp => ?_⟩
      rw [trueD_keys]
      exact k p _ (s.trans fun b o q => by rw [upd_ne (ne_of_none q hp)]; exact q) (s.free hp) upd_same
    rcases ha with ha | ha
    · refine ⟨_, pss_one (ps_ret (pe_callTy (call_tupleD rfl) (by rfl) hT (by decide +kernel) (pa_cons (pe_dc (own := [("name", 1)]) (g := gName 1) (tt := tYes) rfl scDistinct.nd (pi_list (pv 0)) (blkOk_by (N := nDistinct) (sc := defScope sDistinct) (by decide +kernel))
        (fun _ _ _ _ _ => pg_name (i := 1) scDistinct.nd rfl (Or.inl rfl)) (fun _ _ _ _ _ => pts_nil) (fun _ _ _ _ _ => pv 1) (fun _ _ _ _ _ => pe_bl)) pa_nil))), ?_⟩
      refine ⟨_, rfl, a, rfl, ⟨_, ha⟩, fun D hD => dc_list (K := K) (a := a) (xs := ss.map V.str) (fun i H' => Same H H' ∧ H' D = some (.dK (trueD (onceS (ss.take i))))) (start D hD) (fun i H' _ h => h.1.seq ha) (fun i x H' hi h => ?_) fun H' h => fin D H' hD h.1 h.2⟩
      exact ⟨rfl, _, rfl, turn D i x H' hD hi h.1 h.2⟩
    · refine ⟨_, pss_one (ps_ret (pe_callTy (call_tupleD rfl) (by rfl) hT (by decide +kernel) (pa_cons (pe_dc (own := [("name", 1)]) (g := gName 1) (tt := tYes) rfl scDistinct.nd (pi_tup (pv 0)) (blkOk_by (N := nDistinct) (sc := defScope sDistinct) (by decide +kernel))
        (fun _ _ _ _ _ => pg_name (i := 1) scDistinct.nd rfl (Or.inl rfl)) (fun _ _ _ _ _ => pts_nil) (fun _ _ _ _ _ => pv 1) (fun _ _ _ _ _ => pe_bl)) pa_nil))), ?_⟩
      refine ⟨_, rfl, a, rfl, ⟨_, ha⟩, fun D hD => dc_tup (K := K) (a := a) (xs := ss.map V.str) (fun i H' => Same H H' ∧ H' D = some (.dK (trueD (onceS (ss.take i))))) (start D hD) (fun i H' _ h => Yd.Same.seqT h.1 ha) (fun i x H' hi h => ?_) fun H' h => fin D H' hD h.1 h.2⟩
      exact ⟨rfl, _, rfl, turn D i x H' hD hi h.1 h.2⟩
end
end Yd
namespace Yd
open PySem L2
/-! ### the doors of a kind -/
def DoorAt (H : Hp) (a C : Addr) (ss : List Str) (ng : List (List Str × List Str)) : Prop := ∃ dx fs dd ts, H a = some (.ins C dx fs) ∧ fs.lookup ("_doors" : Str) = some (.ref dd) ∧ fs.lookup ("needs" : Str) = none ∧ fs.lookup ("gives" : Str) = none ∧ DoorsAt H dd ss ts ng
/-- what a class with doors must have -/
structure DoorC (K : PySem.W.Frag) (C fN fG fI fP fT : Addr) : Prop where
  cls : Cls K C
  nD : NoAttr K C "_doors"
  mN : Meth K C "needs" fN
  mG : Meth K C "gives" fG
  gi : ItemC K C "__getitem__" fI
  pi : ItemC K C "__setitem__" fP
  it : PySem.W.findIn K (.ref C) "__iter__" = some (some (.ref fT))
  itf : PySem.W.isFn K (.ref fT) = true
theorem DoorsAt.keepT {H H' : Hp} {dd : Addr} {ss : List Str} {ts : List Addr} {ng : List (List Str × List Str)} (D : DoorsAt H dd ss ts ng) (d : H' dd = some (.dK (dP ss ts))) (k : ∀ b xs, H b = some (.tup xs) → H' b = some (.tup xs)) : DoorsAt H' dd ss ts ng :=
  ⟨d, D.len, D.nd, D.ln, fun i t p h1 h2 => let ⟨n, g, q1, q2, q3⟩ := D.at_ i t p h1 h2; ⟨n, g, k _ _ q1, k _ _ q2, k _ _ q3⟩⟩
theorem DoorAt.keepL {H H' : Hp} {a C : Addr} {ss : List Str} {ng : List (List Str × List Str)} (h : DoorAt H a C ss ng) (s : ∀ b o, H b = some o → (∀ xs, o ≠ .lst xs) → H' b = some o) : DoorAt H' a C ss ng := by
  obtain ⟨dx, fs, dd, ts, ha, l1, l2, l3, D⟩ := h
  exact ⟨dx, fs, dd, ts, s _ _ ha (fun xs e => by cases e), l1, l2, l3, D.keepT (s _ _ D.d (fun xs e => by cases e)) fun b xs e => s _ _ e (fun xs e => by cases e)⟩
theorem DoorAt.keep {H H' : Hp} {a C : Addr} {ss : List Str} {ng : List (List Str × List Str)} (h : DoorAt H a C ss ng) (s : Same H H') : DoorAt H' a C ss ng := h.keepL fun b o e _ => s b o e
theorem dP_put : ∀ {ss : List Str} {ts : List Addr} {i : Nat} {s : Str} {t : Addr}, ss.Nodup → ss.length = ts.length → ss[i]? = some s → putK (dP ss ts) (Sum.inr s : Key) (.ref t) = dP ss (ts.set i t)
  | [], _, _, _, _, _, _, h => by simp at h
  | _ :: _, [], _, _, _, _, h, _ => by simp at h
  | a :: r, b :: ts, i, s, t, nd, hl, h => by
    have n2 := List.nodup_cons.mp nd
    have any : ((dP (a :: r) (b :: ts)).any fun kv => decide (kv.1 = (Sum.inr s : Key))) = true := by
      rw [valV_any, dP_is nd hl]
      exact decide_eq_true (List.mem_of_getElem? h)
    have step : ∀ {i : Nat} {s : Str}, r[i]? = some s → ((dP r ts).map fun kv => if kv.1 = (Sum.inr s : Key) then (kv.1, V.ref t) else kv) = dP r (ts.set i t) := fun {i s} hi => by
      have q := dP_put (t := t) n2.2 (by simpa using hl) hi
      unfold putK at q
      rw [if_pos (by rw [valV_any, dP_is n2.2 (by simpa using hl)]; exact decide_eq_true (List.mem_of_getElem? hi))] at q
      exact q
    unfold putK
    rw [if_pos any, dP_cons, List.map_cons]
    match i, h with
    | 0, h =>
      have e : a = s := Option.some.inj h
      subst e
      rw [if_pos rfl, List.set_cons_zero, dP_cons]
      congr 1
      have same : ∀ kv ∈ dP r ts, (if kv.1 = (Sum.inr a : Key) then (kv.1, V.ref t) else kv) = kv := fun kv hk => by
        obtain ⟨j, hj⟩ := List.mem_iff_getElem?.mp hk
        obtain ⟨z, e, hz, _, e1, e2⟩ := dP_key (k := kv.1) (v := kv.2) (by simpa using hl) hj
        rw [if_neg]
        rw [e1]
        intro q
        injection q with q
        rw [q] at hz
        exact n2.1 (List.mem_of_getElem? hz)
      rw [List.map_congr_left same, List.map_id']
    | i + 1, h =>
      have hi : r[i]? = some s := by simpa using h
      have na : ¬ (Sum.inr a : Key) = Sum.inr s := fun q => by
        injection q with q
        rw [q] at n2
        exact n2.1 (List.mem_of_getElem? hi)
      rw [if_neg na, List.set_cons_succ, dP_cons, step hi]
def spDGet (K : PySem.W.Frag) (CU : Addr) : Sp := fun vs H Q E => ∃ (a C : Addr) (ss : List Str) (ng : List (List Str × List Str)) (z : Str), vs = [.ref a, .str z] ∧ Cls K C ∧ NoAttr K C "_doors" ∧ DoorAt H a C ss ng ∧ z.length ≤ 100 ∧
  (z ∉ ss → Raised CU [.str z] fsUnknown H E) ∧ (∀ (i : Nat) (p : List Str × List Str) (t n g : Addr), ss[i]? = some z → ng[i]? = some p → H t = some (.tup [.ref n, .ref g]) → H n = some (.tup (p.1.map V.str)) → H g = some (.tup (p.2.map V.str)) → Q (.ref t) H)
def spDPut (K : PySem.W.Frag) (CU : Addr) : Sp := fun vs H Q E => ∃ (a C : Addr) (ss : List Str) (ng : List (List Str × List Str)) (z : Str) (w n g : Addr) (ns gs : List Str), vs = [.ref a, .str z, .ref w] ∧ Cls K C ∧ NoAttr K C "_doors" ∧ DoorAt H a C ss ng ∧ z.length ≤ 100 ∧
  H w = some (.tup [.ref n, .ref g]) ∧ TxS K H n ns ∧ TxS K H g gs ∧ ns.length ≤ 1000 ∧ gs.length ≤ 1000 ∧ ss.length ≤ 1000 ∧
  (z ∉ ss → Raised CU [.str z] fsUnknown H E) ∧ (∀ i : Nat, ss[i]? = some z → ∀ H', NoD H H' → DoorAt H' a C ss (ng.set i (onceS ns, onceS gs)) → Q .non H')
def spDSide (K : PySem.W.Frag) (CU fN fG fI fP fT : Addr) (side : List Str × List Str → List Str) : Sp := fun vs H Q E => ∃ (a C : Addr) (ss : List Str) (ng : List (List Str × List Str)) (z : Str), vs = [.ref a, .str z] ∧ DoorC K C fN fG fI fP fT ∧ DoorAt H a C ss ng ∧ z.length ≤ 100 ∧
  (z ∉ ss → Raised CU [.str z] fsUnknown H E) ∧ (∀ (i : Nat) (p : List Str × List Str) (q : Addr), ss[i]? = some z → ng[i]? = some p → H q = some (.tup ((side p).map V.str)) → Q (.ref q) H)
def spDIter (K : PySem.W.Frag) : Nat → Sp := fun n vs H Q _ => ∃ (a C dx : Addr) (fs : List (Str × V)) (d : Addr) (od : Obj) (m : Nat), vs = [.ref a] ∧ H a = some (.ins C dx fs) ∧ Cls K C ∧ NoAttr K C "_doors" ∧ fs.lookup ("_doors" : Str) = some (.ref d) ∧ Keyed H d od m ∧
  ∀ it, H it = none → n ≤ it → Q (.ref it) (upd H it (KIo d it od m))
section
variable {P : Program} {w : World} {K : PySem.W.Frag} {mg : Str → Option Value} {base : Heap}
theorem scDGet : FnScope ["self", "at"] ["self", "at"] (defScope sDoorsGet) := ⟨rfl, rfl, rfl, by decide +kernel, rfl, by decide +kernel, by decide +kernel⟩
theorem ok_dGet {f CU : Addr} {fd : FuncData} (F : Fun K "__getitem__" "Doors.__getitem__" sDoorsGet f fd) (OU : ErrOk P w K mg base "Unknown" CU 1 okUnknown fsUnknown) : FnOk P w K mg base (L2.CX P w) 3 f fd ["self", "at"] (spDGet K CU) := by
  refine F.okX scDGet (fun vs H Q E h => ?_) (fun cdv A outer s H vs Q E hr h => ?_)
  · obtain ⟨a, C, ss, ng, z, rfl, _⟩ := h
    rfl
  · obtain ⟨a, C, ss, ng, z, rfl, cls, nD, ⟨dx, fs, dd, ts, ha, l1, l2, l3, D⟩, hz, k1, k2⟩ := h
    have hu := hu_of hr
    refine ⟨_, pss_cons (ps_if (pt_cmp (pc_dnotin hu (pv 1) (pe_fld (pv 0) rfl))) (pss_one (ps_raise rfl (takes_of rfl rfl rfl rfl) (pmk_err OU hr rfl (pa_cons (pv 1) pa_nil)))) pss_nil)
      (pss_one (ps_ret (pe_dget hu (pe_fld (pv 0) rfl) (pv 1) (fun _ _ => rfl)))), ?_⟩
    refine ⟨_, rfl, _, rfl, a, C, dx, fs, _, rfl, ha, cls, nD, l1, dd, _, rfl, DGet.k (k := Sum.inr z) D.d, _, rfl, ?_⟩
    rw [dP_is D.nd D.len]
    by_cases hm : z ∈ ss
    · rw [decide_eq_true hm]
      obtain ⟨i, hi⟩ := List.mem_iff_getElem?.mp hm
      have hil : i < ss.length := (List.getElem?_eq_some_iff.mp hi).1
      obtain ⟨t, ht⟩ : ∃ t, ts[i]? = some t := ⟨_, List.getElem?_eq_getElem (by rw [← D.len]; exact hil)⟩
      obtain ⟨p, hp⟩ : ∃ p, ng[i]? = some p := ⟨_, List.getElem?_eq_getElem (by rw [D.ln]; exact hil)⟩
      obtain ⟨n, g, q1, q2, q3⟩ := D.at_ i t p ht hp
      have dg := DGet.k (k := Sum.inr z) D.d
      rw [dP_some D.nd hi ht] at dg
      exact no rfl ⟨_, rfl, a, C, dx, fs, _, rfl, ha, cls, nD, l1, _, rfl, dd, _, rfl, dg, k2 i p t n g hi hp q1 q2 q3⟩
    · rw [decide_eq_false hm]
      exact yes rfl ⟨_, rfl, err_read rfl (by decide) ⟨z, rfl, hz⟩ (k1 hm)⟩
def nDPut : List Str := ["self", "at", "worth", "needs", "gives"]
theorem scDPut : FnScope nDPut ["self", "at", "worth"] (defScope sDoorsPut) := ⟨rfl, rfl, rfl, by decide +kernel, rfl, by decide +kernel, by decide +kernel⟩
theorem ok_dPut {f fX CU : Addr} {fd fdX : FuncData} (F : Fun K "__setitem__" "Doors.__setitem__" sDoorsPut f fd) (OU : ErrOk P w K mg base "Unknown" CU 1 okUnknown fsUnknown)
    (GX : FnOk P w K mg base CX0 1 fX fdX ["names"] (spDistinct K)) (gX : mg "distinct" = some (.ref fX)) (kX : PySem.W.keepIn K (.ref fX) = true) (bX : Binds K fdX ["names"] []) : FnOk P w K mg base (L2.CX P w) 3 f fd ["self", "at", "worth"] (spDPut K CU) := by
  refine F.okX scDPut (fun vs H Q E h => ?_) (fun cdv A outer s H vs Q E hr h => ?_)
  · obtain ⟨a, C, ss, ng, z, w', n, g, ns, gs, rfl, _⟩ := h
    rfl
  · obtain ⟨a, C, ss, ng, z, w', n, g, ns, gs, rfl, cls, nD, ⟨dx, fs, dd, ts, ha, l1, l2, l3, D⟩, hz, hw, hn, hg, nl, gl, sl, k1, k2⟩ := h
    have hu := hu_of hr
    have r1 : Room 1 _ := hr.mono (by decide)
    refine ⟨_, pss_cons (ps_if (pt_cmp (pc_dnotin hu (pv 1) (pe_fld (pv 0) rfl))) (pss_one (ps_raise rfl (takes_of rfl rfl rfl rfl) (pmk_err OU hr rfl (pa_cons (pv 1) pa_nil)))) pss_nil)
      (pss_cons (ps_asg (pv 2) (pg_tup (by rfl) (pgs_cons (pg_name (i := 3) scDPut.nd rfl (Or.inl rfl)) (pgs_cons (pg_name (i := 4) scDPut.nd rfl (Or.inl rfl)) pgs_nil))))
      (pss_one (ps_dput hu (pe_fld (pv 0) rfl) (pv 1) (pe_tup (pa_cons (pe_call GX r1 rfl gX kX bX .nil pass0 (pa_cons (pv 3) pa_nil)) (pa_cons (pe_call GX r1 rfl gX kX bX .nil pass0 (pa_cons (pv 4) pa_nil)) pa_nil))) rfl))), ?_⟩
    refine ⟨_, rfl, _, rfl, a, C, dx, fs, _, rfl, ha, cls, nD, l1, dd, _, rfl, DGet.k (k := Sum.inr z) D.d, _, rfl, ?_⟩
    rw [dP_is D.nd D.len]
    by_cases hm : z ∈ ss
    · rw [decide_eq_true hm]
      obtain ⟨i, hi⟩ := List.mem_iff_getElem?.mp hm
      refine no rfl ⟨_, rfl, w', _, rfl, SqT.of hw, rfl, _, _, rfl, _, _, rfl, rfl, ?_⟩
      refine ⟨_, rfl, n, ns, rfl, hn, nl, fun q1 H1 s1 f1 e1 => ⟨_, rfl, g, gs, rfl, hg.keep s1, gl, fun q2 H2 s2 f2 e2 => ⟨(by show 2 ≤ sizeLine; decide), fun t ht => ?_⟩⟩⟩
      have s3 : Same H2 (upd H2 t (.tup [.ref q1, .ref q2])) := fun b o q => by rw [upd_ne (ne_of_none q ht)]; exact q
      have e3 : upd H2 t (.tup [.ref q1, .ref q2]) t = some (.tup [.ref q1, .ref q2]) := upd_same
      generalize upd H2 t (.tup [.ref q1, .ref q2]) = H3 at s3 e3
      have s4 : Same H H3 := (s1.trans s2).trans s3
      refine ⟨_, rfl, a, C, dx, fs, _, rfl, s4 _ _ ha, cls, nD, l1, _, rfl, dd, _, rfl, DPut.k (k := Sum.inr z) (s4 _ _ D.d) (small1000 (by rw [dP_len D.len]; exact sl)), ?_⟩
      rw [dP_put D.nd D.len hi]
      have off : ∀ b o, H b = some o → (∀ kvs, o ≠ .dK kvs) → upd H3 dd (.dK (dP ss (ts.set i t))) b = some o := fun b o q nk => by
        rw [upd_ne]
        · exact s4 _ _ q
        · rintro rfl
          rw [D.d] at q
          exact nk _ (Option.some.inj q).symm
      have off3 : ∀ b o, H3 b = some o → (∀ kvs, o ≠ .dK kvs) → upd H3 dd (.dK (dP ss (ts.set i t))) b = some o := fun b o q nk => by
        rw [upd_ne]
        · exact q
        · rintro rfl
          rw [s4 _ _ D.d] at q
          exact nk _ (Option.some.inj q).symm
      refine k2 i hi _ off ⟨dx, fs, dd, _, off _ _ ha (fun kvs e => by cases e), l1, l2, l3, upd_same, by rw [List.length_set]; exact D.len, D.nd, by rw [List.length_set]; exact D.ln, fun j c p h1 h2 => ?_⟩
      have tk : ∀ b xs, H3 b = some (.tup xs) → upd H3 dd (.dK (dP ss (ts.set i t))) b = some (.tup xs) := fun b xs q => off3 _ _ q (fun kvs e => by cases e)
      by_cases hj : i = j
      · subst hj
        rw [List.getElem?_set_self' ] at h1 h2
        obtain ⟨t0, h0, rfl⟩ := Option.map_eq_some_iff.mp h1
        obtain ⟨p0, g0, rfl⟩ := Option.map_eq_some_iff.mp h2
        exact ⟨q1, q2, tk _ _ e3, tk _ _ (s3 _ _ (s2 _ _ e1)), tk _ _ (s3 _ _ e2)⟩
      · rw [List.getElem?_set_ne hj] at h1 h2
        obtain ⟨n', g', a1, a2, a3⟩ := D.at_ j c p h1 h2
        exact ⟨n', g', tk _ _ (s4 _ _ a1), tk _ _ (s4 _ _ a2), tk _ _ (s4 _ _ a3)⟩
    · rw [decide_eq_false hm]
      exact yes rfl ⟨_, rfl, err_read rfl (by decide) ⟨z, rfl, hz⟩ (k1 hm)⟩
theorem scDNeeds : FnScope ["self", "standing"] ["self", "standing"] (defScope sDoorsNeeds) := ⟨rfl, rfl, rfl, by decide +kernel, rfl, by decide +kernel, by decide +kernel⟩
theorem scDGives : FnScope ["self", "standing"] ["self", "standing"] (defScope sDoorsGives) := ⟨rfl, rfl, rfl, by decide +kernel, rfl, by decide +kernel, by decide +kernel⟩
theorem ok_dNeeds {f CU fN fG fI fP fT : Addr} {fd fdI : FuncData} (F : Fun K "needs" "Doors.needs" sDoorsNeeds f fd) (GI : FnOk P w K mg base (L2.CX P w) 3 fI fdI ["self", "at"] (spDGet K CU)) (bI : Binds K fdI ["self", "at"] []) :
    FnOk P w K mg base (L2.CX P w) 5 f fd ["self", "standing"] (spDSide K CU fN fG fI fP fT Prod.fst) := by
  refine F.okX scDNeeds (fun vs H Q E h => ?_) (fun cdv A outer s H vs Q E hr h => ?_)
  · obtain ⟨a, C, ss, ng, z, rfl, _⟩ := h
    rfl
  · obtain ⟨a, C, ss, ng, z, rfl, dc, da, hz, k1, k2⟩ := h
    refine ⟨_, pss_one (ps_ret (pe_ix ix_tup (pe_subO (E := fun _ => E) (pv 0) (pv 1) dc.gi GI hr bI (at_all (passes_call (takes_of rfl rfl rfl rfl) fun _ _ _ _ h => h))) pe_int (fun _ _ => rfl))), ?_⟩
    obtain ⟨dx, fs, dd, ts, ha, _⟩ := id da
    refine ⟨_, rfl, _, rfl, a, dx, fs, rfl, ha, a, C, ss, ng, z, rfl, dc.cls, dc.nD, da, hz, k1, fun i p t n g hi hp ht hn hg => ?_⟩
    exact ⟨t, _, 0, _, rfl, rfl, SqT.of ht, at_c (j := 0) rfl rfl, k2 i p n hi hp hn⟩
theorem ok_dGives {f CU fN fG fI fP fT : Addr} {fd fdI : FuncData} (F : Fun K "gives" "Doors.gives" sDoorsGives f fd) (GI : FnOk P w K mg base (L2.CX P w) 3 fI fdI ["self", "at"] (spDGet K CU)) (bI : Binds K fdI ["self", "at"] []) :
    FnOk P w K mg base (L2.CX P w) 5 f fd ["self", "standing"] (spDSide K CU fN fG fI fP fT Prod.snd) := by
  refine F.okX scDGives (fun vs H Q E h => ?_) (fun cdv A outer s H vs Q E hr h => ?_)
  · obtain ⟨a, C, ss, ng, z, rfl, _⟩ := h
    rfl
  · obtain ⟨a, C, ss, ng, z, rfl, dc, da, hz, k1, k2⟩ := h
    refine ⟨_, pss_one (ps_ret (pe_ix ix_tup (pe_subO (E := fun _ => E) (pv 0) (pv 1) dc.gi GI hr bI (at_all (passes_call (takes_of rfl rfl rfl rfl) fun _ _ _ _ h => h))) pe_int (fun _ _ => rfl))), ?_⟩
    obtain ⟨dx, fs, dd, ts, ha, _⟩ := id da
    refine ⟨_, rfl, _, rfl, a, dx, fs, rfl, ha, a, C, ss, ng, z, rfl, dc.cls, dc.nD, da, hz, k1, fun i p t n g hi hp ht hn hg => ?_⟩
    exact ⟨t, _, 1, _, rfl, rfl, SqT.of ht, at_c (j := 1) rfl rfl, k2 i p g hi hp hg⟩
theorem scDIter : FnScope ["self"] ["self"] (defScope sDoorsIter) := ⟨rfl, rfl, rfl, by decide +kernel, rfl, by decide +kernel, by decide +kernel⟩
theorem ok_dIter {f : Addr} {fd : FuncData} (F : Fun K "__iter__" "Doors.__iter__" sDoorsIter f fd) (hI : mg "iter" = none) : FnN P w K mg base 1 f fd ["self"] (spDIter K) := by
  refine fun_N F scDIter (fun n vs H Q E h => ?_) (fun cdv A outer s H vs Q E hr h => ?_)
  · obtain ⟨a, C, dx, fs, d, od, m, rfl, _⟩ := h
    rfl
  · obtain ⟨a, C, dx, fs, d, od, m, rfl, ha, cls, nD, l1, kd, k⟩ := h
    refine ⟨_, pss_one (ps_ret (pe_callB call_iterK (by rfl) hI (by decide +kernel) (pa_cons (pe_fld (pv 0) rfl) pa_nil))), ?_⟩
    exact ⟨_, rfl, a, C, dx, fs, _, rfl, ha, cls, nD, l1, d, od, m, rfl, kd, fun it h1 h2 => k it h1 h2⟩
end
end Yd
namespace Yd
open PySem L2
/-! ### the law's own defs -/
theorem same_new {H : Hp} {q : Addr} {o : HO} (n : H q = none) : Same H (upd H q o) := fun b u e => by rw [upd_ne (ne_of_none e n)]; exact e
theorem nd_twice {ss : List Str} {i : Nat} {s : Str} (nd : ss.Nodup) (h1 : ss[i]? = some s) (h2 : s ∈ ss.take i) : False := by
  obtain ⟨k, hk⟩ := List.mem_iff_getElem?.mp h2
  have hki : k < i := by
    have := (List.getElem?_eq_some_iff.mp hk).1
    rw [List.length_take] at this
    omega
  rw [List.getElem?_take_of_lt hki] at hk
  exact absurd (nd_ix nd h1 hk) (by omega)
structure MadeC (K : PySem.W.Frag) (mg : Str → Option Value) (x : Str) (C f : Addr) : Prop where
  g : mg x = some (.ref C)
  made : Mk K C f
def spMadeD (K : PySem.W.Frag) (fN fG fI fP fT : Addr) : Sp := fun vs H Q _ => ∃ (k : Int) (nm : Str) (l : Addr) (ss : List Str), vs = [.int k, .str nm, .ref l] ∧ SqL K H l (ss.map V.str) ∧ ss.length ≤ 1000 ∧ (∀ s ∈ ss, s.length ≤ 100) ∧ ss.Nodup ∧
  ∀ a C H', Same H H' → H a = none → DoorC K C fN fG fI fP fT → DoorAt H' a C ss (ss.map fun _ => ([], [])) → Q (.ref a) H'
theorem gro_made {H H' : Hp} {x dx C : Addr} {fs : List (Str × V)} (nx : H x = none) (nd : H dx = none) (g : Gro x (upd (upd H dx (.own x)) x (.ins C dx fs)) H') : Same H H' := fun b o e => by
  have n1 := ne_of_none e nx
  exact g b o (by rw [upd_ne n1, upd_ne (ne_of_none e nd)]; exact e) n1
theorem door_part {H : Hp} {a C dx ds dd : Addr} {nm : Str} {ss : List Str} {ts : List Addr} {ng : List (List Str × List Str)} (h : H a = some (.ins C dx (fsPart nm ds dd))) (D : DoorsAt H dd ss ts ng) : DoorAt H a C ss ng := by
  have lk : ∀ f : Str, (fsPart nm ds dd).lookup f = if f = "name" then some (.str nm) else if f = "_doors" then some (.ref dd) else if f = "_steps" then some (.ref ds) else none := fun f => by
    unfold fsPart
    rw [lookup_putF, lookup_putF, lookup_putF]
    rfl
  refine ⟨dx, _, dd, ts, h, ?_, ?_, ?_, D⟩
  · rw [lk, if_neg (by decide +kernel), if_pos rfl]
  · rw [lk, if_neg (by decide +kernel), if_neg (by decide +kernel), if_neg (by decide +kernel)]
  · rw [lk, if_neg (by decide +kernel), if_neg (by decide +kernel), if_neg (by decide +kernel)]
structure CatchC (K : PySem.W.Frag) (C : Addr) : Prop where
  xf : XfC K C
  self : PySem.W.exmOne K (.ref C) (.ref C) = some true
def spDSet (K : PySem.W.Frag) (fN fG fI fP fT : Addr) : Sp := fun vs H Q _ => ∃ (a C : Addr) (ss : List Str) (ng : List (List Str × List Str)) (z : Str) (n g : Addr) (ns gs : List Str), vs = [.ref a, .str z, .ref n, .ref g] ∧ DoorC K C fN fG fI fP fT ∧ DoorAt H a C ss ng ∧ z.length ≤ 100 ∧
  TxS K H n ns ∧ TxS K H g gs ∧ ns.length ≤ 1000 ∧ gs.length ≤ 1000 ∧ ss.length ≤ 1000 ∧ (z ∉ ss → ∀ q H', Same H H' → H' q = some (.tup [.str "unknown", .str z]) → Q (.ref q) H') ∧
  (∀ i : Nat, ss[i]? = some z → ∀ H', NoD H H' → DoorAt H' a C ss (ng.set i (onceS ns, onceS gs)) → Q .non H')
def spGot (K : PySem.W.Frag) (fN fG fI fP fT : Addr) : Sp := fun vs H Q _ => ∃ (a C : Addr) (ss : List Str) (ng : List (List Str × List Str)) (z : Str) (k : Int), vs = [.ref a, .str z, .int k] ∧ DoorC K C fN fG fI fP fT ∧ DoorAt H a C ss ng ∧ z.length ≤ 100 ∧
  (z ∉ ss → ∀ q H', Same H H' → H' q = some (.lst [.str "unknown", .str z]) → Q (.ref q) H') ∧
  (∀ (i : Nat) (p : List Str × List Str), ss[i]? = some z → ng[i]? = some p → (k = 0 → ∀ t n g, H t = some (.tup [.ref n, .ref g]) → H n = some (.tup (p.1.map V.str)) → H g = some (.tup (p.2.map V.str)) → Q (.ref t) H) ∧
    (k = 1 → ∀ n, H n = some (.tup (p.1.map V.str)) → Q (.ref n) H) ∧ (k ≠ 0 → k ≠ 1 → ∀ g, H g = some (.tup (p.2.map V.str)) → Q (.ref g) H))
def spOnce (K : PySem.W.Frag) : Sp := fun vs H Q _ => ∃ (a : Addr) (ns : List Str), vs = [.ref a] ∧ SqL K H a (ns.map V.str) ∧ ns.length ≤ 1000 ∧ ∀ q H', Same H H' → H q = none → H' q = some (.tup ((onceS ns).map V.str)) → Q (.ref q) H'
section
variable {P : Program} {w : World} {K : PySem.W.Frag} {mg : Str → Option Value} {base : Heap}
theorem scMade : FnScope ["_law_k", "_law_name_here", "_law_standings"] ["_law_k", "_law_name_here", "_law_standings"] (defScope sMade) := ⟨rfl, rfl, rfl, by decide +kernel, rfl, by decide +kernel, by decide +kernel⟩
theorem ok_madeD {f CR fN fG fI fP fT CD C1 C2 C3 i0 i1 i2 i3 : Addr} {fd d0 d1 d2 d3 : FuncData} (F : Fun K "_law_made" "_law_made" sMade f fd)
    (M0 : MadeC K mg "Doors" CD i0) (G0 : FnOk P w K mg base CX0 1 i0 d0 ["self", "standings"] (spDoorsInit K)) (b0 : Binds K d0 ["self", "standings"] []) (k0 : DoorC K CD fN fG fI fP fT)
    (M1 : MadeC K mg "Part" C1 i1) (G1 : FnOk P w K mg base (L2.CX P w) 4 i1 d1 ["self", "name", "standings"] (spPartInit K CR)) (b1 : Binds K d1 ["self", "name", "standings"] []) (k1 : DoorC K C1 fN fG fI fP fT) (p1 : PartC K C1)
    (M2 : MadeC K mg "Single" C2 i2) (G2 : FnOk P w K mg base (L2.CX P w) 5 i2 d2 ["self", "name", "standings"] (spPartInit K CR)) (b2 : Binds K d2 ["self", "name", "standings"] []) (k2 : DoorC K C2 fN fG fI fP fT) (p2 : PartC K C2)
    (M3 : MadeC K mg "Many" C3 i3) (G3 : FnOk P w K mg base (L2.CX P w) 5 i3 d3 ["self", "name", "standings"] (spPartInit K CR)) (b3 : Binds K d3 ["self", "name", "standings"] []) (k3 : DoorC K C3 fN fG fI fP fT) (p3 : PartC K C3) :
    FnOk P w K mg base (L2.CX P w) 7 f fd ["_law_k", "_law_name_here", "_law_standings"] (spMadeD K fN fG fI fP fT) := by
  refine F.okX scMade (fun vs H Q E h => ?_) (fun cdv A outer s H vs Q E hr h => ?_)
  · obtain ⟨k, nm, l, ss, rfl, _⟩ := h
    rfl
  · obtain ⟨k, nm, l, ss, rfl, hl, hsl, hsh, hnd, kN⟩ := h
    have hr2 : Room 2 _ := hr.mono (by decide)
    have hr5 : Room 5 _ := hr.mono (by decide)
    refine ⟨_, pss_cons (ps_if (pt_cmpR op_eq (pv 0) pe_int (nomark _)) (pss_one (ps_ret (pe_make (E := E) M0.made G0 hr2 (by rfl) M0.g b0 .nil pass0 (pa_cons (pv 2) pa_nil)))) pss_nil)
      (pss_cons (ps_if (pt_cmpR op_eq (pv 0) pe_int (nomark _)) (pss_one (ps_ret (pe_make (E := E) M1.made G1 hr5 (by rfl) M1.g b1 .nil (passes_call (takes_of rfl rfl rfl rfl) fun _ _ _ _ h => h) (pa_cons (pv 1) (pa_cons (pv 2) pa_nil))))) pss_nil)
      (pss_cons (ps_if (pt_cmpR op_eq (pv 0) pe_int (nomark _)) (pss_one (ps_ret (pe_make (E := E) M2.made G2 hr (by rfl) M2.g b2 .nil (passes_call (takes_of rfl rfl rfl rfl) fun _ _ _ _ h => h) (pa_cons (pv 1) (pa_cons (pv 2) pa_nil))))) pss_nil)
      (pss_one (ps_ret (pe_make (E := E) M3.made G3 hr (by rfl) M3.g b3 .nil (passes_call (takes_of rfl rfl rfl rfl) fun _ _ _ _ h => h) (pa_cons (pv 1) (pa_cons (pv 2) pa_nil))))))), ?_⟩
    have sq : ∀ {x dx C : Addr}, H x = none → H dx = none → SqL K (upd (upd H dx (.own x)) x (.ins C dx [])) l (ss.map V.str) := fun {x dx C} nx nd => Same.seq (fun b o e => by rw [upd_ne (ne_of_none e nx), upd_ne (ne_of_none e nd)]; exact e) hl
    have part : ∀ {C : Addr}, DoorC K C fN fG fI fP fT → PartC K C → ∀ x dx, H x = none → H dx = none → dx ≠ x → spPartInit K CR (.ref x :: ([.str nm, .ref l] ++ [])) (upd (upd H dx (.own x)) x (.ins C dx [])) (fun v H2 => v = .non ∧ Q (.ref x) H2) E :=
      fun {C} kc pc x dx nx nd _ => ⟨x, C, dx, nm, l, ss, rfl, upd_same, pc, sq nx nd, hsl, hsh, fun i s h1 h2 _ => (nd_twice hnd h1 h2).elim, fun _ ds es dd ts H' g e _ D => ⟨rfl, kN x C H' (gro_made nx nd g) nx kc (door_part e D)⟩⟩
    refine ⟨_, rfl, rfl, _, rfl, ?_⟩
    refine ite2 (fun _ => ?_) (fun _ => ?_)
    · refine ⟨_, rfl, fun x dx nx nd ne => ?_⟩
      refine ⟨x, CD, dx, [], l, ss, rfl, upd_same, Nat.zero_le _, k0.cls, k0.nD, sq nx nd, hsl, hnd, fun dd ts H' _ g e D => ⟨rfl, kN x CD H' (gro_made nx nd g) nx k0 ⟨dx, _, dd, ts, e, rfl, ?_, ?_, D⟩⟩⟩
      all_goals (rw [lookup_putF, if_neg (by decide +kernel)]; rfl)
    · refine ⟨_, rfl, rfl, _, rfl, ?_⟩
      refine ite2 (fun _ => ⟨_, rfl, _, rfl, part k1 p1⟩) (fun _ => ?_)
      refine ⟨_, rfl, rfl, _, rfl, ?_⟩
      exact ite2 (fun _ => ⟨_, rfl, _, rfl, part k2 p2⟩) (fun _ => ⟨_, rfl, _, rfl, part k3 p3⟩)
theorem scSet : FnScope ["_law_part", "_law_standing", "_law_needs", "_law_gives", "e"] ["_law_part", "_law_standing", "_law_needs", "_law_gives"] (defScope sSet) := ⟨rfl, rfl, rfl, by decide +kernel, rfl, by decide +kernel, by decide +kernel⟩
theorem ok_dset {f fN fG fI fP fT CU : Addr} {fd fdP : FuncData} (F : Fun K "_law_set" "_law_set" sSet f fd) (GP : FnOk P w K mg base (L2.CX P w) 3 fP fdP ["self", "at", "worth"] (spDPut K CU)) (bP : Binds K fdP ["self", "at", "worth"] [])
    (gU : mg "Unknown" = some (.ref CU)) (T : CatchC K CU) (n0 : PySem.W.findIn K (.ref CU) "name" = some none) : FnOk P w K mg base CX0 4 f fd ["_law_part", "_law_standing", "_law_needs", "_law_gives"] (spDSet K fN fG fI fP fT) := by
  refine F.ok scSet (fun vs H Q E h => ?_) (fun cdv A outer s H vs Q E hr h => ?_)
  · obtain ⟨a, C, ss, ng, z, n, g, ns, gs, rfl, _⟩ := h
    rfl
  · obtain ⟨a, C, ss, ng, z, n, g, ns, gs, rfl, dc, da, hz, hn, hg, nl, gl, sl, k1, k2⟩ := h
    obtain ⟨dx, fs, dd, ts, ha, _⟩ := id da
    refine ⟨_, pss_cons (ps_try_as (i := 4) (tb := fun W => tAsg (tTup (tCons (tVar 2) (tCons (tVar 3) tNil))) (gSubO C (spDPut K CU) (WE W) (tVar 0) (tVar 1))) (ts := fun a cls d => tRet (tTup (tCons (tC (.str "unknown")) (tCons (tXf a cls d CU "name" (tVar 4)) tNil))))
        (Wout := fun _ _ _ _ => False) rfl rfl scSet.nd rfl rfl ⟨rfl, by decide, Or.inl gU⟩ takes0
        (fun W pn xe tk _ => pss_one (ps_asg (pe_tup (by exact (pa_cons (pv 2) (pa_cons (pv 3) pa_nil)))) (by exact (pg_subO (pv 0) (pv 1) dc.pi GP hr bP (fun σ => passAt tk σ)))))
        (fun a oe cls d pn hz hf => pss_one (ps_ret (pe_tup (by exact (pa_cons pe_str (pa_cons (pe_xf T.xf n0 hz hf (pv 4)) pa_nil)))))))
      (pss_one (ps_ret pe_non)), ?_⟩
    refine ⟨_, rfl, _, rfl, (by show 2 ≤ sizeLine; decide), fun t ht => ?_⟩
    have s1 : Same H (upd H t (.tup [.ref n, .ref g])) := same_new ht
    have e1 : upd H t (.tup [.ref n, .ref g]) t = some (.tup [.ref n, .ref g]) := upd_same
    generalize upd H t (.tup [.ref n, .ref g]) = H1 at s1 e1
    refine ⟨_, rfl, _, rfl, a, dx, fs, rfl, s1 _ _ ha, a, C, ss, ng, z, t, n, g, ns, gs, rfl, dc.cls, dc.nD, da.keep s1, hz, e1, hn.keep s1, hg.keep s1, nl, gl, sl, fun hm d H' s5 hd hx => ?_, fun i hi H' s5 D => k2 i hi H' (fun b o q1 q2 => s5 b o (s1 b o q1) q2) D⟩
    refine ⟨true, T.self, fun _ a0 _ => ?_, fun q => Bool.noConfusion q⟩
    refine ⟨_, rfl, rfl, rfl, d, _, _, rfl, hx, rfl, (by show 2 ≤ sizeLine; decide), fun p hp => ?_⟩
    exact k1 hm p _ ((s1.trans s5).trans (same_new hp)) upd_same
theorem scGot : FnScope ["_law_part", "_law_standing", "_law_k", "e"] ["_law_part", "_law_standing", "_law_k"] (defScope sGot) := ⟨rfl, rfl, rfl, by decide +kernel, rfl, by decide +kernel, by decide +kernel⟩
theorem ok_got {f fN fG fI fP fT CU : Addr} {fd fdI fdN fdG : FuncData} (F : Fun K "_law_got" "_law_got" sGot f fd) (GI : FnOk P w K mg base (L2.CX P w) 3 fI fdI ["self", "at"] (spDGet K CU)) (bI : Binds K fdI ["self", "at"] [])
    (GN : FnOk P w K mg base (L2.CX P w) 5 fN fdN ["self", "standing"] (spDSide K CU fN fG fI fP fT Prod.fst)) (bN : Binds K fdN ["self", "standing"] []) (GG : FnOk P w K mg base (L2.CX P w) 5 fG fdG ["self", "standing"] (spDSide K CU fN fG fI fP fT Prod.snd)) (bG : Binds K fdG ["self", "standing"] [])
    (gU : mg "Unknown" = some (.ref CU)) (T : CatchC K CU) (n0 : PySem.W.findIn K (.ref CU) "name" = some none) : FnOk P w K mg base CX0 6 f fd ["_law_part", "_law_standing", "_law_k"] (spGot K fN fG fI fP fT) := by
  refine F.ok scGot (fun vs H Q E h => ?_) (fun cdv A outer s H vs Q E hr h => ?_)
  · obtain ⟨a, C, ss, ng, z, k, rfl, _⟩ := h
    rfl
  · obtain ⟨a, C, ss, ng, z, k, rfl, dc, da, hz, k1, k2⟩ := h
    obtain ⟨dx, fs, dd, ts, ha, l1, l2, l3, D⟩ := id da
    have r4 : Room 4 _ := hr.mono (by decide)
    refine ⟨_, pss_one (ps_try_as (i := 3) (tb := fun W => tSeq (tIfS (tTest (tOp _ (tVar 2) (tC (.int 0)))) (tRet (tSubO C (spDGet K CU) (WE W) (tVar 0) (tVar 1))) tNext) (tSeq (tIfS (tTest (tOp _ (tVar 2) (tC (.int 1)))) (tRet (tMethE C "needs" (spDSide K CU fN fG fI fP fT Prod.fst) (WE W) (tVar 0) (tCons (tVar 1) tNil))) tNext)
          (tRet (tMethE C "gives" (spDSide K CU fN fG fI fP fT Prod.snd) (WE W) (tVar 0) (tCons (tVar 1) tNil))))) (ts := fun a cls d => tRet (tLst (tCons (tC (.str "unknown")) (tCons (tXf a cls d CU "name" (tVar 3)) tNil))))
        (Wout := fun _ _ _ _ => False) rfl rfl scGot.nd rfl rfl ⟨rfl, by decide, Or.inl gU⟩ takes0
        (fun W pn xe tk _ => pss_cons (ps_if (pt_cmpR op_eq (pv 2) pe_int (nomark _)) (pss_one (ps_ret (by exact (pe_subO (pv 0) (pv 1) dc.gi GI r4 bI (fun σ => passAt tk σ))))) pss_nil)
          (pss_cons (ps_if (pt_cmpR op_eq (pv 2) pe_int (nomark _)) (pss_one (ps_ret (by exact (pe_methE (pv 0) dc.cls dc.mN GN hr bN (fun σ => passAt tk σ) (by exact (pa_cons (pv 1) pa_nil)))))) pss_nil)
          (pss_one (ps_ret (by exact (pe_methE (pv 0) dc.cls dc.mG GG hr bG (fun σ => passAt tk σ) (by exact (pa_cons (pv 1) pa_nil))))))))
        (fun a oe cls d pn hz hf => pss_one (ps_ret (pe_lst (by exact (pa_cons pe_str (pa_cons (pe_xf T.xf n0 hz hf (pv 3)) pa_nil))))))), ?_⟩
    have bad : z ∉ ss → ∀ (d : Addr) (H' : Hp), Same H H' → H' d = some (.xd (fsUnknown [.str z])) → ∀ p, H' p = none → Q (.ref p) (upd H' p (.lst [.str "unknown", .str z])) := fun hm d H' s5 hx p hp => k1 hm p _ (s5.trans (same_new hp)) upd_same
    refine ⟨_, rfl, rfl, _, rfl, ?_⟩
    by_cases h0 : k = 0
    · subst h0
      refine yes (decide_eq_true rfl) ⟨_, rfl, _, rfl, a, dx, fs, rfl, ha, a, C, ss, ng, z, rfl, dc.cls, dc.nD, da, hz, fun hm d H' s5 hd hx => ?_, fun i p t n g hi hp ht hn hg => (k2 i p hi hp).1 rfl t n g ht hn hg⟩
      refine ⟨true, T.self, fun _ a0 _ => ?_, fun q => Bool.noConfusion q⟩
      exact ⟨_, rfl, rfl, rfl, d, _, _, rfl, hx, rfl, (by show 2 ≤ sizeLine; decide), bad hm d H' s5 hx⟩
    refine no (decide_eq_false fun q => h0 (by injection q)) ⟨_, rfl, rfl, _, rfl, ?_⟩
    by_cases h1 : k = 1
    · subst h1
      refine yes (decide_eq_true rfl) ⟨_, rfl, a, dx, fs, rfl, ha, l2, _, rfl, a, C, ss, ng, z, rfl, dc, da, hz, fun hm d H' s5 hd hx => ?_, fun i p q hi hp hq => (k2 i p hi hp).2.1 rfl q hq⟩
      refine ⟨true, T.self, fun _ a0 _ => ?_, fun q => Bool.noConfusion q⟩
      exact ⟨_, rfl, rfl, rfl, d, _, _, rfl, hx, rfl, (by show 2 ≤ sizeLine; decide), bad hm d H' s5 hx⟩
    refine no (decide_eq_false fun q => h1 (by injection q)) ⟨_, rfl, a, dx, fs, rfl, ha, l3, _, rfl, a, C, ss, ng, z, rfl, dc, da, hz, fun hm d H' s5 hd hx => ?_, fun i p q hi hp hq => (k2 i p hi hp).2.2 h0 h1 q hq⟩
    refine ⟨true, T.self, fun _ a0 _ => ?_, fun q => Bool.noConfusion q⟩
    exact ⟨_, rfl, rfl, rfl, d, _, _, rfl, hx, rfl, (by show 2 ≤ sizeLine; decide), bad hm d H' s5 hx⟩
end
end Yd
namespace Yd
open PySem L2
/-! ### a comprehension over a locked dict's keys -/
theorem lc_keys {d : Addr} {o : Obj} {kvs : List (Key × V)} {g : TG} {tt : TT} {te : TE} {vs : List Nat} {σ : St} {H1 : Hp} {D : Addr} {Qd : Hp → Prop} (Pv : Nat → Hp → Prop) (h0 : Pv 0 (upd H1 D (.lst []))) (hl : ∀ i H, i ≤ kvs.length → Pv i H → H d = some (.frz o (.dK kvs)))
    (hs : ∀ i k v H, kvs[i]? = some (k, v) → Pv i H → g (kV k) (wipe σ vs) H fun σ2 H2 => wipe σ2 vs = wipe σ vs ∧ tt σ2 H2 fun b H3 =>
      if b = true then te σ2 H3 fun y H4 => ∃ acc, H4 D = some (.lst acc) ∧ acc.length < sizeLine ∧ Pv (i + 1) (upd H4 D (.lst (acc ++ [y]))) else Pv (i + 1) H3) (hd : ∀ H, Pv kvs.length H → Qd H) :
    ∃ W : Nat → Nat → Hp → Prop, (∃ m, W 0 m (upd H1 D (.lst []))) ∧ ∀ i m H, W i m H →
      ((Itk d o kvs).stop i H ∧ Qd H) ∨ ((Itk d o kvs).go i H ∧ ∃ Nx : Hp → Prop, (∀ H', Nx H' → ∃ m', m' < m ∧ W (i + 1) m' H') ∧ ∀ x H', (Itk d o kvs).yld i H x H' → g x (wipe σ vs) H' fun σ2 H2 => wipe σ2 vs = wipe σ vs ∧ tt σ2 H2 fun b H3 =>
        if b = true then te σ2 H3 fun y H4 => ∃ acc, H4 D = some (.lst acc) ∧ acc.length < sizeLine ∧ Nx (upd H4 D (.lst (acc ++ [y]))) else Nx H3) := by
  refine ⟨fun i m H => m = kvs.length - i ∧ i ≤ kvs.length ∧ Pv i H, ⟨_, rfl, Nat.zero_le _, h0⟩, fun i m H ⟨em, hi, p⟩ => ?_⟩
  subst em
  have hf := hl i H hi p
  by_cases hlt : i < kvs.length
  · refine .inr ⟨⟨hf, hlt⟩, Pv (i + 1), fun H' p' => ⟨kvs.length - (i + 1), by omega, rfl, hlt, p'⟩, ?_⟩
    rintro x H' ⟨rfl, k, v, hkv, rfl⟩
    exact hs i k v _ hkv p
  · have e : i = kvs.length := by omega
    subst e
    exact .inl ⟨⟨hf, Nat.le_refl _⟩, hd H p⟩
end Yd
namespace Yd
open PySem L2
/-! ### what is told of the doors -/
/-- pairs of tuples of texts -/
def PairD (H : Hp) (t : Addr) (p : List Str × List Str) : Prop := ∃ n g, H t = some (.tup [.ref n, .ref g]) ∧ H n = some (.tup (p.1.map V.str)) ∧ H g = some (.tup (p.2.map V.str))
theorem PairD.keep {H H' : Hp} {t : Addr} {p : List Str × List Str} (h : PairD H t p) (k : ∀ b xs, H b = some (.tup xs) → H' b = some (.tup xs)) : PairD H' t p := let ⟨n, g, a, b, c⟩ := h; ⟨n, g, k _ _ a, k _ _ b, k _ _ c⟩
def pdOf (p : List Str × List Str) : PyData := .tuple [.tuple (p.1.map PyData.str), .tuple (p.2.map PyData.str)]
theorem PairD.dp {K : PySem.W.Frag} {H : Hp} {t : Addr} {p : List Str × List Str} (h : PairD H t p) : Dp K H (.ref t) (pdOf p) := by
  obtain ⟨n, g, a, b, c⟩ := h
  exact .tup (SqT.of a) (.cons (dp_tup (SqT.of b)) (.cons (dp_tup (SqT.of c)) .nil))
theorem pd_plain (p : List Str × List Str) : (pdOf p).plain = true := by
  have a := plain_tup p.1
  have b := plain_tup p.2
  unfold pdOf
  simp only [PyData.plain, PyData.plainAll] at a b ⊢
  rw [a, b]
  rfl
theorem pd_depth (p : List Str × List Str) : (pdOf p).depth ≤ 60 := by
  have a := depth_strs p.1
  have b := depth_strs p.2
  unfold pdOf
  simp only [PyData.depth, PyData.depthAll]
  omega
/-- the list that is told, at its addresses -/
def ToldAt (H : Hp) (us : List Addr) (ng : List (List Str × List Str)) : Prop := us.length = ng.length ∧ ∀ (i : Nat) (t : Addr) (p : List Str × List Str), us[i]? = some t → ng[i]? = some p → PairD H t p
theorem ToldAt.keep {H H' : Hp} {us : List Addr} {ng : List (List Str × List Str)} (h : ToldAt H us ng) (k : ∀ b xs, H b = some (.tup xs) → H' b = some (.tup xs)) : ToldAt H' us ng := ⟨h.1, fun i t p a b => (h.2 i t p a b).keep k⟩
def spIsTup (K : PySem.W.Frag) : Sp := fun vs H Q _ => ∃ (a b : Addr) (xs : List V) (d : PyData), vs = [.ref a, .ref b] ∧ H a = some (.tup xs) ∧ Dp K H (.ref a) d ∧ Dp K H (.ref b) d ∧ d.plain = true ∧ d.depth ≤ 60 ∧ Q (.bl true) H
def spDAgrees (K : PySem.W.Frag) (fN fG fI fP fT : Addr) : Sp := fun vs H Q _ => ∃ (a C l tl : Addr) (z : Str) (ss : List Str) (ng : List (List Str × List Str)) (us : List Addr), vs = [.ref a, .ref l, .ref tl, .str z] ∧ DoorC K C fN fG fI fP fT ∧ DoorAt H a C ss ng ∧
  SqL K H l (ss.map V.str) ∧ H tl = some (.lst (us.map V.ref)) ∧ ToldAt H us ng ∧ z ∉ ss ∧ ss.length ≤ 1000 ∧ (∀ s ∈ ss, s.length ≤ 100) ∧ z.length ≤ 100 ∧ ∀ H', Same H H' → Q (.bl true) H'
theorem inV_strs (s : Str) : ∀ ss : List Str, inV (.str s) (ss.map V.str) = decide (s ∈ ss)
  | [] => rfl
  | t :: ss => by
    have e : inV (.str s) ((t :: ss).map V.str) = (eqV (.str t) (.str s) || inV (.str s) (ss.map V.str)) := rfl
    rw [e, inV_strs s ss]
    by_cases h : t = s
    · subst h
      have h1 : eqV (.str t) (.str t) = true := by simp [eqV]
      rw [h1, decide_eq_true (List.mem_cons_self ..)]
      rfl
    · have h1 : eqV (.str t) (.str s) = false := by simp [eqV, h]
      rw [h1, Bool.false_or]
      exact decide_eq_decide.mpr ⟨fun m => List.mem_cons_of_mem _ m, fun m => (List.mem_cons.mp m).elim (fun q => absurd q.symm h) id⟩
theorem flat_strs : ∀ ss : List Str, (ss.map V.str).all flatV = true
  | [] => rfl
  | t :: ss => by
    show (flatV (.str t) && (ss.map V.str).all flatV) = true
    rw [flat_strs ss]
    rfl
theorem at_s {ss : List Str} {n : Nat} {s : Str} (h : ss[n]? = some s) {z : Int} (e : z = (n : Int)) : atI (ss.map V.str) z = some (.str s) := at_c (by rw [List.getElem?_map, h]; rfl) e
theorem at_r {us : List Addr} {n : Nat} {t : Addr} (h : us[n]? = some t) {z : Int} (e : z = (n : Int)) : atI (us.map V.ref) z = some (.ref t) := at_c (by rw [List.getElem?_map, h]; rfl) e
section
variable {P : Program} {w : World} {K : PySem.W.Frag} {mg : Str → Option Value} {base : Heap}
theorem scOnce : FnScope ["_law_rows", "_law_found", "_law_row"] ["_law_rows"] (defScope sOnce) := ⟨rfl, rfl, rfl, by decide +kernel, rfl, by decide +kernel, by decide +kernel⟩
theorem ok_once {f : Addr} {fd : FuncData} (F : Fun K "_law_once" "_law_once" sOnce f fd) (hT : mg "tuple" = none) : FnOk P w K mg base CX0 1 f fd ["_law_rows"] (spOnce K) := by
  refine F.ok scOnce (fun vs H Q E h => ?_) (fun cdv A outer s H vs Q E hr h => ?_)
  · obtain ⟨a, ns, rfl, _⟩ := h
    rfl
  · obtain ⟨a, ns, rfl, ha, hl, k⟩ := h
    refine ⟨_, pss_cons (ps_set (i := 1) scOnce.nd rfl (Or.inl rfl) (pe_lst pa_nil))
      (pss_cons (ps_for PassesOwn.never rfl (pi_list (pv 0)) (pg_name (i := 2) scOnce.nd rfl (Or.inl rfl))
        (pss_one (ps_if (pt_cmpR op_notIn_seq (pv 2) (pv 1) rfl) (pss_one (ps_expr (pe_bm PySem.F.plainAttrs_list PySem.F.slot_list_append PySem.F.type_list_append mt_append (pv 1) (pa_cons (pv 2) pa_nil)))) pss_nil)))
      (pss_one (ps_ret (pe_callTy call_tuple_of (by rfl) hT (by decide +kernel) (pa_cons (pv 1) pa_nil))))), ?_⟩
    refine ⟨(by show 0 ≤ sizeLine; omega), fun D hD => ?_⟩
    refine ⟨_, rfl, a, rfl, ⟨_, (same_new hD).seq ha⟩, for_list (K := K) (a := a) (xs := ns.map V.str) (fun i σ H' => Same H H' ∧ H' D = some (.lst ((onceS (ns.take i)).map V.str)) ∧ ∃ v : Option V, σ = [some (.ref a), some (.ref D), v])
      ⟨same_new hD, upd_same, _, rfl⟩ (fun i σ H' _ h => h.1.seq ha) ?_ ?_⟩
    · rintro i x σ H' hi ⟨s1, e1, v, rfl⟩
      obtain ⟨z, hz, rfl⟩ := get_strs2 hi
      refine ⟨_, rfl, _, rfl, D, _, rfl, .inl (SqL.of e1), rfl, flat_strs _, _, rfl, ?_⟩
      rw [inV_strs]
      have om := once_more hz
      unfold addOnce at om
      by_cases hm : z ∈ onceS (ns.take i)
      · rw [if_pos hm] at om
        rw [decide_eq_true hm]
        exact no rfl ⟨s1, by rw [om]; exact e1, _, rfl⟩
      · rw [if_neg hm] at om
        rw [decide_eq_false hm]
        refine yes rfl ⟨_, rfl, .inl ⟨rfl, _, SqL.of e1⟩, _, rfl, D, _, _, rfl, rfl, e1, small1000 ?_, fun b o q => by rw [upd_ne (ne_of_none q hD)]; exact s1 b o q, ?_, _, rfl⟩
        · have q := once_len (ns.take i)
          rw [List.length_take] at q
          rw [List.length_map]
          omega
        · rw [upd_same, om, List.map_append]
          rfl
    · rintro σ H' ⟨s1, e1, v, rfl⟩
      rw [List.length_map, List.take_length] at e1
      exact ⟨_, rfl, D, _, rfl, .inl ⟨SqL.of e1, fun q hq => k q _ (s1.trans (same_new hq)) (s1.free hq) upd_same⟩⟩
theorem scIsTuple : FnScope ["_law_actual", "_law_expected"] ["_law_actual", "_law_expected"] (defScope sIsTuple) := ⟨rfl, rfl, rfl, by decide +kernel, rfl, by decide +kernel, by decide +kernel⟩
theorem ok_isTup {f : Addr} {fd : FuncData} (F : Fun K "_law_is_tuple" "_law_is_tuple" sIsTuple f fd) (hI : mg "isinstance" = none) (hT : mg "tuple" = none) : FnOk P w K mg base CX0 1 f fd ["_law_actual", "_law_expected"] (spIsTup K) := by
  refine F.ok scIsTuple (fun vs H Q E h => ?_) (fun cdv A outer s H vs Q E hr h => ?_)
  · obtain ⟨a, b, xs, d, rfl, _⟩ := h
    rfl
  · obtain ⟨a, b, xs, d, rfl, ha, da, db, pd, dd, k⟩ := h
    refine ⟨_, pss_one (ps_ret (pe_and (pe_callB call_isi (by rfl) hI (by decide +kernel) (pa_cons (pv 0) (pa_cons (pe_bltn (v := .ty "tuple") (by rfl) hT (by decide +kernel) rfl) pa_nil)))
      (pe_one (pe_cmpR (op_eqS hr.units) (pv 0) (pv 1) (nomark _))))), ?_⟩
    exact ⟨_, rfl, _, _, _, _, true, rfl, .ty _, .base (.tup ha), kit_ty (by decide +kernel), _, rfl, yes rfl ⟨_, rfl, _, rfl, _, da, db, pd, dd, k⟩⟩
def nDAgrees : List Str := ["_law_part", "_law_standings", "_law_doors", "_law_strange", "_law_standing", "_law_k", "_law_pair"]
theorem scDAgrees : FnScope nDAgrees ["_law_part", "_law_standings", "_law_doors", "_law_strange"] (defScope sAgrees) := ⟨rfl, rfl, rfl, by decide +kernel, rfl, by decide +kernel, by decide +kernel⟩
theorem ok_dAgrees {f fN fG fI fP fT fW fU : Addr} {fd fdT fdW fdU : FuncData} (F : Fun K "_law_agrees" "_law_agrees" sAgrees f fd) (B : Blt mg) (hI : mg "isinstance" = none) (hT : mg "tuple" = none)
    (GT : FnN P w K mg base 1 fT fdT ["self"] (spDIter K)) (bT : Binds K fdT ["self"] [])
    (GW : FnOk P w K mg base CX0 6 fW fdW ["_law_part", "_law_standing", "_law_k"] (spGot K fN fG fI fP fT)) (TW : Fn K mg "_law_got" sGot ["_law_part", "_law_standing", "_law_k"] fW fdW)
    (GU : FnOk P w K mg base CX0 1 fU fdU ["_law_actual", "_law_expected"] (spIsTup K)) (TU : Fn K mg "_law_is_tuple" sIsTuple ["_law_actual", "_law_expected"] fU fdU) :
    FnOk P w K mg base CX0 7 f fd ["_law_part", "_law_standings", "_law_doors", "_law_strange"] (spDAgrees K fN fG fI fP fT) := by
  refine F.ok scDAgrees (fun vs H Q E h => ?_) (fun cdv A outer s H vs Q E hr h => ?_)
  · obtain ⟨a, C, l, tl, z, ss, ng, us, rfl, _⟩ := h
    rfl
  · obtain ⟨a, C, l, tl, z, ss, ng, us, rfl, dc, da, hl, htl, hus, hz, hsl, hsh, hzl, k⟩ := h
    have r1 : Room 1 _ := hr.mono (by decide)
    refine ⟨_, pss_cons (ps_if (pt_cmpR (op_neS hr.units) (pe_lock (pe_lc (own := [("_law_standing", 4)]) (g := gName 4) (tt := tYes) rfl scDAgrees.nd (pi_own (pv 0) dc.it dc.itf GT r1 bT) (blkOk_by (N := nDAgrees) (sc := defScope sAgrees) (by decide +kernel))
            (fun _ _ _ _ _ => pg_name (i := 4) scDAgrees.nd rfl (Or.inl rfl)) (fun _ _ _ _ _ => pts_nil) (fun _ _ _ _ _ => pv 4))) (pv 1) (nomark _)) (pss_one (ps_ret pe_bl)) pss_nil)
      (pss_cons (ps_for PassesOwn.never rfl (pi_range1 rfl B.range (pa_cons (pe_callB call_len_seq (by rfl) B.len PySem.boot_len (pa_cons (pv 1) pa_nil)) pa_nil)) (pg_name (i := 5) scDAgrees.nd rfl (Or.inl rfl))
        (pss_cons (ps_set (i := 6) scDAgrees.nd rfl (Or.inl rfl) (pe_call GW hr rfl TW.g TW.F.kp TW.b .nil pass0 (pa_cons (pv 0) (pa_cons (pe_ix ix_list (pv 1) (pv 5) (fun _ _ => rfl)) (pa_cons pe_int pa_nil)))))
        (pss_cons (ps_if (PW.pt (pw_or (pt_not (pt_val (pe_call GU r1 rfl TU.g TU.F.kp TU.b .nil pass0 (pa_cons (pv 6) (pa_cons (pe_ix ix_list (pv 2) (pv 5) (fun _ _ => rfl)) pa_nil)))))
            (pw_or (pt_not (pt_val (pe_callB call_isi (by rfl) hI (by decide +kernel) (pa_cons (pe_ix ix_tup (pv 6) pe_int (fun _ _ => rfl)) (pa_cons (pe_bltn (v := .ty "tuple") (by rfl) hT (by decide +kernel) rfl) pa_nil)))))
            (pw_or1 (pt_not (pt_val (pe_callB call_isi (by rfl) hI (by decide +kernel) (pa_cons (pe_ix ix_tup (pv 6) pe_int (fun _ _ => rfl)) (pa_cons (pe_bltn (v := .ty "tuple") (by rfl) hT (by decide +kernel) rfl) pa_nil))))))))) (pss_one (ps_ret pe_bl)) pss_nil)
        (pss_cons (ps_if (pt_not (pt_val (pe_call GU r1 rfl TU.g TU.F.kp TU.b .nil pass0 (pa_cons (pe_call GW hr rfl TW.g TW.F.kp TW.b .nil pass0 (pa_cons (pv 0) (pa_cons (pe_ix ix_list (pv 1) (pv 5) (fun _ _ => rfl)) (pa_cons pe_int pa_nil)))) (pa_cons (pe_ix ix_tup (pe_ix ix_list (pv 2) (pv 5) (fun _ _ => rfl)) pe_int (fun _ _ => rfl)) pa_nil))))) (pss_one (ps_ret pe_bl)) pss_nil)
        (pss_one (ps_if (pt_not (pt_val (pe_call GU r1 rfl TU.g TU.F.kp TU.b .nil pass0 (pa_cons (pe_call GW hr rfl TW.g TW.F.kp TW.b .nil pass0 (pa_cons (pv 0) (pa_cons (pe_ix ix_list (pv 1) (pv 5) (fun _ _ => rfl)) (pa_cons pe_int pa_nil)))) (pa_cons (pe_ix ix_tup (pe_ix ix_list (pv 2) (pv 5) (fun _ _ => rfl)) pe_int (fun _ _ => rfl)) pa_nil))))) (pss_one (ps_ret pe_bl)) pss_nil))))))
      (pss_cons (ps_for PassesOwn.never rfl (pi_range1 rfl B.range (pa_cons pe_int pa_nil)) (pg_name (i := 5) scDAgrees.nd rfl (Or.inl rfl))
        (pss_one (ps_if (pt_cmpR (op_neS hr.units) (pe_call GW hr rfl TW.g TW.F.kp TW.b .nil pass0 (pa_cons (pv 0) (pa_cons (pv 3) (pa_cons (pv 5) pa_nil)))) (pe_lst (pa_cons pe_str (pa_cons (pv 3) pa_nil))) (nomark _)) (pss_one (ps_ret pe_bl)) pss_nil)))
      (pss_one (ps_ret pe_bl)))), ?_⟩
    obtain ⟨dx, fs, dd, ts, ha, l1, l2, l3, D⟩ := id da
    -- the iteration
    refine ⟨dd, _, D.d, True.intro, fun od => ?_⟩
    have nad : a ≠ dd := ne_of ha D.d (by intro z; cases z)
    refine ⟨_, rfl, a, dx, fs, rfl, by rw [upd_ne nad]; exact ha, fun n => ⟨a, C, dx, fs, dd, od, _, rfl, by rw [upd_ne nad]; exact ha, dc.cls, dc.nD, l1, .inl ⟨_, upd_same, rfl⟩, fun it hit hn => ⟨it, dd, od, _, rfl, hn, upd_same, .inl ⟨_, by rw [upd_ne (ne_of_none upd_same hit)]; exact upd_same, rfl, ?_⟩⟩⟩⟩
    rw [ItX.dropH_upd hit]
    intro Dl hDl
    have nDd : dd ≠ Dl := fun q => by rw [← q, upd_same] at hDl; cases hDl
    have hD0 : H Dl = none := by rw [upd_ne nDd.symm] at hDl; exact hDl
    refine lc_keys (fun j H' => (∀ q o, H q = some o → q ≠ dd → H' q = some o) ∧ H' dd = some (.frz od (.dK (dP ss ts))) ∧ H' Dl = some (.lst ((ss.take j).map V.str)))
      ⟨fun q o h1 h2 => by rw [upd_ne (ne_of_none h1 hD0), upd_ne h2]; exact h1, by rw [upd_ne nDd, upd_same], upd_same⟩ (fun j H' _ h => h.2.1) ?_ ?_
    · rintro j kk v H' hkv ⟨s1, s2, s3⟩
      obtain ⟨y, ey, hy, _, rfl, rfl⟩ := dP_key D.len hkv
      refine ⟨rfl, _, rfl, _, s3, small1000 (by rw [List.length_map, List.length_take]; omega), fun q o h1 h2 => ?_, by rw [upd_ne nDd]; exact s2, ?_⟩
      · rw [upd_ne (ne_of_none h1 hD0)]; exact s1 q o h1 h2
      · rw [upd_same, take_more hy, List.map_append]
        rfl
    rintro H' ⟨s1, s2, s3⟩
    rw [dP_len D.len, List.take_length] at s3
    have sm : Same H (upd H' dd (.dK (dP ss ts))) := fun q o h1 => by
      by_cases hq : q = dd
      · subst hq
        rw [upd_same, ← h1, D.d]
      · rw [upd_ne hq]
        exact s1 q o h1 hq
    have e3 : upd H' dd (.dK (dP ss ts)) Dl = some (.lst (ss.map V.str)) := by rw [upd_ne nDd.symm]; exact s3
    refine ⟨s2, _, rfl, _, dp_lst (SqL.of e3), .lst (sm.seq hl) (dp_strs ss), plain_lst _, depth_lst _, _, rfl, no rfl ?_⟩
    generalize upd H' dd (.dK (dP ss ts)) = H1 at sm
    -- for k in range(len(standings))
    refine ⟨_, rfl, l, _, rfl, .inl (sm.seq hl), _, rfl, by omega, (by have : (ss.map V.str).length ≤ 1000 := by rw [List.length_map]; exact hsl
                                                                       have q : (1000 : Int) < 2 ^ 62 := by decide
                                                                       omega), for_range (lo := 0) (n := (ss.map V.str).length) (fun i σ H' => Same H H' ∧ ∃ v4 v5 v6 : Option V, σ = [some (.ref a), some (.ref l), some (.ref tl), some (.str z), v4, v5, v6]) ⟨sm, _, _, _, rfl⟩ ?_ ?_⟩
    · rintro i σ H' hi ⟨s1, v4, v5, v6, rfl⟩
      rw [List.length_map] at hi
      obtain ⟨y, hy⟩ : ∃ y, ss[i]? = some y := ⟨_, List.getElem?_eq_getElem hi⟩
      obtain ⟨p, hp⟩ : ∃ p, ng[i]? = some p := ⟨_, List.getElem?_eq_getElem (by rw [D.ln]; exact hi)⟩
      obtain ⟨u, hu⟩ : ∃ u, us[i]? = some u := ⟨_, List.getElem?_eq_getElem (by rw [hus.1, D.ln]; exact hi)⟩
      have my : y ∈ ss := List.mem_of_getElem? hy
      have e0 : (0 : Int) + (i : Int) = ((i : Nat) : Int) := by omega
      have pu := (hus.2 i u p hu hp).keep fun b xs e => s1 _ _ e
      have hl1 := s1.seq hl
      have htl1 := s1 _ _ htl
      have da1 := da.keep s1
      have uniq : ∀ {i' : Nat} {p' : List Str × List Str}, ss[i']? = some y → ng[i']? = some p' → p' = p := fun {i' p'} h1 h2 => by
        have e := nd_ix D.nd h1 hy
        subst e
        exact Option.some.inj (h2.symm.trans hp)
      obtain ⟨nu, gu, u1, u2, u3⟩ := id pu
      refine ⟨_, rfl, _, rfl, _, rfl, l, _, _, _, rfl, rfl, hl1, at_s hy e0, a, C, ss, ng, y, 0, rfl, dc, da1, hsh y my, fun hm => absurd my hm, fun i' p' h1 h2 => ⟨fun _ t n g ht hn hg => ?_, fun q => absurd q (by decide), fun q => absurd rfl q⟩⟩
      have ep := uniq h1 h2
      subst ep
      refine ⟨_, rfl, _, rfl, _, rfl, tl, _, _, _, rfl, rfl, SqL.of htl1, at_r hu e0, t, u, _, pdOf p', rfl, ht, PairD.dp ⟨n, g, ht, hn, hg⟩, pu.dp, pd_plain _, pd_depth _, true, rfl, no rfl ?_⟩
      refine ⟨_, rfl, t, _, 0, _, rfl, rfl, SqT.of ht, at_c (j := 0) rfl rfl, _, _, _, _, true, rfl, .ty _, .base (.tup hn), kit_ty (by decide +kernel), true, rfl, no rfl ?_⟩
      refine ⟨_, rfl, t, _, 1, _, rfl, rfl, SqT.of ht, at_c (j := 1) rfl rfl, _, _, _, _, true, rfl, .ty _, .base (.tup hg), kit_ty (by decide +kernel), true, rfl, no rfl ?_⟩
      refine ⟨_, rfl, _, rfl, _, rfl, l, _, _, _, rfl, rfl, hl1, at_s hy e0, a, C, ss, ng, y, 1, rfl, dc, da1, hsh y my, fun hm => absurd my hm, fun i' p2 h1 h2 => ⟨fun q => absurd q (by decide), fun _ n2 hn2 => ?_, fun _ q => absurd rfl q⟩⟩
      have ep := uniq h1 h2
      subst ep
      refine ⟨_, rfl, _, rfl, tl, _, _, _, rfl, rfl, SqL.of htl1, at_r hu e0, u, _, 0, _, rfl, rfl, SqT.of u1, at_c (j := 0) rfl rfl, n2, nu, _, _, rfl, hn2, dp_tup (SqT.of hn2), dp_tup (SqT.of u2), plain_tup _, depth_tup _, true, rfl, no rfl ?_⟩
      refine ⟨_, rfl, _, rfl, _, rfl, l, _, _, _, rfl, rfl, hl1, at_s hy e0, a, C, ss, ng, y, 2, rfl, dc, da1, hsh y my, fun hm => absurd my hm, fun i' p3 h1 h2 => ⟨fun q => absurd q (by decide), fun q => absurd q (by decide), fun _ _ g2 hg2 => ?_⟩⟩
      have ep := uniq h1 h2
      subst ep
      exact ⟨_, rfl, _, rfl, tl, _, _, _, rfl, rfl, SqL.of htl1, at_r hu e0, u, _, 1, _, rfl, rfl, SqT.of u1, at_c (j := 1) rfl rfl, g2, gu, _, _, rfl, hg2, dp_tup (SqT.of hg2), dp_tup (SqT.of u3), plain_tup _, depth_tup _, true, rfl, no rfl ⟨s1, _, _, _, rfl⟩⟩
    rintro σ H2 ⟨s2, v4, v5, v6, rfl⟩
    -- the strange name
    refine ⟨3, rfl, by decide, by decide, for_range (lo := 0) (n := 3) (fun i σ H' => Same H H' ∧ ∃ v4 v5 v6 : Option V, σ = [some (.ref a), some (.ref l), some (.ref tl), some (.str z), v4, v5, v6]) ⟨s2, _, _, _, rfl⟩ ?_ ?_⟩
    · rintro i σ H' hi ⟨s1, v4, v5, v6, rfl⟩
      refine ⟨_, rfl, _, rfl, _, rfl, a, C, ss, ng, z, _, rfl, dc, da.keep s1, hzl, fun _ q H3 s3 hq => ?_, fun i' p' h1 _ => absurd (List.mem_of_getElem? h1) hz⟩
      refine ⟨_, rfl, (by show 2 ≤ sizeLine; decide), fun r hr' => ?_⟩
      refine ⟨_, dp_lst (ss := ["unknown", z]) (SqL.of (same_new hr' _ _ hq)), dp_lst (ss := ["unknown", z]) (SqL.of upd_same), plain_lst _, depth_lst _, _, rfl, no rfl ⟨(s1.trans s3).trans (same_new hr'), _, _, _, rfl⟩⟩
    · rintro σ H' ⟨s1, v4, v5, v6, rfl⟩
      exact k _ s1
end
end Yd
namespace Yd
open PySem L2
/-! ### the names of a script are all different -/
theorem kSigns_nd : kSigns.Nodup := by decide +kernel
theorem sgn_not : ∀ s ∈ ("mnopqrstuvwxyz0123456789" : Str).cps.toList, s ∉ kSigns := by decide +kernel
theorem app_cps (a b : Str) : (a ++ b).cps.toList = a.cps.toList ++ b.cps.toList := by show (a.cps ++ b.cps).toList = _; rw [Array.toList_append]
theorem name_inj {i j : Nat} {x : Str} (hi : NameK i x) (hj : NameK j x) : i = j := by
  obtain ⟨_, s, a, b, hs, e, ha, hb⟩ := hi
  obtain ⟨_, t, a', b', ht, e', ha', hb'⟩ := hj
  have fl : ∀ (u : Nat) (c d : Str), u ∈ kSigns → Sgn c → Sgn d → ((c ++ (⟨#[u]⟩ : Str) ++ d).cps.toList).filter (fun c => decide (c ∈ kSigns)) = [u] := fun u c d hu hc hd => by
    have h1 : c.cps.toList.filter (fun c => decide (c ∈ kSigns)) = [] := List.filter_eq_nil_iff.mpr fun v hv => by simpa using sgn_not v (hc v hv)
    have h2 : d.cps.toList.filter (fun c => decide (c ∈ kSigns)) = [] := List.filter_eq_nil_iff.mpr fun v hv => by simpa using sgn_not v (hd v hv)
    rw [app_cps, app_cps, List.filter_append, List.filter_append, h1, h2, List.append_nil, List.nil_append]
    show List.filter _ [u] = [u]
    rw [List.filter_cons, if_pos (decide_eq_true hu)]
    rfl
  have f1 := fl s a b (List.mem_of_getElem? hs) ha hb
  have f2 := fl t a' b' (List.mem_of_getElem? ht) ha' hb'
  rw [← e, e', f2] at f1
  injection f1 with f1
  subst f1
  exact nd_ix kSigns_nd hs ht
theorem name_nodup {ns : List Str} (h : ∀ i s, ns[i]? = some s → NameK i s) : ns.Nodup := by
  refine List.pairwise_iff_getElem.mpr fun i j hi hj hij e => ?_
  have h1 : ns[j]? = some ns[j] := List.getElem?_eq_getElem hj
  have h2 : ns[i]? = some ns[j] := by rw [List.getElem?_eq_getElem hi, e]
  exact absurd (name_inj (h i _ h2) (h j _ h1)) (by omega)
theorem cut_take (ss : List Str) (n : Nat) : cutV (ss.map V.str) none (some (n : Int)) = (ss.take n).map V.str := by
  unfold cutV
  rw [HT.sIx_none, HT.sIx_nat, List.drop_zero, Nat.sub_zero, List.map_take, List.length_map]
  rcases Nat.le_total n ss.length with h | h
  · rw [Nat.min_eq_left h]
  · rw [Nat.min_eq_right h, List.take_of_length_le (by rw [List.length_map]; exact Nat.le_refl _), List.take_of_length_le (by rw [List.length_map]; exact h)]
theorem passF {X : Cx} : Passes (L2.CX X.prog X.w) X (fun _ _ _ => False) := fun _ _ _ _ _ _ _ ⟨_, _, _, _, _, _, _, _, _, _, _, _, h⟩ => h.elim
theorem sizes {v : Int} (h0 : 0 ≤ v) (h1 : v < 10) : ∃ n : Nat, atI [V.int 2, V.int 1, V.int 3, V.int 4, V.int 5, V.int 6, V.int 7, V.int 8, V.int 9, V.int 10] v = some (.int (n : Int)) ∧ 1 ≤ n ∧ n ≤ 10 := by
  obtain ⟨j, rfl⟩ : ∃ j : Nat, v = (j : Int) := ⟨v.toNat, by omega⟩
  have hj : j < 10 := by omega
  match j, hj with
  | 0, _ => exact ⟨2, at_c rfl rfl, by omega, by omega⟩
  | 1, _ => exact ⟨1, at_c rfl rfl, by omega, by omega⟩
  | 2, _ => exact ⟨3, at_c rfl rfl, by omega, by omega⟩
  | 3, _ => exact ⟨4, at_c rfl rfl, by omega, by omega⟩
  | 4, _ => exact ⟨5, at_c rfl rfl, by omega, by omega⟩
  | 5, _ => exact ⟨6, at_c rfl rfl, by omega, by omega⟩
  | 6, _ => exact ⟨7, at_c rfl rfl, by omega, by omega⟩
  | 7, _ => exact ⟨8, at_c rfl rfl, by omega, by omega⟩
  | 8, _ => exact ⟨9, at_c rfl rfl, by omega, by omega⟩
  | 9, _ => exact ⟨10, at_c rfl rfl, by omega, by omega⟩
  | j + 10, h => omega
theorem Pool.noL {H H' : Hp} {p c : Addr} (h : Pool H p c) (g : Gro p H H') : ∀ b o, H b = some o → (∀ xs, o ≠ .lst xs) → H' b = some o := fun b o e n => by
  obtain ⟨ys, hp, _⟩ := h
  refine g b o e ?_
  rintro rfl
  rw [hp] at e
  exact n ys (Option.some.inj e).symm
theorem small100 {n : Nat} (h : n ≤ 100) : n ≤ sizeLine := Nat.le_trans h (by decide)
end Yd
namespace Yd
open PySem L2
/-! ### what stands in the heap while the law runs -/
structure DLaw (H : Hp) (p c nl dl tl a C : Addr) (ns ds ss : List Str) (ng ng' : List (List Str × List Str)) (us : List Addr) : Prop where
  pool : Pool H p c
  ns_ : H nl = some (.lst (ns.map V.str))
  ds_ : H dl = some (.lst (ds.map V.str))
  tl_ : H tl = some (.lst (us.map V.ref))
  told : ToldAt H us ng'
  door : DoorAt H a C ss ng
  n1 : nl ≠ p
  n2 : dl ≠ p
  n3 : tl ≠ p
  n4 : tl ≠ c
  n5 : tl ≠ nl
  n6 : tl ≠ dl
section
variable {H H' : Hp} {p c nl dl tl a C : Addr} {ns ds ss : List Str} {ng ng' : List (List Str × List Str)} {us : List Addr}
theorem DLaw.gro (L : DLaw H p c nl dl tl a C ns ds ss ng ng' us) (g : Gro p H H') (P : Pool H' p c) : DLaw H' p c nl dl tl a C ns ds ss ng ng' us :=
  ⟨P, g _ _ L.ns_ L.n1, g _ _ L.ds_ L.n2, g _ _ L.tl_ L.n3, L.told.keep fun t ys e => L.pool.noL g _ _ e (fun xs e => by cases e), L.door.keepL (L.pool.noL g), L.n1, L.n2, L.n3, L.n4, L.n5, L.n6⟩
theorem DLaw.same (L : DLaw H p c nl dl tl a C ns ds ss ng ng' us) (s : Same H H') : DLaw H' p c nl dl tl a C ns ds ss ng ng' us := L.gro (.of_same s) (L.pool.keep (fun o e => s _ _ e) fun o e => s _ _ e)
theorem DLaw.noD {ng2 : List (List Str × List Str)} (L : DLaw H p c nl dl tl a C ns ds ss ng ng' us) (s : NoD H H') (k : DoorAt H' a C ss ng2) : DLaw H' p c nl dl tl a C ns ds ss ng2 ng' us := by
  have nl' : ∀ b ys, H b = some (.lst ys) → H' b = some (.lst ys) := fun b ys e => s _ _ e (fun kvs q => by cases q)
  refine ⟨?_, nl' _ _ L.ns_, nl' _ _ L.ds_, nl' _ _ L.tl_, L.told.keep fun t ys e => s _ _ e (fun kvs q => by cases q), k, L.n1, L.n2, L.n3, L.n4, L.n5, L.n6⟩
  obtain ⟨ys, e, q⟩ := L.pool
  refine ⟨ys, nl' _ _ e, ?_⟩
  rcases q with q | ⟨x, i, cs, e1, e2, e3, q⟩
  · exact .inl q
  · exact .inr ⟨x, i, cs, e1, e2, nl' _ _ e3, q⟩
/-- a list of nobody else -/
theorem DLaw.off {q : Addr} {xs ys : List V} (L : DLaw H p c nl dl tl a C ns ds ss ng ng' us) (h : H q = some (.lst xs)) (m1 : q ≠ p) (m2 : q ≠ c) (m3 : q ≠ nl) (m4 : q ≠ dl) (m5 : q ≠ tl) : DLaw (upd H q (.lst ys)) p c nl dl tl a C ns ds ss ng ng' us := by
  have off : ∀ b o, H b = some o → (∀ zs, o ≠ .lst zs) → upd H q (.lst ys) b = some o := fun b o e n => by
    rw [upd_ne]
    · exact e
    · rintro rfl
      rw [h] at e
      exact n _ (Option.some.inj e).symm
  exact ⟨L.pool.off m1 m2, by rw [upd_ne m3.symm]; exact L.ns_, by rw [upd_ne m4.symm]; exact L.ds_, by rw [upd_ne m5.symm]; exact L.tl_, L.told.keep fun t zs e => off _ _ e (fun xs e => by cases e), L.door.keepL off, L.n1, L.n2, L.n3, L.n4, L.n5, L.n6⟩
/-- the list that is told, at one place anew -/
theorem DLaw.tell {i : Nat} {t : Addr} {q : List Str × List Str} (L : DLaw H p c nl dl tl a C ns ds ss ng ng' us) (h : PairD H t q) : DLaw (upd H tl (.lst ((us.map V.ref).set i (.ref t)))) p c nl dl tl a C ns ds ss ng (ng'.set i q) (us.set i t) := by
  have off : ∀ b o, H b = some o → (∀ zs, o ≠ .lst zs) → upd H tl (.lst ((us.map V.ref).set i (.ref t))) b = some o := fun b o e n => by
    rw [upd_ne]
    · exact e
    · rintro rfl
      rw [L.tl_] at e
      exact n _ (Option.some.inj e).symm
  have tk : ∀ b zs, H b = some (.tup zs) → upd H tl (.lst ((us.map V.ref).set i (.ref t))) b = some (.tup zs) := fun b zs e => off _ _ e (fun xs e => by cases e)
  refine ⟨L.pool.off L.n3 L.n4, by rw [upd_ne L.n5.symm]; exact L.ns_, by rw [upd_ne L.n6.symm]; exact L.ds_, by rw [upd_same, List.map_set], ⟨by rw [List.length_set, List.length_set]; exact L.told.1, fun j u r h1 h2 => ?_⟩, L.door.keepL off, L.n1, L.n2, L.n3, L.n4, L.n5, L.n6⟩
  by_cases hj : i = j
  · subst hj
    rw [List.getElem?_set_self'] at h1 h2
    obtain ⟨_, _, rfl⟩ := Option.map_eq_some_iff.mp h1
    obtain ⟨_, _, rfl⟩ := Option.map_eq_some_iff.mp h2
    exact h.keep tk
  · rw [List.getElem?_set_ne hj] at h1 h2
    exact (L.told.2 j u r h1 h2).keep tk
end
def rLen (K : PySem.W.Frag) : List V → Hp → VK → Prop := fun xs H Q => ∃ p ys, xs = [.ref p] ∧ (SqL K H p ys ∨ SqT K H p ys) ∧ Q (.int ys.length) H
def spLaw (K : PySem.W.Frag) : Sp := fun vs H Q _ => ∃ (a : Addr) (ns : List Int), vs = [.ref a] ∧ SqL K H a (ns.map V.int) ∧ ns.length ≤ 63 ∧ ∀ H', Q (.bl true) H'
section
variable {P : Program} {w : World} {K : PySem.W.Frag} {mg : Str → Option Value} {base : Heap}
structure DSetP (K : PySem.W.Frag) (fN fG fI fP fT : Addr) (vs : List V) (H : Hp) (Q : VK) (E : XK) : Prop where
  out : spDSet K fN fG fI fP fT vs H Q E
def spDSetI (K : PySem.W.Frag) (fN fG fI fP fT : Addr) : Sp := fun vs H Q E => DSetP K fN fG fI fP fT vs H Q E
def nLaw : List Str := ["_law_script", "_law_pool_here", "_law_base_here", "_law_kind", "_law_size", "_law_names", "_law_k", "_law_doors", "_law_standings", "_law_part", "_law_told", "_law_needs", "_law_j", "_law_gives", "_law_at", "_law_passed", "_law_due"]
theorem scLaw : FnScope nLaw ["_law_script"] (defScope sLaw) := ⟨rfl, rfl, rfl, by decide +kernel, rfl, by decide +kernel, by decide +kernel⟩
theorem ok_law {f fN fG fI fP fT fPo fTa fB fNa fM fS fA fO : Addr} {fd dP dT dB dN dM dS dA dO : FuncData} (F : Fun K "law" "law" sLaw f fd) (B : Blt mg) (hL : mg "list" = none) (hT : mg "tuple" = none)
    (TP : Fn K mg "_law_pool" sPool ["_law_script"] fPo dP) (TT : Fn K mg "_law_take" sTake ["_law_pool_here", "_law_size"] fTa dT) (TB : Fn K mg "_law_base" sBase ["_law_pool_here"] fB dB)
    (TN : Fn K mg "_law_name" sName ["_law_pool_here", "_law_base_here", "_law_k"] fNa dN) (TM : Fn K mg "_law_made" sMade ["_law_k", "_law_name_here", "_law_standings"] fM dM)
    (TS : Fn K mg "_law_set" sSet ["_law_part", "_law_standing", "_law_needs", "_law_gives"] fS dS) (TA : Fn K mg "_law_agrees" sAgrees ["_law_part", "_law_standings", "_law_doors", "_law_strange"] fA dA) (TO : Fn K mg "_law_once" sOnce ["_law_rows"] fO dO)
    (GM : FnOk P w K mg base (L2.CX P w) 7 fM dM ["_law_k", "_law_name_here", "_law_standings"] (spMadeD K fN fG fI fP fT)) (GS0 : FnOk P w K mg base CX0 4 fS dS ["_law_part", "_law_standing", "_law_needs", "_law_gives"] (spDSet K fN fG fI fP fT))
    (GA : FnOk P w K mg base CX0 7 fA dA ["_law_part", "_law_standings", "_law_doors", "_law_strange"] (spDAgrees K fN fG fI fP fT)) :
    FnOk P w K mg base CX0 8 f fd ["_law_script"] (spLaw K) := by
  have GP : FnOk P w K mg base CX0 1 fPo dP ["_law_script"] (spPool K) := ok_pool TP.F B
  have GT : FnOk P w K mg base CX0 1 fTa dT ["_law_pool_here", "_law_size"] spTake := ok_take TT.F B
  have GB : FnOk P w K mg base CX0 2 fB dB ["_law_pool_here"] (spBase 12) := ok_base TB.F B TT
  have GN : FnOk P w K mg base CX0 2 fNa dN ["_law_pool_here", "_law_base_here", "_law_k"] spName := ok_name TN.F B TT
  have GS : FnOk P w K mg base CX0 4 fS dS ["_law_part", "_law_standing", "_law_needs", "_law_gives"] (spDSetI K fN fG fI fP fT) := GS0.imp fun vs H Q E h => h.out
  have GO : FnOk P w K mg base CX0 1 fO dO ["_law_rows"] (spOnce K) := ok_once TO.F hT
  refine F.ok scLaw (fun vs H Q E h => ?_) (fun cdv A outer s H vs Q E hr h => ?_)
  · obtain ⟨a, ns, rfl, _⟩ := h
    rfl
  · obtain ⟨scr, script, rfl, hS, hlen, k⟩ := h
    have r1 : Room 1 _ := hr.mono (by decide)
    have r2 : Room 2 _ := hr.mono (by decide)
    have r4 : Room 4 _ := hr.mono (by decide)
    refine ⟨_, pss_cons (ps_set (i := 1) scLaw.nd rfl (Or.inr rfl) (pe_call GP r1 rfl TP.g TP.F.kp TP.b .nil pass0 (pa_cons (pv 0) pa_nil)))
      (pss_cons (ps_set (i := 2) scLaw.nd rfl (Or.inr rfl) (pe_call GB r2 rfl TB.g TB.F.kp TB.b .nil pass0 (pa_cons (pv 1) pa_nil)))
      (pss_cons (ps_set (i := 3) scLaw.nd rfl (Or.inl rfl) (pe_call GT r1 rfl TT.g TT.F.kp TT.b .nil pass0 (pa_cons (pv 1) (pa_cons pe_int pa_nil))))
      (pss_cons (ps_set (i := 4) scLaw.nd rfl (Or.inl rfl) (pe_ix ix_list (pe_lst (pa_cons pe_int (pa_cons pe_int (pa_cons pe_int (pa_cons pe_int (pa_cons pe_int (pa_cons pe_int (pa_cons pe_int (pa_cons pe_int (pa_cons pe_int (pa_cons pe_int pa_nil)))))))))))
          (pe_call GT r1 rfl TT.g TT.F.kp TT.b .nil pass0 (pa_cons (pv 1) (pa_cons pe_int pa_nil))) (fun _ _ => rfl)))
      (pss_cons (ps_setLc (i := 5) (own := [("_law_k", 6)]) (g := gName 6) (tt := tYes) rfl scLaw.nd rfl rfl (sw_true rfl rfl rfl (by decide +kernel)) (pi_range1 rfl B.range (pa_cons (pe_op op_add (pv 4) pe_int) pa_nil))
          (blkOk_by (N := nLaw) (sc := defScope sLaw) (by decide +kernel)) (fun _ _ _ _ _ => pg_name (i := 6) scLaw.nd rfl (Or.inl rfl)) (fun _ _ _ _ _ => pts_nil)
          (fun _ _ _ _ _ => pe_call GN r2 rfl TN.g TN.F.kp TN.b .nil pass0 (pa_cons (pv 1) (pa_cons (pv 2) (pa_cons (pv 6) pa_nil)))))
      (pss_cons (ps_set (i := 7) scLaw.nd rfl (Or.inr rfl) (pe_lc (own := [("_law_k", 6)]) (g := gName 6) (tt := tYes) rfl scLaw.nd (pi_range1 rfl B.range (pa_cons (pe_op op_add pe_int (pe_call GT r1 rfl TT.g TT.F.kp TT.b .nil pass0 (pa_cons (pv 1) (pa_cons pe_int pa_nil)))) pa_nil))
          (blkOk_by (N := nLaw) (sc := defScope sLaw) (by decide +kernel)) (fun _ _ _ _ _ => pg_name (i := 6) scLaw.nd rfl (Or.inl rfl)) (fun _ _ _ _ _ => pts_nil)
          (fun _ _ _ _ _ => pe_call GN r2 rfl TN.g TN.F.kp TN.b .nil pass0 (pa_cons (pv 1) (pa_cons (pv 2) (pa_cons (pv 6) pa_nil))))))
      (pss_cons (ps_set (i := 8) scLaw.nd rfl (Or.inl rfl) (pe_slice sl_list (pv 5) po_none (po_some (pv 4))))
      (pss_cons (ps_set (i := 9) scLaw.nd rfl (Or.inl rfl) (pe_call GM hr rfl TM.g TM.F.kp TM.b .nil passF (pa_cons (pv 3) (pa_cons (pe_ix ix_list (pv 5) (pv 4) (fun _ _ => rfl)) (pa_cons (pv 8) pa_nil)))))
      (pss_cons (ps_if (pt_cmpR (op_neS hr.units) (pv 8) (pe_slice sl_list (pv 5) po_none (po_some (pv 4))) (nomark _)) (pss_one (ps_ret pe_bl)) pss_nil)
      (pss_cons (ps_expr (pe_bm PySem.F.plainAttrs_list PySem.F.slot_list_append PySem.F.type_list_append mt_append (pv 8) (pa_cons (pe_ix ix_list (pv 5) (pv 4) (fun _ _ => rfl)) pa_nil)))
      (pss_cons (ps_setLc (i := 10) (own := [("_law_k", 6)]) (g := gName 6) (tt := tYes) rfl scLaw.nd rfl rfl (sw_true rfl rfl rfl (by decide +kernel)) (pi_range1 rfl B.range (pa_cons (pv 4) pa_nil))
          (blkOk_by (N := nLaw) (sc := defScope sLaw) (by decide +kernel)) (fun _ _ _ _ _ => pg_name (i := 6) scLaw.nd rfl (Or.inl rfl)) (fun _ _ _ _ _ => pts_nil)
          (fun _ _ _ _ _ => pe_tup (pa_cons (pe_tup pa_nil) (pa_cons (pe_tup pa_nil) pa_nil))))
      (pss_cons (ps_if (pt_not (pt_val (pe_call GA hr rfl TA.g TA.F.kp TA.b .nil pass0 (pa_cons (pv 9) (pa_cons (pe_slice sl_list (pv 5) po_none (po_some (pv 4))) (pa_cons (pv 10) (pa_cons (pe_ix ix_list (pv 5) (pv 4) (fun _ _ => rfl)) pa_nil))))))) (pss_one (ps_ret pe_bl)) pss_nil)
      (pss_cons (ps_for PassesOwn.never rfl (pi_range1 rfl B.range (pa_cons (pe_op op_add pe_int (pe_call GT r1 rfl TT.g TT.F.kp TT.b .nil pass0 (pa_cons (pv 1) (pa_cons pe_int pa_nil)))) pa_nil)) (pg_name (i := 6) scLaw.nd rfl (Or.inl rfl))
        (pss_cons (ps_setLc (i := 11) (own := [("_law_j", 12)]) (g := gName 12) (tt := tYes) (te := tOp (rIxL K) (tVar 7) (tCall spTake [] E0 (tCons (tVar 1) (tCons (tCB (rLen K) (tCons (tVar 7) tNil)) tNil)))) rfl scLaw.nd rfl rfl (sw_true rfl rfl rfl (by decide +kernel)) (pi_range1 rfl B.range (pa_cons (pe_op op_sub pe_int (pe_call GT r1 rfl TT.g TT.F.kp TT.b .nil pass0 (pa_cons (pv 1) (pa_cons pe_int pa_nil)))) pa_nil))
          (blkOk_by (N := nLaw) (sc := defScope sLaw) (by decide +kernel)) (fun _ _ _ _ _ => pg_name (i := 12) scLaw.nd rfl (Or.inl rfl)) (fun _ _ _ _ _ => pts_nil)
          (fun _ _ _ _ _ => pe_ix ix_list (pv 7) (pe_call GT r1 rfl TT.g TT.F.kp TT.b .nil pass0 (pa_cons (pv 1) (pa_cons (pe_callB call_len_seq (by rfl) B.len PySem.boot_len (pa_cons (pv 7) pa_nil)) pa_nil))) (fun _ _ => rfl)))
        (pss_cons (ps_setLc (i := 13) (own := [("_law_j", 12)]) (g := gName 12) (tt := tYes) (te := tOp (rIxL K) (tVar 7) (tCall spTake [] E0 (tCons (tVar 1) (tCons (tCB (rLen K) (tCons (tVar 7) tNil)) tNil)))) rfl scLaw.nd rfl rfl (sw_true rfl rfl rfl (by decide +kernel)) (pi_range1 rfl B.range (pa_cons (pe_op op_sub pe_int (pe_call GT r1 rfl TT.g TT.F.kp TT.b .nil pass0 (pa_cons (pv 1) (pa_cons pe_int pa_nil)))) pa_nil))
          (blkOk_by (N := nLaw) (sc := defScope sLaw) (by decide +kernel)) (fun _ _ _ _ _ => pg_name (i := 12) scLaw.nd rfl (Or.inl rfl)) (fun _ _ _ _ _ => pts_nil)
          (fun _ _ _ _ _ => pe_ix ix_list (pv 7) (pe_call GT r1 rfl TT.g TT.F.kp TT.b .nil pass0 (pa_cons (pv 1) (pa_cons (pe_callB call_len_seq (by rfl) B.len PySem.boot_len (pa_cons (pv 7) pa_nil)) pa_nil))) (fun _ _ => rfl)))
        (pss_cons (ps_set (i := 14) scLaw.nd rfl (Or.inl rfl) (pe_call GT r1 rfl TT.g TT.F.kp TT.b .nil pass0 (pa_cons (pv 1) (pa_cons (pe_op op_add (pv 4) pe_int) pa_nil))))
        (pss_cons (ps_set (i := 15) scLaw.nd rfl (Or.inl rfl) (pe_lst (pa_cons (pe_callTy call_list_of (by rfl) hL (by decide +kernel) (pa_cons (pv 11) pa_nil)) (pa_cons (pe_callTy call_list_of (by rfl) hL (by decide +kernel) (pa_cons (pv 13) pa_nil)) pa_nil))))
        (pss_cons (ps_set (i := 16) scLaw.nd rfl (Or.inl rfl) pe_non)
        (C8.pss_cut (ps_if (pt_cmpR op_eq (pv 14) (pv 4) (nomark _)) (pss_one (ps_set (i := 16) scLaw.nd rfl (Or.inl rfl) (pe_tup (pa_cons pe_str (pa_cons (pe_ix ix_list (pv 5) (pv 14) (fun _ _ => rfl)) pa_nil)))))
          (pss_one (ps_asg (pe_tup (pa_cons (pe_call GO r1 rfl TO.g TO.F.kp TO.b .nil pass0 (pa_cons (pv 11) pa_nil)) (pa_cons (pe_call GO r1 rfl TO.g TO.F.kp TO.b .nil pass0 (pa_cons (pv 13) pa_nil)) pa_nil))) (pg_sub (pv 10) (pv 14) set_list))))
        (C8.pss_cut (ps_if (pt_cmpR op_eq (pe_op op_mod (pe_callTy call_int1 (by rfl) B.int (by decide +kernel) (pa_cons (pv 6) pa_nil)) pe_int) pe_int (nomark _))
          (C8.pss_cut (ps_if (PW.pt (pw_or (pt_cmpR (op_neS hr.units) (pe_call GS r4 rfl TS.g TS.F.kp TS.b .nil pass0 (pa_cons (pv 9) (pa_cons (pe_ix ix_list (pv 5) (pv 14) (fun _ _ => rfl)) (pa_cons (pe_ix ix_list (pv 15) pe_int (fun _ _ => rfl)) (pa_cons (pe_ix ix_list (pv 15) pe_int (fun _ _ => rfl)) pa_nil))))) (pv 16) (nomark _))
              (pw_or1 (pt_cmpR (op_neS hr.units) (pv 15) (pe_lst (pa_cons (pv 11) (pa_cons (pv 13) pa_nil))) (nomark _))))) (pss_one (ps_ret pe_bl)) pss_nil)
          (pss_cons (ps_expr (pe_bm PySem.F.plainAttrs_list PySem.F.slot_list_append PySem.F.type_list_append mt_append (pe_ix ix_list (pv 15) pe_int (fun _ _ => rfl)) (pa_cons (pe_ix ix_list (pv 5) (pv 4) (fun _ _ => rfl)) pa_nil)))
          (pss_one (ps_expr (pe_bm PySem.F.plainAttrs_list PySem.F.slot_list_append PySem.F.type_list_append mt_append (pe_ix ix_list (pv 15) pe_int (fun _ _ => rfl)) (pa_cons (pe_ix ix_list (pv 5) (pv 4) (fun _ _ => rfl)) pa_nil))))))
          (pss_one (ps_if (pt_cmpR (op_neS hr.units) (pe_call GS r4 rfl TS.g TS.F.kp TS.b .nil pass0 (pa_cons (pv 9) (pa_cons (pe_ix ix_list (pv 5) (pv 14) (fun _ _ => rfl)) (pa_cons (pe_callTy call_tuple_of (by rfl) hT (by decide +kernel) (pa_cons (pv 11) pa_nil)) (pa_cons (pe_callTy call_tuple_of (by rfl) hT (by decide +kernel) (pa_cons (pv 13) pa_nil)) pa_nil))))) (pv 16) (nomark _)) (pss_one (ps_ret pe_bl)) pss_nil)))
        (pss_one (ps_if (pt_not (pt_val (pe_call GA hr rfl TA.g TA.F.kp TA.b .nil pass0 (pa_cons (pv 9) (pa_cons (pe_slice sl_list (pv 5) po_none (po_some (pv 4))) (pa_cons (pv 10) (pa_cons (pe_ix ix_list (pv 5) (pv 4) (fun _ _ => rfl)) pa_nil))))))) (pss_one (ps_ret pe_bl)) pss_nil))))))))))
      (pss_one (ps_ret pe_bl)))))))))))))), ?_⟩
    -- the pool, the base of the names, the kind, the size
    refine ⟨_, rfl, scr, script, rfl, hS, hlen, fun p c H1 _ _ _ P1 => ?_⟩
    refine ⟨_, rfl, p, c, rfl, P1, fun b H2 hb hsb _ P2 => ?_⟩
    refine ⟨_, rfl, p, c, 4, rfl, P2, by decide, by decide, fun kd H3 _ _ _ P3 => ?_⟩
    refine ⟨(by show 10 ≤ sizeLine; decide), fun tl0 ht => ?_⟩
    obtain ⟨ntp, ntc⟩ := P3.ne ht
    refine ⟨_, rfl, p, c, 10, rfl, P3.new ht, by decide, by decide, fun v H5 v0 v1 g4 P5 => ?_⟩
    obtain ⟨n, hat, n1, n2⟩ := sizes v0 v1
    refine ⟨tl0, _, v, _, rfl, rfl, SqL.of (g4 _ _ upd_same ntp), hat, ?_⟩
    clear P1 P2 P3 g4 hat ht v0 v1
    -- a list of drawn names
    have drawn : ∀ (m : Nat) (D : Addr) (H5 : Hp), m ≤ 12 → D ≠ p → D ≠ c → ∀ (i : Nat) (H' : Hp), i < m → (Gro p H5 H' ∧ Pool H' p c ∧ ∃ ys : List Str, H' D = some (.lst (ys.map V.str)) ∧ ys.length = i ∧ ∀ j s, ys[j]? = some s → NameK j s) → H5 D = none →
        spName [.ref p, .str b, .int (0 + (i : Int))] H' (fun y H4 => ∃ acc, H4 D = some (.lst acc) ∧ acc.length < sizeLine ∧ (Gro p H5 (upd H4 D (.lst (acc ++ [y]))) ∧ Pool (upd H4 D (.lst (acc ++ [y]))) p c ∧ ∃ ys : List Str, upd H4 D (.lst (acc ++ [y])) D = some (.lst (ys.map V.str)) ∧ ys.length = i + 1 ∧ ∀ j s, ys[j]? = some s → NameK j s)) E0 := by
      intro m D H5 hm nDp nDc i H' hi ⟨g6, P6, ys, hys, hyl, hnm⟩ hD
      refine ⟨p, c, b, i, by rw [show (0 : Int) + (i : Int) = (i : Int) by omega], P6, by omega, hsb, by omega, fun z H7 hz g7 P7 => ?_⟩
      refine ⟨ys.map V.str, g7 D _ hys nDp, small1000 (by rw [List.length_map]; omega), fun bb o e ne => ?_, P7.off nDp nDc, ys ++ [z], by rw [upd_same, List.map_append]; rfl, by rw [List.length_append, hyl]; rfl, fun j s hj => ?_⟩
      · rw [upd_ne (ne_of_none e hD)]
        exact g7 _ _ (g6 _ _ e ne) ne
      · rcases Nat.lt_or_ge j ys.length with hlt | hge
        · rw [List.getElem?_append_left hlt] at hj
          exact hnm j s hj
        · rw [List.getElem?_append_right hge] at hj
          have h0 : j - ys.length = 0 := by
            have := (List.getElem?_eq_some_iff.mp hj).1
            simp at this
            omega
          rw [h0] at hj
          have ej : j = i := by omega
          subst ej
          cases Option.some.inj hj
          exact hz
    refine ⟨_, rfl, _, _, rfl, rfl, _, rfl, by omega, by omega, fun D hD => ?_⟩
    obtain ⟨nDp, nDc⟩ := P5.ne hD
    refine lc_range (lo := 0) (n := ((n : Int) + 1).toNat) (fun i H' => Gro p H5 H' ∧ Pool H' p c ∧ ∃ ys : List Str, H' D = some (.lst (ys.map V.str)) ∧ ys.length = i ∧ ∀ j s, ys[j]? = some s → NameK j s)
      ⟨.new hD, P5.new hD, [], upd_same, rfl, fun j s h => by simp at h⟩ ?_ ?_
    · intro i H' hi inv
      exact ⟨rfl, _, rfl, _, rfl, _, rfl, drawn (n + 1) D H5 (by omega) nDp nDc i H' (by omega) inv hD⟩
    rintro H6 ⟨_, P6, ns, hns, hnl, hnm⟩
    have hN : ns.length = n + 1 := by omega
    -- the doors
    refine ⟨_, rfl, p, c, 5, rfl, P6, by decide, by decide, fun v H7 v0 v1 g7 P7 => ⟨_, _, rfl, rfl, _, rfl, by omega, by omega, fun Dd hDd => ?_⟩⟩
    obtain ⟨nEp, nEc⟩ := P7.ne hDd
    have hns7 := g7 _ _ hns nDp
    have nDE : D ≠ Dd := ne_of_none hns7 hDd
    refine lc_range (lo := 0) (n := (1 + v).toNat) (fun i H' => Gro p H7 H' ∧ Pool H' p c ∧ ∃ ys : List Str, H' Dd = some (.lst (ys.map V.str)) ∧ ys.length = i ∧ ∀ j s, ys[j]? = some s → NameK j s)
      ⟨.new hDd, P7.new hDd, [], upd_same, rfl, fun j s h => by simp at h⟩ ?_ ?_
    · intro i H' hi inv
      exact ⟨rfl, _, rfl, _, rfl, _, rfl, drawn 5 Dd H7 (by omega) nEp nEc i H' (by omega) inv hDd⟩
    rintro H8 ⟨g8, P8, ds, hds, hdl, _⟩
    have hns8 : H8 D = some (.lst (ns.map V.str)) := g8 _ _ hns7 nDp
    have dpos : 0 < ds.length ∧ ds.length ≤ 5 := by omega
    clear drawn g8 hns7 g7 hns
    obtain ⟨z, hz⟩ : ∃ z, ns[n]? = some z := ⟨_, List.getElem?_eq_getElem (by omega)⟩
    have hnd : ns.Nodup := name_nodup hnm
    obtain ⟨ss, hss⟩ : ∃ ss, ss = ns.take n := ⟨_, rfl⟩
    have sl_ : ss.length = n := by rw [hss, List.length_take]; omega
    have snd : ss.Nodup := by rw [hss]; exact hnd.sublist (List.take_sublist _ _)
    have hlen' : ∀ s ∈ ns, s.length ≤ 100 := fun s hs => by
      obtain ⟨j, hj⟩ := List.mem_iff_getElem?.mp hs
      exact Nat.le_trans (hnm j s hj).1 (by omega)
    have hsl : ∀ s ∈ ss, s.length ≤ 100 := fun s hs => hlen' s (by rw [hss] at hs; exact List.mem_of_mem_take hs)
    have hzl : z.length ≤ 100 := hlen' z (List.mem_of_getElem? hz)
    have zs : z ∉ ss := fun m => by
      rw [hss] at m
      obtain ⟨j, hj⟩ := List.mem_iff_getElem?.mp m
      have jn : j < n := by
        have := (List.getElem?_eq_some_iff.mp hj).1
        rw [List.length_take] at this
        omega
      rw [List.getElem?_take_of_lt jn] at hj
      exact absurd (nd_ix hnd hj hz) (by omega)
    have l1000 : ss.length ≤ 1000 := by omega
    -- standings, part
    refine ⟨_, rfl, _, rfl, _, rfl, D, _, rfl, SqL.of hns8, fun sl hsl0 => ?_⟩
    rw [cut_take, ← hss]
    obtain ⟨nsp, nsc⟩ := P8.ne hsl0
    have nsD : sl ≠ D := (ne_of_none hns8 hsl0).symm
    have nsE : sl ≠ Dd := (ne_of_none hds hsl0).symm
    have q9 : Same H8 (upd H8 sl (.lst (ss.map V.str))) := same_new hsl0
    have s9 : upd H8 sl (.lst (ss.map V.str)) sl = some (.lst (ss.map V.str)) := upd_same
    generalize upd H8 sl (.lst (ss.map V.str)) = H9 at q9 s9
    refine ⟨_, rfl, _, rfl, _, rfl, D, _, _, _, rfl, rfl, SqL.of (q9 _ _ hns8), at_s hz rfl, _, rfl, kd, z, sl, ss, rfl, SqL.of s9, l1000, hsl, snd, fun a C H10 q10 na dc da => ?_⟩
    have q810 := q9.trans q10
    refine ⟨_, rfl, _, rfl, _, rfl, _, rfl, D, _, rfl, SqL.of (q810 _ _ hns8), fun s2 hs2 => ?_⟩
    rw [cut_take, ← hss]
    refine ⟨_, dp_lst (SqL.of (by rw [upd_ne (ne_of_none (q10 _ _ s9) hs2)]; exact q10 _ _ s9)), dp_lst (SqL.of upd_same), plain_lst _, depth_lst _, _, rfl, no rfl ?_⟩
    have q11 : Same H10 (upd H10 s2 (.lst (ss.map V.str))) := same_new hs2
    generalize upd H10 s2 (.lst (ss.map V.str)) = H11 at q11
    have q811 := q810.trans q11
    have s11 := q11 _ _ (q10 _ _ s9)
    refine ⟨_, rfl, .inl ⟨rfl, _, SqL.of s11⟩, _, rfl, _, rfl, D, _, _, _, rfl, rfl, SqL.of (q811 _ _ hns8), at_s hz rfl, sl, _, _, rfl, rfl, s11, small1000 (by rw [List.length_map]; omega), ?_⟩
    have P12 : Pool (upd H11 sl (.lst (ss.map V.str ++ [.str z]))) p c := (P8.keep (fun o e => q811 _ _ e) fun o e => q811 _ _ e).off nsp nsc
    have n12 : upd H11 sl (.lst (ss.map V.str ++ [.str z])) D = some (.lst (ns.map V.str)) := by rw [upd_ne nsD.symm]; exact q811 _ _ hns8
    have d12 : upd H11 sl (.lst (ss.map V.str ++ [.str z])) Dd = some (.lst (ds.map V.str)) := by rw [upd_ne nsE.symm]; exact q811 _ _ hds
    have k12 : DoorAt (upd H11 sl (.lst (ss.map V.str ++ [.str z]))) a C ss (ss.map fun _ => ([], [])) := (da.keep q11).keepL fun q o e ne => by
      rw [upd_ne]
      · exact e
      · rintro rfl
        rw [s11] at e
        exact ne _ (Option.some.inj e).symm
    generalize upd H11 sl (.lst (ss.map V.str ++ [.str z])) = H12 at P12 n12 d12 k12
    -- what is told at the beginning
    refine ⟨_, rfl, _, rfl, by omega, by omega, fun tl htl => ?_⟩
    obtain ⟨m3, m4⟩ := P12.ne htl
    refine lc_range (lo := 0) (n := ((n : Int)).toNat) (fun i H' => Same H12 H' ∧ ∃ us : List Addr, H' tl = some (.lst (us.map V.ref)) ∧ us.length = i ∧ ∀ j u, us[j]? = some u → PairD H' u ([], []))
      ⟨same_new htl, [], upd_same, rfl, fun j u h => by rw [List.getElem?_nil] at h; cases h⟩ ?_ ?_
    · rintro i H' hi ⟨q1, us, hu, hul, hus⟩
      refine ⟨rfl, (by show 0 ≤ sizeLine; omega), fun x hx => ⟨(by show 0 ≤ sizeLine; omega), fun y hy => ⟨(by show 2 ≤ sizeLine; decide), fun t ht => ?_⟩⟩⟩
      have qa : Same H' (upd H' x (.tup [])) := same_new hx
      have ea : upd H' x (.tup []) x = some (.tup []) := upd_same
      generalize upd H' x (.tup []) = Ha at qa ea hy ht
      have qb : Same Ha (upd Ha y (.tup [])) := same_new hy
      have eb : upd Ha y (.tup []) y = some (.tup []) := upd_same
      generalize upd Ha y (.tup []) = Hb at qb eb ht
      have qc : Same Hb (upd Hb t (.tup [.ref x, .ref y])) := same_new ht
      have ec : upd Hb t (.tup [.ref x, .ref y]) t = some (.tup [.ref x, .ref y]) := upd_same
      generalize upd Hb t (.tup [.ref x, .ref y]) = Hc at qc ec
      have qd := (qa.trans qb).trans qc
      have hu2 := qd _ _ hu
      have tk : ∀ b0 xs, Hc b0 = some (.tup xs) → upd Hc tl (.lst (us.map V.ref ++ [.ref t])) b0 = some (.tup xs) := fun b0 xs e => by
        rw [upd_ne (ne_of e hu2 (by intro w; cases w))]
        exact e
      refine ⟨us.map V.ref, hu2, small1000 (by rw [List.length_map]; omega), fun b0 o e => ?_, us ++ [t], by rw [upd_same, List.map_append]; rfl, by rw [List.length_append, hul]; rfl, fun j u hj => ?_⟩
      · rw [upd_ne (ne_of_none e htl)]
        exact qd _ _ (q1 _ _ e)
      · rcases Nat.lt_or_ge j us.length with hlt | hge
        · rw [List.getElem?_append_left hlt] at hj
          exact ((hus j u hj).keep fun b0 xs e => qd _ _ e).keep tk
        · rw [List.getElem?_append_right hge] at hj
          have h0 : j - us.length = 0 := by
            have := (List.getElem?_eq_some_iff.mp hj).1
            simp at this
            omega
          rw [h0] at hj
          cases Option.some.inj hj
          exact ⟨x, y, tk _ _ ec, tk _ _ (qc _ _ (qb _ _ ea)), tk _ _ (qc _ _ eb)⟩
    rintro H13 ⟨q13, us, hu, hul, hus⟩
    have L : DLaw H13 p c D Dd tl a C ns ds ss (ss.map fun _ => ([], [])) (ss.map fun _ => ([], [])) us :=
      ⟨P12.keep (fun o e => q13 _ _ e) fun o e => q13 _ _ e, q13 _ _ n12, q13 _ _ d12, hu, ⟨by rw [List.length_map]; omega, fun i t p0 h1 h2 => by
        obtain ⟨w0, _, e⟩ := List.mem_map.mp (List.mem_of_getElem? h2)
        subst e
        exact hus i t h1⟩, k12.keep q13, nDp, nEp, m3, m4, (ne_of_none n12 htl).symm, (ne_of_none d12 htl).symm⟩
    clear q13 hus hu k12 d12 n12 P12 s11 q811 q11 da q10 q810 q9 s9 hds hns8 P8
    refine ⟨_, rfl, _, rfl, _, rfl, _, rfl, D, _, rfl, SqL.of L.ns_, fun sx hx => ?_⟩
    rw [cut_take, ← hss]
    have qx : Same H13 (upd H13 sx (.lst (ss.map V.str))) := same_new hx
    have Lx := L.same qx
    refine ⟨_, rfl, _, rfl, _, rfl, D, _, _, _, rfl, rfl, SqL.of Lx.ns_, at_s hz rfl, a, C, sx, tl, z, ss, _, us, rfl, dc, Lx.door, SqL.of upd_same, Lx.tl_, Lx.told, zs, l1000, hsl, hzl, fun H14 q14 => ⟨true, rfl, no rfl ?_⟩⟩
    have L14 := Lx.same q14
    have n200 : ((n : Int) + 1).natAbs < 2 ^ 200 := Nat.lt_of_le_of_lt (m := 100) (by omega) (by decide)
    refine ⟨_, rfl, p, c, 13, rfl, L14.pool, by decide, by decide, fun v H15 v0 v1 g15 P15 => ⟨_, _, rfl, rfl, _, rfl, by omega, by omega, for_range (lo := 0) (n := (2 + v).toNat)
      (fun i σ H' => ∃ (ng : List (List Str × List Str)) (us : List Addr) (v6 v11 v12 v13 v14 v15 v16 : Option V), DLaw H' p c D Dd tl a C ns ds ss ng ng us ∧
        σ = [some (.ref scr), some (.ref p), some (.str b), some (.int kd), some (.int (n : Int)), some (.ref D), v6, some (.ref Dd), some (.ref sl), some (.ref a), some (.ref tl), v11, v12, v13, v14, v15, v16])
      ⟨_, us, _, _, _, _, _, _, _, L14.gro g15 P15, rfl⟩ ?_ ?_⟩⟩
    · clear L14 Lx L g15 P15
      rintro i σ H' hi ⟨ng, us, v6, v11, v12, v13, v14, v15, v16, L, rfl⟩
      refine ⟨_, rfl, p, c, 7, rfl, L.pool, by decide, by decide, fun u1 Ha1 ua1 ub1 ga1 Pa1 => ⟨_, _, rfl, rfl, _, rfl, by omega, by omega, fun D1 hD1 => ?_⟩⟩
      have La1 := L.gro ga1 Pa1
      obtain ⟨x1p, x1c⟩ := La1.pool.ne hD1
      refine lc_range (lo := 0) (n := (6 - u1).toNat) (fun i H' => Gro p Ha1 H' ∧ Pool H' p c ∧ ∃ ys : List Str, H' D1 = some (.lst (ys.map V.str)) ∧ ys.length = i)
        ⟨.new hD1, La1.pool.new hD1, [], upd_same, rfl⟩ ?_ ?_
      · rintro i2 H2 hi2 ⟨g2, P2, ys, hys, hyl⟩
        have ds2 : H2 Dd = some (.lst (ds.map V.str)) := g2 _ _ La1.ds_ nEp
        refine ⟨rfl, _, rfl, _, rfl, _, rfl, Dd, _, rfl, .inl (SqL.of ds2), p, c, _, rfl, P2, by rw [List.length_map]; omega, by rw [List.length_map]; exact Nat.lt_of_le_of_lt (m := 100) (by omega) (by decide), fun x H3 x0 x1 g3 P3 => ?_⟩
        rw [List.length_map] at x1
        obtain ⟨y, hy⟩ : ∃ y, ds[x.toNat]? = some y := ⟨_, List.getElem?_eq_getElem (by omega)⟩
        have ys3 : H3 D1 = some (.lst (ys.map V.str)) := g3 _ _ hys x1p
        refine ⟨Dd, _, x, _, rfl, rfl, SqL.of (g3 _ _ ds2 nEp), at_s hy (by omega), ys.map V.str, ys3, small1000 (by rw [List.length_map]; omega), fun b0 o e ne => ?_, P3.off x1p x1c, ys ++ [y], by rw [upd_same, List.map_append]; rfl, by rw [List.length_append, hyl]; rfl⟩
        rw [upd_ne (ne_of_none e hD1)]
        exact g3 _ _ (g2 _ _ e ne) ne
      rintro Hb1 ⟨gb1, Pb1, w1, eD1, lD1⟩
      have Lb1 := La1.gro gb1 Pb1
      have x1n : D1 ≠ D := (ne_of_none La1.ns_ hD1).symm
      have x1d : D1 ≠ Dd := (ne_of_none La1.ds_ hD1).symm
      have x1t : D1 ≠ tl := (ne_of_none La1.tl_ hD1).symm
      refine ⟨_, rfl, p, c, 7, rfl, Lb1.pool, by decide, by decide, fun u2 Ha2 ua2 ub2 ga2 Pa2 => ⟨_, _, rfl, rfl, _, rfl, by omega, by omega, fun D2 hD2 => ?_⟩⟩
      have La2 := Lb1.gro ga2 Pa2
      obtain ⟨x2p, x2c⟩ := La2.pool.ne hD2
      refine lc_range (lo := 0) (n := (6 - u2).toNat) (fun i H' => Gro p Ha2 H' ∧ Pool H' p c ∧ ∃ ys : List Str, H' D2 = some (.lst (ys.map V.str)) ∧ ys.length = i)
        ⟨.new hD2, La2.pool.new hD2, [], upd_same, rfl⟩ ?_ ?_
      · rintro i2 H2 hi2 ⟨g2, P2, ys, hys, hyl⟩
        have ds2 : H2 Dd = some (.lst (ds.map V.str)) := g2 _ _ La2.ds_ nEp
        refine ⟨rfl, _, rfl, _, rfl, _, rfl, Dd, _, rfl, .inl (SqL.of ds2), p, c, _, rfl, P2, by rw [List.length_map]; omega, by rw [List.length_map]; exact Nat.lt_of_le_of_lt (m := 100) (by omega) (by decide), fun x H3 x0 x1 g3 P3 => ?_⟩
        rw [List.length_map] at x1
        obtain ⟨y, hy⟩ : ∃ y, ds[x.toNat]? = some y := ⟨_, List.getElem?_eq_getElem (by omega)⟩
        have ys3 : H3 D2 = some (.lst (ys.map V.str)) := g3 _ _ hys x2p
        refine ⟨Dd, _, x, _, rfl, rfl, SqL.of (g3 _ _ ds2 nEp), at_s hy (by omega), ys.map V.str, ys3, small1000 (by rw [List.length_map]; omega), fun b0 o e ne => ?_, P3.off x2p x2c, ys ++ [y], by rw [upd_same, List.map_append]; rfl, by rw [List.length_append, hyl]; rfl⟩
        rw [upd_ne (ne_of_none e hD2)]
        exact g3 _ _ (g2 _ _ e ne) ne
      rintro Hb2 ⟨gb2, Pb2, w2, eD2, lD2⟩
      have Lb2 := La2.gro gb2 Pb2
      have x2n : D2 ≠ D := (ne_of_none La2.ns_ hD2).symm
      have x2d : D2 ≠ Dd := (ne_of_none La2.ds_ hD2).symm
      have x2t : D2 ≠ tl := (ne_of_none La2.tl_ hD2).symm
      have f1 : Hb2 D1 = some (.lst (w1.map V.str)) := gb2 _ _ (ga2 _ _ eD1 x1p) x1p
      have x12 : D1 ≠ D2 := ne_of_none (ga2 _ _ eD1 x1p) hD2
      -- the place
      refine ⟨_, rfl, _, rfl, _, _, rfl, rfl, p, c, _, rfl, Lb2.pool, by omega, n200, fun at_ Hc at0 at1 gc Pc => ?_⟩
      have Lc := Lb2.gro gc Pc
      have f2 := gc _ _ f1 x1p
      have f3 := gc _ _ eD2 x2p
      -- the lists that are passed
      refine ⟨_, rfl, D1, _, rfl, .inl (SqL.of f2), fun L1 hL1 => ?_⟩
      have q1 : Same Hc (upd Hc L1 (.lst (w1.map V.str))) := same_new hL1
      have f4 : upd Hc L1 (.lst (w1.map V.str)) L1 = some (.lst (w1.map V.str)) := upd_same
      generalize upd Hc L1 (.lst (w1.map V.str)) = Hd at q1 f4
      refine ⟨_, rfl, D2, _, rfl, .inl (SqL.of (q1 _ _ f3)), fun L2 hL2 => ⟨(by show 2 ≤ sizeLine; decide), fun PL hPL => ?_⟩⟩
      have q2 : Same Hd (upd Hd L2 (.lst (w2.map V.str))) := same_new hL2
      have f5 : upd Hd L2 (.lst (w2.map V.str)) L2 = some (.lst (w2.map V.str)) := upd_same
      generalize upd Hd L2 (.lst (w2.map V.str)) = He at q2 f5 hPL
      have q3 : Same He (upd He PL (.lst [.ref L1, .ref L2])) := same_new hPL
      have f6 : upd He PL (.lst [.ref L1, .ref L2]) PL = some (.lst [.ref L1, .ref L2]) := upd_same
      generalize upd He PL (.lst [.ref L1, .ref L2]) = Hf at q3 f6
      have Lf := ((Lc.same q1).same q2).same q3
      have fresh : ∀ (q : Addr) (H2 : Hp), DLaw H2 p c D Dd tl a C ns ds ss ng ng us → H2 q = none → q ≠ p ∧ q ≠ c ∧ q ≠ D ∧ q ≠ Dd ∧ q ≠ tl := fun q H2 L hq => ⟨(L.pool.ne hq).1, (L.pool.ne hq).2, (ne_of_none L.ns_ hq).symm, (ne_of_none L.ds_ hq).symm, (ne_of_none L.tl_ hq).symm⟩
      obtain ⟨a1, a2, a3, a4, a5⟩ := fresh L1 _ Lc hL1
      obtain ⟨b1, b2, b3, b4, b5⟩ := fresh L2 _ (Lc.same q1) hL2
      obtain ⟨_, _, _, _, c5⟩ := fresh PL _ ((Lc.same q1).same q2) hPL
      have y1 : L1 ≠ D1 := (ne_of_none f2 hL1).symm
      have y2 : L1 ≠ D2 := (ne_of_none f3 hL1).symm
      have y3 : L2 ≠ L1 := (ne_of_none f4 hL2).symm
      have y4 : PL ≠ L1 := (ne_of_none (q2 _ _ f4) hPL).symm
      have y5 : PL ≠ L2 := (ne_of_none f5 hPL).symm
      have g1 := q3 _ _ (q2 _ _ (q1 _ _ f2))
      have g2 := q3 _ _ (q2 _ _ (q1 _ _ f3))
      have g3 := q3 _ _ (q2 _ _ f4)
      have g4 := q3 _ _ f5
      have w1l : w1.length ≤ 6 := by omega
      have w2l : w2.length ≤ 6 := by omega
      clear fresh q1 q2 q3 f1 f2 f3 f4 f5 hL1 hL2 hPL Lc Lb2 La2 Lb1 La1 L
      -- what is due
      refine ⟨fun σ H' => ∃ (vd : V) (us' : List Addr) (ng' : List (List Str × List Str)) (y : Str) (j : Nat), at_ = (j : Int) ∧ ns[j]? = some y ∧ y.length ≤ 100 ∧ DLaw H' p c D Dd tl a C ns ds ss ng ng' us' ∧
        (H' D1 = some (.lst (w1.map V.str)) ∧ H' D2 = some (.lst (w2.map V.str)) ∧ H' L1 = some (.lst (w1.map V.str)) ∧ H' L2 = some (.lst (w2.map V.str)) ∧ H' PL = some (.lst [.ref L1, .ref L2])) ∧
        ((y ∉ ss ∧ ng' = ng ∧ ∃ q, vd = .ref q ∧ H' q = some (.tup [.str "unknown", .str y])) ∨ (ss[j]? = some y ∧ ng' = ng.set j (onceS w1, onceS w2) ∧ vd = .non)) ∧
        σ = [some (.ref scr), some (.ref p), some (.str b), some (.int kd), some (.int (n : Int)), some (.ref D), some (.int (0 + (i : Int))), some (.ref Dd), some (.ref sl), some (.ref a), some (.ref tl), some (.ref D1), v12, some (.ref D2), some (.int at_), some (.ref PL), some vd], ?_, ?_⟩
      · obtain ⟨j, rfl⟩ : ∃ j : Nat, at_ = (j : Int) := ⟨at_.toNat, by omega⟩
        obtain ⟨y, hy⟩ : ∃ y, ns[j]? = some y := ⟨_, List.getElem?_eq_getElem (by omega)⟩
        have yl : y.length ≤ 100 := hlen' y (List.mem_of_getElem? hy)
        refine ⟨_, rfl, _, rfl, rfl, _, rfl, ?_⟩
        by_cases hj : j = n
        · refine yes (decide_eq_true (by rw [hj])) ⟨_, rfl, _, rfl, D, _, _, _, rfl, rfl, SqL.of Lf.ns_, at_s hy rfl, (by show 2 ≤ sizeLine; decide), fun q hq => ?_⟩
          have yz : y = z := by
            rw [hj] at hy
            exact Option.some.inj (hy.symm.trans hz)
          have qs : Same Hf (upd Hf q (.tup [.str "unknown", .str y])) := same_new hq
          exact ⟨_, us, ng, y, j, rfl, hy, yl, Lf.same qs, ⟨qs _ _ g1, qs _ _ g2, qs _ _ g3, qs _ _ g4, qs _ _ f6⟩, .inl ⟨by rw [yz]; exact zs, rfl, q, rfl, upd_same⟩, rfl⟩
        · have jn : j < n := by omega
          have hys : ss[j]? = some y := by rw [hss, List.getElem?_take_of_lt jn]; exact hy
          refine no (decide_eq_false fun q => hj (by injection q with q; omega)) ⟨_, rfl, D1, w1, rfl, SqL.of g1, by omega, fun o1 Hg qg _ eg => ⟨_, rfl, D2, w2, rfl, SqL.of (qg _ _ g2), by omega, fun o2 Hh qh _ eh => ⟨(by show 2 ≤ sizeLine; decide), fun t ht => ?_⟩⟩⟩
          have qt : Same Hh (upd Hh t (.tup [.ref o1, .ref o2])) := same_new ht
          have et : upd Hh t (.tup [.ref o1, .ref o2]) t = some (.tup [.ref o1, .ref o2]) := upd_same
          generalize upd Hh t (.tup [.ref o1, .ref o2]) = Hi at qt et
          have qi := (qg.trans qh).trans qt
          have Li := Lf.same qi
          have pr : PairD Hi t (onceS w1, onceS w2) := ⟨o1, o2, et, qt _ _ (qh _ _ eg), qt _ _ eh⟩
          have ul : (us.map V.ref).length = n := by
            have u1 := Li.told.1
            obtain ⟨_, _, _, _, _, _, _, _, Dx⟩ := Li.door
            rw [List.length_map, u1, Dx.ln, sl_]
          refine ⟨_, rfl, _, rfl, tl, _, _, j, rfl, rfl, Li.tl_, ixN_c (by rw [ul]; exact jn) rfl, ?_⟩
          have off : ∀ q xs, q ≠ tl → Hf q = some (.lst xs) → upd Hi tl (.lst ((us.map V.ref).set j (.ref t))) q = some (.lst xs) := fun q xs nq e => by rw [upd_ne nq]; exact qi _ _ e
          exact ⟨_, us.set j t, _, y, j, rfl, hy, yl, Li.tell pr, ⟨off _ _ x1t g1, off _ _ x2t g2, off _ _ a5 g3, off _ _ b5 g4, off _ _ c5 f6⟩, .inr ⟨hys, rfl, rfl⟩, rfl⟩
      rintro σ Hj ⟨vd, us', ng', y, j, rfl, hy, yl, Lj, ⟨k1, k2, k3, k4, k5⟩, hdue, rfl⟩
      -- the setting
      have put : ∀ (H2 : Hp) (M1 M2 : Addr) (Q' : VK), DLaw H2 p c D Dd tl a C ns ds ss ng ng' us' → TxS K H2 M1 w1 → TxS K H2 M2 w2 → (∀ q, vd = .ref q → y ∉ ss → H2 q = some (.tup [.str "unknown", .str y])) →
          (∀ u H3, NoD H2 H3 → DLaw H3 p c D Dd tl a C ns ds ss ng' ng' us' → (∃ d, Dp K H3 u d ∧ Dp K H3 vd d ∧ d.plain = true ∧ d.depth ≤ 60) → Q' u H3) → DSetP K fN fG fI fP fT [.ref a, .str y, .ref M1, .ref M2] H2 Q' E0 := by
        intro H2 M1 M2 Q' L2 t1 t2 hq hQ
        constructor
        refine ⟨a, C, ss, ng, y, M1, M2, w1, w2, rfl, dc, L2.door, yl, t1, t2, by omega, by omega, l1000, fun hm q H3 s3 e3 => ?_, fun i' hi' H3 s3 d3 => ?_⟩
        · rcases hdue with ⟨_, en, q0, ev, _⟩ | ⟨h1, _, _⟩
          · refine hQ _ H3 (fun b0 o e _ => s3 _ _ e) (by have q := L2.same s3; rw [← en] at q; exact q) ⟨_, dp_tup (ss := ["unknown", y]) (SqT.of e3), ?_, plain_tup _, depth_tup _⟩
            rw [ev]
            exact dp_tup (ss := ["unknown", y]) (SqT.of (s3 _ _ (hq q0 ev hm)))
          · exact absurd (List.mem_of_getElem? h1) hm
        · rcases hdue with ⟨hm, _, _⟩ | ⟨h1, en, ev⟩
          · exact absurd (List.mem_of_getElem? hi') hm
          · have ei := nd_ix snd hi' h1
            subst ei
            rw [← en] at d3
            refine hQ _ H3 s3 (L2.noD s3 d3) ⟨.none, .non, ?_, rfl, by decide⟩
            rw [ev]
            exact .non
      have lsN : ∀ {H2 H3 : Hp} {q : Addr} {xs : List V}, NoD H2 H3 → H2 q = some (.lst xs) → H3 q = some (.lst xs) := fun {H2 H3 q xs} s e => s _ _ e (fun kvs z => by cases z)
      refine ⟨fun σ H' => DLaw H' p c D Dd tl a C ns ds ss ng' ng' us' ∧
        σ = [some (.ref scr), some (.ref p), some (.str b), some (.int kd), some (.int (n : Int)), some (.ref D), some (.int (0 + (i : Int))), some (.ref Dd), some (.ref sl), some (.ref a), some (.ref tl), some (.ref D1), v12, some (.ref D2), some (.int (j : Int)), some (.ref PL), some vd], ?_, ?_⟩
      · refine ⟨_, rfl, .inl ⟨_, rfl, _, _, rfl, rfl, (by show (0 : Int) < 2; decide), rfl, _, rfl, ?_⟩⟩
        refine ite2 (fun _ => ?_) (fun _ => ?_)
        · refine ⟨fun σ H' => DLaw H' p c D Dd tl a C ns ds ss ng' ng' us' ∧ H' L1 = some (.lst (w1.map V.str)) ∧ H' L2 = some (.lst (w2.map V.str)) ∧ H' PL = some (.lst [.ref L1, .ref L2]) ∧
            σ = [some (.ref scr), some (.ref p), some (.str b), some (.int kd), some (.int (n : Int)), some (.ref D), some (.int (0 + (i : Int))), some (.ref Dd), some (.ref sl), some (.ref a), some (.ref tl), some (.ref D1), v12, some (.ref D2), some (.int (j : Int)), some (.ref PL), some vd], ?_, ?_⟩
          · refine ⟨_, rfl, _, rfl, _, rfl, D, _, _, _, rfl, rfl, SqL.of Lj.ns_, at_s hy rfl, _, rfl, PL, _, 0, _, rfl, rfl, SqL.of k5, at_c (j := 0) rfl rfl, _, rfl, PL, _, 1, _, rfl, rfl, SqL.of k5, at_c (j := 1) rfl rfl, ?_⟩
            refine put Hj L1 L2 _ Lj (.inl (SqL.of k3)) (.inl (SqL.of k4)) (fun q ev hm => ?_) (fun u H3 s3 L3 ⟨d, d1, d2, d3, d4⟩ => ?_)
            · rcases hdue with ⟨_, _, q0, ev', h0⟩ | ⟨h1, _, _⟩
              · rw [ev'] at ev
                cases ev
                exact h0
              · exact absurd (List.mem_of_getElem? h1) hm
            · refine ⟨_, rfl, d, d1, d2, d3, d4, _, rfl, no rfl ⟨_, rfl, _, rfl, _, rfl, (by show 2 ≤ sizeLine; decide), fun N hN => ?_⟩⟩
              have sN : Same H3 (upd H3 N (.lst [.ref D1, .ref D2])) := same_new hN
              have two : ∀ {X1 X2 Y : Addr} {H4 : Hp}, H4 Y = some (.lst [.ref X1, .ref X2]) → H4 X1 = some (.lst (w1.map V.str)) → H4 X2 = some (.lst (w2.map V.str)) → Dp K H4 (.ref Y) (.list [.list (w1.map PyData.str), .list (w2.map PyData.str)]) :=
                fun {X1 X2 Y H4} e0 e1 e2 => .lst (SqL.of e0) (.cons (dp_lst (SqL.of e1)) (.cons (dp_lst (SqL.of e2)) .nil))
              have pl : (PyData.list [.list (w1.map PyData.str), .list (w2.map PyData.str)]).plain = true := by
                have p1 := plain_lst w1
                have p2 := plain_lst w2
                simp only [PyData.plain, PyData.plainAll] at p1 p2 ⊢
                rw [p1, p2]
                rfl
              have dl : (PyData.list [.list (w1.map PyData.str), .list (w2.map PyData.str)]).depth ≤ 60 := by
                have p1 := depth_strs w1
                have p2 := depth_strs w2
                simp only [PyData.depth, PyData.depthAll]
                omega
              exact ⟨_, two (sN _ _ (lsN s3 k5)) (sN _ _ (lsN s3 k3)) (sN _ _ (lsN s3 k4)), two upd_same (sN _ _ (lsN s3 k1)) (sN _ _ (lsN s3 k2)), pl, dl, _, rfl, no rfl ⟨L3.same sN, sN _ _ (lsN s3 k3), sN _ _ (lsN s3 k4), sN _ _ (lsN s3 k5), rfl⟩⟩
          · rintro σ Hk ⟨Lk, m1, m2, m5, rfl⟩
            refine ⟨_, rfl, PL, _, 0, .ref L1, rfl, rfl, SqL.of m5, at_c (j := 0) rfl rfl, .inl ⟨rfl, _, SqL.of m1⟩, _, rfl, _, rfl, D, _, _, _, rfl, rfl, SqL.of Lk.ns_, at_s hz rfl, L1, _, _, rfl, rfl, m1, small1000 (by rw [List.length_map]; omega), ?_⟩
            have Ll := Lk.off (ys := w1.map V.str ++ [.str z]) m1 a1 a2 a3 a4 a5
            have m2' : upd Hk L1 (.lst (w1.map V.str ++ [.str z])) L2 = some (.lst (w2.map V.str)) := by rw [upd_ne y3]; exact m2
            have m5' : upd Hk L1 (.lst (w1.map V.str ++ [.str z])) PL = some (.lst [.ref L1, .ref L2]) := by rw [upd_ne y4]; exact m5
            refine ⟨_, rfl, PL, _, 1, .ref L2, rfl, rfl, SqL.of m5', at_c (j := 1) rfl rfl, .inl ⟨rfl, _, SqL.of m2'⟩, _, rfl, _, rfl, D, _, _, _, rfl, rfl, SqL.of Ll.ns_, at_s hz rfl, L2, _, _, rfl, rfl, m2', small1000 (by rw [List.length_map]; omega), ?_⟩
            exact ⟨Ll.off m2' b1 b2 b3 b4 b5, rfl⟩
        · refine ⟨_, rfl, _, rfl, _, rfl, D, _, _, _, rfl, rfl, SqL.of Lj.ns_, at_s hy rfl, _, rfl, D1, _, rfl, .inl ⟨SqL.of k1, fun t1 ht1 => ?_⟩⟩
          have q1 : Same Hj (upd Hj t1 (.tup (w1.map V.str))) := same_new ht1
          have e1 : upd Hj t1 (.tup (w1.map V.str)) t1 = some (.tup (w1.map V.str)) := upd_same
          generalize upd Hj t1 (.tup (w1.map V.str)) = Hk at q1 e1
          refine ⟨_, rfl, D2, _, rfl, .inl ⟨SqL.of (q1 _ _ k2), fun t2 ht2 => ?_⟩⟩
          have q2 : Same Hk (upd Hk t2 (.tup (w2.map V.str))) := same_new ht2
          have e2 : upd Hk t2 (.tup (w2.map V.str)) t2 = some (.tup (w2.map V.str)) := upd_same
          generalize upd Hk t2 (.tup (w2.map V.str)) = Hl at q2 e2
          have q3 := q1.trans q2
          refine put Hl t1 t2 _ (Lj.same q3) (.inr (SqT.of (q2 _ _ e1))) (.inr (SqT.of e2)) (fun q ev hm => ?_) (fun u H3 s3 L3 ⟨d, d1, d2, d3, d4⟩ => ?_)
          · rcases hdue with ⟨_, _, q0, ev', h0⟩ | ⟨h1, _, _⟩
            · rw [ev'] at ev
              cases ev
              exact q3 _ _ h0
            · exact absurd (List.mem_of_getElem? h1) hm
          · exact ⟨_, rfl, d, d1, d2, d3, d4, _, rfl, no rfl ⟨L3, rfl⟩⟩
      rintro σ Hk ⟨Lk, rfl⟩
      refine ⟨_, rfl, _, rfl, _, rfl, _, rfl, D, _, rfl, SqL.of Lk.ns_, fun sx hx => ?_⟩
      rw [cut_take, ← hss]
      have qx : Same Hk (upd Hk sx (.lst (ss.map V.str))) := same_new hx
      have Lx := Lk.same qx
      exact ⟨_, rfl, _, rfl, _, rfl, D, _, _, _, rfl, rfl, SqL.of Lx.ns_, at_s hz rfl, a, C, sx, tl, z, ss, _, us', rfl, dc, Lx.door, SqL.of upd_same, Lx.tl_, Lx.told, zs, l1000, hsl, hzl, fun H14 q14 => ⟨true, rfl, no rfl ⟨ng', us', _, _, _, _, _, _, _, Lx.same q14, rfl⟩⟩⟩
    · rintro σ H16 ⟨ng, us, v6, v11, v12, v13, v14, v15, v16, L, rfl⟩
      exact k _
end
end Yd
namespace Yd
open PySem L2
/-- which errors «except S» names -/
theorem exm_is {K : PySem.W.Frag} {S : Addr} {cls : Value} {b : Bool} (h1 : PySem.W.subIn K (.ref S) (.type "BaseException") = some true) (h2 : PySem.W.isClsIn K S = true) (h3 : PySem.W.typeIn K (.ref S) = some (.type "type")) (h4 : PySem.W.subIn K cls (.ref S) = some b) : PySem.W.exmOne K cls (.ref S) = some b := by
  have a1 : (PySem.W.subIn K (.ref S) (.type "BaseException") == some true) = true := by rw [h1]; rfl
  have h5 : (PySem.W.clsIn K S).isSome = true := h2
  have a2 : ((PySem.W.clsIn K S).isSome && PySem.W.typeIn K (.ref S) == some (.type "type")) = true := by rw [h5, h3]; rfl
  unfold PySem.W.exmOne
  rw [if_pos a1]
  exact (if_pos a2).trans h4
end Yd
namespace Yd
open PySem L2
/-! ### what the top has written -/
theorem all_mk {P : Program} {w : World} {K : PySem.W.Frag} {h : Heap} {mg : Str → Option Value} {fa : Addr} (X : K.In h) (G : h.Ns mainGlobals mg) (hfa : mg "law" = some (.ref fa))
    {ER fR ccR cdaR : Addr} {nmR qR : Str} {NR : Addr} {bsR bmR : List Value} {snR : List Str} {subR : List Value} {abR : Bool} {colR : Option Bool} {ddR : Option Addr} {m0R m1R m2R m3R m5R : Option Value} {odR anR : Option Addr} {slR : Array (Option Value)} {ocR kVR dcR pmR ctR : Value} {cclR : Value} {cddR : Option Addr} {vsR : Array Value} {ccsR : Array (Option Value)} {fileR : Str} {tfR : Nat} {clR : Value} {cldR : Option Addr} {cslR : Array (Option Value)} {cdDR : ClassData} {EU fU ccU cdaU : Addr} {nmU qU : Str} {NU : Addr} {bsU bmU : List Value} {snU : List Str} {subU : List Value} {abU : Bool} {colU : Option Bool} {ddU : Option Addr} {m0U m1U m2U m3U m5U : Option Value} {odU anU : Option Addr} {slU : Array (Option Value)} {ocU kVU dcU pmU ctU : Value} {cclU : Value} {cddU : Option Addr} {vsU : Array Value} {ccsU : Array (Option Value)} {fileU : Str} {tfU : Nat} {clU : Value} {cldU : Option Addr} {cslU : Array (Option Value)} {cdDU : ClassData} {CS : Addr} {CD : Addr} {CP : Addr} {CI : Addr} {CM : Addr} {fSI : Addr} {odSI anSI : Option Addr} {slSI : Array (Option Value)} {ocSI kVSI dcSI pmSI cdSI ctSI : Value} {fDI : Addr} {odDI anDI : Option Addr} {slDI : Array (Option Value)} {ocDI kVDI dcDI pmDI cdDI ctDI : Value} {fDt : Addr} {odDt anDt : Option Addr} {slDt : Array (Option Value)} {ocDt kVDt dcDt pmDt cdDt ctDt : Value} {fDg : Addr} {odDg anDg : Option Addr} {slDg : Array (Option Value)} {ocDg kVDg dcDg pmDg cdDg ctDg : Value} {fDp : Addr} {odDp anDp : Option Addr} {slDp : Array (Option Value)} {ocDp kVDp dcDp pmDp cdDp ctDp : Value} {fDn : Addr} {odDn anDn : Option Addr} {slDn : Array (Option Value)} {ocDn kVDn dcDn pmDn cdDn ctDn : Value} {fDv : Addr} {odDv anDv : Option Addr} {slDv : Array (Option Value)} {ocDv kVDv dcDv pmDv cdDv ctDv : Value} {fPI : Addr} {odPI anPI : Option Addr} {slPI : Array (Option Value)} {ocPI kVPI dcPI pmPI cdPI ctPI : Value} {fII : Addr} {odII anII : Option Addr} {slII : Array (Option Value)} {ocII kVII dcII pmII cdII ctII : Value} {fMI : Addr} {odMI anMI : Option Addr} {slMI : Array (Option Value)} {ocMI kVMI dcMI pmMI cdMI ctMI : Value} {fdis : Addr} {oddis andis : Option Addr} {sldis : Array (Option Value)} {ocdis kVdis dcdis pmdis cddis ctdis : Value} {fpool : Addr} {odpool anpool : Option Addr} {slpool : Array (Option Value)} {ocpool kVpool dcpool pmpool cdpool ctpool : Value} {ftake : Addr} {odtake antake : Option Addr} {sltake : Array (Option Value)} {octake kVtake dctake pmtake cdtake cttake : Value} {fbase : Addr} {odbase anbase : Option Addr} {slbase : Array (Option Value)} {ocbase kVbase dcbase pmbase cdbase ctbase : Value} {fname : Addr} {odname anname : Option Addr} {slname : Array (Option Value)} {ocname kVname dcname pmname cdname ctname : Value} {fist : Addr} {odist anist : Option Addr} {slist : Array (Option Value)} {ocist kVist dcist pmist cdist ctist : Value} {fmade : Addr} {odmade anmade : Option Addr} {slmade : Array (Option Value)} {ocmade kVmade dcmade pmmade cdmade ctmade : Value} {fset : Addr} {odset anset : Option Addr} {slset : Array (Option Value)} {ocset kVset dcset pmset cdset ctset : Value} {fgot : Addr} {odgot angot : Option Addr} {slgot : Array (Option Value)} {ocgot kVgot dcgot pmgot cdgot ctgot : Value} {fonce : Addr} {odonce anonce : Option Addr} {slonce : Array (Option Value)} {oconce kVonce dconce pmonce cdonce ctonce : Value} {fagr : Addr} {odagr anagr : Option Addr} {slagr : Array (Option Value)} {ocagr kVagr dcagr pmagr cdagr ctagr : Value} {flaw : Addr} {odlaw anlaw : Option Addr} {sllaw : Array (Option Value)} {oclaw kVlaw dclaw pmlaw cdlaw ctlaw : Value}
    (z0 : PySem.W.nsIn K mainGlobals "len" = some none)
    (z1 : PySem.W.nsIn K mainGlobals "int" = some none)
    (z2 : PySem.W.nsIn K mainGlobals "range" = some none)
    (z3 : PySem.W.nsIn K mainGlobals "tuple" = some none)
    (z4 : PySem.W.nsIn K mainGlobals "list" = some none)
    (z5 : PySem.W.nsIn K mainGlobals "isinstance" = some none)
    (z6 : PySem.W.nsIn K mainGlobals "iter" = some none)
    (aR : PySem.W.nsIn K mainGlobals "Repeated" = some (some (.ref ER)))
    (xR : K.lookup ER = some (excClassObj nmR qR ER NR bsR bmR true snR subR abR colR ddR m0R m1R m2R m3R m5R "ValueError.__new__"))
    (rvR : HandSPX.refsVE bmR = true)
    (saR : PySem.W.findIn K (.ref ER) "__setattr__" = some (some (.builtin "object.__setattr__")))
    (gaR : PySem.W.findIn K (.ref ER) "__getattribute__" = some (some (.builtin "BaseException.__getattribute__")))
    (ggR : PySem.W.findIn K (.ref ER) "__getattr__" = some none)
    (n0R : PySem.W.findIn K (.ref ER) "name" = some none)
    (eR : PySem.W.subIn K (.ref ER) (.type "BaseException") = some true)
    (tR : PySem.W.typeIn K (.ref ER) = some (.type "type"))
    (kCR : PySem.W.keepIn K (.ref ER) = true)
    (hCR : PySem.W.hasDictIn K ER = true)
    (iCR : PySem.W.isClsIn K ER = true)
    (sCR : PySem.W.subIn K (.ref ER) (.ref ER) = some true)
    (aiR : PySem.W.findIn K (.ref ER) "__init__" = some (some (.ref fR)))
    (tiR : PySem.W.typeIn K (.ref fR) = some (.type "function"))
    (lR : K.lookup fR = some ⟨ocR, odR, .func (PySem.W.fnX "__init__" "Repeated.__init__" (defArgs sRepeatedInit) (defBody sRepeatedInit) (defScope sRepeatedInit) [("__class__", ccR)] .none kVR dcR pmR anR (.ref cdaR) ctR), slR⟩)
    (cR : PySem.W.codeIn K (.ref cdaR) "Repeated.__init__" = true)
    (lcR : K.lookup cdaR = some ⟨cclR, cddR, .fields vsR, ccsR⟩)
    (hvR : vsR[2]? = some (.str fileR tfR))
    (hfR : (P.main.file == fileR) = true)
    (ceR : K.lookup ccR = some ⟨clR, cldR, .cell (some (.ref ER)), cslR⟩)
    (cdR : PySem.W.clsIn K ER = some cdDR)
    (ovR : PySem.W.ks_superIn K ER ER "__init__" = some (some (.builtin "ValueError.__init__")))
    (svR : PySem.W.subIn K (.ref ER) (.type "ValueError") = some true)
    (mrR : PySem.W.mroIn K ER (.ref ER) = some true)
    (z7 : PySem.W.nsIn K mainGlobals "super" = some none)
    (top : (P.main.scope.names.lookup ("super" : Str)).isSome = false)
    (any : PySem.W.nsIn K cStatics "thirdparty.any" = some none)
    (aU : PySem.W.nsIn K mainGlobals "Unknown" = some (some (.ref EU)))
    (xU : K.lookup EU = some (excClassObj nmU qU EU NU bsU bmU true snU subU abU colU ddU m0U m1U m2U m3U m5U "ValueError.__new__"))
    (rvU : HandSPX.refsVE bmU = true)
    (saU : PySem.W.findIn K (.ref EU) "__setattr__" = some (some (.builtin "object.__setattr__")))
    (gaU : PySem.W.findIn K (.ref EU) "__getattribute__" = some (some (.builtin "BaseException.__getattribute__")))
    (ggU : PySem.W.findIn K (.ref EU) "__getattr__" = some none)
    (n0U : PySem.W.findIn K (.ref EU) "name" = some none)
    (eU : PySem.W.subIn K (.ref EU) (.type "BaseException") = some true)
    (tU : PySem.W.typeIn K (.ref EU) = some (.type "type"))
    (kCU : PySem.W.keepIn K (.ref EU) = true)
    (hCU : PySem.W.hasDictIn K EU = true)
    (iCU : PySem.W.isClsIn K EU = true)
    (sCU : PySem.W.subIn K (.ref EU) (.ref EU) = some true)
    (aiU : PySem.W.findIn K (.ref EU) "__init__" = some (some (.ref fU)))
    (tiU : PySem.W.typeIn K (.ref fU) = some (.type "function"))
    (lU : K.lookup fU = some ⟨ocU, odU, .func (PySem.W.fnX "__init__" "Unknown.__init__" (defArgs sUnknownInit) (defBody sUnknownInit) (defScope sUnknownInit) [("__class__", ccU)] .none kVU dcU pmU anU (.ref cdaU) ctU), slU⟩)
    (cU : PySem.W.codeIn K (.ref cdaU) "Unknown.__init__" = true)
    (lcU : K.lookup cdaU = some ⟨cclU, cddU, .fields vsU, ccsU⟩)
    (hvU : vsU[2]? = some (.str fileU tfU))
    (hfU : (P.main.file == fileU) = true)
    (ceU : K.lookup ccU = some ⟨clU, cldU, .cell (some (.ref EU)), cslU⟩)
    (cdU : PySem.W.clsIn K EU = some cdDU)
    (ovU : PySem.W.ks_superIn K EU EU "__init__" = some (some (.builtin "ValueError.__init__")))
    (svU : PySem.W.subIn K (.ref EU) (.type "ValueError") = some true)
    (mrU : PySem.W.mroIn K EU (.ref EU) = some true)
    (aCS : PySem.W.nsIn K mainGlobals "Steps" = some (some (.ref CS)))
    (pgCS : PySem.W.plainGet K CS Str.empty = true)
    (hdCS : PySem.W.hasDictIn K CS = true)
    (poCS : PySem.W.plainOver K CS = true)
    (saCS : PySem.W.findIn K (.ref CS) "__setattr__" = some (some (.builtin "object.__setattr__")))
    (mkCS : PySem.W.makesIn K CS = true)
    (kcCS : PySem.W.keepIn K (.ref CS) = true)
    (aCD : PySem.W.nsIn K mainGlobals "Doors" = some (some (.ref CD)))
    (pgCD : PySem.W.plainGet K CD Str.empty = true)
    (hdCD : PySem.W.hasDictIn K CD = true)
    (poCD : PySem.W.plainOver K CD = true)
    (saCD : PySem.W.findIn K (.ref CD) "__setattr__" = some (some (.builtin "object.__setattr__")))
    (mkCD : PySem.W.makesIn K CD = true)
    (kcCD : PySem.W.keepIn K (.ref CD) = true)
    (aCP : PySem.W.nsIn K mainGlobals "Part" = some (some (.ref CP)))
    (pgCP : PySem.W.plainGet K CP Str.empty = true)
    (hdCP : PySem.W.hasDictIn K CP = true)
    (poCP : PySem.W.plainOver K CP = true)
    (saCP : PySem.W.findIn K (.ref CP) "__setattr__" = some (some (.builtin "object.__setattr__")))
    (mkCP : PySem.W.makesIn K CP = true)
    (kcCP : PySem.W.keepIn K (.ref CP) = true)
    (aCI : PySem.W.nsIn K mainGlobals "Single" = some (some (.ref CI)))
    (pgCI : PySem.W.plainGet K CI Str.empty = true)
    (hdCI : PySem.W.hasDictIn K CI = true)
    (poCI : PySem.W.plainOver K CI = true)
    (saCI : PySem.W.findIn K (.ref CI) "__setattr__" = some (some (.builtin "object.__setattr__")))
    (mkCI : PySem.W.makesIn K CI = true)
    (kcCI : PySem.W.keepIn K (.ref CI) = true)
    (aCM : PySem.W.nsIn K mainGlobals "Many" = some (some (.ref CM)))
    (pgCM : PySem.W.plainGet K CM Str.empty = true)
    (hdCM : PySem.W.hasDictIn K CM = true)
    (poCM : PySem.W.plainOver K CM = true)
    (saCM : PySem.W.findIn K (.ref CM) "__setattr__" = some (some (.builtin "object.__setattr__")))
    (mkCM : PySem.W.makesIn K CM = true)
    (kcCM : PySem.W.keepIn K (.ref CM) = true)
    (lSI : K.lookup fSI = some ⟨ocSI, odSI, .func (PySem.W.fnOf "__init__" "Steps.__init__" (defArgs sStepsInit) (defBody sStepsInit) (defScope sStepsInit) .none kVSI dcSI pmSI anSI cdSI ctSI), slSI⟩)
    (cSI : PySem.W.codeIn K cdSI "Steps.__init__" = true)
    (kSI : PySem.W.keepIn K (.ref fSI) = true)
    (iSI : PySem.W.isFn K (.ref fSI) = true)
    (lDI : K.lookup fDI = some ⟨ocDI, odDI, .func (PySem.W.fnOf "__init__" "Doors.__init__" (defArgs sDoorsInit) (defBody sDoorsInit) (defScope sDoorsInit) .none kVDI dcDI pmDI anDI cdDI ctDI), slDI⟩)
    (cDI : PySem.W.codeIn K cdDI "Doors.__init__" = true)
    (kDI : PySem.W.keepIn K (.ref fDI) = true)
    (iDI : PySem.W.isFn K (.ref fDI) = true)
    (lDt : K.lookup fDt = some ⟨ocDt, odDt, .func (PySem.W.fnOf "__iter__" "Doors.__iter__" (defArgs sDoorsIter) (defBody sDoorsIter) (defScope sDoorsIter) .none kVDt dcDt pmDt anDt cdDt ctDt), slDt⟩)
    (cDt : PySem.W.codeIn K cdDt "Doors.__iter__" = true)
    (kDt : PySem.W.keepIn K (.ref fDt) = true)
    (iDt : PySem.W.isFn K (.ref fDt) = true)
    (lDg : K.lookup fDg = some ⟨ocDg, odDg, .func (PySem.W.fnOf "__getitem__" "Doors.__getitem__" (defArgs sDoorsGet) (defBody sDoorsGet) (defScope sDoorsGet) .none kVDg dcDg pmDg anDg cdDg ctDg), slDg⟩)
    (cDg : PySem.W.codeIn K cdDg "Doors.__getitem__" = true)
    (kDg : PySem.W.keepIn K (.ref fDg) = true)
    (iDg : PySem.W.isFn K (.ref fDg) = true)
    (lDp : K.lookup fDp = some ⟨ocDp, odDp, .func (PySem.W.fnOf "__setitem__" "Doors.__setitem__" (defArgs sDoorsPut) (defBody sDoorsPut) (defScope sDoorsPut) .none kVDp dcDp pmDp anDp cdDp ctDp), slDp⟩)
    (cDp : PySem.W.codeIn K cdDp "Doors.__setitem__" = true)
    (kDp : PySem.W.keepIn K (.ref fDp) = true)
    (iDp : PySem.W.isFn K (.ref fDp) = true)
    (lDn : K.lookup fDn = some ⟨ocDn, odDn, .func (PySem.W.fnOf "needs" "Doors.needs" (defArgs sDoorsNeeds) (defBody sDoorsNeeds) (defScope sDoorsNeeds) .none kVDn dcDn pmDn anDn cdDn ctDn), slDn⟩)
    (cDn : PySem.W.codeIn K cdDn "Doors.needs" = true)
    (kDn : PySem.W.keepIn K (.ref fDn) = true)
    (iDn : PySem.W.isFn K (.ref fDn) = true)
    (lDv : K.lookup fDv = some ⟨ocDv, odDv, .func (PySem.W.fnOf "gives" "Doors.gives" (defArgs sDoorsGives) (defBody sDoorsGives) (defScope sDoorsGives) .none kVDv dcDv pmDv anDv cdDv ctDv), slDv⟩)
    (cDv : PySem.W.codeIn K cdDv "Doors.gives" = true)
    (kDv : PySem.W.keepIn K (.ref fDv) = true)
    (iDv : PySem.W.isFn K (.ref fDv) = true)
    (lPI : K.lookup fPI = some ⟨ocPI, odPI, .func (PySem.W.fnOf "__init__" "Part.__init__" (defArgs sPartInit) (defBody sPartInit) (defScope sPartInit) .none kVPI dcPI pmPI anPI cdPI ctPI), slPI⟩)
    (cPI : PySem.W.codeIn K cdPI "Part.__init__" = true)
    (kPI : PySem.W.keepIn K (.ref fPI) = true)
    (iPI : PySem.W.isFn K (.ref fPI) = true)
    (lII : K.lookup fII = some ⟨ocII, odII, .func (PySem.W.fnOf "__init__" "Single.__init__" (defArgs sSingleInit) (defBody sSingleInit) (defScope sSingleInit) .none kVII dcII pmII anII cdII ctII), slII⟩)
    (cII : PySem.W.codeIn K cdII "Single.__init__" = true)
    (kII : PySem.W.keepIn K (.ref fII) = true)
    (iII : PySem.W.isFn K (.ref fII) = true)
    (lMI : K.lookup fMI = some ⟨ocMI, odMI, .func (PySem.W.fnOf "__init__" "Many.__init__" (defArgs sManyInit) (defBody sManyInit) (defScope sManyInit) .none kVMI dcMI pmMI anMI cdMI ctMI), slMI⟩)
    (cMI : PySem.W.codeIn K cdMI "Many.__init__" = true)
    (kMI : PySem.W.keepIn K (.ref fMI) = true)
    (iMI : PySem.W.isFn K (.ref fMI) = true)
    (figDg : PySem.W.fnIn K fDg = true)
    (figDp : PySem.W.fnIn K fDp = true)
    (ndCD : PySem.W.findIn K (.ref CD) "_doors" = some none)
    (nqCD : PySem.W.noSeq K CD = true)
    (m_CD_Dn : PySem.W.findIn K (.ref CD) "needs" = some (some (.ref fDn)))
    (m_CD_Dv : PySem.W.findIn K (.ref CD) "gives" = some (some (.ref fDv)))
    (g_CD : PySem.W.findIn K (.ref CD) "__getitem__" = some (some (.ref fDg)))
    (p_CD : PySem.W.findIn K (.ref CD) "__setitem__" = some (some (.ref fDp)))
    (t_CD : PySem.W.findIn K (.ref CD) "__iter__" = some (some (.ref fDt)))
    (inCD : PySem.W.findIn K (.ref CD) "__init__" = some (some (.ref fDI)))
    (ndCP : PySem.W.findIn K (.ref CP) "_doors" = some none)
    (nqCP : PySem.W.noSeq K CP = true)
    (m_CP_Dn : PySem.W.findIn K (.ref CP) "needs" = some (some (.ref fDn)))
    (m_CP_Dv : PySem.W.findIn K (.ref CP) "gives" = some (some (.ref fDv)))
    (g_CP : PySem.W.findIn K (.ref CP) "__getitem__" = some (some (.ref fDg)))
    (p_CP : PySem.W.findIn K (.ref CP) "__setitem__" = some (some (.ref fDp)))
    (t_CP : PySem.W.findIn K (.ref CP) "__iter__" = some (some (.ref fDt)))
    (inCP : PySem.W.findIn K (.ref CP) "__init__" = some (some (.ref fPI)))
    (ndCI : PySem.W.findIn K (.ref CI) "_doors" = some none)
    (nqCI : PySem.W.noSeq K CI = true)
    (m_CI_Dn : PySem.W.findIn K (.ref CI) "needs" = some (some (.ref fDn)))
    (m_CI_Dv : PySem.W.findIn K (.ref CI) "gives" = some (some (.ref fDv)))
    (g_CI : PySem.W.findIn K (.ref CI) "__getitem__" = some (some (.ref fDg)))
    (p_CI : PySem.W.findIn K (.ref CI) "__setitem__" = some (some (.ref fDp)))
    (t_CI : PySem.W.findIn K (.ref CI) "__iter__" = some (some (.ref fDt)))
    (inCI : PySem.W.findIn K (.ref CI) "__init__" = some (some (.ref fII)))
    (ndCM : PySem.W.findIn K (.ref CM) "_doors" = some none)
    (nqCM : PySem.W.noSeq K CM = true)
    (m_CM_Dn : PySem.W.findIn K (.ref CM) "needs" = some (some (.ref fDn)))
    (m_CM_Dv : PySem.W.findIn K (.ref CM) "gives" = some (some (.ref fDv)))
    (g_CM : PySem.W.findIn K (.ref CM) "__getitem__" = some (some (.ref fDg)))
    (p_CM : PySem.W.findIn K (.ref CM) "__setitem__" = some (some (.ref fDp)))
    (t_CM : PySem.W.findIn K (.ref CM) "__iter__" = some (some (.ref fDt)))
    (inCM : PySem.W.findIn K (.ref CM) "__init__" = some (some (.ref fMI)))
    (nsCP : PySem.W.findIn K (.ref CP) "_steps" = some none)
    (nnCP : PySem.W.findIn K (.ref CP) "name" = some none)
    (nsCI : PySem.W.findIn K (.ref CI) "_steps" = some none)
    (nnCI : PySem.W.findIn K (.ref CI) "name" = some none)
    (nsCM : PySem.W.findIn K (.ref CM) "_steps" = some none)
    (nnCM : PySem.W.findIn K (.ref CM) "name" = some none)
    (rdCS : PySem.W.readsIn K CS (.type "type") = true)
    (gtCS : PySem.W.specialIn K (.ref CS) "__getattribute__" = some (some (.builtin "type.__getattribute__")))
    (fcqS : PySem.W.findCls K (.ref CS) (.type "type") "__init__" = some (.val (.ref fSI)))
    (rdCD : PySem.W.readsIn K CD (.type "type") = true)
    (gtCD : PySem.W.specialIn K (.ref CD) "__getattribute__" = some (some (.builtin "type.__getattribute__")))
    (fcqD : PySem.W.findCls K (.ref CD) (.type "type") "__init__" = some (.val (.ref fDI)))
    (rdCP : PySem.W.readsIn K CP (.type "type") = true)
    (gtCP : PySem.W.specialIn K (.ref CP) "__getattribute__" = some (some (.builtin "type.__getattribute__")))
    (fcqP : PySem.W.findCls K (.ref CP) (.type "type") "__init__" = some (.val (.ref fPI)))
    (ldis : K.lookup fdis = some ⟨ocdis, oddis, .func (PySem.W.fnOf "distinct" "distinct" (defArgs sDistinct) (defBody sDistinct) (defScope sDistinct) .none kVdis dcdis pmdis andis cddis ctdis), sldis⟩)
    (cdis : PySem.W.codeIn K cddis "distinct" = true)
    (kdis : PySem.W.keepIn K (.ref fdis) = true)
    (adis : PySem.W.nsIn K mainGlobals "distinct" = some (some (.ref fdis)))
    (lpool : K.lookup fpool = some ⟨ocpool, odpool, .func (PySem.W.fnOf "_law_pool" "_law_pool" (defArgs sPool) (defBody sPool) (defScope sPool) .none kVpool dcpool pmpool anpool cdpool ctpool), slpool⟩)
    (cpool : PySem.W.codeIn K cdpool "_law_pool" = true)
    (kpool : PySem.W.keepIn K (.ref fpool) = true)
    (apool : PySem.W.nsIn K mainGlobals "_law_pool" = some (some (.ref fpool)))
    (ltake : K.lookup ftake = some ⟨octake, odtake, .func (PySem.W.fnOf "_law_take" "_law_take" (defArgs sTake) (defBody sTake) (defScope sTake) .none kVtake dctake pmtake antake cdtake cttake), sltake⟩)
    (ctake : PySem.W.codeIn K cdtake "_law_take" = true)
    (ktake : PySem.W.keepIn K (.ref ftake) = true)
    (atake : PySem.W.nsIn K mainGlobals "_law_take" = some (some (.ref ftake)))
    (lbase : K.lookup fbase = some ⟨ocbase, odbase, .func (PySem.W.fnOf "_law_base" "_law_base" (defArgs sBase) (defBody sBase) (defScope sBase) .none kVbase dcbase pmbase anbase cdbase ctbase), slbase⟩)
    (cbase : PySem.W.codeIn K cdbase "_law_base" = true)
    (kbase : PySem.W.keepIn K (.ref fbase) = true)
    (abase : PySem.W.nsIn K mainGlobals "_law_base" = some (some (.ref fbase)))
    (lname : K.lookup fname = some ⟨ocname, odname, .func (PySem.W.fnOf "_law_name" "_law_name" (defArgs sName) (defBody sName) (defScope sName) .none kVname dcname pmname anname cdname ctname), slname⟩)
    (cname : PySem.W.codeIn K cdname "_law_name" = true)
    (kname : PySem.W.keepIn K (.ref fname) = true)
    (aname : PySem.W.nsIn K mainGlobals "_law_name" = some (some (.ref fname)))
    (list : K.lookup fist = some ⟨ocist, odist, .func (PySem.W.fnOf "_law_is_tuple" "_law_is_tuple" (defArgs sIsTuple) (defBody sIsTuple) (defScope sIsTuple) .none kVist dcist pmist anist cdist ctist), slist⟩)
    (cist : PySem.W.codeIn K cdist "_law_is_tuple" = true)
    (kist : PySem.W.keepIn K (.ref fist) = true)
    (aist : PySem.W.nsIn K mainGlobals "_law_is_tuple" = some (some (.ref fist)))
    (lmade : K.lookup fmade = some ⟨ocmade, odmade, .func (PySem.W.fnOf "_law_made" "_law_made" (defArgs sMade) (defBody sMade) (defScope sMade) .none kVmade dcmade pmmade anmade cdmade ctmade), slmade⟩)
    (cmade : PySem.W.codeIn K cdmade "_law_made" = true)
    (kmade : PySem.W.keepIn K (.ref fmade) = true)
    (amade : PySem.W.nsIn K mainGlobals "_law_made" = some (some (.ref fmade)))
    (lset : K.lookup fset = some ⟨ocset, odset, .func (PySem.W.fnOf "_law_set" "_law_set" (defArgs sSet) (defBody sSet) (defScope sSet) .none kVset dcset pmset anset cdset ctset), slset⟩)
    (cset : PySem.W.codeIn K cdset "_law_set" = true)
    (kset : PySem.W.keepIn K (.ref fset) = true)
    (aset : PySem.W.nsIn K mainGlobals "_law_set" = some (some (.ref fset)))
    (lgot : K.lookup fgot = some ⟨ocgot, odgot, .func (PySem.W.fnOf "_law_got" "_law_got" (defArgs sGot) (defBody sGot) (defScope sGot) .none kVgot dcgot pmgot angot cdgot ctgot), slgot⟩)
    (cgot : PySem.W.codeIn K cdgot "_law_got" = true)
    (kgot : PySem.W.keepIn K (.ref fgot) = true)
    (agot : PySem.W.nsIn K mainGlobals "_law_got" = some (some (.ref fgot)))
    (lonce : K.lookup fonce = some ⟨oconce, odonce, .func (PySem.W.fnOf "_law_once" "_law_once" (defArgs sOnce) (defBody sOnce) (defScope sOnce) .none kVonce dconce pmonce anonce cdonce ctonce), slonce⟩)
    (conce : PySem.W.codeIn K cdonce "_law_once" = true)
    (konce : PySem.W.keepIn K (.ref fonce) = true)
    (aonce : PySem.W.nsIn K mainGlobals "_law_once" = some (some (.ref fonce)))
    (lagr : K.lookup fagr = some ⟨ocagr, odagr, .func (PySem.W.fnOf "_law_agrees" "_law_agrees" (defArgs sAgrees) (defBody sAgrees) (defScope sAgrees) .none kVagr dcagr pmagr anagr cdagr ctagr), slagr⟩)
    (cagr : PySem.W.codeIn K cdagr "_law_agrees" = true)
    (kagr : PySem.W.keepIn K (.ref fagr) = true)
    (aagr : PySem.W.nsIn K mainGlobals "_law_agrees" = some (some (.ref fagr)))
    (llaw : K.lookup flaw = some ⟨oclaw, odlaw, .func (PySem.W.fnOf "law" "law" (defArgs sLaw) (defBody sLaw) (defScope sLaw) .none kVlaw dclaw pmlaw anlaw cdlaw ctlaw), sllaw⟩)
    (claw : PySem.W.codeIn K cdlaw "law" = true)
    (klaw : PySem.W.keepIn K (.ref flaw) = true)
    (alaw : PySem.W.nsIn K mainGlobals "law" = some (some (.ref flaw))) :
    ∃ fd : FuncData, (∀ (s : Shared) (v : Value), BindsTo s fd ⟨[v], []⟩ [("_law_script", v)]) ∧ ∀ base : Heap, K.In base → base.Ns mainGlobals mg → FnOk P w K mg base CX0 8 fa fd ["_law_script"] (spLaw K) := by
  have e := hfa.symm.trans (PySem.W.mg_of X G alaw)
  cases e
  have oR : OexC K ER := ⟨⟨_, _, _, _, _, _, _, _, _, _, _, _, _, _, _, xR, rvR⟩, saR, eR, tR, kCR⟩
  have FR : SupFn P K mg "__init__" "Repeated.__init__" sRepeatedInit fR ER ccR _ := ⟨⟨_, _, _, _, _, _, _, _, _, _, _, _, _, _, _, rfl, lR, cR, lcR, hvR, hfR⟩, ⟨_, _, _, ceR⟩, ⟨_, cdR⟩, (PySem.W.mg_none_of X G z7), top, any⟩
  have sR : SupC K ER ER := ⟨oR, ovR, svR, mrR⟩
  have bR : ∀ K : PySem.W.Frag, Binds K (PySem.W.fnX "__init__" "Repeated.__init__" (defArgs sRepeatedInit) (defBody sRepeatedInit) (defScope sRepeatedInit) [("__class__", ccR)] .none kVR dcR pmR anR (.ref cdaR) ctR) ["self", "name"] [] := fun _ s us _ hl => match us, hl with | [_, _], _ => .of_eq rfl
  have OR : ∀ base : Heap, ErrOk P w K mg base "Repeated" ER 1 okRepeated fsRepeated := fun base => ⟨(PySem.W.mg_of X G aR), oR, ⟨_, _, _, aiR, tiR, ok_RepeatedInit FR sR n0R, bR K⟩⟩
  have TR : CatchC K ER := ⟨⟨gaR, ggR, eR, hCR⟩, exm_is eR iCR tR sCR⟩
  have oU : OexC K EU := ⟨⟨_, _, _, _, _, _, _, _, _, _, _, _, _, _, _, xU, rvU⟩, saU, eU, tU, kCU⟩
  have FU : SupFn P K mg "__init__" "Unknown.__init__" sUnknownInit fU EU ccU _ := ⟨⟨_, _, _, _, _, _, _, _, _, _, _, _, _, _, _, rfl, lU, cU, lcU, hvU, hfU⟩, ⟨_, _, _, ceU⟩, ⟨_, cdU⟩, (PySem.W.mg_none_of X G z7), top, any⟩
  have sU : SupC K EU EU := ⟨oU, ovU, svU, mrU⟩
  have bU : ∀ K : PySem.W.Frag, Binds K (PySem.W.fnX "__init__" "Unknown.__init__" (defArgs sUnknownInit) (defBody sUnknownInit) (defScope sUnknownInit) [("__class__", ccU)] .none kVU dcU pmU anU (.ref cdaU) ctU) ["self", "name"] [] := fun _ s us _ hl => match us, hl with | [_, _], _ => .of_eq rfl
  have OU : ∀ base : Heap, ErrOk P w K mg base "Unknown" EU 1 okUnknown fsUnknown := fun base => ⟨(PySem.W.mg_of X G aU), oU, ⟨_, _, _, aiU, tiU, ok_UnknownInit FU sU n0U, bU K⟩⟩
  have TU : CatchC K EU := ⟨⟨gaU, ggU, eU, hCU⟩, exm_is eU iCU tU sCU⟩
  have clCS : Cls K CS := ⟨pgCS, hdCS, poCS, saCS⟩
  have gCS : mg "Steps" = some (.ref CS) := (PySem.W.mg_of X G aCS)
  have clCD : Cls K CD := ⟨pgCD, hdCD, poCD, saCD⟩
  have gCD : mg "Doors" = some (.ref CD) := (PySem.W.mg_of X G aCD)
  have clCP : Cls K CP := ⟨pgCP, hdCP, poCP, saCP⟩
  have gCP : mg "Part" = some (.ref CP) := (PySem.W.mg_of X G aCP)
  have clCI : Cls K CI := ⟨pgCI, hdCI, poCI, saCI⟩
  have gCI : mg "Single" = some (.ref CI) := (PySem.W.mg_of X G aCI)
  have clCM : Cls K CM := ⟨pgCM, hdCM, poCM, saCM⟩
  have gCM : mg "Many" = some (.ref CM) := (PySem.W.mg_of X G aCM)
  have FSI := fun_mk (st := sStepsInit) lSI cSI kSI
  have bSI := FSI.binds (ps := ["self", "standings"]) fun _ _ _ _ _ _ us hl => match us, hl with | [_, _], _ => rfl
  have FDI := fun_mk (st := sDoorsInit) lDI cDI kDI
  have bDI := FDI.binds (ps := ["self", "standings"]) fun _ _ _ _ _ _ us hl => match us, hl with | [_, _], _ => rfl
  have FDt := fun_mk (st := sDoorsIter) lDt cDt kDt
  have bDt := FDt.binds (ps := ["self"]) fun _ _ _ _ _ _ us hl => match us, hl with | [_], _ => rfl
  have FDg := fun_mk (st := sDoorsGet) lDg cDg kDg
  have bDg := FDg.binds (ps := ["self", "at"]) fun _ _ _ _ _ _ us hl => match us, hl with | [_, _], _ => rfl
  have FDp := fun_mk (st := sDoorsPut) lDp cDp kDp
  have bDp := FDp.binds (ps := ["self", "at", "worth"]) fun _ _ _ _ _ _ us hl => match us, hl with | [_, _, _], _ => rfl
  have FDn := fun_mk (st := sDoorsNeeds) lDn cDn kDn
  have bDn := FDn.binds (ps := ["self", "standing"]) fun _ _ _ _ _ _ us hl => match us, hl with | [_, _], _ => rfl
  have FDv := fun_mk (st := sDoorsGives) lDv cDv kDv
  have bDv := FDv.binds (ps := ["self", "standing"]) fun _ _ _ _ _ _ us hl => match us, hl with | [_, _], _ => rfl
  have FPI := fun_mk (st := sPartInit) lPI cPI kPI
  have bPI := FPI.binds (ps := ["self", "name", "standings"]) fun _ _ _ _ _ _ us hl => match us, hl with | [_, _, _], _ => rfl
  have FII := fun_mk (st := sSingleInit) lII cII kII
  have bII := FII.binds (ps := ["self", "name", "standings"]) fun _ _ _ _ _ _ us hl => match us, hl with | [_, _, _], _ => rfl
  have FMI := fun_mk (st := sManyInit) lMI cMI kMI
  have bMI := FMI.binds (ps := ["self", "name", "standings"]) fun _ _ _ _ _ _ us hl => match us, hl with | [_, _, _], _ => rfl
  have ddCD : DoorC K CD fDn fDv fDg fDp fDt := ⟨clCD, ndCD, ⟨m_CD_Dn, iDn, kDn⟩, ⟨m_CD_Dv, iDv, kDv⟩, ⟨g_CD, iDg, figDg, nqCD⟩, ⟨p_CD, iDp, figDp, nqCD⟩, t_CD, iDt⟩
  have mmCD : MadeC K mg "Doors" CD fDI := ⟨gCD, mkCD, inCD, iDI, kcCD⟩
  have ddCP : DoorC K CP fDn fDv fDg fDp fDt := ⟨clCP, ndCP, ⟨m_CP_Dn, iDn, kDn⟩, ⟨m_CP_Dv, iDv, kDv⟩, ⟨g_CP, iDg, figDg, nqCP⟩, ⟨p_CP, iDp, figDp, nqCP⟩, t_CP, iDt⟩
  have mmCP : MadeC K mg "Part" CP fPI := ⟨gCP, mkCP, inCP, iPI, kcCP⟩
  have ddCI : DoorC K CI fDn fDv fDg fDp fDt := ⟨clCI, ndCI, ⟨m_CI_Dn, iDn, kDn⟩, ⟨m_CI_Dv, iDv, kDv⟩, ⟨g_CI, iDg, figDg, nqCI⟩, ⟨p_CI, iDp, figDp, nqCI⟩, t_CI, iDt⟩
  have mmCI : MadeC K mg "Single" CI fII := ⟨gCI, mkCI, inCI, iII, kcCI⟩
  have ddCM : DoorC K CM fDn fDv fDg fDp fDt := ⟨clCM, ndCM, ⟨m_CM_Dn, iDn, kDn⟩, ⟨m_CM_Dv, iDv, kDv⟩, ⟨g_CM, iDg, figDg, nqCM⟩, ⟨p_CM, iDp, figDp, nqCM⟩, t_CM, iDt⟩
  have mmCM : MadeC K mg "Many" CM fMI := ⟨gCM, mkCM, inCM, iMI, kcCM⟩
  have ppCP : PartC K CP := ⟨clCP, nsCP, ndCP, nnCP⟩
  have ppCI : PartC K CI := ⟨clCI, nsCI, ndCI, nnCI⟩
  have ppCM : PartC K CM := ⟨clCM, nsCM, ndCM, nnCM⟩
  have qS : ClsFn K mg "Steps" CS "__init__" fSI := ⟨gCS, _, ⟨rdCS, gtCS⟩, fcqS⟩
  have qD : ClsFn K mg "Doors" CD "__init__" fDI := ⟨gCD, _, ⟨rdCD, gtCD⟩, fcqD⟩
  have qP : ClsFn K mg "Part" CP "__init__" fPI := ⟨gCP, _, ⟨rdCP, gtCP⟩, fcqP⟩
  have Fdis := fun_mk (st := sDistinct) ldis cdis kdis
  have bdis := Fdis.binds (ps := ["names"]) fun _ _ _ _ _ _ us hl => match us, hl with | [_], _ => rfl
  have Qdis : Fn K mg "distinct" sDistinct ["names"] fdis _ := ⟨Fdis, (PySem.W.mg_of X G adis), bdis⟩
  have Fpool := fun_mk (st := sPool) lpool cpool kpool
  have bpool := Fpool.binds (ps := ["_law_script"]) fun _ _ _ _ _ _ us hl => match us, hl with | [_], _ => rfl
  have Qpool : Fn K mg "_law_pool" sPool ["_law_script"] fpool _ := ⟨Fpool, (PySem.W.mg_of X G apool), bpool⟩
  have Ftake := fun_mk (st := sTake) ltake ctake ktake
  have btake := Ftake.binds (ps := ["_law_pool_here", "_law_size"]) fun _ _ _ _ _ _ us hl => match us, hl with | [_, _], _ => rfl
  have Qtake : Fn K mg "_law_take" sTake ["_law_pool_here", "_law_size"] ftake _ := ⟨Ftake, (PySem.W.mg_of X G atake), btake⟩
  have Fbase := fun_mk (st := sBase) lbase cbase kbase
  have bbase := Fbase.binds (ps := ["_law_pool_here"]) fun _ _ _ _ _ _ us hl => match us, hl with | [_], _ => rfl
  have Qbase : Fn K mg "_law_base" sBase ["_law_pool_here"] fbase _ := ⟨Fbase, (PySem.W.mg_of X G abase), bbase⟩
  have Fname := fun_mk (st := sName) lname cname kname
  have bname := Fname.binds (ps := ["_law_pool_here", "_law_base_here", "_law_k"]) fun _ _ _ _ _ _ us hl => match us, hl with | [_, _, _], _ => rfl
  have Qname : Fn K mg "_law_name" sName ["_law_pool_here", "_law_base_here", "_law_k"] fname _ := ⟨Fname, (PySem.W.mg_of X G aname), bname⟩
  have Fist := fun_mk (st := sIsTuple) list cist kist
  have bist := Fist.binds (ps := ["_law_actual", "_law_expected"]) fun _ _ _ _ _ _ us hl => match us, hl with | [_, _], _ => rfl
  have Qist : Fn K mg "_law_is_tuple" sIsTuple ["_law_actual", "_law_expected"] fist _ := ⟨Fist, (PySem.W.mg_of X G aist), bist⟩
  have Fmade := fun_mk (st := sMade) lmade cmade kmade
  have bmade := Fmade.binds (ps := ["_law_k", "_law_name_here", "_law_standings"]) fun _ _ _ _ _ _ us hl => match us, hl with | [_, _, _], _ => rfl
  have Qmade : Fn K mg "_law_made" sMade ["_law_k", "_law_name_here", "_law_standings"] fmade _ := ⟨Fmade, (PySem.W.mg_of X G amade), bmade⟩
  have Fset := fun_mk (st := sSet) lset cset kset
  have bset := Fset.binds (ps := ["_law_part", "_law_standing", "_law_needs", "_law_gives"]) fun _ _ _ _ _ _ us hl => match us, hl with | [_, _, _, _], _ => rfl
  have Qset : Fn K mg "_law_set" sSet ["_law_part", "_law_standing", "_law_needs", "_law_gives"] fset _ := ⟨Fset, (PySem.W.mg_of X G aset), bset⟩
  have Fgot := fun_mk (st := sGot) lgot cgot kgot
  have bgot := Fgot.binds (ps := ["_law_part", "_law_standing", "_law_k"]) fun _ _ _ _ _ _ us hl => match us, hl with | [_, _, _], _ => rfl
  have Qgot : Fn K mg "_law_got" sGot ["_law_part", "_law_standing", "_law_k"] fgot _ := ⟨Fgot, (PySem.W.mg_of X G agot), bgot⟩
  have Fonce := fun_mk (st := sOnce) lonce conce konce
  have bonce := Fonce.binds (ps := ["_law_rows"]) fun _ _ _ _ _ _ us hl => match us, hl with | [_], _ => rfl
  have Qonce : Fn K mg "_law_once" sOnce ["_law_rows"] fonce _ := ⟨Fonce, (PySem.W.mg_of X G aonce), bonce⟩
  have Fagr := fun_mk (st := sAgrees) lagr cagr kagr
  have bagr := Fagr.binds (ps := ["_law_part", "_law_standings", "_law_doors", "_law_strange"]) fun _ _ _ _ _ _ us hl => match us, hl with | [_, _, _, _], _ => rfl
  have Qagr : Fn K mg "_law_agrees" sAgrees ["_law_part", "_law_standings", "_law_doors", "_law_strange"] fagr _ := ⟨Fagr, (PySem.W.mg_of X G aagr), bagr⟩
  have Flaw := fun_mk (st := sLaw) llaw claw klaw
  have blaw := Flaw.binds (ps := ["_law_script"]) fun _ _ _ _ _ _ us hl => match us, hl with | [_], _ => rfl
  exact ⟨PySem.W.fnOf "law" "law" (defArgs sLaw) (defBody sLaw) (defScope sLaw) .none kVlaw dclaw pmlaw anlaw cdlaw ctlaw, fun s v => .of_eq rfl, fun base _ _ => by
    have GP := ok_partInit (P := P) (w := w) (base := base) FPI (OR base) FSI bSI qS FDI bDI qD
    have GI := ok_singleInit (P := P) (w := w) (base := base) FII GP kPI bPI qP
    have GMa := ok_manyInit (P := P) (w := w) (base := base) FMI GP kPI bPI qP
    have GM := ok_madeD (P := P) (w := w) (base := base) Fmade mmCD (ok_doorsInit FDI) bDI ddCD mmCP GP bPI ddCP ppCP mmCI GI bII ddCI ppCI mmCM GMa bMI ddCM ppCM
    have GX := ok_distinct (P := P) (w := w) (base := base) Fdis (PySem.W.mg_none_of X G z3)
    have Gget := ok_dGet (P := P) (w := w) (base := base) FDg (OU base)
    have Gput := ok_dPut (P := P) (w := w) (base := base) FDp (OU base) GX Qdis.g kdis bdis
    have Gn := ok_dNeeds (P := P) (w := w) (base := base) (fN := fDn) (fG := fDv) (fI := fDg) (fP := fDp) (fT := fDt) FDn Gget bDg
    have Gg := ok_dGives (P := P) (w := w) (base := base) (fN := fDn) (fG := fDv) (fI := fDg) (fP := fDp) (fT := fDt) FDv Gget bDg
    have GS := ok_dset (P := P) (w := w) (base := base) (fN := fDn) (fG := fDv) (fI := fDg) (fP := fDp) (fT := fDt) Fset Gput bDp (OU base).g TU n0U
    have GW := ok_got (P := P) (w := w) (base := base) Fgot Gget bDg Gn bDn Gg bDv (OU base).g TU n0U
    have GA := ok_dAgrees (P := P) (w := w) (base := base) Fagr ⟨(PySem.W.mg_none_of X G z0), (PySem.W.mg_none_of X G z1), (PySem.W.mg_none_of X G z2)⟩ (PySem.W.mg_none_of X G z5) (PySem.W.mg_none_of X G z3) (ok_dIter FDt (PySem.W.mg_none_of X G z6)) bDt GW Qgot (ok_isTup Fist (PySem.W.mg_none_of X G z5) (PySem.W.mg_none_of X G z3)) Qist
    exact ok_law Flaw ⟨(PySem.W.mg_none_of X G z0), (PySem.W.mg_none_of X G z1), (PySem.W.mg_none_of X G z2)⟩ (PySem.W.mg_none_of X G z4) (PySem.W.mg_none_of X G z3) Qpool Qtake Qbase Qname Qmade Qset Qagr Qonce GM GS GA⟩
theorem walk {l : PySem.W.OpenLaw} {q : Program} {loose : List Str} {XP : (Str → Option Value) → Heap → Prop} {YP : World → Heap → Prop} {d : DefRec} {K : Params → PySem.W.Frag} (hn : l.most = some 63) (hdf : d.params.defaults = [])
    (hY : ∀ (w : World) (h : Heap), YP w h → (K w.params).In h)
    (F : ∀ (w : World) (mg : Str → Option Value) (fa : Addr) (h : Heap), (K w.params).In h → h.Ns mainGlobals mg → mg d.name = some (.ref fa) →
      ∃ fd : FuncData, (∀ (s : Shared) (u : Value), BindsTo s fd ⟨[u], []⟩ [("_law_script", u)]) ∧ ∀ base : Heap, (K w.params).In base → base.Ns mainGlobals mg → FnOk l.prog w (K w.params) mg base CX0 8 fa fd ["_law_script"] (spLaw (K w.params))) :
    PySem.W.WalkO q loose XP YP l.row.toRowW d [] (fun f vs => PySem.call f vs) :=
  L2.walk_of (n := 63) (k := 8) (x := "_law_script") (CX := fun _ => CX0) (sp := fun w => spLaw (K w.params)) hn (by decide) hdf ⟨rfl, by decide, by decide⟩ hY F (fun _ _ a ns hl _ hS => ⟨a, ns, rfl, hS, hl, fun _ => rfl⟩) fun _ _ _ _ _ z => z
end Yd
--END
open PySem PySem.W PyProof.Rows
set_option maxRecDepth 100000 in
set_option maxHeartbeats 0 in
theorem PySem.Challenge.cw_soundyard_k07_doors_of_a_kind_holds : PySem.Challenge.rw_soundyard_k07_doors_of_a_kind.Holds := by
  w_on; o_law; k_head; (case hw => w_witness2)
  k_fill
  refine Yd.walk (l := PySem.Challenge.rw_soundyard_k07_doors_of_a_kind) rfl rfl (fun w h Y => PySem.W.kIn_of Y) ?F
  case F =>
    intro w mg fa h KX G hmg
    refine' Yd.all_mk KX G hmg ?z0 ?z1 ?z2 ?z3 ?z4 ?z5 ?z6 ?aR ?xR ?rvR ?saR ?gaR ?ggR ?n0R ?eR ?tR ?kCR ?hCR ?iCR ?sCR ?aiR ?tiR ?lR ?cR ?lcR ?hvR ?hfR ?ceR ?cdR ?ovR ?svR ?mrR ?z7 ?top ?any ?aU ?xU ?rvU ?saU ?gaU ?ggU ?n0U ?eU ?tU ?kCU ?hCU ?iCU ?sCU ?aiU ?tiU ?lU ?cU ?lcU ?hvU ?hfU ?ceU ?cdU ?ovU ?svU ?mrU ?aCS ?pgCS ?hdCS ?poCS ?saCS ?mkCS ?kcCS ?aCD ?pgCD ?hdCD ?poCD ?saCD ?mkCD ?kcCD ?aCP ?pgCP ?hdCP ?poCP ?saCP ?mkCP ?kcCP ?aCI ?pgCI ?hdCI ?poCI ?saCI ?mkCI ?kcCI ?aCM ?pgCM ?hdCM ?poCM ?saCM ?mkCM ?kcCM ?lSI ?cSI ?kSI ?iSI ?lDI ?cDI ?kDI ?iDI ?lDt ?cDt ?kDt ?iDt ?lDg ?cDg ?kDg ?iDg ?lDp ?cDp ?kDp ?iDp ?lDn ?cDn ?kDn ?iDn ?lDv ?cDv ?kDv ?iDv ?lPI ?cPI ?kPI ?iPI ?lII ?cII ?kII ?iII ?lMI ?cMI ?kMI ?iMI ?figDg ?figDp ?ndCD ?nqCD ?m_CD_Dn ?m_CD_Dv ?g_CD ?p_CD ?t_CD ?inCD ?ndCP ?nqCP ?m_CP_Dn ?m_CP_Dv ?g_CP ?p_CP ?t_CP ?inCP ?ndCI ?nqCI ?m_CI_Dn ?m_CI_Dv ?g_CI ?p_CI ?t_CI ?inCI ?ndCM ?nqCM ?m_CM_Dn ?m_CM_Dv ?g_CM ?p_CM ?t_CM ?inCM ?nsCP ?nnCP ?nsCI ?nnCI ?nsCM ?nnCM ?rdCS ?gtCS ?fcqS ?rdCD ?gtCD ?fcqD ?rdCP ?gtCP ?fcqP ?ldis ?cdis ?kdis ?adis ?lpool ?cpool ?kpool ?apool ?ltake ?ctake ?ktake ?atake ?lbase ?cbase ?kbase ?abase ?lname ?cname ?kname ?aname ?list ?cist ?kist ?aist ?lmade ?cmade ?kmade ?amade ?lset ?cset ?kset ?aset ?lgot ?cgot ?kgot ?agot ?lonce ?conce ?konce ?aonce ?lagr ?cagr ?kagr ?aagr ?llaw ?claw ?klaw ?alaw
    (case z0 => k_is)
    (case z1 => k_is)
    (case z2 => k_is)
    (case z3 => k_is)
    (case z4 => k_is)
    (case z5 => k_is)
    (case z6 => k_is)
    (case aR => k_is)
    (case z7 => k_is)
    (case aU => k_is)
    (case aCS => k_is)
    (case aCD => k_is)
    (case aCP => k_is)
    (case aCI => k_is)
    (case aCM => k_is)
    (case adis => k_is)
    (case apool => k_is)
    (case atake => k_is)
    (case abase => k_is)
    (case aname => k_is)
    (case aist => k_is)
    (case amade => k_is)
    (case aset => k_is)
    (case agot => k_is)
    (case aonce => k_is)
    (case aagr => k_is)
    (case alaw => k_is)
    (case saR => k_is)
    (case gaR => k_is)
    (case ggR => k_is)
    (case n0R => k_is)
    (case aiR => k_is)
    (case saU => k_is)
    (case gaU => k_is)
    (case ggU => k_is)
    (case n0U => k_is)
    (case aiU => k_is)
    (case saCS => k_is)
    (case saCD => k_is)
    (case saCP => k_is)
    (case saCI => k_is)
    (case saCM => k_is)
    (case ndCD => k_is)
    (case m_CD_Dn => k_is)
    (case m_CD_Dv => k_is)
    (case g_CD => k_is)
    (case p_CD => k_is)
    (case t_CD => k_is)
    (case inCD => k_is)
    (case ndCP => k_is)
    (case m_CP_Dn => k_is)
    (case m_CP_Dv => k_is)
    (case g_CP => k_is)
    (case p_CP => k_is)
    (case t_CP => k_is)
    (case inCP => k_is)
    (case ndCI => k_is)
    (case m_CI_Dn => k_is)
    (case m_CI_Dv => k_is)
    (case g_CI => k_is)
    (case p_CI => k_is)
    (case t_CI => k_is)
    (case inCI => k_is)
    (case ndCM => k_is)
    (case m_CM_Dn => k_is)
    (case m_CM_Dv => k_is)
    (case g_CM => k_is)
    (case p_CM => k_is)
    (case t_CM => k_is)
    (case inCM => k_is)
    (case nsCP => k_is)
    (case nnCP => k_is)
    (case nsCI => k_is)
    (case nnCI => k_is)
    (case nsCM => k_is)
    (case nnCM => k_is)
    (case fcqS => k_is)
    (case fcqD => k_is)
    (case fcqP => k_is)
    (case xR => k_is)
    (case rvR => decide +kernel)
    (case eR => k_is)
    (case tR => k_is)
    (case kCR => k_is)
    (case hCR => k_is)
    (case iCR => k_is)
    (case sCR => first | rfl | k_is)
    (case tiR => k_is)
    (case lR => k_is)
    (case cR => k_is)
    (case lcR => k_is)
    (case hvR => exact rfl)
    (case hfR => first | exact rfl | decide +kernel)
    (case ceR => k_is)
    (case cdR => k_is)
    (case ovR => first | ks_is | k_is)
    (case svR => k_is)
    (case mrR => k_is)
    (case top => first | exact rfl | decide +kernel)
    (case any => k_is)
    (case xU => k_is)
    (case rvU => decide +kernel)
    (case eU => k_is)
    (case tU => k_is)
    (case kCU => k_is)
    (case hCU => k_is)
    (case iCU => k_is)
    (case sCU => first | rfl | k_is)
    (case tiU => k_is)
    (case lU => k_is)
    (case cU => k_is)
    (case lcU => k_is)
    (case hvU => exact rfl)
    (case hfU => first | exact rfl | decide +kernel)
    (case ceU => k_is)
    (case cdU => k_is)
    (case ovU => first | ks_is | k_is)
    (case svU => k_is)
    (case mrU => k_is)
    (case pgCS => k_is)
    (case hdCS => k_is)
    (case poCS => k_is)
    (case mkCS => k_is)
    (case kcCS => k_is)
    (case pgCD => k_is)
    (case hdCD => k_is)
    (case poCD => k_is)
    (case mkCD => k_is)
    (case kcCD => k_is)
    (case pgCP => k_is)
    (case hdCP => k_is)
    (case poCP => k_is)
    (case mkCP => k_is)
    (case kcCP => k_is)
    (case pgCI => k_is)
    (case hdCI => k_is)
    (case poCI => k_is)
    (case mkCI => k_is)
    (case kcCI => k_is)
    (case pgCM => k_is)
    (case hdCM => k_is)
    (case poCM => k_is)
    (case mkCM => k_is)
    (case kcCM => k_is)
    (case lSI => k_is)
    (case cSI => k_is)
    (case kSI => k_is)
    (case iSI => k_is)
    (case lDI => k_is)
    (case cDI => k_is)
    (case kDI => k_is)
    (case iDI => k_is)
    (case lDt => k_is)
    (case cDt => k_is)
    (case kDt => k_is)
    (case iDt => k_is)
    (case lDg => k_is)
    (case cDg => k_is)
    (case kDg => k_is)
    (case iDg => k_is)
    (case lDp => k_is)
    (case cDp => k_is)
    (case kDp => k_is)
    (case iDp => k_is)
    (case lDn => k_is)
    (case cDn => k_is)
    (case kDn => k_is)
    (case iDn => k_is)
    (case lDv => k_is)
    (case cDv => k_is)
    (case kDv => k_is)
    (case iDv => k_is)
    (case lPI => k_is)
    (case cPI => k_is)
    (case kPI => k_is)
    (case iPI => k_is)
    (case lII => k_is)
    (case cII => k_is)
    (case kII => k_is)
    (case iII => k_is)
    (case lMI => k_is)
    (case cMI => k_is)
    (case kMI => k_is)
    (case iMI => k_is)
    (case figDg => first | k_is | rfl)
    (case figDp => first | k_is | rfl)
    (case nqCD => first | k_is | rfl)
    (case nqCP => first | k_is | rfl)
    (case nqCI => first | k_is | rfl)
    (case nqCM => first | k_is | rfl)
    (case rdCS => k_is)
    (case gtCS => k_is)
    (case rdCD => k_is)
    (case gtCD => k_is)
    (case rdCP => k_is)
    (case gtCP => k_is)
    (case ldis => k_is)
    (case cdis => k_is)
    (case kdis => k_is)
    (case lpool => k_is)
    (case cpool => k_is)
    (case kpool => k_is)
    (case ltake => k_is)
    (case ctake => k_is)
    (case ktake => k_is)
    (case lbase => k_is)
    (case cbase => k_is)
    (case kbase => k_is)
    (case lname => k_is)
    (case cname => k_is)
    (case kname => k_is)
    (case list => k_is)
    (case cist => k_is)
    (case kist => k_is)
    (case lmade => k_is)
    (case cmade => k_is)
    (case kmade => k_is)
    (case lset => k_is)
    (case cset => k_is)
    (case kset => k_is)
    (case lgot => k_is)
    (case cgot => k_is)
    (case kgot => k_is)
    (case lonce => k_is)
    (case conce => k_is)
    (case konce => k_is)
    (case lagr => k_is)
    (case cagr => k_is)
    (case kagr => k_is)
    (case llaw => k_is)
    (case claw => k_is)
    (case klaw => k_is)
