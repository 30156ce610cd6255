import PyProof.Rows.All
import Wide.All
import OpenK.AllK
import Wide.FinOn
import HandS.ForMost
import HandS.Wide
import KE.KExcSuper
import HandS.ForSpec
import HandS.ExcInit
import HandS.ExcField
import HandS.TryMany
import HandS.FStr
import HandS.DictComp
import HandS.Conv
import HandS.ClsMeth
import HandS.Nested
import KE.Datum
import HandS.IsInst
import HandS.Codes
import HandS.IterVal
import KE.KOwnIter
import KE.KOpsOwn
import OpenK.KMeth
import OpenK.KOps
import HandS.OwnEq
import HandS.Star
import HandS.TupLen
import KE.KEqDict
import HandS.Defaults
import KE.KDictWalk
import HandS.Property
import HandS.Flow
import HandS.TupAny
import HandS.Deep
import KE.DatumIndex
import PySem.Challenge.RW_soundyard_k04_lots_in_place
set_option Elab.async false
set_option linter.all false
set_option maxRecDepth 100000
set_option maxHeartbeats 4000000
namespace Yd
open PySem L2
/-! ### the text by places -/
def topS (i : Nat) : Stmt := PySem.Challenge.pw_soundyard_k04_lots_in_place.main.body.getD i (.Pass ⟨0, 0, 0, 0⟩)
abbrev sBadCountInit : Stmt := inClass (topS 2) 0
abbrev sLackingInit : Stmt := inClass (topS 3) 0
abbrev sAddedUp : Stmt := topS 5
abbrev sHoldInit : Stmt := inClass (topS 6) 0
abbrev sHoldIter : Stmt := inClass (topS 6) 1
abbrev sHoldLen : Stmt := inClass (topS 6) 2
abbrev sHoldIn : Stmt := inClass (topS 6) 3
abbrev sHoldLe : Stmt := inClass (topS 6) 4
abbrev sHoldEq : Stmt := inClass (topS 6) 5
abbrev sHoldOr : Stmt := inClass (topS 6) 6
abbrev sHoldAnd : Stmt := inClass (topS 6) 7
abbrev sHoldSub : Stmt := inClass (topS 6) 8
abbrev sLotInit : Stmt := inClass (topS 7) 0
abbrev sLotOne : Stmt := inClass (topS 7) 1
abbrev sLotIter : Stmt := inClass (topS 7) 2
abbrev sLotLen : Stmt := inClass (topS 7) 3
abbrev sLotIn : Stmt := inClass (topS 7) 4
abbrev sLotGet : Stmt := inClass (topS 7) 5
abbrev sLotTotal : Stmt := inClass (topS 7) 6
abbrev sLotSpots : Stmt := inClass (topS 7) 7
abbrev sLotLe : Stmt := inClass (topS 7) 8
abbrev sLotEq : Stmt := inClass (topS 7) 9
abbrev sLotAdd : Stmt := inClass (topS 7) 10
abbrev sLotSub : Stmt := inClass (topS 7) 11
abbrev sLotMul : Stmt := inClass (topS 7) 12
abbrev sLotRmul : Stmt := inClass (topS 7) 13
abbrev sLotIadd : Stmt := inClass (topS 7) 14
abbrev sLotIsub : Stmt := inClass (topS 7) 15
abbrev sPool : Stmt := topS 9
abbrev sTake : Stmt := topS 10
abbrev sBase : Stmt := topS 11
abbrev sName : Stmt := topS 12
abbrev sIsInt : Stmt := topS 13
abbrev sMerged : Stmt := topS 14
abbrev sIsLot : Stmt := topS 15
abbrev sCount : Stmt := topS 16
abbrev sDrawnRows : Stmt := topS 17
abbrev sLess : Stmt := topS 18
abbrev sSecond : Stmt := topS 19
abbrev sCut : Stmt := topS 20
abbrev sRaised : Stmt := topS 21
abbrev sLaw : Stmt := topS 22
end Yd
namespace Yd
open PySem L2
/-! ### tests whose answer is known -/
theorem yes {b : Bool} {A B : Prop} (e : b = true) (h : A) : if b = true then A else B := by subst e; exact (if_pos rfl).mpr h
theorem no {b : Bool} {A B : Prop} (e : b = false) (h : B) : if b = true then A else B := by subst e; exact (if_neg Bool.false_ne_true).mpr h
/-! ### the drawing of a script: the pool, a draw, the base of the names, a name -/
/-- what holds of the list of the pool at p (its cells, if it has some, at c) -/
def PoolL (H : Hp) (p c : Addr) (xs : List V) : Prop :=
  (c = p ∧ ∃ n : Int, xs = [.int n]) ∨ ∃ (x i : Int) (cs : List Int), xs = [.int x, .int i, .ref c] ∧ c ≠ p ∧ H c = some (.lst (cs.map V.int)) ∧ 0 < cs.length ∧ cs.length ≤ 63 ∧ (∀ z ∈ cs, 0 ≤ z ∧ z < 65537) ∧ 0 ≤ x ∧ x < 65537
def Pool (H : Hp) (p c : Addr) : Prop := ∃ xs, H p = some (.lst xs) ∧ PoolL H p c xs
theorem Pool.two {H : Hp} {p c : Addr} (h : Pool H p c) : (∃ o, H p = some o) ∧ ∃ o, H c = some o := by
  obtain ⟨xs, e, q⟩ := h
  refine ⟨⟨_, e⟩, ?_⟩
  rcases q with ⟨rfl, _⟩ | ⟨x, i, cs, _, _, e3, _⟩
  · exact ⟨_, e⟩
  · exact ⟨_, e3⟩
theorem Pool.ne {H : Hp} {p c q : Addr} (h : Pool H p c) (n : H q = none) : q ≠ p ∧ q ≠ c := by
  obtain ⟨⟨o, e⟩, u, e'⟩ := h.two
  exact ⟨(ne_of_none e n).symm, (ne_of_none e' n).symm⟩
theorem Pool.keep {H H' : Hp} {p c : Addr} (h : Pool H p c) (hp : ∀ o, H p = some o → H' p = some o) (hc : ∀ o, H c = some o → H' c = some o) : Pool H' p c := by
  obtain ⟨xs, e, q⟩ := h
  refine ⟨xs, hp _ e, ?_⟩
  rcases q with q | ⟨x, i, cs, e1, e2, e3, q⟩
  · exact .inl q
  · exact .inr ⟨x, i, cs, e1, e2, hc _ e3, q⟩
/-- all but p is as it was, and there may be more -/
def Gro (p : Addr) (H H' : Hp) : Prop := ∀ b o, H b = some o → b ≠ p → H' b = some o
theorem Gro.rfl' {p : Addr} {H : Hp} : Gro p H H := fun _ _ e _ => e
theorem Gro.trans {p : Addr} {H H1 H2 : Hp} (a : Gro p H H1) (b : Gro p H1 H2) : Gro p H H2 := fun q o e n => b q o (a q o e n) n
theorem Gro.new {p q : Addr} {H : Hp} {o : HO} (n : H q = none) : Gro p H (upd H q o) := fun b u e _ => by rw [upd_ne (ne_of_none e n)]; exact e
theorem Gro.own {p : Addr} {H : Hp} {o : HO} : Gro p H (upd H p o) := fun b u e n => by rw [upd_ne n]; exact e
theorem Gro.of_same {p : Addr} {H H' : Hp} (s : Same H H') : Gro p H H' := fun b o e _ => s b o e
theorem Gro.free {p q : Addr} {H H' : Hp} (g : Gro p H H') (n : H' q = none) (hq : q ≠ p) : H q = none := by
  cases e : H q with
  | none => rfl
  | some o => rw [g q o e hq] at n; cases n
theorem Pool.off {H : Hp} {p c q : Addr} {o : HO} (h : Pool H p c) (n1 : q ≠ p) (n2 : q ≠ c) : Pool (upd H q o) p c :=
  h.keep (fun u e => by rw [upd_ne n1.symm]; exact e) fun u e => by rw [upd_ne n2.symm]; exact e
theorem Pool.new {p c q : Addr} {H : Hp} {o : HO} (h : Pool H p c) (n : H q = none) : Pool (upd H q o) p c :=
  h.keep (fun u e => by rw [upd_ne (ne_of_none e n)]; exact e) fun u e => by rw [upd_ne (ne_of_none e n)]; exact e

def spPool (K : PySem.W.Frag) : Sp := fun vs H Q _ => ∃ (a : Addr) (ns : List Int), vs = [.ref a] ∧ SqL K H a (ns.map V.int) ∧ ns.length ≤ 63 ∧
  ∀ p c H', Same H H' → H p = none → (c = p ∨ H c = none) → Pool H' p c → Q (.ref p) H'
def spTake : Sp := fun vs H Q _ => ∃ (p c : Addr) (n : Int), vs = [.ref p, .int n] ∧ Pool H p c ∧ 0 < n ∧ n.natAbs < 2 ^ 200 ∧
  ∀ v H', 0 ≤ v → v < n → Gro p H H' → Pool H' p c → Q (.int v) H'
/-- the signs of a base -/
def Sgn (z : Str) : Prop := ∀ s ∈ z.cps.toList, s ∈ ("mnopqrstuvwxyz0123456789" : Str).cps.toList
def spBase (m : Nat) : Sp := fun vs H Q _ => ∃ (p c : Addr), vs = [.ref p] ∧ Pool H p c ∧
  ∀ z H', z.length < m → Sgn z → Gro p H H' → Pool H' p c → Q (.str z) H'
def kSigns : List Nat := ("afkdibglejch" : Str).cps.toList
/-- the name number k: its sign between two texts of the base's signs -/
def NameK (k : Nat) (z : Str) : Prop := z.length ≤ 12 ∧ ∃ (s : Nat) (a b : Str), kSigns[k]? = some s ∧ z = a ++ (⟨#[s]⟩ : Str) ++ b ∧ Sgn a ∧ Sgn b
def spName : Sp := fun vs H Q _ => ∃ (p c : Addr) (b : Str) (k : Nat), vs = [.ref p, .str b, .int k] ∧ Pool H p c ∧ b.length ≤ 11 ∧ Sgn b ∧ k < 12 ∧
  ∀ z H', NameK k z → Gro p H H' → Pool H' p c → Q (.str z) H'

/-- the built-ins that the drawing reads -/
structure Blt (mg : Str → Option Value) : Prop where
  len : mg "len" = none
  int : mg "int" = none
  range : mg "range" = none

section
variable {P : Program} {w : World} {K : PySem.W.Frag} {mg : Str → Option Value} {base : Heap}
theorem get_map {ns : List Int} {i : Nat} {x : V} (h : (ns.map V.int)[i]? = some x) : ∃ z, ns[i]? = some z ∧ x = .int z := by
  rw [List.getElem?_map] at h
  cases e : ns[i]? with
  | none => rw [e] at h; cases h
  | some z => rw [e] at h; exact ⟨z, rfl, (Option.some.inj h).symm⟩
def nPool : List Str := ["_law_script", "_law_cell"]
theorem scPool : FnScope nPool ["_law_script"] (defScope sPool) := ⟨rfl, rfl, rfl, by decide +kernel, rfl, by decide +kernel, by decide +kernel⟩
theorem ok_pool {f : Addr} {fd : FuncData} (F : Fun K "_law_pool" "_law_pool" sPool f fd) (B : Blt mg) : FnOk P w K mg base CX0 1 f fd ["_law_script"] (spPool K) := by
  refine F.ok scPool (fun vs H Q E h => ?_) (fun cdv A outer s H vs Q E hr h => ?_)
  · obtain ⟨a, ns, rfl, _⟩ := h
    rfl
  · obtain ⟨a, ns, rfl, hS, hlen, k⟩ := h
    refine ⟨_, pss_cons (ps_if (pt_cmpR op_eq (pe_callB call_len_seq (by rfl) B.len PySem.boot_len (pa_cons (pv 0) pa_nil)) pe_int (nomark _)) (pss_one (ps_ret (pe_lst (pa_cons pe_int pa_nil)))) pss_nil)
      (pss_cons (ps_if (pt_cmpR op_ge (pe_ix ix_list (pv 0) pe_int (fun _ _ => rfl)) (pe_op op_pow pe_int pe_int) (nomark _))
        (pss_one (ps_ret (pe_lst (pa_cons (pe_op op_sub (pe_ix ix_list (pv 0) pe_int (fun _ _ => rfl)) (pe_op op_pow pe_int pe_int)) pa_nil)))) pss_nil)
      (pss_one (ps_ret (pe_lst (pa_cons pe_int (pa_cons pe_int (pa_cons
        (pe_lc (own := [("_law_cell", 1)]) (g := gName 1) (tt := tYes) rfl scPool.nd (pi_list (pv 0)) (blkOk_by (N := nPool) (sc := defScope sPool) (by decide +kernel))
          (fun _ _ _ _ _ => pg_name (i := 1) scPool.nd rfl (Or.inl rfl)) (fun _ _ _ _ _ => pts_nil)
          (fun _ _ _ _ _ => pe_op op_mod (pe_callTy call_int1 (by rfl) B.int (by decide +kernel) (pa_cons (pv 1) pa_nil)) pe_int)) pa_nil))))))), ?_⟩
    refine ⟨_, rfl, a, _, rfl, .inl hS, rfl, _, rfl, ?_⟩
    rw [List.length_map]
    by_cases h0 : ns.length = 0
    · have e : decide (V.int (ns.length : Int) = V.int 0) = true := decide_eq_true (by rw [h0]; rfl)
      rw [e]
      refine iteT ⟨(by show 1 ≤ sizeLine; decide), fun p hp => ?_⟩
      exact k p p _ (fun b o q => by rw [upd_ne (ne_of_none q hp)]; exact q) hp (.inl rfl) ⟨_, upd_same, .inl ⟨rfl, 0, rfl⟩⟩
    · have e : decide (V.int (ns.length : Int) = V.int 0) = false := decide_eq_false (fun q => h0 (by injection q with q; omega))
      rw [e]
      refine iteF ?_
      obtain ⟨n0, hn0⟩ : ∃ n0, ns[0]? = some n0 := ⟨ns[0], List.getElem?_eq_getElem (by omega)⟩
      have at0 : atI (ns.map V.int) 0 = some (V.int n0) := atI_nat (j := 0) (by rw [List.getElem?_map, hn0]; rfl)
      refine ⟨_, rfl, a, _, 0, _, rfl, rfl, hS, at0, 10, 18, rfl, rfl, ⟨by decide, by decide, by decide⟩, _, _, rfl, rfl, _, rfl, ?_⟩
      refine ite2 (fun _ => ?_) (fun _ => ?_)
      · refine ⟨_, rfl, a, _, 0, _, rfl, rfl, hS, at0, 10, 18, rfl, rfl, ⟨by decide, by decide, by decide⟩, _, _, rfl, rfl, (by show 1 ≤ sizeLine; decide), fun p hp => ?_⟩
        exact k p p _ (fun b o q => by rw [upd_ne (ne_of_none q hp)]; exact q) hp (.inl rfl) ⟨_, upd_same, .inl ⟨rfl, _, rfl⟩⟩
      · refine ⟨_, rfl, a, rfl, ⟨_, hS⟩, fun D hD => ?_⟩
        refine lc_list (K := K) (a := a) (xs := ns.map V.int) (fun i H' => Same H H' ∧ ∃ cs : List Int, H' D = some (.lst (cs.map V.int)) ∧ cs.length = i ∧ ∀ z ∈ cs, 0 ≤ z ∧ z < 65537)
          ⟨fun b o q => by rw [upd_ne (ne_of_none q hD)]; exact q, [], upd_same, rfl, fun z hz => nomatch hz⟩ (fun i H' _ ⟨s5, _⟩ => s5.seq hS) ?_ ?_
        · rintro i x H' hi ⟨s5, cs, hcs, hcl, hb⟩
          obtain ⟨z, hz, rfl⟩ := get_map hi
          have hil : i < ns.length := (List.getElem?_eq_some_iff.mp hz).1
          refine ⟨rfl, _, rfl, .inl ⟨z, rfl, z, 65537, rfl, rfl, (by show (0 : Int) < 65537; decide), cs.map V.int, hcs, small1000 (by rw [List.length_map]; omega), ?_⟩⟩
          refine ⟨fun b o q => ?_, cs ++ [z % 65537], ?_, by rw [List.length_append, hcl]; rfl, fun y hy => ?_⟩
          · have nb : b ≠ D := ne_of_none q hD
            rw [upd_ne nb]
            exact s5 b o q
          · rw [upd_same, List.map_append]
            rfl
          · rcases List.mem_append.mp hy with hy | hy
            · exact hb y hy
            · rw [List.mem_singleton.mp hy]
              exact ⟨Int.emod_nonneg _ (by decide), Int.emod_lt_of_pos _ (by decide)⟩
        · rintro H' ⟨s5, cs, hcs, hcl, hb⟩
          rw [List.length_map] at hcl
          refine ⟨(by show 3 ≤ sizeLine; decide), fun p hp => ?_⟩
          have npD : D ≠ p := ne_of_none hcs hp
          refine k p D _ (fun b o q => ?_) (s5.free hp) (.inr hD) ⟨_, upd_same, .inr ⟨1, 0, cs, rfl, npD, by rw [upd_ne npD]; exact hcs, by omega, by omega, hb, by decide, by decide⟩⟩
          rw [upd_ne (ne_of_none (s5 b o q) hp)]
          exact s5 b o q
end
end Yd
namespace Yd
open PySem L2
section
variable {P : Program} {w : World} {K : PySem.W.Frag} {mg : Str → Option Value} {base : Heap}
theorem scTake : FnScope ["_law_pool_here", "_law_size", "_law_value", "_law_cells"] ["_law_pool_here", "_law_size"] (defScope sTake) := ⟨rfl, rfl, rfl, by decide +kernel, rfl, by decide +kernel, by decide +kernel⟩
theorem at_c {α : Type} {xs : List α} {j : Nat} {v : α} (h : xs[j]? = some v) {z : Int} (e : z = (j : Int)) : atI xs z = some v := by rw [e]; exact atI_nat h
theorem ixN_c {n j : Nat} (h : j < n) {z : Int} (e : z = (j : Int)) : ixN n z = some j := by
  subst e
  unfold ixN
  rw [if_pos (by omega), if_pos (by omega), Int.toNat_natCast]
theorem len_one {xs : List V} {n : Int} (h : xs = [.int n]) : xs.length = 1 := by rw [h]; rfl
/-- what is left of a draw -/
theorem drawn {n v : Int} (h : 0 < n) : 0 ≤ v % n ∧ v % n < n := ⟨Int.emod_nonneg _ (by omega), Int.emod_lt_of_pos _ h⟩
theorem pow7 {x : Int} (h0 : 0 ≤ x) (h1 : x < 65537) : CPow x 7 := by
  refine ⟨by decide, by decide, ?_⟩
  have e : (65537 : Nat) < 2 ^ 64 := by decide
  omega
theorem ok_take {f : Addr} {fd : FuncData} (F : Fun K "_law_take" "_law_take" sTake f fd) (B : Blt mg) : FnOk P w K mg base CX0 1 f fd ["_law_pool_here", "_law_size"] spTake := by
  refine F.ok scTake (fun vs H Q E h => ?_) (fun cdv A outer s H vs Q E hr h => ?_)
  · obtain ⟨p, c, n, rfl, _⟩ := h
    rfl
  · obtain ⟨p, c, n, rfl, ⟨xs, hp, hx⟩, hn, hb, k⟩ := h
    refine ⟨_, pss_cons (ps_if (pt_cmpR op_eq (pe_callB call_len_seq (by rfl) B.len PySem.boot_len (pa_cons (pv 0) pa_nil)) pe_int (nomark _))
        (pss_cons (ps_set (i := 2) scTake.nd rfl (Or.inl rfl) (pe_op op_mod (pe_callTy call_int1 (by rfl) B.int (by decide +kernel) (pa_cons (pe_ix ix_list (pv 0) pe_int (fun _ _ => rfl)) pa_nil)) (pv 1)))
        (pss_cons (ps_asg (pe_op op_fdivW (pe_ix ix_list (pv 0) pe_int (fun _ _ => rfl)) (pv 1)) (pg_sub (pv 0) pe_int set_list))
        (pss_one (ps_ret (pv 2))))) pss_nil)
      (pss_cons (ps_set (i := 3) scTake.nd rfl (Or.inl rfl) (pe_ix ix_list (pv 0) pe_int (fun _ _ => rfl)))
      (pss_cons (ps_asg (pe_op op_mod (pe_callTy call_int1 (by rfl) B.int (by decide +kernel) (pa_cons (pe_op op_add (pe_op op_add (pe_op op_mul (pe_ix ix_list (pv 0) pe_int (fun _ _ => rfl)) pe_int)
          (pe_ix ix_list (pv 3) (pe_op op_mod (pe_callTy call_int1 (by rfl) B.int (by decide +kernel) (pa_cons (pe_ix ix_list (pv 0) pe_int (fun _ _ => rfl)) pa_nil)) (pe_callB call_len_seq (by rfl) B.len PySem.boot_len (pa_cons (pv 3) pa_nil))) (fun _ _ => rfl))) pe_int) pa_nil)) pe_int)
          (pg_sub (pv 0) pe_int set_list))
      (pss_cons (ps_asg (pe_op op_add (pe_ix ix_list (pv 0) pe_int (fun _ _ => rfl)) pe_int) (pg_sub (pv 0) pe_int set_list))
      (pss_cons (ps_if (pt_cmpR op_gt (pv 1) pe_int (nomark _))
        (pss_one (ps_ret (pe_op op_mod (pe_callTy call_int1 (by rfl) B.int (by decide +kernel) (pa_cons (pe_op op_pow (pe_ix ix_list (pv 0) pe_int (fun _ _ => rfl)) pe_int) pa_nil)) (pv 1)))) pss_nil)
      (pss_one (ps_ret (pe_op op_mod (pe_callTy call_int1 (by rfl) B.int (by decide +kernel) (pa_cons (pe_ix ix_list (pv 0) pe_int (fun _ _ => rfl)) pa_nil)) (pv 1)))))))), ?_⟩
    rcases hx with ⟨hcc, m, rfl⟩ | ⟨x, i, cs, rfl, hcp, hc, hl0, hl1, hcs, hx0, hx1⟩
    · refine ⟨_, rfl, p, _, rfl, .inl (SqL.of hp), rfl, _, rfl, ?_⟩
      refine yes (by rfl) ?_
      have a0 : atI [V.int m] 0 = some (V.int m) := at_c (j := 0) rfl rfl
      refine ⟨_, rfl, p, _, 0, _, rfl, rfl, SqL.of hp, a0, .inl ⟨m, rfl, _, rfl, m, n, rfl, rfl, hn, ?_⟩⟩
      refine ⟨_, rfl, p, _, 0, _, rfl, rfl, SqL.of hp, a0, _, rfl, m, n, rfl, rfl, wide_div hn hb (by decide) (by decide), ?_⟩
      refine ⟨_, rfl, p, _, 0, 0, rfl, rfl, hp, ixN_c (by show 0 < 1; omega) rfl, ?_⟩
      refine ⟨_, rfl, ?_⟩
      exact k _ _ (drawn hn).1 (drawn hn).2 .own ⟨_, upd_same, .inl ⟨hcc, _, rfl⟩⟩
    · refine ⟨_, rfl, p, _, rfl, .inl (SqL.of hp), rfl, _, rfl, ?_⟩
      refine no (by rfl) ?_
      have hn0 : 0 < ((cs.map V.int).length : Int) := by rw [List.length_map]; omega
      obtain ⟨z, hz⟩ : ∃ z, atI (cs.map V.int) (i % ((cs.map V.int).length : Int)) = some (V.int z) := by
        have d := drawn (v := i) hn0
        obtain ⟨j, ej⟩ : ∃ j : Nat, i % ((cs.map V.int).length : Int) = (j : Int) := ⟨(i % ((cs.map V.int).length : Int)).toNat, by omega⟩
        have hj : j < cs.length := by rw [List.length_map] at d ej; omega
        exact ⟨cs[j], at_c (j := j) (by rw [List.getElem?_map, List.getElem?_eq_getElem hj]; rfl) ej⟩
      refine ⟨_, rfl, p, _, 2, _, rfl, rfl, SqL.of hp, at_c (j := 2) rfl rfl, ?_⟩
      refine ⟨_, rfl, p, _, 0, _, rfl, rfl, SqL.of hp, at_c (j := 0) rfl rfl, x, 75, rfl, rfl, .inl ⟨by omega, by omega⟩, ?_⟩
      refine ⟨_, rfl, _, rfl, p, _, 1, _, rfl, rfl, SqL.of hp, at_c (j := 1) rfl rfl, .inl ⟨i, rfl, ?_⟩⟩
      refine ⟨_, rfl, c, _, rfl, .inl (SqL.of hc), i, _, rfl, rfl, hn0, ?_⟩
      refine ⟨c, _, _, _, rfl, rfl, SqL.of hc, hz, _, _, rfl, rfl, _, 74, rfl, rfl, .inl ⟨_, rfl, _, 65537, rfl, rfl, (by show (0 : Int) < 65537; decide), ?_⟩⟩
      refine ⟨_, rfl, p, _, 0, 0, rfl, rfl, hp, ixN_c (by show 0 < 3; omega) rfl, ?_⟩
      have d2 := drawn (n := 65537) (v := x * 75 + z + 74) (by decide)
      refine ⟨_, rfl, p, _, 1, _, rfl, rfl, SqL.of upd_same, at_c (j := 1) rfl rfl, _, 1, rfl, rfl, ?_⟩
      refine ⟨_, rfl, p, _, 1, 1, rfl, rfl, upd_same, ixN_c (by show 1 < 3; omega) rfl, ?_⟩
      rw [upd_upd]
      have hP : Pool (upd H p (.lst [V.int ((x * 75 + z + 74) % 65537), V.int (i + 1), V.ref c])) p c :=
        ⟨_, upd_same, .inr ⟨_, _, cs, rfl, hcp, by rw [upd_ne hcp]; exact hc, hl0, hl1, hcs, d2.1, d2.2⟩⟩
      refine ⟨_, rfl, n, 60000, rfl, rfl, _, rfl, ?_⟩
      refine ite2 (fun _ => ?_) (fun _ => ?_)
      · refine ⟨_, rfl, p, _, 0, _, rfl, rfl, SqL.of upd_same, at_c (j := 0) rfl rfl, _, 7, rfl, rfl, pow7 d2.1 d2.2, .inl ⟨_, rfl, _, rfl, _, n, rfl, rfl, hn, ?_⟩⟩
        exact k _ _ (drawn hn).1 (drawn hn).2 .own hP
      · refine ⟨_, rfl, p, _, 0, _, rfl, rfl, SqL.of upd_same, at_c (j := 0) rfl rfl, .inl ⟨_, rfl, _, rfl, _, n, rfl, rfl, hn, ?_⟩⟩
        exact k _ _ (drawn hn).1 (drawn hn).2 .own hP
end
end Yd
namespace Yd
open PySem L2
/-! ### the base and the names -/
theorem Sgn.nil : Sgn "" := fun s h => by have e : ("" : Str).cps.toList = [] := by decide +kernel
                                          rw [e] at h; cases h
theorem Sgn.app {a b : Str} (x : Sgn a) (y : Sgn b) : Sgn (a ++ b) := fun s h => by
  have e : (a ++ b).cps.toList = a.cps.toList ++ b.cps.toList := by show (a.cps ++ b.cps).toList = _; rw [Array.toList_append]
  rw [e] at h
  exact (List.mem_append.mp h).elim (x s) (y s)
theorem Sgn.cut {z : Str} (x : Sgn z) (lo hi : Option Int) : Sgn (cutS z lo hi) := fun s h => by
  have h : s ∈ ((z.cps.toList.drop (HT.sIx z.length 0 lo)).take (HT.sIx z.length z.length hi - HT.sIx z.length 0 lo)) := by simpa [cutS] using h
  exact x s (List.mem_of_mem_drop (List.mem_of_mem_take h))
theorem Sgn.one {c : Nat} (h : c ∈ ("mnopqrstuvwxyz0123456789" : Str).cps.toList) : Sgn ⟨#[c]⟩ := fun s hs => by
  have e : s = c := by simpa using hs
  rw [e]; exact h
theorem len_app (a b : Str) : (a ++ b).length = a.length + b.length := by show (a.cps ++ b.cps).size = _; rw [Array.size_append]; rfl
theorem join_ok : ∀ ys : List Str, (∀ y ∈ ys, Sgn y ∧ y.length = 1) → Sgn (Txt.join "" ys) ∧ (Txt.join "" ys).length = ys.length
  | [], _ => ⟨Sgn.nil, by decide +kernel⟩
  | [y], h => h y (List.mem_singleton.mpr rfl)
  | y :: z :: r, h => by
    have ih := join_ok (z :: r) fun q hq => h q (List.mem_cons_of_mem _ hq)
    have h0 := h y (List.mem_cons_self ..)
    have e0 : ("" : Str).length = 0 := by decide +kernel
    have e : Txt.join "" (y :: z :: r) = y ++ "" ++ Txt.join "" (z :: r) := by
      show Builtin.Str.glued "" (y :: z :: r) = y ++ "" ++ Builtin.Str.glued "" (z :: r)
      rw [StrLaws.glued_eq_join, StrLaws.glued_eq_join]
      rfl
    rw [e]
    refine ⟨(h0.1.app Sgn.nil).app ih.1, ?_⟩
    rw [len_app, len_app, ih.2, h0.2, e0, List.length_cons (a := y)]
    omega
theorem sum_ones : ∀ {ys : List Str}, (∀ y ∈ ys, Sgn y ∧ y.length = 1) → (ys.map (·.length)).sum = ys.length
  | [], _ => rfl
  | y :: r, h => by
    have ih := sum_ones (ys := r) fun q hq => h q (List.mem_cons_of_mem _ hq)
    rw [List.map_cons, List.sum_cons, ih, (h y (List.mem_cons_self ..)).2, List.length_cons]
    omega
structure Fn (K : PySem.W.Frag) (mg : Str → Option Value) (x : Str) (st : Stmt) (ps : List Str) (f : Addr) (fd : FuncData) : Prop where
  F : Fun K x x st f fd
  g : mg x = some (.ref f)
  b : Binds K fd ps []
section
variable {P : Program} {w : World} {K : PySem.W.Frag} {mg : Str → Option Value} {base : Heap}
def nBase : List Str := ["_law_pool_here", "_law_signs", "_law_k"]
theorem scBase : FnScope nBase ["_law_pool_here"] (defScope sBase) := ⟨rfl, rfl, rfl, by decide +kernel, rfl, by decide +kernel, by decide +kernel⟩
theorem sgn_at {v : Int} (h0 : 0 ≤ v) (h1 : v < 24) : ∃ c, atI ("mnopqrstuvwxyz0123456789" : Str).cps.toList v = some c ∧ c ∈ ("mnopqrstuvwxyz0123456789" : Str).cps.toList := by
  have hl : ("mnopqrstuvwxyz0123456789" : Str).cps.toList.length = 24 := by decide +kernel
  have hj : v.toNat < ("mnopqrstuvwxyz0123456789" : Str).cps.toList.length := by omega
  exact ⟨_, at_c (j := v.toNat) (z := v) (List.getElem?_eq_getElem hj) (by omega), List.getElem_mem hj⟩
theorem ok_base {f fT : Addr} {fd fdT : FuncData} (F : Fun K "_law_base" "_law_base" sBase f fd) (B : Blt mg) (T : Fn K mg "_law_take" sTake ["_law_pool_here", "_law_size"] fT fdT) : FnOk P w K mg base CX0 2 f fd ["_law_pool_here"] (spBase 12) := by
  have GT : FnOk P w K mg base CX0 1 fT fdT ["_law_pool_here", "_law_size"] spTake := ok_take T.F B
  refine F.ok scBase (fun vs H Q E h => ?_) (fun cdv A outer s H vs Q E hr h => ?_)
  · obtain ⟨p, c, rfl, _⟩ := h
    rfl
  · obtain ⟨p, c, rfl, hP, k⟩ := h
    refine ⟨_, pss_cons (ps_set (i := 1) scBase.nd rfl (Or.inr rfl) pe_str)
      (pss_one (ps_ret (pe_join pe_str (pe_lc (own := [("_law_k", 2)]) (g := gName 2) (tt := tYes) rfl scBase.nd
        (pi_range1 rfl B.range (pa_cons (pe_call GT hr rfl T.g T.F.kp T.b .nil pass0 (pa_cons (pv 0) (pa_cons pe_int pa_nil))) pa_nil))
        (blkOk_by (N := nBase) (sc := defScope sBase) (by decide +kernel))
        (fun _ _ _ _ _ => pg_name (i := 2) scBase.nd rfl (Or.inl rfl)) (fun _ _ _ _ _ => pts_nil)
        (fun _ _ _ _ _ => pe_ix ix_str (pv 1) (pe_call GT hr rfl T.g T.F.kp T.b .nil pass0 (pa_cons (pv 0) (pa_cons pe_int pa_nil))) (fun _ _ => rfl)))))), ?_⟩
    refine ⟨⟨_, rfl⟩, _, rfl, p, c, 12, rfl, hP, by decide, by decide, fun n H1 n0 n1 g1 P1 => ⟨n, rfl, by omega, by omega, fun D hD => ?_⟩⟩
    obtain ⟨nDp, nDc⟩ := P1.ne hD
    refine lc_range (lo := 0) (n := n.toNat) (fun i H' => Gro p H H' ∧ Pool H' p c ∧ ∃ ys : List Str, H' D = some (.lst (ys.map V.str)) ∧ ys.length = i ∧ ∀ y ∈ ys, Sgn y ∧ y.length = 1)
      ⟨g1.trans (.new hD), P1.new hD, [], upd_same, rfl, fun y hy => nomatch hy⟩ ?_ ?_
    · rintro i H' hi ⟨g5, P5, ys, hys, hyl, hb⟩
      refine ⟨rfl, _, rfl, _, rfl, p, c, 24, rfl, P5, by decide, by decide, fun v H6 v0 v1 g6 P6 => ?_⟩
      obtain ⟨ch, hch, hm⟩ := sgn_at v0 v1
      have h6 : H6 D = some (.lst (ys.map V.str)) := g6 D _ hys nDp
      refine ⟨_, v, ch, rfl, rfl, (by decide +kernel), hch, ys.map V.str, h6, small1000 (by rw [List.length_map]; omega), ?_⟩
      refine ⟨fun b o q hb' => ?_, P6.off nDp nDc, ys ++ [⟨#[ch]⟩], ?_, by rw [List.length_append, hyl]; rfl, fun y hy => ?_⟩
      · rw [upd_ne (ne_of_none (g1 b o q hb') hD)]
        exact g6 b o (g5 b o q hb') hb'
      · rw [upd_same, List.map_append]
        rfl
      · rcases List.mem_append.mp hy with hy | hy
        · exact hb y hy
        · rw [List.mem_singleton.mp hy]
          exact ⟨Sgn.one hm, rfl⟩
    · rintro H' ⟨g5, P5, ys, hys, hyl, hb⟩
      have j := join_ok ys hb
      refine ⟨_, D, ys, rfl, rfl, .inl (SqL.of hys), ?_, ?_⟩
      · have e0 : ("" : Str).length = 0 := by decide +kernel
        rw [sum_ones hb, e0]
        omega
      · exact k _ _ (by rw [j.2]; omega) j.1 g5 P5
def nName : List Str := ["_law_pool_here", "_law_base_here", "_law_k", "_law_text", "_law_at"]
theorem scName : FnScope nName ["_law_pool_here", "_law_base_here", "_law_k"] (defScope sName) := ⟨rfl, rfl, rfl, by decide +kernel, rfl, by decide +kernel, by decide +kernel⟩
theorem small16 {n : Nat} (h : n ≤ 16) : n ≤ sizeLine := Nat.le_trans h (by decide)
theorem ok_name {f fT : Addr} {fd fdT : FuncData} (F : Fun K "_law_name" "_law_name" sName f fd) (B : Blt mg) (T : Fn K mg "_law_take" sTake ["_law_pool_here", "_law_size"] fT fdT) : FnOk P w K mg base CX0 2 f fd ["_law_pool_here", "_law_base_here", "_law_k"] spName := by
  have GT : FnOk P w K mg base CX0 1 fT fdT ["_law_pool_here", "_law_size"] spTake := ok_take T.F B
  refine F.ok scName (fun vs H Q E h => ?_) (fun cdv A outer s H vs Q E hr h => ?_)
  · obtain ⟨p, c, b, k, rfl, _⟩ := h
    rfl
  · obtain ⟨p, c, b, kk, rfl, hP, hb, hsb, hk, k⟩ := h
    refine ⟨_, pss_cons (ps_set (i := 3) scName.nd rfl (Or.inl rfl) (pe_slice sl_str (pv 1) po_none (po_some (pe_call GT hr rfl T.g T.F.kp T.b .nil pass0 (pa_cons (pv 0) (pa_cons (pe_op op_add (pe_callB call_len_str (by rfl) B.len PySem.boot_len (pa_cons (pv 1) pa_nil)) pe_int) pa_nil))))))
      (pss_cons (ps_set (i := 4) scName.nd rfl (Or.inl rfl) (pe_call GT hr rfl T.g T.F.kp T.b .nil pass0 (pa_cons (pv 0) (pa_cons (pe_op op_add (pe_callB call_len_str (by rfl) B.len PySem.boot_len (pa_cons (pv 3) pa_nil)) pe_int) pa_nil))))
      (pss_one (ps_ret (pe_op op_add_str (pe_op op_add_str (pe_slice sl_str (pv 3) po_none (po_some (pv 4))) (pe_ix ix_str pe_str (pv 2) (fun _ _ => rfl))) (pe_slice sl_str (pv 3) (po_some (pv 4)) po_none))))), ?_⟩
    have n20 : ∀ n : Nat, n ≤ 11 → ((n : Int) + 1).natAbs < 2 ^ 200 := fun n h => Nat.lt_of_le_of_lt (m := 12) (by omega) (by decide)
    refine ⟨_, rfl, _, rfl, _, rfl, b, rfl, small16 (by omega), _, 1, rfl, rfl, p, c, _, rfl, hP, by omega, n20 _ hb, fun v H1 v0 v1 g1 P1 => ⟨v, rfl, b, rfl, small16 (by omega), ?_⟩⟩
    generalize hz : cutS b none (some v) = z
    have hzl : z.length ≤ 11 := by rw [← hz]; exact Nat.le_trans (cutS_length _ _ _) hb
    have hzs : Sgn z := by rw [← hz]; exact hsb.cut _ _
    refine ⟨_, rfl, _, rfl, z, rfl, small16 (by omega), _, 1, rfl, rfl, p, c, _, rfl, P1, by omega, n20 _ hzl, fun u H2 u0 u1 g2 P2 => ?_⟩
    obtain ⟨sg, hsg⟩ : ∃ sg, ("afkdibglejch" : Str).cps.toList[kk]? = some sg := ⟨_, List.getElem?_eq_getElem (by have : ("afkdibglejch" : Str).cps.toList.length = 12 := by decide +kernel
                                                                                                                  omega)⟩
    have l1 := cutS_length z none (some u)
    have l2 := cutS_length z (some u) none
    have lt : (cutS z none (some u)).length + (cutS z (some u) none).length ≤ z.length := by
      obtain ⟨j, rfl⟩ : ∃ j : Nat, u = (j : Int) := ⟨u.toNat, by omega⟩
      have e1 : ∀ lo hi, (cutS z lo hi).length = min (HT.sIx z.length z.length hi - HT.sIx z.length 0 lo) (z.length - HT.sIx z.length 0 lo) := fun lo hi => by
        show (((z.cps.toList.drop (HT.sIx z.length 0 lo)).take (HT.sIx z.length z.length hi - HT.sIx z.length 0 lo)).toArray).size = _
        rw [List.size_toArray, List.length_take, List.length_drop, Array.length_toList]
        rfl
      simp only [e1, HT.sIx_none, HT.sIx_nat]
      omega
    have o1 : (⟨#[sg]⟩ : Str).length = 1 := rfl
    refine ⟨_, rfl, _, rfl, u, rfl, z, rfl, small16 (by omega), _, rfl, _, kk, sg, rfl, rfl, (by decide +kernel), at_c (j := kk) hsg rfl, _, _, rfl, rfl, small16 (by omega), ?_⟩
    refine ⟨_, rfl, _, rfl, u, rfl, z, rfl, small16 (by omega), _, _, rfl, rfl, small16 (by rw [len_app]; omega), ?_⟩
    exact k _ _ ⟨by rw [len_app, len_app]; omega, sg, _, _, hsg, rfl, hzs.cut _ _, hzs.cut _ _⟩ (g1.trans g2) P2
end
end Yd
namespace Yd
open PySem L2
/-! ### a def that begins with super().__init__(text): how the errors of the program are made -/
/-- such a def as it stands behind the top: D its class, cc the cell that holds D -/
structure SupFn (P : Program) (K : PySem.W.Frag) (mg : Str → Option Value) (x qual : Str) (st : Stmt) (f D cc : Addr) (fd : FuncData) : Prop where
  fn : ∃ (oc : Value) (od : Option Addr) (kV doc pm : Value) (an : Option Addr) (cda : Addr) (ct : Value) (osl : Array (Option Value)) (ccl : Value) (cdd : Option Addr) (vs : Array Value) (ccs : Array (Option Value)) (file : Str) (tf : Tok),
    fd = PySem.W.fnX x qual (defArgs st) (defBody st) (defScope st) [("__class__", cc)] .none kV doc pm an (.ref cda) ct ∧ K.lookup f = some ⟨oc, od, .func fd, osl⟩ ∧ PySem.W.codeIn K (.ref cda) qual = true ∧
    K.lookup cda = some ⟨ccl, cdd, .fields vs, ccs⟩ ∧ vs[2]? = some (.str file tf) ∧ ((P.main.file : Str) == file) = true
  cell : ∃ (cl : Value) (cld : Option Addr) (csl : Array (Option Value)), K.lookup cc = some ⟨cl, cld, .cell (some (.ref D)), csl⟩
  cd : ∃ cdD, PySem.W.clsIn K D = some cdD
  sup : mg "super" = none
  top : (P.main.scope.names.lookup ("super" : Str)).isSome = false
  any : PySem.W.nsIn K PySem.cStatics "thirdparty.any" = some none
/-- the class at C of the object, seen from a def of the class at D -/
structure SupC (K : PySem.W.Frag) (C D : Addr) : Prop where
  ox : OexC K C
  over : PySem.W.ks_superIn K C D "__init__" = some (some (.builtin "ValueError.__init__"))
  sub : PySem.W.subIn K (.ref C) (.type "ValueError") = some true
  mro : PySem.W.mroIn K C (.ref D) = some true
section
open PySem.W PySem.Calls
variable {X : Cx} {pins : List (Addr × Obj)} {σ : St} {H : Hp} {s : Shared} {a C D f cc cda : Addr} {E : Value → Shared → Prop}
theorem inst_exo {hh : Heap} {t1 : Addr} (h : hh.get? a = some (PySem.HandSPX.excO C t1)) : InstAt hh a (PySem.HandSPX.excO C t1) C none := ⟨h, rfl, rfl, trivial⟩
/-- super(), ahead of its attribute -/
theorem sup_base {qual : Str} {scope : Scope} {L : Addr} {fd : FuncData} {of oc : Obj} {ar : Arg} {vs : Array Value} {file : Str} {tf : Tok} {body : List Stmt} {p0 p1 : Pos} {attr : Str} {whole : Sem Value} {ox : Obj} {odx : Option Obj} {ocl : Obj}
    (I : Inv X pins σ H s) (hE : X.env = envX qual scope L f (.ref cda) [("__class__", cc)]) (hks : scope.names.lookup ("super" : Str) = some .globalImplicit) (hkc : scope.names.lookup ("__class__" : Str) = some .free)
    (hat : (attr == ("__class__" : Str)) = false) (hf : X.K.lookup f = some of) (hfd : of.data = .func fd) (hp : (fd.params.posonlyargs ++ fd.params.args).head? = some ar) (hself : X.N[0]? = some ar.arg) (hloc : scope.names.lookup ar.arg = some .local)
    (hv : σ[0]? = some (some (.ref a))) (hco : X.K.lookup cda = some oc) (hoc : oc.data = .fields vs) (hvs : vs[2]? = some (.str file tf)) (hfile : ((X.prog.main.file : Str) == file) = true)
    (htop : (X.prog.main.scope.names.lookup ("super" : Str)).isSome = false) (hmg : X.mg "super" = none) (hcell : X.K.lookup cc = some ocl) (hcd : ocl.data = .cell (some (.ref D))) (hD : ∃ cdD, clsIn X.K D = some cdD)
    (J : InstAt s.heap a ox C odx) (hm : mroIn X.K C (.ref D) = some true) :
    PySem.wpAt (model X.prog X.w) X.A (.func body X.env) (attributeBase (.Call (.Name "super" p0) [] [] p1) attr X.env whole)
      (fun v s' => ∃ so, v = .ref so ∧ s'.heap.get? so = some (ks_superObj D a C) ∧ (∀ b o, s.heap.get? b = some o → s'.heap.get? b = some o) ∧ Inv X pins σ H s') E s := by
  have KI := I.kIn
  have hkind : scope.kind = .function := by have z := I.ok.kind; rw [hE] at z; exact z
  have hglob : X.env.globals = mainGlobals := I.ok.glob
  obtain ⟨mb, hb1, hb2⟩ := I.mod.blt
  have hbl : s.heap.Ns builtinsNs mb := hb1.keeps I.bk
  have hgl : s.heap.Ns mainGlobals X.mg := I.mod.glob.keeps I.bk
  obtain ⟨m, hns, hlk⟩ := id I.loc
  have vis : Vis X.env.scope ar.arg := by rw [hE]; exact .inl hloc
  obtain ⟨u, hru, hlook⟩ := hlk 0 ar.arg (.ref a) hself hv vis
  have hu : u = Value.ref a := hru
  subst hu
  have hma : m ar.arg = some (.ref a) := by
    rcases hlook with ⟨_, z⟩ | ⟨k, _⟩
    · exact z
    · rw [hE] at k
      have k' : scope.names.lookup ar.arg = some .cell ∨ scope.names.lookup ar.arg = some .free := k
      rw [hloc] at k'
      rcases k' with k' | k' <;> cases k'
  obtain ⟨cdD, hcdD⟩ := hD
  obtain ⟨oD, hD1, hD2⟩ : ∃ oD, s.heap.get? D = some oD ∧ oD.data = .cls cdD := by
    unfold clsIn at hcdD
    split at hcdD
    · rename_i q1 q2 q3 q4 hq
      cases hcdD
      exact ⟨_, KI _ _ hq, rfl⟩
    · cases hcdD
  have hlocals : X.env.locals = L := by rw [hE]
  rw [hlocals] at hns
  have hK : ∀ {b o}, X.K.lookup b = some o → s.heap.get? b = some o := fun {b o} e => KI b o e
  have keep : ∀ h', (∀ b o, s.heap.get? b = some o → h'.get? b = some o) → Inv X pins σ H { s with heap := h' } := fun h' k => I.kept (t' := s.toks) k
  rw [hE]
  obtain ⟨hh, g, d, t, os⟩ := s
  refine ks_wpAt_super_base (env := envX qual scope L f (.ref cda) [("__class__", cc)]) hks hkc hat rfl (hK hf) hfd hp rfl (hK hco) hoc hvs hfile htop ?_
  refine ks_loadName_global hkind hks (loadGlobal_builtin (env := envX qual scope L f (.ref cda) [("__class__", cc)]) hgl hmg hbl ((hb2 _ (by decide +kernel)).trans (by decide +kernel)) ⟨rfl, ?_⟩)
  refine wpAny_loadName_free hkind hkc rfl ⟨_, hK hcell, hcd⟩ ?_
  refine wpAny_loadName_local hkind hloc hns hma ?_
  refine ks_wpAny_isType_cls hD1 hD2 ⟨rfl, ?_⟩
  refine ks_wpAny_call_super hD1 hD2 J.at_ J.cls (fun c e => ?_) (looks_mroIn KI hm) fun h' e k => ⟨_, rfl, e, k, keep h' k⟩
  have z := J.no
  unfold notCls at z
  rw [e] at z
  exact Bool.noConfusion z
end
end Yd
namespace Yd
open PySem L2
section
open PySem.W PySem.Calls
variable {X : Cx} {pins : List (Addr × Obj)} {σ : St} {H : Hp} {s : Shared} {a C D f cc cda u : Addr} {E : Value → Shared → Prop}
/-- a record of ours is pinned -/
theorem pin_new (I : Inv X pins σ H s) {o : Obj} (hu : s.heap.get? u = some o) (hn : H u = none) (hL : u ≠ X.env.locals) (hf : u ∉ X.fs) (hd : ∀ v, o.data ≠ .cell v) : Inv X ((u, o) :: pins) σ H s :=
  I.pins_of fun p hp => by
    rcases List.mem_cons.mp hp with rfl | hp
    · exact ⟨hu, hn, hL, hf, hd⟩
    · exact I.pin p (List.mem_append_right _ hp)
theorem pin_off {o : Obj} (I : Inv X ((u, o) :: pins) σ H s) : Inv X pins σ H s := I.pins_of fun p hp => I.pin p (List.mem_append_right _ (List.mem_cons_of_mem _ hp))
theorem mw_nocell {i : String} {x : Addr} : ∀ v, (kxs_mw i x).data ≠ .cell v := fun _ z => by cases z
/-- the bound ValueError.__init__ runs -/
theorem mw_run {us : List Value} {Q : Value → Shared → Prop} (T : OexC X.K C) (I : Inv X pins σ H s) (e : H a = some (exo a C none)) (hu : s.heap.get? u = some (kxs_mw "ValueError.__init__" a)) (hl : us.length ≤ sizeLine)
    (h : ∀ s', Inv X pins σ H s' → Q .none s') : wpAny (model X.prog X.w) X.A (call (.ref u) us) Q E s := by
  obtain ⟨nm, q, N, bs, bm, sn, sub, ab, col, dd, k0, k1, k2, k3, k5, hC, hbm⟩ := T.cls
  obtain ⟨t1, ho⟩ := exo_at I.hok e
  obtain ⟨hp, g, d, t, os⟩ := s
  have hTy : ∀ n : String, n = "method-wrapper" → (Value.type n == Value.type "method" || Value.type n == Value.type "builtin_function_or_method" || Value.type n == Value.type "method-wrapper") = true := fun n hn => by subst hn; decide
  refine wpAny_call (codeAny_of_tree (?_ : wpAny _ X.A.in1 (callAny (.ref u) ⟨us, []⟩) _ _ _))
  simp only [callAny]
  refine wpAny_bind (wpAny_load hu ?_)
  simp only [kxs_mw, hTy "method-wrapper" rfl, if_true]
  refine KFB.if_so (by decide) (wpAny_bind (check_bound_init F.excBase_ValueError.toExcCallFacts (I.kIn _ _ hC) ho rfl (wpAny_bind (wpAny_pure (wpAny_pure ?_)))))
  refine ⟨plainId_quiet F.excBase_ValueError.init.plain _, codeAny_builtin F.excBase_ValueError.initEntry ?_⟩
  refine exc_init_tree (cls := .ref C) (t0 := t1) (dv := none) (c2 := .none) (c3 := .none) (b4 := .bool false) ho hl fun h' k hx _ => ?_
  have same : upd H a (exo a C none) = H := funext fun b => by
    by_cases hb : b = a
    · rw [hb, upd_same, e]
    · exact upd_ne hb
  have J := I.write (t' := t) (x := a) (e := a) (o := exo a C none) (by rw [e]; exact True.intro) (.inl rfl) k ⟨_, hx⟩ (exo_ok hx)
  rw [same] at J
  exact h _ J
end
end Yd
namespace Yd
open PySem L2
section
open PySem.W PySem.Calls
variable {X : Cx} {pins : List (Addr × Obj)} {σ : St} {H : Hp} {s : Shared} {a C D f cc cda u : Addr} {E : Value → Shared → Prop}
/-- super().__init__(e), the whole statement, where the def's own code runs -/
theorem sup_stmt {qual : Str} {scope : Scope} {L : Addr} {fd : FuncData} {of oc : Obj} {ar : Arg} {vs : Array Value} {file : Str} {tf : Tok} {body : List Stmt} {p0 p1 p2 p3 p4 : Pos} {ocl : Obj} {e : Expr} {te : TE} {Q : Hp → Prop} {pl : Sem Bool}
    (I : Inv X pins σ H s) (hE : X.env = envX qual scope L f (.ref cda) [("__class__", cc)]) (hks : scope.names.lookup ("super" : Str) = some .globalImplicit) (hkc : scope.names.lookup ("__class__" : Str) = some .free)
    (hf : X.K.lookup f = some of) (hfd : of.data = .func fd) (hp : (fd.params.posonlyargs ++ fd.params.args).head? = some ar) (hself : X.N[0]? = some ar.arg) (hloc : scope.names.lookup ar.arg = some .local)
    (hv : σ[0]? = some (some (.ref a))) (hco : X.K.lookup cda = some oc) (hoc : oc.data = .fields vs) (hvs : vs[2]? = some (.str file tf)) (hfile : ((X.prog.main.file : Str) == file) = true)
    (htop : (X.prog.main.scope.names.lookup ("super" : Str)).isSome = false) (hmg : X.mg "super" = none) (hcell : X.K.lookup cc = some ocl) (hcd : ocl.data = .cell (some (.ref D))) (hD : ∃ cdD, clsIn X.K D = some cdD)
    (hany : nsIn X.K cStatics "thirdparty.any" = some none) (S : SupC X.K C D) (he : PE X e te) (ha : H a = some (exo a C none)) (hq : te σ H fun _ H1 => H1 a = some (exo a C none) ∧ Q H1)
    (hi : interactive X.env = false := by rfl) (hsw : swapsWith (.Call (.Attribute (.Call (.Name "super" p0) [] [] p1) "__init__" p2) [e] [] p3) none p4.line X.env = pure false := by rfl)
    (hst : starEach [e] X.env = (false, eval e X.env) :: starEach [] X.env := by rfl)
    (hc : eval (.Call (.Attribute (.Call (.Name "super" p0) [] [] p1) "__init__" p2) [e] [] p3) X.env = (do
      let ov ← attributeBase (.Call (.Name "super" p0) [] [] p1) "__init__" X.env (eval (.Call (.Name "super" p0) [] [] p1) X.env)
      standAt p2.atName
      let (f, first) ← holding [ov] (getMethod ov "__init__" pl)
      callWith p3 f first (backTo p3 (starEach [e] X.env)) []) := by rfl) :
    PySem.wpAt (model X.prog X.w) X.A (.func body X.env) (exec (.Expr (.Call (.Attribute (.Call (.Name "super" p0) [] [] p1) "__init__" p2) [e] [] p3) p4) X.env)
      (fun fl s' => fl = .next ∧ ∃ H', Inv X pins σ H' s' ∧ Q H') X.xe s := by
  obtain ⟨t1, ho⟩ := exo_at I.hok ha
  refine ks_wpAt_Expr_any ?_ hi hsw
  refine ks_wpAt_MethodCall ?_ hc
  · refine ks_wpAt_mono (sup_base I hE hks hkc (by decide) hf hfd hp hself hloc hv hco hoc hvs hfile htop hmg hcell hcd hD (inst_exo ho) S.mro) (fun v s1 hh => ?_) fun _ _ z => z
    obtain ⟨so, rfl, hso, k1, I1⟩ := hh
    obtain ⟨t2, ho1⟩ := exo_at I1.hok ha
    have KI := I1.kIn
    have hcls : ∃ cd, clsIn X.K C = some cd ∧ alongIn X.K "__init__" ((cd.mro.dropWhile (· != .ref D)).drop 1) = some (some (.builtin "ValueError.__init__")) := by
      have z := S.over
      unfold ks_superIn at z
      cases q : clsIn X.K C with
      | none => rw [q] at z; cases z
      | some cd => rw [q] at z; exact ⟨cd, rfl, z⟩
    obtain ⟨cd, hcdC, hal⟩ := hcls
    have hI : Looks (model X.prog X.w) s1.heap (isInstance (.ref a) (.type "ValueError")) true := (inst_exo ho1).type.andThen (looks_subIn KI S.sub)
    have hmro : Looks (model X.prog X.w) s1.heap (mroOf (.ref C)) cd.mro := fun A' Q' E' s' k q => wpAny_bind ((looks_clsIn KI hcdC) A' _ E' s' k (wpAny_pure q))
    have hne : a ≠ C := ks_ne KI (inst_exo ho1) hcdC
    obtain ⟨hp1, g, d, t, os⟩ := s1
    refine kxs_getMethod kxs_ValueError hso (looks_opaque KI hany) hmro rfl KI hal hI hne (by decide) ?_
    -- the bound method is a new record
    have hnew : H hp1.objs.size = none := I1.hok.fresh (Nat.le_refl _)
    have I2 : Inv X pins σ H ⟨hp1.push (kxs_mw "ValueError.__init__" a), g, d, t + 1, os⟩ := I1.kept (t' := t + 1) fun b o q => Heap.get?_push_of_some _ q
    have hL : hp1.objs.size ≠ X.env.locals := (Nat.ne_of_lt I1.lt).symm
    have I3 := pin_new (o := kxs_mw "ValueError.__init__" a) I2 (Heap.get?_push_at rfl rfl) hnew hL (I1.nofs (Nat.le_refl _)) mw_nocell
    have hplain : ((false, eval e X.env) :: backTo p3 (starEach [] X.env)).any (·.1) = false := by rfl
    rw [hst]
    refine kxs_callWith (i := "ValueError.__init__") (x := a) hplain (evalArgs_plain ?_)
    refine spliced_cons (thn (he.run _ _ σ H _ I3 hq) fun v s2 ⟨x, H2, I4, _, ha2, q2⟩ => ?_)
    refine spliced_nil ⟨(I4.pin _ (List.mem_append_right _ (List.mem_cons_self ..))).1, ?_⟩
    exact mw_run S.ox I4 ha2 (I4.pin _ (List.mem_append_right _ (List.mem_cons_self ..))).1 (by show 1 ≤ sizeLine; decide) fun s' J => ⟨rfl, H2, pin_off J, q2⟩
/-- the names of such a def: the parameters, then __class__ -/
structure SupScope (N ps : List Str) (sc : Scope) : Prop where
  ns : NdefX.NScope N ps ["__class__"] sc
  sup : sc.names.lookup ("super" : Str) = some .globalImplicit
/-- THE RULE for a def that begins so: its text, and what is behind it -/
theorem fn_sup {P : Program} {w : World} {K : Frag} {mg : Str → Option Value} {base : Heap} {CX : CXT} {x qual : Str} {st : Stmt} {fd : FuncData} {N ps : List Str} {k : Nat} {sp : Sp} {ar : Arg} {e : Expr} {rest : List Stmt} {p0 p1 p2 p3 p4 : Pos} {pl : Sem Bool}
    (F : SupFn P K mg x qual st f D cc fd) (S : SupScope N ps (defScope st)) (hp : ((defArgs st).posonlyargs ++ (defArgs st).args).head? = some ar) (hself : N[0]? = some ar.arg) (hloc : (defScope st).names.lookup ar.arg = some .local)
    (hb : defBody st = .Expr (.Call (.Attribute (.Call (.Name "super" p0) [] [] p1) "__init__" p2) [e] [] p3) p4 :: rest) (len : ∀ vs H Q E, sp vs H Q E → vs.length = ps.length)
    (hsw : ∀ env : Env, env.scope = defScope st → swapsWith (.Call (.Attribute (.Call (.Name "super" p0) [] [] p1) "__init__" p2) [e] [] p3) none p4.line env = pure false)
    (hst : ∀ env, starEach [e] env = (false, eval e env) :: starEach [] env)
    (hc : ∀ env, eval (.Call (.Attribute (.Call (.Name "super" p0) [] [] p1) "__init__" p2) [e] [] p3) env = (do
      let ov ← attributeBase (.Call (.Name "super" p0) [] [] p1) "__init__" env (eval (.Call (.Name "super" p0) [] [] p1) env)
      standAt p2.atName
      let (f, first) ← holding [ov] (getMethod ov "__init__" pl)
      callWith p3 f first (backTo p3 (starEach [e] env)) []))
    (hbody : ∀ (Fn : NdefX.NF) (A : Around) (outer : List Env) (s : Shared) (H : Hp) (vs : List V) (Q : VK) (E : XK), Fn.scope = defScope st → Fn.cl = [(("__class__" : Str), cc)] → Room k (A.deeper (NdefX.envF Fn f s.heap.objs.size)) → sp vs H Q E →
      ∃ te t a C, PE (NdefX.ncx CX P w K mg base N Fn f A outer s H E) e te ∧ PSs (NdefX.ncx CX P w K mg base N Fn f A outer s H E) rest t ∧ vs[0]? = some (.ref a) ∧ SupC K C D ∧ H a = some (exo a C none) ∧
        te (NdefX.startF N vs [some (.ref D)]) H fun _ H1 => H1 a = some (exo a C none) ∧ t { nx := fun _ H' => Q .non H', rt := Q } (NdefX.startF N vs [some (.ref D)]) H1) :
    FnOk P w K mg base CX (k + 1) f fd ps sp := by
  obtain ⟨oc, od, kV, doc, pm, an, cda, ct, osl, ccl, cdd, vsC, ccs, file, tf, rfl, lk, hcd, lkC, hvs, hfile⟩ := F.fn
  obtain ⟨cl, cld, csl, lkc⟩ := F.cell
  refine ⟨len, fun A outer s H args us vs Q E hr e0 hb' r hsp => ?_⟩
  have hl := len _ _ _ _ hsp
  have inK : ∀ {b o}, K.lookup b = some o → s.heap.get? b = some o ∧ H b = none := fun {b o} z => e0.bs b o (e0.mod.kin b o z)
  have KX : K.In s.heap := fun b o z => (inK z).1
  have lim : s.heap.NoLimit := e0.mod.nolimit.keeps fun b o z => (e0.bs b o z).1
  refine ks_codeAny_call_defAt (fd := fnX x qual (defArgs st) (defBody st) (defScope st) [("__class__", cc)] .none kV doc pm an (.ref cda) ct) (body := defBody st) (binds := ps.zip us) hr.depth (inK lk).1 rfl lim (codeRec_of KX hcd) rfl hb' S.ns.nocell
    (fun y hy => S.ns.par _ (List.of_mem_zip hy).1) (fun h₁ hns kp => ?_) S.ns.co S.ns.gen S.ns.kind
  let Fn : NdefX.NF := ⟨x, qual, defArgs st, defBody st, defScope st, [(("__class__" : Str), cc)], cda⟩
  have C1 : NdefX.CellsAt Fn.cl ["__class__"] [some (.ref D)] s.heap H := by
    have one : ∀ y c, List.lookup y [(("__class__" : Str), cc)] = some c → y = "__class__" ∧ c = cc := fun y c z => by
      by_cases hy : y = "__class__"
      · subst hy
        refine ⟨rfl, ?_⟩
        simp [List.lookup] at z
        exact z.symm
      · have q : (y == ("__class__" : Str)) = false := by simpa using hy
        simp [List.lookup, q] at z
    refine ⟨rfl, fun y c z => ?_, fun y z c h1 h2 => (one y c h1).1.trans (one z c h2).1.symm, fun i y hy => ?_⟩
    · obtain ⟨_, rfl⟩ := one y c z
      exact ⟨(inK lkc).2, _, _, (inK lkc).1, rfl⟩
    · match i, hy with
      | 0, hy =>
        have ey : ("__class__" : Str) = y := Option.some.inj hy
        subst ey
        refine ⟨cc, by show List.lookup _ [(("__class__" : Str), cc)] = _; simp [List.lookup], fun v hv => ?_⟩
        have ev : V.ref D = v := Option.some.inj (Option.some.inj hv)
        subst ev
        exact ⟨_, rfl, _, (inK lkc).1, rfl⟩
      | i + 1, hy => simp at hy
  have I : Inv (NdefX.ncx CX P w K mg base N Fn f A outer s H E) [] (NdefX.startF N vs [some (.ref D)]) H { s with heap := h₁, toks := s.toks + (ps.zip us).length } := NdefX.inv_startN S.ns hr.hd e0 hl r C1 hns kp
  obtain ⟨te, t, a, C, pe, pss, hv0, hS, ha, hq⟩ := hbody Fn A outer s H vs Q E rfl rfl (hr.deeper _) hsp
  have hσ : (NdefX.startF N vs [some (.ref D)])[0]? = some (some (.ref a)) := by
    unfold NdefX.startF
    have h0 : 0 < vs.length := (List.getElem?_eq_some_iff.mp hv0).1
    rw [List.getElem?_append_left (by rw [List.length_map]; exact h0), List.getElem?_map, hv0]
    rfl
  rw [hb]
  refine ks_wpAt_execs_cons (ks_wpAt_mono (sup_stmt (X := NdefX.ncx CX P w K mg base N Fn f A outer s H E) (qual := qual) (scope := defScope st) (L := s.heap.objs.size) I rfl S.sup (S.ns.frk _ (List.mem_singleton.mpr rfl)) lk rfl hp hself hloc hσ lkC rfl hvs hfile F.top F.sup lkc rfl F.cd F.any hS pe ha hq
    (by unfold interactive; rw [show (NdefX.ncx CX P w K mg base N Fn f A outer s H E).env.scope.kind = .function from S.ns.kind]; rfl) (hsw _ rfl) (hst _) (hc _)) (fun fl s' hh => ?_) fun _ _ z => z)
  obtain ⟨rfl, H1, I1, q1⟩ := hh
  refine wpAt_of_wpAny (wpAny_mono (pss.run [] s' _ H1 _ I1 q1) (fun fl s2 hs => ?_) fun _ _ z => z)
  have fin : ∀ {σ' : L2.St} {H' : Hp} {v : V} {u : Value}, Inv (NdefX.ncx CX P w K mg base N Fn f A outer s H E) [] σ' H' s2 → RelV v u → Q v H' → CE outer P w H s Q u s2 :=
    fun {σ' H' v u} J rv q => ⟨v, H', J.os, J.bare, J.base, J.hok, rv, q⟩
  cases fl with
  | ret u =>
    obtain ⟨v, σ', H', J, rv, q⟩ := hs
    exact fin J rv q
  | next =>
    obtain ⟨σ', H', J, q⟩ := hs
    exact fin (v := V.non) (u := Value.none) J rfl q
  | brk =>
    obtain ⟨_, _, _, q⟩ := hs
    exact q.elim
  | cont =>
    obtain ⟨_, _, _, q⟩ := hs
    exact q.elim
end
end Yd
namespace Yd
open PySem L2
/-! ### the errors: a text, then the fields -/
/-- a part of a text that is short -/
def Short (σ : St) (H : Hp) (t : TE) : Prop := ∃ y : Str, y.length ≤ 100 ∧ ∀ Q : VK, Q (.str y) H → t σ H Q
theorem short_c {σ : St} {H : Hp} {x : Str} (h : x.length ≤ 100 := by decide +kernel) : Short σ H (tC (.str x)) := ⟨x, h, fun _ q => q⟩
theorem short_v {σ : St} {H : Hp} {i : Nat} {x : Str} (e : σ[i]? = some (some (.str x))) (h : x.length ≤ 100) : Short σ H (tFmt (tVar i)) :=
  ⟨x, h, fun _ q => ⟨_, e, .inl ⟨x, rfl, Nat.le_trans h (by decide), q⟩⟩⟩
theorem js_short {σ : St} {H : Hp} {Q : Str → Hp → Prop} (hq : ∀ out, Q out H) : ∀ (ts : List TE) (acc : Str), (∀ t ∈ ts, Short σ H t) → acc.length + 100 * ts.length ≤ 10000 → tJs ts acc σ H Q
  | [], acc, _, _ => hq acc
  | t :: ts, acc, h, hl => by
    obtain ⟨y, hy, ht⟩ := h t (List.mem_cons_self ..)
    rw [List.length_cons] at hl
    have e : (acc ++ y).length = acc.length + y.length := len_app acc y
    refine ht _ ⟨y, rfl, ?_, js_short hq ts (acc ++ y) (fun u hu => h u (List.mem_cons_of_mem _ hu)) (by omega)⟩
    exact Nat.le_trans (show (acc ++ y).length ≤ 10000 by omega) (by decide)
/-- what an error's __init__ promises: fs, the fields, the last one stored first -/
def spErr (C : Addr) (n : Nat) (ok : List V → Prop) (fs : List V → List (Str × V)) : Sp := fun vs H Q _ => ∃ (a : Addr) (us : List V), vs = .ref a :: us ∧ us.length = n ∧ ok us ∧ H a = some (exo a C none) ∧
  ∀ d H', H d = none → d ≠ a → H' a = some (exo a C (some d)) → H' d = some (exd d (fs us)) → (∀ b, b ≠ a → b ≠ d → H' b = H b) → Q .non H'
def isTxt (v : V) : Prop := ∃ x : Str, v = .str x ∧ x.length ≤ 100
end Yd
namespace Yd
open PySem L2
section
variable {P : Program} {w : World} {K : PySem.W.Frag} {mg : Str → Option Value} {base : Heap} {CX : CXT}
theorem scBadCountInit : SupScope ["self", "count", "__class__"] ["self", "count"] (defScope sBadCountInit) := ⟨NdefX.nscope_by (by decide +kernel), rfl⟩
def fsBadCount : List V → List (Str × V)
  | [v0] => [("count", v0)]
  | _ => []
def okBadCount : List V → Prop
  | [v0] => True
  | _ => False
theorem ok_BadCountInit {f D cc : Addr} {fd : FuncData} (F : SupFn P K mg "__init__" "BadCount.__init__" sBadCountInit f D cc fd) (S : SupC K D D) (n0 : PySem.W.findIn K (.ref D) "count" = some none) : FnOk P w K mg base CX 1 f fd ["self", "count"] (spErr D 1 okBadCount fsBadCount) := by
  refine fn_sup F scBadCountInit rfl rfl rfl rfl (fun vs H Q E h => ?_) (fun _ _ => rfl) (fun _ => rfl) (fun _ => rfl) (fun Fn A outer s H vs Q E hsc hcl hr h => ?_)
  · obtain ⟨a, us, rfl, hl, _⟩ := h
    rw [List.length_cons, hl]
    rfl
  · obtain ⟨a, us, rfl, hl, ok, ha, k⟩ := h
    obtain ⟨nm, ql, pr, bd, scp, cl, cdx⟩ := Fn
    simp only at hsc hcl
    subst hsc hcl
    match us, hl, ok, k with
    | [v0], _, _, k =>
      refine ⟨_, _, a, D, pe_str, (pss_one (ps_ost (pv 0) (pv 1))), rfl, S, ha, ?_⟩
      refine ⟨ha, ?_⟩
      refine ⟨_, rfl, _, rfl, a, D, rfl, S.ox, n0, .inl ⟨ha, fun dx hd hda => ?_⟩⟩
      refine k dx _ hd hda upd_same (by rw [upd_ne hda]; exact upd_same) fun b hb1 hb2 => ?_
      rw [upd_ne hb1, upd_ne hb2]
theorem scLackingInit : SupScope ["self", "kind", "standing", "__class__"] ["self", "kind", "standing"] (defScope sLackingInit) := ⟨NdefX.nscope_by (by decide +kernel), rfl⟩
def fsLacking : List V → List (Str × V)
  | [v0, v1] => [("standing", v1), ("kind", v0)]
  | _ => []
def okLacking : List V → Prop
  | [v0, v1] => isTxt v0 ∧ isTxt v1
  | _ => False
theorem ok_LackingInit {f D cc : Addr} {fd : FuncData} (F : SupFn P K mg "__init__" "Lacking.__init__" sLackingInit f D cc fd) (S : SupC K D D) (n0 : PySem.W.findIn K (.ref D) "kind" = some none) (n1 : PySem.W.findIn K (.ref D) "standing" = some none) : FnOk P w K mg base CX 1 f fd ["self", "kind", "standing"] (spErr D 2 okLacking fsLacking) := by
  refine fn_sup F scLackingInit rfl rfl rfl rfl (fun vs H Q E h => ?_) (fun _ _ => rfl) (fun _ => rfl) (fun _ => rfl) (fun Fn A outer s H vs Q E hsc hcl hr h => ?_)
  · obtain ⟨a, us, rfl, hl, _⟩ := h
    rw [List.length_cons, hl]
    rfl
  · obtain ⟨a, us, rfl, hl, ok, ha, k⟩ := h
    obtain ⟨nm, ql, pr, bd, scp, cl, cdx⟩ := Fn
    simp only at hsc hcl
    subst hsc hcl
    match us, hl, ok, k with
    | [v0, v1], _, ⟨⟨x0, e0, l0⟩, ⟨x1, e1, l1⟩⟩, k =>
      subst e0
      subst e1
      refine ⟨_, _, a, D, pe_joined (PJ.cons pe_str (PJ.cons (pe_fmt (pv 1)) (PJ.cons pe_str (PJ.cons (pe_fmt (pv 2)) PJ.nil)))), (pss_cons (ps_ost (pv 0) (pv 1)) (pss_one (ps_ost (pv 0) (pv 2)))), rfl, S, ha, ?_⟩
      refine js_short (fun out => ?_) _ _ (fun t ht => ?_) (by decide)
      rotate_left
      · simp only [List.mem_cons, List.not_mem_nil, or_false] at ht
        rcases ht with rfl | rfl | rfl | rfl
        · exact short_c
        · exact short_v rfl l0
        · exact short_c
        · exact short_v rfl l1
      refine ⟨ha, ?_⟩
      refine ⟨_, rfl, _, rfl, a, D, rfl, S.ox, n0, .inl ⟨ha, fun dx hd hda => ?_⟩⟩
      refine ⟨_, rfl, _, rfl, a, D, rfl, S.ox, n1, .inr ⟨dx, [("kind", V.str x0)], ?_, ?_, (by show 1 ≤ 900; decide), ?_⟩⟩
      · exact upd_same
      · rw [upd_ne hda]; exact upd_same
      refine k dx _ hd hda (by simp only [upd_ne (Ne.symm hda), upd_same]) upd_same fun b hb1 hb2 => ?_
      simp only [upd_ne hb1, upd_ne hb2]
end
end Yd
namespace Yd
open PySem L2
/-! ### the errors as they are raised; the steps of a kind in the heap -/
/-- an error class as the top has made it, with what its __init__ promises -/
structure ErrOk (P : Program) (w : World) (K : PySem.W.Frag) (mg : Str → Option Value) (base : Heap) (x : Str) (C : Addr) (n : Nat) (ok : List V → Prop) (fs : List V → List (Str × V)) : Prop where
  g : mg x = some (.ref C)
  ox : OexC K C
  ini : ∃ fI fd ps, PySem.W.findIn K (.ref C) "__init__" = some (some (.ref fI)) ∧ PySem.W.typeIn K (.ref fI) = some (.type "function") ∧ FnOk P w K mg base CX0 1 fI fd ps (spErr C n ok fs) ∧ Binds K fd ps []
/-- what a raised error asks: its class, its fields, its own new dict -/
def Raised (C : Addr) (us : List V) (fs : List V → List (Str × V)) (H : Hp) (E : XK) : Prop := ∀ d H', Same H H' → H d = none → H' d = some (.xd (fs us)) → E (.ref C) (some d) H'
section
variable {X : Cx} {x : Str} {C : Addr} {n : Nat} {ok : List V → Prop} {fs : List V → List (Str × V)} {e : Expr} {es : List Expr} {ta : TA} {p pos : Pos}
theorem pmk_err (O : ErrOk X.prog X.w X.K X.mg X.base x C n ok fs) (hr : Room 2 X.A) (hg : Gl X x) (ha : PA X (e :: es) ta)
    (hdb : (x == ("__debug__" : Str)) = false := by decide) (he : starEach (e :: es) X.env = (false, eval e X.env) :: starEach es X.env := by rfl) (hpl : (backTo pos (starEach es X.env)).any (·.1) = false := by rfl) :
    PMk X (.Call (.Name x p) (e :: es) [] pos) (tMkO C (spErr C n ok fs) [] ta) := by
  obtain ⟨fI, fd, ps, i1, i2, F, b⟩ := O.ini
  exact pmk_oex O.ox i1 i2 F hr b .nil pass0 hg O.g ha hdb he hpl
/-- the reading of a raise, answered -/
theorem err_read {us : List V} {H1 : Hp} {Q : XK} (hl : us.length = n) (hn : n ≤ 1000) (hok : ok us) (hR : Raised C us fs H1 Q) : us.length ≤ 1000 ∧ ∀ a, H1 a = none → spErr C n ok fs (.ref a :: (us ++ [])) (upd H1 a (exo a C none))
      (fun v H2 => v = .non ∧ ∃ (d : Addr) (gs : List (Str × V)), H2 a = some (exo a C (some d)) ∧ H2 d = some (exd d gs) ∧ H1 d = none ∧ Q (.ref C) (some d) (upd (del H2 a) d (.xd gs))) (fun _ _ _ => False) := by
  refine ⟨by omega, fun a ha => ⟨a, us, by rw [List.append_nil], hl, hok, upd_same, fun d H' hd hda h1 h2 h3 => ?_⟩⟩
  have hd1 : H1 d = none := by rw [upd_ne hda] at hd; exact hd
  refine ⟨rfl, d, fs us, h1, h2, hd1, hR d _ (fun b o q => ?_) hd1 upd_same⟩
  have nb : b ≠ a := ne_of_none q ha
  have nd : b ≠ d := ne_of_none q hd1
  rw [upd_ne nd, del_ne nb, h3 b nb nd, upd_ne nb]
  exact q
end

/-! ### dicts from texts to addresses -/
def dP (ss : List Str) (es : List Addr) : List (Key × V) := (ss.zip es).map fun p => (Sum.inr p.1, V.ref p.2)
theorem dP_nil {es : List Addr} : dP [] es = [] := rfl
theorem dP_cons {s : Str} {ss : List Str} {e : Addr} {es : List Addr} : dP (s :: ss) (e :: es) = (Sum.inr s, V.ref e) :: dP ss es := rfl
theorem dP_none : ∀ {ss : List Str} {es : List Addr} {s : Str}, s ∉ ss → valV (dP ss es) (Sum.inr s : Key) = none
  | [], _, _, _ => rfl
  | _ :: _, [], _, _ => rfl
  | a :: r, e :: es, s, h => by
    have h1 : ¬ (Sum.inr a : Key) = Sum.inr s := fun z => h (by injection z with z; rw [z]; exact List.mem_cons_self ..)
    rw [dP_cons, valV_neg h1]
    exact dP_none fun m => h (List.mem_cons_of_mem _ m)
theorem dP_some : ∀ {ss : List Str} {es : List Addr} {i : Nat} {s : Str} {e : Addr}, ss.Nodup → ss[i]? = some s → es[i]? = some e → valV (dP ss es) (Sum.inr s : Key) = some (.ref e)
  | [], _, _, _, _, _, h, _ => by simp at h
  | _ :: _, [], _, _, _, _, _, h => by simp at h
  | a :: r, b :: es, 0, s, e, _, h1, h2 => by
    simp at h1 h2
    subst h1 h2
    exact valV_pos rfl
  | a :: r, b :: es, i + 1, s, e, nd, h1, h2 => by
    have hm : s ∈ r := List.mem_of_getElem? (by simpa using h1)
    have n1 : ¬ (Sum.inr a : Key) = Sum.inr s := fun z => (List.nodup_cons.mp nd).1 (by injection z with z; rw [z]; exact hm)
    rw [dP_cons, valV_neg n1]
    exact dP_some (i := i) (List.nodup_cons.mp nd).2 (by simpa using h1) (by simpa using h2)
theorem dP_snoc {s : Str} {e : Addr} : ∀ {ss : List Str} {es : List Addr}, ss.length = es.length → dP (ss ++ [s]) (es ++ [e]) = dP ss es ++ [(Sum.inr s, V.ref e)]
  | [], [], _ => rfl
  | [], _ :: _, h => by simp at h
  | _ :: _, [], h => by simp at h
  | a :: r, b :: es, h => by
    show (Sum.inr a, V.ref b) :: dP (r ++ [s]) (es ++ [e]) = _
    rw [dP_snoc (by simpa using h)]
    rfl
theorem dP_len : ∀ {ss : List Str} {es : List Addr}, ss.length = es.length → (dP ss es).length = ss.length
  | [], [], _ => rfl
  | [], _ :: _, h => by simp at h
  | _ :: _, [], h => by simp at h
  | a :: r, b :: es, h => by rw [dP_cons, List.length_cons, List.length_cons, dP_len (by simpa using h)]
theorem dP_is {ss : List Str} {es : List Addr} {s : Str} (nd : ss.Nodup) (hl : ss.length = es.length) : (valV (dP ss es) (Sum.inr s : Key)).isSome = decide (s ∈ ss) := by
  by_cases h : s ∈ ss
  · obtain ⟨i, hi⟩ := List.mem_iff_getElem?.mp h
    have hj : i < es.length := by rw [← hl]; exact (List.getElem?_eq_some_iff.mp hi).1
    rw [dP_some nd hi (List.getElem?_eq_getElem hj), decide_eq_true h]
    rfl
  · rw [dP_none h, decide_eq_false h]
    rfl
theorem dP_key {ss : List Str} {es : List Addr} {i : Nat} {k : Key} {v : V} (hl : ss.length = es.length) (h : (dP ss es)[i]? = some (k, v)) : ∃ s e, ss[i]? = some s ∧ es[i]? = some e ∧ k = Sum.inr s ∧ v = .ref e := by
  have hi : i < ss.length := by rw [← dP_len hl]; exact (List.getElem?_eq_some_iff.mp h).1
  have hj : i < es.length := by omega
  unfold dP at h
  have ez : (ss.zip es)[i]? = some (ss[i], es[i]) := List.getElem?_zip_eq_some.mpr ⟨List.getElem?_eq_getElem hi, List.getElem?_eq_getElem hj⟩
  rw [List.getElem?_map, ez] at h
  have h := Option.some.inj h
  injection h with h1 h2
  exact ⟨_, _, List.getElem?_eq_getElem hi, List.getElem?_eq_getElem hj, h1.symm, h2.symm⟩
theorem dP_keys {ss : List Str} {es : List Addr} (hl : ss.length = es.length) : ((dP ss es).map fun kv => kV kv.1) = ss.map V.str := by
  unfold dP
  rw [List.map_map]
  have e : ((fun kv : Key × V => kV kv.1) ∘ fun p : Str × Addr => ((Sum.inr p.1 : Key), V.ref p.2)) = V.str ∘ Prod.fst := rfl
  rw [e, ← List.map_map, List.map_fst_zip (by omega)]

/-- the steps of a kind: at ds the dict of its standings ss, at es the dicts of the standings to which R leads, at most m in each -/
structure StepsAt (H : Hp) (ds : Addr) (ss : List Str) (es : List Addr) (R : Str → Str → Bool) (m : Nat) : Prop where
  d : H ds = some (.dK (dP ss es))
  len : ss.length = es.length
  nd : ss.Nodup
  ed : es.Nodup
  no : ds ∉ es
  at_ : ∀ (i : Nat) (e : Addr) (s : Str), es[i]? = some e → ss[i]? = some s → ∃ kvs : List (Key × V), H e = some (.dK kvs) ∧ kvs.length ≤ m ∧ ∀ t : Str, (valV kvs (Sum.inr t)).isSome = R s t
theorem StepsAt.keep {H H' : Hp} {ds : Addr} {ss : List Str} {es : List Addr} {R : Str → Str → Bool} {m : Nat} (S : StepsAt H ds ss es R m) (k : ∀ b kvs, H b = some (.dK kvs) → H' b = some (.dK kvs)) : StepsAt H' ds ss es R m :=
  ⟨k _ _ S.d, S.len, S.nd, S.ed, S.no, fun i e s h1 h2 => let ⟨kvs, h, r⟩ := S.at_ i e s h1 h2; ⟨kvs, k _ _ h, r⟩⟩
/-- an object of the class at C with these steps -/
def KindAt (H : Hp) (a C : Addr) (ss : List Str) (R : Str → Str → Bool) (m : Nat) : Prop := ∃ dx fs ds es, H a = some (.ins C dx fs) ∧ fs.lookup ("_steps" : Str) = some (.ref ds) ∧ fs.lookup ("allow" : Str) = none ∧ fs.lookup ("standings" : Str) = none ∧ fs.lookup ("steps_from" : Str) = none ∧ StepsAt H ds ss es R m
/-- nothing that isn't a dict has changed -/
def NoD (H H' : Hp) : Prop := ∀ b o, H b = some o → (∀ kvs, o ≠ .dK kvs) → H' b = some o
/-- what a class of kinds must have -/
structure KindC (K : PySem.W.Frag) (C fA fS fF : Addr) : Prop where
  cls : Cls K C
  nS : NoAttr K C "_steps"
  mA : Meth K C "allow" fA
  mS : Meth K C "standings" fS
  mF : Meth K C "steps_from" fF
end Yd
namespace Yd
open PySem L2
/-! ### several clauses, each «except X as n» -/
/-- behind the suite n has no value any more -/
def offAt (i : Nat) (D : Ends) : Ends := { nx := fun σ' H' => D.nx (σ'.set i none) H', rt := D.rt, bk := fun σ' H' => D.bk (σ'.set i none) H', ct := fun σ' H' => D.ct (σ'.set i none) H' }
def wAses (K : PySem.W.Frag) (i : Nat) (Wout : WX) (D : Ends) : List (Value × (Addr → Value → Option Addr → TS)) → WX
  | [] => Wout
  | (c, ts) :: r => fun cls d σ H => ∃ b, PySem.W.exmOne K cls c = some b ∧ (b = true → ∀ a, H a = none → ts a cls d (offAt i D) (σ.set i (some (.ref a))) H) ∧ (b = false → wAses K i Wout D r cls d σ H)
inductive HdsAs (X : Cx) (n : Str) : List ExceptHandler → List (Value × (Addr → Value → Option Addr → TS)) → Prop
  | nil : HdsAs X n [] []
  | cons {x : Str} {c : Value} {ts : Addr → Value → Option Addr → TS} {b₀ : Stmt} {suite : List Stmt} {np ps : Pos} {hds : List ExceptHandler} {l : List (Value × (Addr → Value → Option Addr → TS))} (hc : Names X x c)
      (hsu : ∀ (a : Addr) (oe : Obj) (cls : Value) (d : Option Addr) (pn : List (Addr × Obj)), Zc cls d oe → (∃ vs, oe.data = .fields vs) → PSs (X.suite a ((a, oe) :: pn)) (b₀ :: suite) (ts a cls d)) (r : HdsAs X n hds l) :
      HdsAs X n (.ExceptHandler (some (.Name x np)) (some n) (b₀ :: suite) ps :: hds) ((c, ts) :: l)
section
variable {X : Cx} {n : Str} {i : Nat} {body : List Stmt} {k₀ : ExceptHandler} {ks : List ExceptHandler} {l : List (Value × (Addr → Value → Option Addr → TS))} {pos : Pos} {tb : WX → TS} {Wout : WX}
theorem ps_try_ases (hst : X.stack = X.env :: X.outer) (hfr0 : X.env.frame = some X.env.locals) (hN : X.N.Nodup) (hi : X.N[i]? = some n) (hln : X.env.kindOf n = some .local) (out : Takes X Wout)
    (hb : ∀ (W : WX) (pn : List (Addr × Obj)) (xe : Value → Shared → Prop), Takes (X.tr pn xe) W → PassesOwn (model X.prog X.w) X.A X.env xe → PSs (X.tr pn xe) body (tb W))
    (hh : HdsAs X n (k₀ :: ks) l) : PS X (.Try body (k₀ :: ks) [] [] pos) (fun D σ H => tb (wAses X.K i Wout D l) D σ H) := by
  refine ⟨fun pins s σ H D I h => wpAny_Try_except ?_⟩
  have okX := I.ok
  have frames : X.A.frames = some (X.env :: X.outer) := by rw [okX.frames, hst]
  have nloc : Loc X.env.scope n := .inl hln
  let wish : Value → Shared → Prop := fun e s₁ => wpAny (model X.prog X.w) X.A (noteFrame e X.env) (fun _ s₂ => wpAny (model X.prog X.w) X.A (setFlight e none) (fun _ s₃ => wpAny (model X.prog X.w) X.A (handleBy e X.env (k₀ :: ks)) (SP X pins D) X.xe s₃) X.xe s₂) X.xe s₁
  refine wpAny_mono ((hb (wAses X.K i Wout D l) (X.pn ++ pins) wish (fun u s' xx => ?_) PassesOwn.looking).run [] s σ H D (I.toTry _) h) (fun f s1 ended => ?_) fun e s1 he => he
  · obtain ⟨a, B, sI, pins', σ1, H1, cls, d, rfl, J0, nb, up, sky, na, os, ag, ww⟩ := xx
    have J : Inv X pins σ1 H1 sI := J0.ofTry okX
    have sky1 : Sky B (X.env :: X.outer) a (Zc cls d) X.env.locals s'.heap := hst ▸ sky
    refine Sky.land Zc.steady frames hfr0 sky1 fun h3 fl3 up3 => ?_
    have JL : Inv X pins σ1 H1 { s' with heap := h3 } := J.landed nb fl3.1 (up.trans up3) os ag
    obtain ⟨oe3, vs3, he3, hz3, hd3⟩ := fl3.there
    have outside : a ∉ frs (X.env :: X.outer) := fun hm => by
      obtain ⟨_, o', e', hnf⟩ := fl3.2.2.1.mem hm
      rw [he3] at e'
      cases e'
      exact hnf _ hd3
    have nL : a ≠ X.env.locals := fun z => outside (List.mem_filterMap.mpr ⟨X.env, List.mem_cons_self, by rw [hfr0, z]⟩)
    have nF : a ∉ X.fs := fun hm => by
      obtain ⟨e, he, q⟩ := List.mem_filterMap.mp hm
      exact outside (List.mem_filterMap.mpr ⟨e, List.mem_cons_of_mem _ he, q⟩)
    have SL := JL.suite he3 hd3 na nL nF
    have LT : PySem.W.Looks (model X.prog X.w) h3 (typeOf (.ref a)) cls := fun A Q E s k q => wpAny_typeOf_ref (k _ _ he3) (hz3.1 ▸ q)
    have each : ∀ {hs : List ExceptHandler} {ls : List (Value × (Addr → Value → Option Addr → TS))}, HdsAs X n hs ls → wAses X.K i Wout D ls cls d σ1 H1 →
        wpAny (model X.prog X.w) X.A (handleBy (.ref a) X.env hs) (SP X pins D) X.xe { s' with heap := h3 } := by
      intro hs ls hh
      induction hh with
      | nil =>
        intro w0
        refine wpAny_handleBy_nil ?_
        obtain ⟨_, _, _, oe, vs, T, oT, _, he, hz, hd, h1, _⟩ := id fl3
        unfold PySem.passOn
        refine wpAny_bind (wpAny_field he hd h1 ?_)
        have nt : ¬ ((Value.ref T == Value.none) = true) := by simp
        rw [if_neg nt]
        have fin : wpAny (model X.prog X.w) X.A (setFlight (.ref a) X.env.frame) (fun _ s4 => wpAny (model X.prog X.w) X.A (throw (.ref a) : Sem Flow) (SP X pins D) X.xe s4) X.xe { s' with heap := h3 } := by
          rw [hfr0]
          refine HandSPX.setFlight_upZ fl3 fun h4 hh4 up4 => wpAny_throw (out _ _ ?_)
          exact ⟨a, B, sI, pins, σ1, H1, cls, d, rfl, J, nb, (up.trans up3).trans up4, .inr (.inr (hst.symm ▸ hh4)), na, os, ag, w0⟩
        first
          | exact wpAny_bind (wpAny_pure (wpAny_bind fin))
          | exact wpAny_bind fin
      | @cons x c ts b₀ suite np ps hds2 l2 hc hsu r ih =>
        rintro ⟨b, hb1, hyes, hno⟩
        refine wpAny_handleBy_cons (codeAny_handlers_test ?_) (by intro q; cases q)
        have LM := PySem.W.exm_one (M := model X.prog X.w) JL.kIn LT hb1
        have named : ∀ {Q : Value → Shared → Prop} {E : Value → Shared → Prop}, Q c { s' with heap := h3 } → wpAny (model X.prog X.w) (X.A.mark (some (.ref a))) (eval (.Name x np) X.env) Q E { s' with heap := h3 } := fun {Q E} q => by
          obtain ⟨hg, hdbg, hm | ⟨hm, hv, hnn⟩⟩ := hc
          · exact ld_glob (X := X.suite a ((a, oe3) :: (X.pn ++ pins))) SL hg hm q hdbg
          · exact ld_blt (X := X.suite a ((a, oe3) :: (X.pn ++ pins))) SL hg hm hv q hnn hdbg
        refine named (LM.here ?_)
        cases b with
        | false =>
          show wpAny (model X.prog X.w) X.A (handleBy (.ref a) X.env hds2) (SP X pins D) X.xe _
          exact ih (hno rfl)
        | true =>
          refine codeAny_handlers_suite_as (HandSPX.lands_againZ fl3 fun h4 fl4 up4 => ?_)
          have J4 : Inv X pins σ1 H1 { s' with heap := h4 } := J.landed nb fl4.1 ((up.trans up3).trans up4) os ag
          obtain ⟨oe4, vs4, he4, hz4, hd4⟩ := fl4.there
          refine store_ok (X := X.suite a ((a, oe4) :: (X.pn ++ pins))) (v := .ref a) (J4.suite he4 hd4 na nL nF) hN hi nloc rfl (fun s5 S5 => ?_) (.inr hln)
          refine wpAny_mono ((hsu a oe4 cls d (X.pn ++ pins) hz4 ⟨_, hd4⟩).run [] s5 _ H1 _ S5 (hyes rfl a na)) (fun f s6 he6 => ?_) fun _ _ z => z.elim
          have gone : ∀ {σ6 : St} {H6 : Hp} {Q : Shared → Prop}, Inv (X.suite a ((a, oe4) :: (X.pn ++ pins))) [] σ6 H6 s6 → (∀ s7, Inv X pins (σ6.set i none) H6 s7 → Q s7) →
              wpAny (model X.prog X.w) X.A (do bindName X.env n .none; unbindBehindTheSuite X.env n ps) (fun _ s7 => Q s7) X.xe s6 := fun S6 hq => gone_ok (S6.unsuite okX) hN hi hln hq
          cases f with
          | next => exact let ⟨_, _, S6, q6⟩ := he6; gone S6 fun s7 J7 => ⟨_, _, J7, q6⟩
          | brk => exact let ⟨_, _, S6, q6⟩ := he6; gone S6 fun s7 J7 => ⟨_, _, J7, q6⟩
          | cont => exact let ⟨_, _, S6, q6⟩ := he6; gone S6 fun s7 J7 => ⟨_, _, J7, q6⟩
          | ret u => exact let ⟨_, _, _, S6, r6, q6⟩ := he6; gone S6 fun s7 J7 => ⟨_, _, _, J7, r6, q6⟩
    exact each hh ww
  · cases f with
    | next => exact let ⟨σ', H', J', q⟩ := ended; wpAny_execs_nil ⟨σ', H', J'.ofTry okX, q⟩
    | brk => exact let ⟨σ', H', J', q⟩ := ended; ⟨σ', H', J'.ofTry okX, q⟩
    | cont => exact let ⟨σ', H', J', q⟩ := ended; ⟨σ', H', J'.ofTry okX, q⟩
    | ret u => exact let ⟨v, σ', H', J', r, q⟩ := ended; ⟨v, σ', H', J'.ofTry okX, r, q⟩
end
end Yd
namespace Yd
open PySem L2
/-! ### == and in of data -/
section
variable {X : Cx}
/-- both read as the same data -/
def rEqS (K : PySem.W.Frag) : R2 := fun x y H Q => ∃ d, Dp K H x d ∧ Dp K H y d ∧ d.plain = true ∧ d.depth ≤ 60 ∧ Q (.bl true) H
def rNeS (K : PySem.W.Frag) : R2 := fun x y H Q => ∃ d, Dp K H x d ∧ Dp K H y d ∧ d.plain = true ∧ d.depth ≤ 60 ∧ Q (.bl false) H
theorem op_eqS (hu : X.A.units + 64 < cLine) : OpR X (compareOp .Eq) (rEqS X.K) := by
  intro pins s σ H x y v u Q I rx ry h
  obtain ⟨d, hd, he, pd, dd, q⟩ := h
  obtain ⟨as, r1⟩ := Dp.reads I d x v hd rx
  obtain ⟨bs, r2⟩ := Dp.reads I d y u he ry
  refine SeqAt.eq_plain r1 r2 pd pd (by omega) ⟨.bl _, H, I, rfl, ?_⟩
  rw [SeqAt.eqv_refl_plain d pd]
  exact q
theorem op_neS (hu : X.A.units + 64 < cLine) : OpR X (compareOp .NotEq) (rNeS X.K) := by
  intro pins s σ H x y v u Q I rx ry h
  obtain ⟨d, hd, he, pd, dd, q⟩ := h
  obtain ⟨as, r1⟩ := Dp.reads I d x v hd rx
  obtain ⟨bs, r2⟩ := Dp.reads I d y u he ry
  refine SeqAt.ne_plain r1 r2 pd pd (by omega) ⟨.bl _, H, I, rfl, ?_⟩
  rw [SeqAt.eqv_refl_plain d pd]
  exact q
/-- an item in a list, both with a Lean type -/
def rInY (K : PySem.W.Frag) (α : Type) [DecidableEq α] [PySem.W.Datum α] : R2 := fun x y H Q => ∃ (a : α) (as : List α), Dp K H x (PySem.W.Datum.toD a) ∧ Dp K H y (.list (as.map PySem.W.Datum.toD)) ∧ Q (.bl (decide (a ∈ as))) H
theorem any_toD {α : Type} [DecidableEq α] [PySem.W.Datum α] (a : α) : ∀ as : List α, ((as.map PySem.W.Datum.toD).any fun z => PyData.eqv z (PySem.W.Datum.toD a)) = decide (a ∈ as)
  | [] => by simp
  | b :: bs => by
    rw [List.map_cons, List.any_cons, any_toD a bs, PySem.W.Datum.eqv, ← Bool.decide_or]
    refine decide_eq_decide.mpr ?_
    rw [List.mem_cons]
    exact ⟨fun h => h.imp Eq.symm id, fun h => h.imp Eq.symm id⟩
theorem op_inY {α : Type} [DecidableEq α] [PySem.W.Datum α] (hd : PySem.W.Datum.depth α ≤ 60) (hu : X.A.units + 65 < cLine) : OpR X (compareOp .In) (rInY X.K α) := by
  intro pins s σ H x y v u Q I rx ry h
  obtain ⟨a, as, h1, h2, q⟩ := h
  obtain ⟨_, r1⟩ := Dp.reads I _ x v h1 rx
  obtain ⟨_, r2⟩ := Dp.reads I _ y u h2 ry
  have d1 := PySem.W.Datum.depth_le (α := α) a
  refine SeqAt.in_list_data r2 r1 (PySem.W.plainAll_map as) (PySem.W.Datum.plain a) (by omega) ⟨.bl _, H, I, rfl, ?_⟩
  rw [any_toD]
  exact q
end
theorem dp_strs {K : PySem.W.Frag} {H : Hp} : ∀ ss : List Str, DpAll K H (ss.map V.str) (ss.map PyData.str)
  | [] => .nil
  | s :: ss => .cons (.str s) (dp_strs ss)
theorem plain_strs (ss : List Str) : PyData.plainAll (ss.map PyData.str) = true := PySem.W.plainAll_map (α := Str) ss
theorem depth_strs (ss : List Str) : PyData.depthAll (ss.map PyData.str) ≤ 0 := PySem.W.depthAll_map (α := Str) ss
theorem plain_tup (ss : List Str) : (PyData.tuple (ss.map PyData.str)).plain = true := by simp only [PyData.plain]; exact plain_strs ss
theorem depth_tup (ss : List Str) : (PyData.tuple (ss.map PyData.str)).depth ≤ 60 := by
  have h := depth_strs ss
  simp only [PyData.depth]
  omega
theorem plain_lst (ss : List Str) : (PyData.list (ss.map PyData.str)).plain = true := by simp only [PyData.plain]; exact plain_strs ss
theorem depth_lst (ss : List Str) : (PyData.list (ss.map PyData.str)).depth ≤ 60 := by
  have h := depth_strs ss
  simp only [PyData.depth]
  omega
/-- a tuple of texts -/
theorem dp_tup {K : PySem.W.Frag} {H : Hp} {a : Addr} {ss : List Str} (h : SqT K H a (ss.map V.str)) : Dp K H (.ref a) (.tuple (ss.map PyData.str)) := .tup h (dp_strs ss)
theorem dp_lst {K : PySem.W.Frag} {H : Hp} {a : Addr} {ss : List Str} (h : SqL K H a (ss.map V.str)) : Dp K H (.ref a) (.list (ss.map PyData.str)) := .lst h (dp_strs ss)
/-- a list of pairs of texts -/
def PairsAt (H : Hp) : List V → List (Str × Str) → Prop
  | [], [] => True
  | v :: xs, p :: ps => (∃ t, v = .ref t ∧ H t = some (.tup [.str p.1, .str p.2])) ∧ PairsAt H xs ps
  | _, _ => False
theorem PairsAt.keep {H H' : Hp} (k : ∀ t xs, H t = some (.tup xs) → H' t = some (.tup xs)) : ∀ {xs : List V} {ps : List (Str × Str)}, PairsAt H xs ps → PairsAt H' xs ps
  | [], [], _ => True.intro
  | v :: xs, p :: ps, ⟨⟨t, e, h⟩, r⟩ => ⟨⟨t, e, k _ _ h⟩, PairsAt.keep k r⟩
  | [], _ :: _, h => h.elim
  | _ :: _, [], h => h.elim
theorem PairsAt.snoc {H : Hp} {t : Addr} {p : Str × Str} (e : H t = some (.tup [.str p.1, .str p.2])) : ∀ {xs : List V} {ps : List (Str × Str)}, PairsAt H xs ps → PairsAt H (xs ++ [.ref t]) (ps ++ [p])
  | [], [], _ => ⟨⟨t, rfl, e⟩, True.intro⟩
  | v :: xs, q :: ps, ⟨h, r⟩ => ⟨h, PairsAt.snoc e r⟩
  | [], _ :: _, h => h.elim
  | _ :: _, [], h => h.elim
theorem PairsAt.len {H : Hp} : ∀ {xs : List V} {ps : List (Str × Str)}, PairsAt H xs ps → xs.length = ps.length
  | [], [], _ => rfl
  | v :: xs, q :: ps, ⟨_, r⟩ => by rw [List.length_cons, List.length_cons, PairsAt.len r]
  | [], _ :: _, h => h.elim
  | _ :: _, [], h => h.elim
theorem dp_pair {K : PySem.W.Frag} {H : Hp} {t : Addr} {p : Str × Str} (h : H t = some (.tup [.str p.1, .str p.2])) : Dp K H (.ref t) (PySem.W.Datum.toD p) := .tup (SqT.of h) (.cons (.str _) (.cons (.str _) .nil))
theorem PairsAt.dp {K : PySem.W.Frag} {H : Hp} : ∀ {xs : List V} {ps : List (Str × Str)}, PairsAt H xs ps → DpAll K H xs (ps.map PySem.W.Datum.toD)
  | [], [], _ => .nil
  | v :: xs, q :: ps, ⟨⟨t, e, h⟩, r⟩ => by subst e; exact .cons (dp_pair h) (PairsAt.dp r)
  | [], _ :: _, h => h.elim
  | _ :: _, [], h => h.elim
end Yd
namespace Yd
open PySem L2
/-! ### own __getitem__ and __setitem__ -/
section
open PySem.W
theorem deeper1 {P : Program} {w : World} {K : Frag} {mg : Str → Option Value} {base : Heap} {A : Around} {out : List Env} {s : Shared} {H : Hp} (e : Env0 P w K mg base A out s H) : Env0 P w K mg base A.in1 out s H :=
  ⟨by exact e.frames, e.mod, e.bs, e.bsz, e.funs, e.frf, e.hok, e.bare⟩
theorem at_all {CX : CXT} {X : Cx} {E : XK} (h : Passes CX X E) : ∀ σ : St, PassesAt CX X σ E := fun σ pins H s e s' I c => h pins σ H s e s' I c
variable {X : Cx} {CX : CXT} {k : Nat} {f C : Addr} {fd : FuncData} {ps : List Str} {sp : Sp} {E : St → XK} {pos : Pos} {o i : Expr} {to ti : TE}
/-- a call of a def one level down -/
theorem run_in1 {pins : List (Addr × Obj)} {σ : St} {H : Hp} {s : Shared} {Q : VK} {us : List Value} {vs : List V} (F : FnOk X.prog X.w X.K X.mg X.base CX k f fd ps sp) (hr : Room (k + 1) X.A) (hb : Binds X.K fd ps []) (hx : PassesAt CX X σ (E σ))
    (I : Inv X pins σ H s) (r : Vals vs us) (h : sp vs H Q (E σ)) : wpAny (model X.prog X.w) X.A.in1 (call (.ref f) us) (EP X pins σ Q) X.xe s := by
  have hl : (us ++ []).length = ps.length := by rw [List.append_nil, ← r.length]; exact F.len _ _ _ _ h
  have b := hb s us I.kIn hl
  rw [List.append_nil] at b
  refine wpAny_call (codeAny_mono (F.run X.A.in1 X.stack s H ⟨us, []⟩ us vs Q (E σ) hr.in1 (deeper1 I.env0) b r h) fun r s' hq => ?_)
  match r, hq with
  | .error e, hq => exact hx pins H s e s' I hq
  | .ok (.ret u), hq => exact I.after hq
/-- an own class whose items are read by a def of its own -/
structure ItemC (K : Frag) (C : Addr) (m : Str) (f : Addr) : Prop where
  at_ : findIn K (.ref C) m = some (some (.ref f))
  fn : isFn K (.ref f) = true
  fi : fnIn K f = true
  noq : noSeq K C = true
def tSubO (C : Addr) (sp : Sp) (E : St → XK) (to ti : TE) : TE := fun σ H Q => to σ H fun x H1 => ti σ H1 fun y H2 => ∃ a dx fs, x = .ref a ∧ H2 a = some (.ins C dx fs) ∧ sp [x, y] H2 Q (E σ)
theorem pe_subO (ho : PE X o to) (hi : PE X i ti) (c : ItemC X.K C "__getitem__" f) (F : FnOk X.prog X.w X.K X.mg X.base CX k f fd ps sp) (hr : Room (k + 1) X.A) (hb : Binds X.K fd ps []) (hx : ∀ σ, PassesAt CX X σ (E σ))
    (hsl : ∀ x i', subscripted i true (.ref x) i' = runValue (.builtin "lifetime.subscript" ⟨[.ref x, i'], []⟩) := by intro _ _; with_unfolding_all rfl) : PE X (.Subscript o i pos) (tSubO C sp E to ti) := by
  refine ⟨fun pins s σ H Q I h => PyProof.Rows.Subscript_ (binT (R := fun x y H2 => ∃ a dx fs, x = V.ref a ∧ H2 a = some (.ins C dx fs) ∧ sp [x, y] H2 Q (E σ)) ho hi I h fun v u s2 x y H2 I2 rx ry hq => ?_)⟩
  obtain ⟨a, dx, fs, rfl, ha, q⟩ := hq
  obtain rfl : v = Value.ref a := rx
  obtain ⟨m, hF⟩ := I2.fr
  obtain ⟨mA, O, _⟩ := ins_get I2.hok ha
  obtain ⟨oa, J, _⟩ := O.look
  exact sub_K hF I2.ok.mod.kin J c.at_ c.fi c.fn (run_in1 F hr hb (hx σ) I2 (Paired.cons (a := V.ref a) rfl (.cons ry .nil)) q) (hsl a u)
def gSubO (C : Addr) (sp : Sp) (E : St → XK) (to ti : TE) : TG := fun v σ H Q => to σ H fun x H1 => ti σ H1 fun y H2 => ∃ a dx fs, x = .ref a ∧ H2 a = some (.ins C dx fs) ∧ sp [x, y, v] H2 (fun _ H3 => Q σ H3) (E σ)
theorem pg_subO (ho : PE X o to) (hi : PE X i ti) (c : ItemC X.K C "__setitem__" f) (F : FnOk X.prog X.w X.K X.mg X.base CX k f fd ps sp) (hr : Room k X.A) (hb : Binds X.K fd ps []) (hx : ∀ σ, PassesAt CX X σ (E σ))
    (ha : ∀ v, assign (.Subscript o i pos) X.env v = (do
      let ov ← holding [v] (eval o X.env)
      let iv ← holding [v, ov] (eval i X.env)
      standAt pos
      holding [v, ov, iv] (setItem ov iv v)
      release [v, ov, iv] []) := by intro _; rfl) : PG X (.Subscript o i pos) (gSubO C sp E to ti) := by
  refine ⟨fun pins s σ H v u Q I r h => ?_⟩
  rw [ha]
  refine wpAny_bind (wpAny_holding (thn (ho.run pins s σ H _ I h) fun ov s1 ⟨x, H1, I1, r1, q1⟩ => wpAny_bind (wpAny_holding (thn (hi.run pins s1 σ H1 _ I1 q1) fun iv s2 ⟨y, H2, I2, r2, a, dx, fs, ex, e2, q2⟩ => ?_))))
  subst ex
  obtain rfl : ov = Value.ref a := r1
  obtain ⟨m, hF⟩ := I2.fr
  obtain ⟨mA, O, _⟩ := ins_get I2.hok e2
  obtain ⟨oa, J, _⟩ := O.look
  refine wpAny_bind (wpAny_standAt (wpAny_bind (wpAny_holding (ksp_setItem hF I2.ok.mod.kin J c.noq c.at_ c.fn (thn (run_fnS F hr hb (hx σ) I2 (Paired.cons (a := V.ref a) rfl (.cons r2 (.cons r .nil))) q2) fun _ s3 ⟨_, H3, I3, _, q3⟩ => wpAny_release ⟨σ, H3, I3, q3⟩)))))
end
end Yd
namespace Yd
open PySem L2
/-! ### own __contains__, __len__, operators and comparisons -/
section
open PySem.W
variable {X : Cx} {CX : CXT} {k : Nat} {f C : Addr} {fd : FuncData} {ps : List Str} {sp : Sp} {E : XK}
/-- the def m of the class at C -/
structure OpC (K : Frag) (C : Addr) (m : Str) (f : Addr) : Prop where
  at_ : findIn K (.ref C) m = some (some (.ref f))
  fn : isFn K (.ref f) = true
/-- x in o -/
def rOwnIn (C : Addr) (sp : Sp) (E : XK) (yes : Bool) : R2 := fun x y H Q => ∃ a dx fs, y = .ref a ∧ H a = some (.ins C dx fs) ∧ sp [y, x] H (fun v H' => ∃ b, v = .bl b ∧ Q (.bl (b == yes)) H') E
theorem op_inO (c : OpC X.K C "__contains__" f) (F : FnOk X.prog X.w X.K X.mg X.base CX k f fd ps sp) (hr : Room k X.A) (hb : Binds X.K fd ps []) (hx : Passes CX X E) : OpR X (compareOp .In) (rOwnIn C sp E true) := by
  intro pins s σ H x y v u Q I rx ry h
  obtain ⟨a, dx, fs, rfl, ha, q⟩ := h
  obtain rfl : u = Value.ref a := ry
  obtain ⟨m, hF⟩ := I.fr
  obtain ⟨mA, O, _⟩ := ins_get I.hok ha
  obtain ⟨oa, J, _⟩ := O.look
  refine in_K hF I.ok.mod.kin J c.at_ c.fn (thn (run_fn (us := [.ref a, v]) (vs := [.ref a, x]) F hr hb .nil hx I (.cons rfl (.cons rx .nil)) q) fun r s1 ⟨z, H1, I1, rz, b, ez, q1⟩ => ?_)
  subst ez
  obtain rfl : r = Value.bool b := rz
  refine wpAny_truthy_bool ⟨.bl b, H1, I1, rfl, ?_⟩
  rw [show (b == true) = b by cases b <;> rfl] at q1
  exact q1
theorem op_notInO (c : OpC X.K C "__contains__" f) (F : FnOk X.prog X.w X.K X.mg X.base CX k f fd ps sp) (hr : Room k X.A) (hb : Binds X.K fd ps []) (hx : Passes CX X E) : OpR X (compareOp .NotIn) (rOwnIn C sp E false) := by
  intro pins s σ H x y v u Q I rx ry h
  obtain ⟨a, dx, fs, rfl, ha, q⟩ := h
  obtain rfl : u = Value.ref a := ry
  obtain ⟨m, hF⟩ := I.fr
  obtain ⟨mA, O, _⟩ := ins_get I.hok ha
  obtain ⟨oa, J, _⟩ := O.look
  refine notIn_K hF I.ok.mod.kin J c.at_ c.fn (thn (run_fn (us := [.ref a, v]) (vs := [.ref a, x]) F hr hb .nil hx I (.cons rfl (.cons rx .nil)) q) fun r s1 ⟨z, H1, I1, rz, b, ez, q1⟩ => ?_)
  subst ez
  obtain rfl : r = Value.bool b := rz
  refine wpAny_truthy_bool ⟨.bl (!b), H1, I1, rfl, ?_⟩
  rw [show (b == false) = !b by cases b <;> rfl] at q1
  exact q1
/-- len(o) -/
def rOwnLen (C : Addr) (sp : Sp) (E : XK) : List V → Hp → VK → Prop := fun xs H Q => ∃ a dx fs, xs = [.ref a] ∧ H a = some (.ins C dx fs) ∧ sp [.ref a] H (fun v H' => ∃ n : Nat, v = .int n ∧ n ≤ sizeLine ∧ Q (.int n) H') E
theorem call_lenO (c : OpC X.K C "__len__" f) (F : FnOk X.prog X.w X.K X.mg X.base CX k f fd ps sp) (hr : Room (k + 1) X.A) (hb : Binds X.K fd ps []) (hx : Passes CX X E) : CallR X (.builtin "len") (rOwnLen C sp E) := by
  intro pins s σ H xs us Q I r h
  obtain ⟨a, dx, fs, rfl, ha, q⟩ := h
  obtain ⟨u, rfl, ru⟩ := vals1 r
  obtain rfl : u = Value.ref a := ru
  obtain ⟨m, hF⟩ := I.fr
  obtain ⟨mA, O, _⟩ := ins_get I.hok ha
  obtain ⟨oa, J, _⟩ := O.look
  refine len_K hF I.ok.mod.kin J c.at_ c.fn (thn (run_in1 (E := fun _ => E) (us := [.ref a]) (vs := [.ref a]) (σ := σ) F hr hb (at_all hx σ) I (.cons rfl .nil) q) fun r s1 ⟨z, H1, I1, rz, n, ez, hn, q1⟩ => ?_)
  subst ez
  obtain ⟨t, rfl⟩ := (show ∃ t, r = Value.int (n : Int) t from rz)
  have h63 : (n : Int) < 2 ^ 63 := by
    have : sizeLine < 2 ^ 63 := by decide
    omega
  exact ⟨⟨Int.natCast_nonneg n, h63⟩, .int n, H1, I1.tok _, ⟨_, rfl⟩, q1⟩
/-- o op p, both of the class at C -/
def rOwnOp (C : Addr) (sp : Sp) (E : XK) : R2 := fun x y H Q => ∃ a b dx dy fs gs, x = .ref a ∧ y = .ref b ∧ H a = some (.ins C dx fs) ∧ H b = some (.ins C dy gs) ∧ sp [x, y] H (fun v H' => ∃ q, v = .ref q ∧ Q (.ref q) H') E
theorem op_ownO {op : Operator} (hc : selfFirst X.K C = true) (c : OpC X.K C (PySem.dunder op.info.2) f) (F : FnOk X.prog X.w X.K X.mg X.base CX k f fd ps sp) (hr : Room k X.A) (hb : Binds X.K fd ps []) (hx : Passes CX X E) : OpR X (binaryOp op) (rOwnOp C sp E) := by
  intro pins s σ H x y v u Q I rx ry h
  obtain ⟨a, b, dx, dy, fs, gs, rfl, rfl, ha, hb', q⟩ := h
  obtain rfl : v = Value.ref a := rx
  obtain rfl : u = Value.ref b := ry
  obtain ⟨m, hF⟩ := I.fr
  obtain ⟨mA, O, _⟩ := ins_get I.hok ha
  obtain ⟨mB, O', _⟩ := ins_get I.hok hb'
  obtain ⟨oa, J, _⟩ := O.look
  obtain ⟨ob, J', _⟩ := O'.look
  refine binop_K hF I.ok.mod.kin J J'.type hc c.at_ c.fn (thn (run_fn (us := [.ref a, .ref b]) (vs := [.ref a, .ref b]) F hr hb .nil hx I (.cons rfl (.cons rfl .nil)) q) fun r s1 ⟨z, H1, I1, rz, d, ez, q1⟩ => ?_)
  subst ez
  obtain rfl : r = Value.ref d := rz
  exact ⟨.ref d, H1, I1, rfl, q1⟩
/-- o <= p, o == p, both of the class at C -/
def rOwnCmp (C : Addr) (sp : Sp) (E : XK) : R2 := fun x y H Q => ∃ a dx fs, x = .ref a ∧ H a = some (.ins C dx fs) ∧ ((∃ b dy gs, y = .ref b ∧ H b = some (.ins C dy gs)) ∨ ∃ b ys, y = .ref b ∧ H b = some (.lst ys)) ∧ sp [x, y] H (fun v H' => ∃ q, v = .bl q ∧ Q (.bl q) H') E
theorem cmp_ownO {op : CmpOp} (hl : notFirst X.K C (.type "list") = true) (c : OpC X.K C (cmpInfo op).2.1 f) (F : FnOk X.prog X.w X.K X.mg X.base CX k f fd ps sp) (hr : Room k X.A) (hb : Binds X.K fd ps []) (hx : Passes CX X E) : OpR X (richCompare op) (rOwnCmp C sp E) := by
  intro pins s σ H x y v u Q I rx ry h
  obtain ⟨a, dx, fs, rfl, ha, hy, q⟩ := h
  obtain rfl : v = Value.ref a := rx
  obtain ⟨m, hF⟩ := I.fr
  obtain ⟨mA, O, _⟩ := ins_get I.hok ha
  obtain ⟨oa, J, _⟩ := O.look
  obtain ⟨tb, ht, hn⟩ : ∃ tb, Looks (model X.prog X.w) s.heap (typeOf u) tb ∧ notFirst X.K C tb = true := by
    rcases hy with ⟨b, dy, gs, rfl, hb'⟩ | ⟨b, ys, rfl, hb'⟩
    · obtain rfl : u = Value.ref b := ry
      obtain ⟨mB, O', _⟩ := ins_get I.hok hb'
      obtain ⟨ob, J', _⟩ := O'.look
      exact ⟨_, J'.type, by simp [notFirst]⟩
    · obtain rfl : u = Value.ref b := ry
      obtain ⟨_, _, n, _, h1⟩ := (show ObjOk X.prog X.w H s.heap b (.lst ys) from I.hok b _ hb')
      exact ⟨.type "list", (Looks.ld h1).andThen .now, hl⟩
  refine cmp_K hr.units0 hF I.ok.mod.kin J ht hn c.at_ c.fn (thn (run_fn (us := [.ref a, u]) (vs := [.ref a, y]) F hr hb .nil hx I (.cons rfl (.cons ry .nil)) q) fun r s1 ⟨z, H1, I1, rz, d, ez, q1⟩ => ?_)
  subst ez
  obtain rfl : r = Value.bool d := rz
  exact ⟨.bl d, H1, I1, rfl, q1⟩
theorem op_eqO (hl : notFirst X.K C (.type "list") = true) (c : OpC X.K C "__eq__" f) (F : FnOk X.prog X.w X.K X.mg X.base CX k f fd ps sp) (hr : Room k X.A) (hb : Binds X.K fd ps []) (hx : Passes CX X E) : OpR X (compareOp .Eq) (rOwnCmp C sp E) := cmp_ownO (op := .Eq) hl c F hr hb hx
theorem op_leO (hl : notFirst X.K C (.type "list") = true) (c : OpC X.K C "__le__" f) (F : FnOk X.prog X.w X.K X.mg X.base CX k f fd ps sp) (hr : Room k X.A) (hb : Binds X.K fd ps []) (hx : Passes CX X E) : OpR X (compareOp .LtE) (rOwnCmp C sp E) := cmp_ownO (op := .LtE) hl c F hr hb hx
end
end Yd
namespace Yd
open PySem L2
/-! ### o * n, n * o, o an own instance; operators within a try; * of large ints -/
section
open PySem.W PySem.Calls PyProof.Rows
variable {prog : Program} {w : World} {A : Around} {E : Value → Shared → Prop} {s : Shared} {K : Frag} {x C L f g : Addr} {h₀ : Heap} {m : Str → Option Value} {ox : Obj} {od : Option Obj} {n : Int} {t : Tok} {Q : Value → Shared → Prop}
theorem nslot_own {M : Model} {h : Heap} {nm : String} (X : K.In h) (hs : findIn K (.ref C) (PySem.dunder nm) = some (some (.ref f))) (hr : findIn K (.ref C) (PySem.dunderR nm) = some (some (.ref g))) : Looks M h (numberSlotInPython (.ref C) nm) true := by
  intro A Q E s k q
  unfold numberSlotInPython
  refine wpAny_bind (looks_findIn X hs A _ E s k ?_)
  refine wpAny_bind (m := calledByName _ _ (some (Value.ref f))) (wpAny_pure ?_)
  refine wpAny_bind (looks_findIn X hr A _ E s k ?_)
  refine wpAny_bind (m := calledByName _ _ (some (Value.ref g))) (wpAny_pure ?_)
  rw [if_pos (show (true || true) = true from rfl)]
  exact wpAny_pure q
theorem mul_int_K (F : Fr h₀ L s.heap m) (X₀ : K.In h₀) (I : InstAt s.heap x ox C od) (hc : selfFirst K C = true) (hs : findIn K (.ref C) (PySem.dunder "mul") = some (some (.ref f))) (hr : findIn K (.ref C) (PySem.dunderR "mul") = some (some (.ref g))) (hf : isFn K (.ref f) = true)
    (hsub : subIn K (.type "int") (.ref C) = some false) (h : wpAny (model prog w) A (call (.ref f) [.ref x, .int n t]) (W.CmpBack Q) E s) : wpAny (model prog w) A (binaryOp .Mult (.ref x) (.int n t)) Q E s := by
  have X := X₀.keeps F.keep
  obtain ⟨cd, hcd, hm⟩ := any_some hc
  obtain ⟨rest, hm⟩ : ∃ rest, cd.mro = .ref C :: rest := by
    cases q : cd.mro with
    | nil => rw [q] at hm; cases hm
    | cons a r => rw [q] at hm; exact ⟨r, by rw [List.head?_cons] at hm; cases (beq_iff_eq.mp hm); rfl⟩
  unfold binaryOp
  refine wpAny_holding (wpAny_bind ?_)
  unfold binaryOp1
  refine wpAny_bind (I.type.here (wpAny_bind (wpAny_typeOf (typeIs_int s n t) (wpAny_bind ((fills_K X hcd hm hs).here ?_)))))
  have hne : (Value.ref C == Value.type "int") = false := rfl
  simp only [hne, Bool.false_eq_true, if_false]
  show wpAny _ _ (fillsNumberSlot (.type "int") "mul" >>= _) _ _ _
  rw [PySem.F.fills_int_mul]
  refine wpAny_bind (wpAny_pure ?_)
  simp only [Bool.and_self, if_true]
  refine wpAny_bind ((looks_subIn X hsub).here ?_)
  simp only [Bool.false_eq_true, if_false, Bool.not_false, Bool.and_true, if_true]
  refine wpAny_bind ((nslot_own X hs hr).here ?_)
  simp only [if_true]
  have hpy : numberSlotInPython (.type "int") "mul" = pure false := rfl
  rw [hpy]
  refine wpAny_bind (wpAny_pure ?_)
  simp only [Bool.not_false, if_true]
  rw [PySem.F.slot_int_rmul.lookup]
  refine wpAny_bind (wpAny_pure ?_)
  refine wpAny_bind (m := tryMethod (.ref x) _ (.int n t)) ?_
  unfold tryMethod
  refine wpAny_bind (special_fn X I hs (beq_iff_eq.mp hf) (wpAny_mono h (fun v s' hv => ?_) fun _ _ e => e))
  cases v <;> first | exact hv.elim | exact wpAny_pure (wpAny_pure (wpAny_pure hv))
end
/-- int.__mul__ of an instance: not its business -/
theorem int_mul_own (n : Int) (t : Tok) (x C dx : Addr) :
    Meets (Builtin.«int.__mul__» ⟨[.int n t, .ref x], []⟩) (fun _ R s => s.heap.get? x = some (PySem.W.instObj C dx) ∧ R (.ok (.ret Value.notImplemented)) s) :=
  .of_wp fun prog w A R s h => by
    obtain ⟨hp, g, d, tk, os⟩ := s
    obtain ⟨hl, h⟩ := h
    unfold PySem.W.instObj at hl
    wp_walk using wpAny_loadPart' hl
    exact ⟨_, rfl, h⟩
section
open PySem.W PySem.Calls PyProof.Rows
variable {prog : Program} {w : World} {A : Around} {E : Value → Shared → Prop} {s : Shared} {K : Frag} {x C L f g : Addr} {h₀ : Heap} {m : Str → Option Value} {ox : Obj} {od : Option Obj} {n : Int} {t : Tok} {Q : Value → Shared → Prop}
theorem rmul_int_K {dx : Addr} (F : Fr h₀ L s.heap m) (X₀ : K.In h₀) (I : W.InstAt s.heap x ox C od) (ob : s.heap.get? x = some (PySem.W.instObj C dx)) (hc : selfFirst K C = true) (hs : findIn K (.ref C) (PySem.dunder "mul") = some (some (.ref f))) (hr : findIn K (.ref C) (PySem.dunderR "mul") = some (some (.ref g))) (hf : isFn K (.ref g) = true)
    (hsub : subIn K (.ref C) (.type "int") = some false) (h : wpAny (model prog w) A (call (.ref g) [.ref x, .int n t]) (W.CmpBack Q) E s) : wpAny (model prog w) A (binaryOp .Mult (.int n t) (.ref x)) Q E s := by
  have X := X₀.keeps F.keep
  obtain ⟨cd, hcd, hm⟩ := any_some hc
  obtain ⟨rest, hm⟩ : ∃ rest, cd.mro = .ref C :: rest := by
    cases q : cd.mro with
    | nil => rw [q] at hm; cases hm
    | cons a r => rw [q] at hm; exact ⟨r, by rw [List.head?_cons] at hm; cases (beq_iff_eq.mp hm); rfl⟩
  unfold binaryOp
  refine wpAny_holding (wpAny_bind ?_)
  unfold binaryOp1
  refine wpAny_bind (wpAny_typeOf (typeIs_int s n t) (wpAny_bind (I.type.here (wpAny_bind ?_))))
  show wpAny _ _ (fillsNumberSlot (.type "int") "mul") _ _ _
  rw [PySem.F.fills_int_mul]
  refine wpAny_pure ?_
  have hne : (Value.type "int" == Value.ref C) = false := rfl
  simp only [hne, Bool.false_eq_true, if_false]
  refine wpAny_bind ((fills_K X hcd hm hs).here ?_)
  simp only [Bool.and_self, if_true]
  refine wpAny_bind ((looks_subIn X hsub).here ?_)
  simp only [Bool.false_eq_true, if_false, Bool.not_false, Bool.and_true, if_true]
  have hpy : numberSlotInPython (.type "int") "mul" = pure false := rfl
  rw [hpy]
  refine wpAny_bind (wpAny_pure ?_)
  simp only [Bool.false_eq_true, if_false]
  refine wpAny_bind (wpAny_tryMethod_declines (T := "int") (typeIs_int s n t) PySem.F.slot_int_mul (call_meets PySem.F.slot_int_mul (typeIs_int s n t) PySem.F.entry_int_mul (PySem.F.args_int_mul_2 _ _) (int_mul_own n t x C dx) ⟨ob, rfl, ?_⟩))
  refine wpAny_bind (m := tryMethod (.ref x) _ (.int n t)) ?_
  unfold tryMethod
  refine wpAny_bind (special_fn X I hr (beq_iff_eq.mp hf) (wpAny_mono h (fun v s' hv => ?_) fun _ _ e => e))
  cases v <;> first | exact hv.elim | exact wpAny_pure (wpAny_bind (wpAny_rule (wpAny_pure (wpAny_pure hv))))
end
/-- an operator whose promise speaks of the names -/
def OpRS (X : Cx) (f : Value → Value → Sem Value) (r : L2.St → R2) : Prop := ∀ (pins : List (Addr × Obj)) (s : Shared) (σ : L2.St) (H : Hp) (x y : V) (v u : Value) (Q : VK), Inv X pins σ H s → RelV x v → RelV y u → r σ x y H Q → wpAny (model X.prog X.w) X.A (f v u) (EP X pins σ Q) X.xe s
def tOpS (r : L2.St → R2) (ta tb : TE) : TE := fun σ H Q => ta σ H fun x H1 => tb σ H1 fun y H2 => r σ x y H2 Q
section
open PySem.W
variable {X : Cx} {CX : CXT} {k : Nat} {f C : Addr} {fd : FuncData} {ps : List Str} {sp : Sp} {E : L2.St → XK} {pos : Pos} {a b : Expr} {ta tb : TE}
theorem pe_opS {op : Operator} {r : L2.St → R2} (ho : OpRS X (binaryOp op) r) (ha : PE X a ta) (hb : PE X b tb) : PE X (.BinOp a op b pos) (tOpS r ta tb) := by
  refine ⟨fun pins s σ H Q I h => ?_⟩
  exact wpAny_BinOp (binT (R := fun x y H2 => r σ x y H2 Q) ha hb I h fun v u s2 x y H2 I2 rx ry q => ho pins s2 σ H2 x y v u Q I2 rx ry q)
/-- o op p -/
theorem op_ownS {op : Operator} (hc : selfFirst X.K C = true) (c : OpC X.K C (PySem.dunder op.info.2) f) (F : FnOk X.prog X.w X.K X.mg X.base CX k f fd ps sp) (hr : Room k X.A) (hb : Binds X.K fd ps []) (hx : ∀ σ, PassesAt CX X σ (E σ)) : OpRS X (binaryOp op) (fun σ => rOwnOp C sp (E σ)) := by
  intro pins s σ H x y v u Q I rx ry h
  obtain ⟨a, b, dx, dy, fs, gs, rfl, rfl, ha, hb', q⟩ := h
  obtain rfl : v = Value.ref a := rx
  obtain rfl : u = Value.ref b := ry
  obtain ⟨m, hF⟩ := I.fr
  obtain ⟨mA, O, _⟩ := ins_get I.hok ha
  obtain ⟨mB, O', _⟩ := ins_get I.hok hb'
  obtain ⟨oa, J, _⟩ := O.look
  obtain ⟨ob, J', _⟩ := O'.look
  refine binop_K hF I.ok.mod.kin J J'.type hc c.at_ c.fn (thn (run_fnS (us := [.ref a, .ref b]) (vs := [.ref a, .ref b]) F hr hb (hx σ) I (.cons rfl (.cons rfl .nil)) q) fun r s1 ⟨z, H1, I1, rz, d, ez, q1⟩ => ?_)
  subst ez
  obtain rfl : r = Value.ref d := rz
  exact ⟨.ref d, H1, I1, rfl, q1⟩
/-- what * of an own class asks of the text -/
structure MulC (K : Frag) (C f g : Addr) : Prop where
  sf : selfFirst K C = true
  m : OpC K C (PySem.dunder "mul") f
  r : OpC K C (PySem.dunderR "mul") g
  s1 : subIn K (.type "int") (.ref C) = some false
  s2 : subIn K (.ref C) (.type "int") = some false
def rOwnMul (C : Addr) (sp : Sp) (E : XK) : R2 := fun x y H Q => ∃ a n dx fs, x = .ref a ∧ y = .int n ∧ H a = some (.ins C dx fs) ∧ sp [.ref a, .int n] H (fun v H' => ∃ q, v = .ref q ∧ Q (.ref q) H') E
def rOwnRmul (C : Addr) (sp : Sp) (E : XK) : R2 := fun x y H Q => ∃ a n dx fs, x = .int n ∧ y = .ref a ∧ H a = some (.ins C dx fs) ∧ sp [.ref a, .int n] H (fun v H' => ∃ q, v = .ref q ∧ Q (.ref q) H') E
theorem op_mulS {g : Addr} (c : MulC X.K C f g) (F : FnOk X.prog X.w X.K X.mg X.base CX k f fd ps sp) (hr : Room k X.A) (hb : Binds X.K fd ps []) (hx : ∀ σ, PassesAt CX X σ (E σ)) : OpRS X (binaryOp .Mult) (fun σ => rOwnMul C sp (E σ)) := by
  intro pins s σ H x y v u Q I rx ry h
  obtain ⟨a, n, dx, fs, rfl, rfl, ha, q⟩ := h
  obtain rfl : v = Value.ref a := rx
  obtain ⟨t, rfl⟩ := (show ∃ t, u = Value.int n t from ry)
  obtain ⟨m, hF⟩ := I.fr
  obtain ⟨mA, O, _⟩ := ins_get I.hok ha
  obtain ⟨oa, J, _⟩ := O.look
  refine mul_int_K hF I.ok.mod.kin J c.sf c.m.at_ c.r.at_ c.m.fn c.s1 (thn (run_fnS (us := [.ref a, .int n t]) (vs := [.ref a, .int n]) F hr hb (hx σ) I (.cons rfl (.cons ⟨t, rfl⟩ .nil)) q) fun r s1 ⟨z, H1, I1, rz, d, ez, q1⟩ => ?_)
  subst ez
  obtain rfl : r = Value.ref d := rz
  exact ⟨.ref d, H1, I1, rfl, q1⟩
theorem op_rmulS {g : Addr} (c : MulC X.K C f g) (F : FnOk X.prog X.w X.K X.mg X.base CX k g fd ps sp) (hr : Room k X.A) (hb : Binds X.K fd ps []) (hx : ∀ σ, PassesAt CX X σ (E σ)) : OpRS X (binaryOp .Mult) (fun σ => rOwnRmul C sp (E σ)) := by
  intro pins s σ H x y v u Q I rx ry h
  obtain ⟨a, n, dx, fs, rfl, rfl, ha, q⟩ := h
  obtain rfl : u = Value.ref a := ry
  obtain ⟨t, rfl⟩ := (show ∃ t, v = Value.int n t from rx)
  obtain ⟨m, hF⟩ := I.fr
  obtain ⟨mA, O, _⟩ := ins_get I.hok ha
  obtain ⟨_, _, _, ob, _⟩ := (show ObjOk X.prog X.w H s.heap a (.ins C dx fs) from I.hok a _ ha)
  obtain ⟨oa, J, _⟩ := O.look
  refine rmul_int_K hF I.ok.mod.kin J ob c.sf c.m.at_ c.r.at_ c.r.fn c.s2 (thn (run_fnS (us := [.ref a, .int n t]) (vs := [.ref a, .int n]) F hr hb (hx σ) I (.cons rfl (.cons ⟨t, rfl⟩ .nil)) q) fun r s1 ⟨z, H1, I1, rz, d, ez, q1⟩ => ?_)
  subst ez
  obtain rfl : r = Value.ref d := rz
  exact ⟨.ref d, H1, I1, rfl, q1⟩
/-- * of two ints below 2^400 -/
def CMulW (i j : Int) : Prop := i.natAbs < 2 ^ 400 ∧ j.natAbs < 2 ^ 400
theorem op_mulW : OpR X (binaryOp .Mult) (rI CMulW fun i j => .int (i * j)) := opI fun i j _ _ _ _ _ hc q => PyProof.Rows.mul_int q (IntMulOk.of_le (m := 400) (n := 400) (intBits_le_iff.mpr hc.1) (intBits_le_iff.mpr hc.2) (by omega))
/-- behind e a dict that may be left locked is unlocked -/
def tUnl (t : TE) : TE := fun σ H Q => ∃ d u, H d = some u ∧ Mut (some u) ∧ t σ H fun v H' => (∃ od, H' d = some (.frz od u) ∧ Q v (upd H' d u)) ∨ Q v H'
theorem pe_unl {e : Expr} {t : TE} (h : PE X e t) : PE X e (tUnl t) := by
  refine ⟨fun pins s σ H Q I hw => ?_⟩
  obtain ⟨d, u, hd, mu, hw⟩ := hw
  refine thn (h.run pins s σ H _ I hw) fun v s1 ⟨x, H1, I2, r, q⟩ => ?_
  rcases q with ⟨od, e2, q⟩ | q
  · exact ⟨x, _, I2.unlock e2 (I.nofrz hd mu), r, q⟩
  · exact ⟨x, H1, I2, r, q⟩
end
end Yd
namespace Yd
open PySem L2
/-! ### an own __iter__ that gives a dict's iterator -/
/-- an iterator over the keys of the locked dict at d, at its start -/
def KIo (d it : Addr) (od : Obj) (n : Nat) : HO := .ext fun h => ∃ es ep, od.data = .dict es ep ∧ h.IsKeyIter it d 0 n ep
/-- the locked dict at d has n keys -/
def Keyed (H : Hp) (d : Addr) (od : Obj) (n : Nat) : Prop := (∃ kvs, H d = some (.frz od (.dK kvs)) ∧ n = kvs.length) ∨ ∃ kvs, H d = some (.frz od (.dT kvs)) ∧ n = kvs.length
/-- a def whose promise may speak of the size of the heap at its entry -/
structure FnN (P : Program) (w : World) (K : PySem.W.Frag) (mg : Str → Option Value) (base : Heap) (k : Nat) (f : Addr) (fd : FuncData) (ps : List Str) (sp : Nat → Sp) : Prop where
  len : ∀ n vs H Q E, sp n vs H Q E → vs.length = ps.length
  run : ∀ (A : Around) (out : List Env) (s : Shared) (H : Hp) (args : Args) (us : List Value) (vs : List V) (Q : VK) (E : XK), Room k A → Env0 P w K mg base A out s H → BindsTo s fd args (ps.zip us) → Vals vs us → sp s.heap.objs.size vs H Q E →
    codeAny (model P w) A (.call (.ref f) args) (CR CX0 out P w H s Q E) s
section
variable {P : Program} {w : World} {K : PySem.W.Frag} {mg : Str → Option Value} {base : Heap}
theorem fun_N {x qual : Str} {st : Stmt} {f : Addr} {fd : FuncData} {N ps : List Str} {k : Nat} {sp : Nat → Sp} (F : Fun K x qual st f fd) (S : FnScope N ps (defScope st)) (len : ∀ n vs H Q E, sp n vs H Q E → vs.length = ps.length)
    (body : ∀ (cdv : Value) (A : Around) (out : List Env) (s : Shared) (H : Hp) (vs : List V) (Q : VK) (E : XK), Room k (A.deeper (PyProof.Rows.envOfC qual (defScope st) s.heap.objs.size f cdv)) → sp s.heap.objs.size vs H Q E →
      ∃ t, PSs (cxOf CX0 P w K mg base N qual (defScope st) f cdv A out s H E) (defBody st) t ∧ t { nx := fun _ H' => Q .non H', rt := Q } (start N vs) H) : FnN P w K mg base (k + 1) f fd ps sp := by
  obtain ⟨oc, od, kV, doc, pm, an, cdv, ct, osl, rfl, lk, hcd⟩ := F.ex
  refine ⟨len, fun A out s H args us vs Q E hr e0 hb r hsp => ?_⟩
  have KX : K.In s.heap := e0.mod.kin.keeps fun b o e => (e0.bs b o e).1
  refine codeAny_call_function hr.depth (KX _ _ lk) rfl S.co S.gen rfl (PySem.W.codeRec_of KX hcd) (hb _ _ _ _ (wpAny_newFunctionEnv_cells S.kind (fun ⟨y, v⟩ hy => ?_) fun env he s1 x => ?_))
  · rcases S.par y (List.of_mem_zip hy).1 with q | q
    · exact Or.inl q
    · exact Or.inr ⟨q, PySem.W.cellsFrom_some _ _ _ (Or.inl q)⟩
  subst he
  obtain ⟨t, ht, hq⟩ := body cdv A out s H vs Q E (hr.deeper _) hsp
  refine ⟨(e0.mod.nolimit.keeps fun b o e => (e0.bs b o e).1).keeps x.toInCall.keep, codeAny_func (wpAny_mono (ht.run [] s1 (start N vs) H _ (inv_start S hr.hd e0 (len _ _ _ _ _ hsp) r x) hq) (fun fl s' hs => ?_) fun _ _ z => z)⟩
  match fl, hs with
  | .ret u, ⟨v, σ', H', J, rv, q⟩ => exact ⟨v, H', J.os, J.bare, J.base, J.hok, rv, q⟩
  | .next, ⟨σ', H', J, q⟩ => exact ⟨V.non, H', J.os, J.bare, J.base, J.hok, rfl, q⟩
  | .brk, ⟨_, _, _, q⟩ => exact q.elim
  | .cont, ⟨_, _, _, q⟩ => exact q.elim
end
section
open PySem.W
variable {X : Cx}
theorem kio_ok {P : Program} {w : World} {H : Hp} {h : Heap} {d it n ep : Nat} {od : Obj} {es : Array DictEntry} (hd : od.data = .dict es ep) (st : h.IsKeyIter it d 0 n ep) : ObjOk P w H h it (KIo d it od n) :=
  ⟨⟨es, ep, hd, st⟩, (let ⟨o, ho, _⟩ := st; ⟨o, ho⟩), fun _ _ ⟨e1, p1, a1, a2⟩ k => ⟨e1, p1, a1, a2.at k⟩⟩
/-- iter(d), d locked: a young iterator -/
theorem call_iterK : CallR X (.builtin "iter") (fun xs H Q => ∃ d od n, xs = [.ref d] ∧ Keyed H d od n ∧ ∀ it, H it = none → X.s_0.heap.objs.size ≤ it → Q (.ref it) (upd H it (KIo d it od n))) := by
  intro pins s σ H xs us Q I r h
  obtain ⟨d, od, n, rfl, hk, q⟩ := h
  obtain ⟨u, rfl, ru⟩ := vals1 r
  cases ru
  obtain ⟨hs, hgd, hx, es, ep, hdt, hsz⟩ : (d == sysModules) = false ∧ s.heap.get? d = some od ∧ od.ExactDict ∧ ∃ es ep, od.data = .dict es ep ∧ es.size = n := by
    rcases hk with ⟨kvs, hd, rfl⟩ | ⟨kvs, hd, rfl⟩
    · obtain ⟨hs, hgd, hx, es, ep, vs, hdt, hsz, kv, hm⟩ := I.frzK hd
      exact ⟨hs, hgd, hx, es, ep, hdt, by rw [hsz, Paired.length kv]⟩
    · obtain ⟨hs, hgd, hx, es, ep, hdt, hsz, _⟩ := I.frzT hd
      exact ⟨hs, hgd, hx, es, ep, hdt, hsz⟩
  refine Calls.call_function_entry (by decide +kernel) (by decide +kernel) kdk_entry_iter (kdk_args_iter _) ?_
  unfold Builtin.«iter»
  refine wpAny_bind (m := someArgs "iter" 1 2 _) (wpAny_of_eq (a := [.ref d]) (by first | rfl | kernel_rfl!) (wpAny_bind (m := pyIter (.ref d)) (iter_keys hs hgd hx hdt ?_)))
  refine wpAny_pure ⟨_, rfl, ?_⟩
  have st : (s.heap.push { cls := .type "dict_keyiterator", data := .fields #[.ref d, .int 0 0, .int es.size 0, .int ep 0] }).IsKeyIter s.heap.objs.size d 0 n ep := ⟨_, Heap.get?_push_size _ rfl, rfl, by rw [hsz]; rfl⟩
  exact ⟨.ref s.heap.objs.size, _, I.laid (t' := s.toks) (fun b ob e => Heap.get?_push_of_some _ e) (Nat.le_refl _) (kio_ok hdt st), rfl, q _ (I.hok.fresh (Nat.le_refl _)) I.sz⟩
/-- for x in o, o an instance whose class has such an __iter__ -/
def iOwn (sp : Nat → Sp) (C : Addr) (te : TE) : TI := fun σ H R => te σ H fun x H1 => ∃ a dx fs, x = .ref a ∧ H1 a = some (.ins C dx fs) ∧ ∀ n, sp n [.ref a] H1 (fun v H2 => ∃ it d od m, v = .ref it ∧ n ≤ it ∧ H2 it = some (KIo d it od m) ∧
  ((∃ kvs, H2 d = some (.frz od (.dK kvs)) ∧ m = kvs.length ∧ R (Itk d od kvs) (ItX.dropH H2 it)) ∨ ∃ kvs, H2 d = some (.frz od (.dT kvs)) ∧ m = kvs.length ∧ R (Itkt d od kvs) (ItX.dropH H2 it))) (fun _ _ _ => False)
theorem pi_own {C f : Addr} {fd : FuncData} {k : Nat} {sp : Nat → Sp} {tg e : Expr} {te : TE} (he : PE X e te) (hi : findIn X.K (.ref C) "__iter__" = some (some (.ref f))) (hf : isFn X.K (.ref f) = true) (F : FnN X.prog X.w X.K X.mg X.base k f fd ["self"] sp) (hr : Room k X.A)
    (hb : Binds X.K fd ["self"] []) : PI X tg e (iOwn sp C te) := by
  refine ⟨fun pins s σ H R I h => thn (he.run pins s σ H _ I h) fun u s1 ⟨x, H1, I1, rx, a, dx, fs, ex, ha, q⟩ => ?_⟩
  subst ex
  obtain rfl : u = Value.ref a := rx
  obtain ⟨m, hF⟩ := I1.fr
  obtain ⟨mA, O, _⟩ := ins_get I1.hok ha
  obtain ⟨oa, J, _⟩ := O.look
  have b1 := hb s1 [.ref a] I1.kIn rfl
  refine owit_iter hF I1.ok.mod.kin J hi hf (wpAny_call (codeAny_mono (F.run X.A X.stack s1 H1 ⟨[.ref a], []⟩ [.ref a] [.ref a] _ (fun _ _ _ => False) hr I1.env0 b1 (.cons rfl .nil) (q s1.heap.objs.size)) fun r s' hq => ?_))
  match r, hq with
  | .ok (.ret u), hq =>
    obtain ⟨v, H2, I2, rv, it, d, od, n, rfl, hn, e2, hR⟩ := I1.after hq
    obtain rfl : u = Value.ref it := rv
    have young : X.s_0.heap.objs.size ≤ it := Nat.le_trans I1.sz hn
    obtain ⟨⟨es, ep, hd, st⟩, _⟩ := (show ObjOk X.prog X.w H2 s'.heap it (KIo d it od n) from I2.hok it _ e2)
    have hT : s'.TypeIs (.ref it) "dict_keyiterator" := let ⟨o, ho, hc, _⟩ := st; ⟨o, ho, hc⟩
    have e2' := e2
    unfold KIo at e2'
    refine wpAny_specialOf hT PySem.F.slot_dict_keyiterator_next.lookup ?_
    rcases hR with ⟨kvs, ed, rfl, hR⟩ | ⟨kvs, ed, rfl, hR⟩
    · exact ⟨it, [it], _, _, _, rfl, ItX.inv_drop I2 e2', turn_keys it hd, st, fun b hb => by rw [List.mem_singleton.mp hb]; exact ItX.inv_fp I2 e2 young, hR⟩
    · exact ⟨it, [it], _, _, _, rfl, ItX.inv_drop I2 e2', turn_keysT it hd, st, fun b hb => by rw [List.mem_singleton.mp hb]; exact ItX.inv_fp I2 e2 young, hR⟩
end
end Yd
namespace Yd
open PySem L2
/-! ### a dict comprehension whose keys are pairs (tuples of texts and ints) -/
section
variable {X : Cx}
/-- the new dict at D gets one more pair -/
theorem d_setPair {pins : List (Addr × Obj)} {σ : St} {H : Hp} {s : Shared} {E : Value → Shared → Prop} {D b : Addr} {kvs : List (List Key × V)} {k : List Key} {v : V} {r : Value} {Q : Unit → Shared → Prop} (hu : X.A.units < cLine) (I : Inv X pins σ H s) (hD : H D = some (.dT kvs)) (hb : H b = some (.tup (k.map kV))) (hz : kvs.length < sizeLine)
    (rv : RelV v r) (h : ∀ s', Inv X pins σ (upd H D (.dT (putK kvs k v))) s' → Q () s') : wpAny (model X.prog X.w) X.A (dictSet D (.ref b) r) Q E s := by
  obtain ⟨z, hd, xs, rel, dd⟩ := dt_of I.hok hD
  have l1 : xs.length ≤ sizeLine := Nat.le_trans (Nat.le_of_eq (Paired.length rel).symm) z
  have l2 : (putK kvs k v).length ≤ sizeLine := Nat.le_trans (length_putK kvs k v) hz
  refine wpAny_dictSet_heap (knd := tupleKind (mixKind X.prog X.w)) (hsz := l1) hu (key_of I.hok hb) dd fun h' dd' hs => h _ ?_
  obtain ⟨q, es, ep, hq, c1, c2, c3, _, c5⟩ := dd'
  refine d_write I (by rw [hD]; exact True.intro) hs ⟨q, hq⟩ ⟨l2, hd, _, (rel.put k hb rv).keeps fun c ys ec => ?_, q, es, ep, hq, c1, c2, c3, c5⟩
  rw [upd_ne (ne_of ec hD (fun z => nomatch z))]
  exact ec
/-- what each turn does: the key's tuple, the worth, the dict with the pair -/
def pairTurn (D : Addr) (tk tv : TE) (σ : St) (H : Hp) (R : Hp → Prop) : Prop :=
  tk σ H fun y H1 => tv σ H1 fun z H2 => ∃ kvs k b, y = .ref b ∧ H2 b = some (.tup (List.map kV k)) ∧ H2 D = some (.dT kvs) ∧ kvs.length < sizeLine ∧ R (upd H2 D (.dT (putK kvs k z)))
/-- {k: v for target in iter if ..}, the keys tuples -/
def tDp (wi : TI) (g : TG) (tt : TT) (tk tv : TE) (vs : List Nat) : TE := fun σ H Q => wi σ H fun J H1 => ∀ D, H1 D = none → ∃ W : Nat → Nat → Hp → Prop, (∃ m, W 0 m (upd H1 D (.dT []))) ∧ ∀ i m H, W i m H →
  (J.stop i H ∧ Q (.ref D) H) ∨ (J.go i H ∧ ∃ Nx : Hp → Prop, (∀ H', Nx H' → ∃ m', m' < m ∧ W (i + 1) m' H') ∧ ∀ x H', J.yld i H x H' → g x (wipe σ vs) H' fun σ2 H2 => wipe σ2 vs = wipe σ vs ∧ tt σ2 H2 fun b H3 => if b = true then pairTurn D tk tv σ2 H3 Nx else Nx H3)
theorem pe_dp {kx vx tg iter : Expr} {ifs : List Expr} {scope : Scope} {own : List (Str × Nat)} {pos : Pos} {wi : TI} {g : TG} {tt : TT} {tk tv : TE} (hu : X.A.units < cLine) (hc : X.calm = true) (hN : X.N.Nodup) (hi : PI X tg iter wi) (ok : BlkOk X.N X.env.scope scope own)
    (hg : ∀ (s : Shared) (H : Hp) (C : Addr) (cl : List (Str × Addr)) (fp : List Addr), PG (X.blk s H scope (compEnvC scope cl C X.env) fp) tg g) (ht : ∀ (s : Shared) (H : Hp) (C : Addr) (cl : List (Str × Addr)) (fp : List Addr), PTs (X.blk s H scope (compEnvC scope cl C X.env) fp) ifs tt)
    (hk : ∀ (s : Shared) (H : Hp) (C : Addr) (cl : List (Str × Addr)) (fp : List Addr), PE (X.blk s H scope (compEnvC scope cl C X.env) fp) kx tk)
    (he : ∀ (s : Shared) (H : Hp) (C : Addr) (cl : List (Str × Addr)) (fp : List Addr), PE (X.blk s H scope (compEnvC scope cl C X.env) fp) vx tv) (hs : ∀ x, foldedSetIterable iter X.env x = pure x := by intro _; rfl) :
    PE X (.DictComp kx vx [⟨tg, iter, ifs, 0⟩] scope pos) (tDp wi g tt tk tv (own.map (·.2))) := by
  refine ⟨fun pins s σ H Q I h => ?_⟩
  rw [arm_eval_DictComp]
  have free : ∀ y ∈ scope.names, y.2 = .free → ∃ c, X.env.cells.lookup y.1 = some c := fun y hy e => (ok.free y hy e).elim (fun k => I.ok.has _ (.inl k)) fun k => I.ok.has _ (.inr k)
  refine wpAny_comprehension_free rfl hs (closure_ok free) ok.kind (fun y hy e => (ok.uniq y hy).trans (congrArg some e)) (thn (hi.run pins s σ H _ I h) fun _ s1 hx => thn hx fun _ s2 ⟨it, fp, tn, J, H2, e, I2, T, t2, own2, q⟩ => ?_)
  subst e
  refine wpAny_newObj_type (newEnv_comp ?_)
  -- the dict
  have fresh : H2 s2.heap.objs.size = none := I2.hok.fresh (Nat.le_refl _)
  obtain ⟨W, ⟨m0, w0⟩, turn⟩ := q _ fresh
  have ID : Inv X pins σ (upd H2 s2.heap.objs.size (.dT [])) { s2 with heap := s2.heap.push { cls := .type "dict", data := .dict #[] } } := I2.laid (t' := s2.toks) (fun _ _ e => Heap.get?_push_of_some _ e) (Nat.le_refl _) (dt_empty s2.heap I2.big)
  have fpD : ∀ b ∈ fp, FpOk X pins (upd H2 s2.heap.objs.size (.dT [])) b ∧ b < (s2.heap.push { cls := .type "dict", data := .dict #[] }).objs.size := fun b hb => by
    obtain ⟨o, e, _⟩ := T.obj _ _ t2 b hb
    have lt := Heap.lt_size e
    exact ⟨⟨by rw [upd_ne (Nat.ne_of_lt lt)]; exact (own2 b hb).1, (own2 b hb).2⟩, by rw [Heap.size_push]; exact Nat.lt_succ_of_lt lt⟩
  have tD : tn 0 (s2.heap.push { cls := .type "dict", data := .dict #[] }) := T.keep _ _ _ t2 fun b _ o e => Heap.get?_push_of_some _ e
  generalize hs3 : ({ s2 with heap := s2.heap.push { cls := .type "dict", data := .dict #[] } } : Shared) = s3 at ID
  have h3 : s2.heap.push { cls := .type "dict", data := .dict #[] } = s3.heap := by rw [← hs3]
  rw [h3] at fpD tD
  generalize s2.heap.objs.size = D at fresh w0 turn ID fpD ⊢
  generalize upd H2 D (.dT []) = H3 at w0 ID fpD
  -- the block
  have IB := block_start ID ok hN fpD
  have pg := hg s3 H3 s3.heap.objs.size (cellsFrom (s3.heap.objs.size + 1) scope.names (cloFrom X.env.cells scope.names [])) fp
  have pt := ht s3 H3 s3.heap.objs.size (cellsFrom (s3.heap.objs.size + 1) scope.names (cloFrom X.env.cells scope.names [])) fp
  have pk := hk s3 H3 s3.heap.objs.size (cellsFrom (s3.heap.objs.size + 1) scope.names (cloFrom X.env.cells scope.names [])) fp
  have pv := he s3 H3 s3.heap.objs.size (cellsFrom (s3.heap.objs.size + 1) scope.names (cloFrom X.env.cells scope.names [])) fp
  have away : ∀ b ∈ fp, H3 b = none := fun b hb => (fpD b hb).1.1
  change codeAny _ _ (.compStart (.DictComp kx vx [⟨tg, iter, ifs, 0⟩] scope pos) 0 (.ref it) (.ref D) (compEnvC scope (cellsFrom (s3.heap.objs.size + 1) scope.names (cloFrom X.env.cells scope.names [])) s3.heap.objs.size X.env)) (compPost (model X.prog X.w) X.A X.xe none (EP X pins σ Q) (.ref D) s3.heap.objs.size) { s3 with heap := pushCells (s3.heap.push { cls := .type "dict", data := .dict #[] }) scope.names }
  generalize hce : compEnvC scope (cellsFrom (s3.heap.objs.size + 1) scope.names (cloFrom X.env.cells scope.names [])) s3.heap.objs.size X.env = ce at IB pg pt pk pv ⊢
  have cl : ce.locals = s3.heap.objs.size := by rw [← hce]; rfl
  generalize hs4 : ({ s3 with heap := pushCells (s3.heap.push { cls := .type "dict", data := .dict #[] }) scope.names } : Shared) = s4 at IB ⊢
  have t4 : tn 0 s4.heap := T.keep _ _ _ tD fun b _ o e => by rw [← hs4]; exact pushCells_keeps _ _ _ _ (Heap.get?_push_of_some _ e)
  -- what holds between two turns
  let B : Cx := X.blk s3 H3 scope ce fp
  have inB : ∀ {σ' : St} {H' : Hp} {s' : Shared}, Inv B [] σ' H' s' → (∀ b ∈ fp, H' b = none) → ∀ b ∈ fp, FpOk B [] H' b := fun J n b hb =>
    ⟨n b hb, (J.ok.exf b hb).1, J.ok.exfs b hb, .inl hb, fun x c e => (J.ok.exf b hb).2 x c e, fun _ hp => nomatch (show _ ∈ ([] : List (Addr × Obj)) from hp)⟩
  have loop : codeAny (model X.prog X.w) X.A (.compLoop (.DictComp kx vx [⟨tg, iter, ifs, 0⟩] scope pos) 0 (.ref it) (.ref D) ce) (compPost (model X.prog X.w) X.A X.xe none (EP X pins σ Q) (.ref D) s3.heap.objs.size) s4 := by
    refine compLoop_anyD (fun n s' => ∃ i H', Inv B [] (wipe σ (own.map (·.2))) H' s' ∧ tn i s'.heap ∧ (∀ b ∈ fp, H' b = none) ∧ W i n H') ?_ m0 ⟨0, H3, IB, t4, away, w0⟩
    rintro n s5 ⟨i, H5, I5, t5, n5, w5⟩
    rcases turn i n H5 w5 with ⟨stop, fin⟩ | ⟨go, Nx, next, step⟩
    · -- the iterator is at its end: back in the def
      refine thnF (T.done B rfl rfl rfl hc i [] s5 _ H5 (fun _ _ => False) I5 (inB I5 n5) t5 stop) fun r s6 ⟨hr, I6⟩ => ?_
      subst hr
      have back : Inv X pins σ H5 s6 := ID.call' (ch := fp) I6.os I6.base I6.hok I6.bare fun b hb => ⟨(fpD b hb).1.2.2.2.1, (fpD b hb).1.2.1, (fpD b hb).1.2.2.2.2.1, (fpD b hb).1.2.2.2.2.2⟩
      have gone : H5 s3.heap.objs.size = none := cl ▸ (show H5 ce.locals = none from I6.free)
      obtain ⟨m, ns, _⟩ := I6.loc
      have ns : s6.heap.Ns s3.heap.objs.size m := cl ▸ (show s6.heap.Ns ce.locals m from ns)
      obtain ⟨f0, f1, _, f3, f4, f5⟩ := ID.fpOk (Nat.le_refl _) gone
      exact ⟨m, ns, fun h'' sb => ⟨.ref D, H5, back.turned (t' := s6.toks) (fun b o hb e => (sb.2 b hb).trans e) f0 f1 f3 f4 f5, rfl, fin⟩⟩
    · -- a turn
      refine thnF (T.item B rfl rfl rfl hc i [] s5 _ H5 (fun _ _ => False) I5 (inB I5 n5) t5 go) fun r s6 ⟨u, hr, h6⟩ => ?_
      subst hr
      refine thnF h6 fun _ s7 ⟨x, H7, I7, r7, y7, t7, n7⟩ => ?_
      refine thnF (pg.run _ s7 _ H7 x u _ (I7.pinned (inB I7 n7) (T.obj _ _ t7)) r7 (step x H7 y7)) fun _ s8 ⟨σ8, H8, I8, hw, q8⟩ => ?_
      refine thnF (pt.run _ s8 σ8 H8 _ I8 q8) fun b s9 ⟨H9, I9, q9⟩ => ?_
      -- its end
      have done : ∀ {s' : Shared} {H' : Hp}, Inv B ([] ++ pinsAt fp s7.heap) σ8 H' s' → Nx H' → ∃ m, m < n ∧ ∃ i H', Inv B [] (wipe σ (own.map (·.2))) H' s' ∧ tn i s'.heap ∧ (∀ b ∈ fp, H' b = none) ∧ W i m H' := fun {s' H'} J nx => by
        obtain ⟨m', lt, w'⟩ := next H' nx
        have still : ∀ b ∈ fp, ∀ o, s7.heap.get? b = some o → s'.heap.get? b = some o ∧ H' b = none := fun b hb o e => by
          have z := J.pin (b, o) (List.mem_append_right _ (List.mem_append_right _ (mem_pinsAt hb e)))
          exact ⟨z.1, z.2.1⟩
        refine ⟨m', lt, i + 1, H', (J.unpinned (pins := [])).weak (by rw [← hw, wipe_length]) (fun j v e => ?_), T.keep _ _ _ t7 fun b hb o e => (still b hb o e).1, fun b hb => ?_, w'⟩
        · rw [← hw] at e
          exact (wipe_some e).1
        · obtain ⟨o, e, _⟩ := T.obj _ _ t7 b hb
          exact (still b hb o e).2
      cases b with
      | false => exact done I9 (by simpa using q9)
      | true =>
        have q9 : pairTurn D tk tv σ8 H9 Nx := by simpa using q9
        refine thnF (pk.run _ s9 σ8 H9 _ I9 q9) fun u10 s10 ⟨y10, H10, I10, r10, q10⟩ => ?_
        refine thnF (pv.run _ s10 σ8 H10 _ I10 q10) fun _ s11 ⟨_, H11, I11, r11, kvs, k, c, ek, hc11, hD11, hz, nx⟩ => ?_
        subst ek
        cases r10
        exact d_setPair (X := B) hu I11 hD11 hc11 hz r11 fun _ I12 => done I12 nx
  exact codeAny_compStart_dict loop (T.self X.A 0 _ _ _ t4 loop)
end
end Yd
namespace Yd
open PySem L2
/-! ### comprehensions, run over what an iterator yields -/
theorem dp_run {J : It} {n : Nat} {D : Addr} {g : TG} {tt : TT} {tk tv : TE} {vs : List Nat} {σ : St} {H1 : Hp} {Qd : Hp → Prop} (Pv : Nat → Hp → Prop) (h0 : Pv 0 (upd H1 D (.dT []))) (hgo : ∀ i H, i < n → Pv i H → J.go i H) (hst : ∀ H, Pv n H → J.stop n H)
    (hs : ∀ i x H H', i < n → Pv i H → J.yld i H x H' → g x (wipe σ vs) H' fun σ2 H2 => wipe σ2 vs = wipe σ vs ∧ tt σ2 H2 fun b H3 => if b = true then pairTurn D tk tv σ2 H3 (Pv (i + 1)) else Pv (i + 1) H3) (hd : ∀ H, Pv n H → Qd H) :
    ∃ W : Nat → Nat → Hp → Prop, (∃ m, W 0 m (upd H1 D (.dT []))) ∧ ∀ i m H, W i m H →
      (J.stop i H ∧ Qd H) ∨ (J.go i H ∧ ∃ Nx : Hp → Prop, (∀ H', Nx H' → ∃ m', m' < m ∧ W (i + 1) m' H') ∧ ∀ x H', J.yld i H x H' → g x (wipe σ vs) H' fun σ2 H2 => wipe σ2 vs = wipe σ vs ∧ tt σ2 H2 fun b H3 => if b = true then pairTurn D tk tv σ2 H3 Nx else Nx H3) := by
  refine ⟨fun i m H => m = n - i ∧ i ≤ n ∧ Pv i H, ⟨_, rfl, Nat.zero_le _, h0⟩, fun i m H ⟨em, hi, p⟩ => ?_⟩
  subst em
  by_cases lt : i < n
  · exact .inr ⟨hgo i H lt p, Pv (i + 1), fun H' p' => ⟨n - (i + 1), by omega, rfl, lt, p'⟩, fun x H' y => hs i x H H' lt p y⟩
  · have e : i = n := by omega
    subst e
    exact .inl ⟨hst H p, hd H p⟩
theorem lc_run {J : It} {n : Nat} {D : Addr} {g : TG} {tt : TT} {te : TE} {vs : List Nat} {σ : St} {H1 : Hp} {Qd : Hp → Prop} (Pv : Nat → Hp → Prop) (h0 : Pv 0 (upd H1 D (.lst []))) (hgo : ∀ i H, i < n → Pv i H → J.go i H) (hst : ∀ H, Pv n H → J.stop n H)
    (hs : ∀ i x H H', i < n → Pv i H → J.yld i H x H' → g x (wipe σ vs) H' fun σ2 H2 => wipe σ2 vs = wipe σ vs ∧ tt σ2 H2 fun b H3 => if b = true then te σ2 H3 fun y H4 => ∃ acc, H4 D = some (.lst acc) ∧ acc.length < sizeLine ∧ Pv (i + 1) (upd H4 D (.lst (acc ++ [y]))) else Pv (i + 1) H3) (hd : ∀ H, Pv n H → Qd H) :
    ∃ W : Nat → Nat → Hp → Prop, (∃ m, W 0 m (upd H1 D (.lst []))) ∧ ∀ i m H, W i m H →
      (J.stop i H ∧ Qd H) ∨ (J.go i H ∧ ∃ Nx : Hp → Prop, (∀ H', Nx H' → ∃ m', m' < m ∧ W (i + 1) m' H') ∧ ∀ x H', J.yld i H x H' → g x (wipe σ vs) H' fun σ2 H2 => wipe σ2 vs = wipe σ vs ∧ tt σ2 H2 fun b H3 =>
        if b = true then te σ2 H3 fun y H4 => ∃ acc, H4 D = some (.lst acc) ∧ acc.length < sizeLine ∧ Nx (upd H4 D (.lst (acc ++ [y]))) else Nx H3) := by
  refine ⟨fun i m H => m = n - i ∧ i ≤ n ∧ Pv i H, ⟨_, rfl, Nat.zero_le _, h0⟩, fun i m H ⟨em, hi, p⟩ => ?_⟩
  subst em
  by_cases lt : i < n
  · exact .inr ⟨hgo i H lt p, Pv (i + 1), fun H' p' => ⟨n - (i + 1), by omega, rfl, lt, p'⟩, fun x H' y => hs i x H H' lt p y⟩
  · have e : i = n := by omega
    subst e
    exact .inl ⟨hst H p, hd H p⟩
/-! ### each pair once; a dict of pairs -/
abbrev Pr := Str × Str
def addP (acc : List Pr) (p : Pr) : List Pr := if p ∈ acc then acc else acc ++ [p]
def onceP (ps : List Pr) : List Pr := ps.foldl addP []
theorem takeP {ps : List Pr} {i : Nat} {p : Pr} (h : ps[i]? = some p) : ps.take (i + 1) = ps.take i ++ [p] := by
  rw [List.take_add_one, h]
  rfl
theorem onceP_more {ps : List Pr} {i : Nat} {p : Pr} (h : ps[i]? = some p) : onceP (ps.take (i + 1)) = addP (onceP (ps.take i)) p := by
  unfold onceP
  rw [takeP h, List.foldl_append]
  rfl
theorem addP_nd {acc : List Pr} {p : Pr} (h : acc.Nodup) : (addP acc p).Nodup := by
  unfold addP
  by_cases m : p ∈ acc
  · rw [if_pos m]; exact h
  · rw [if_neg m, List.nodup_append]
    exact ⟨h, List.nodup_cons.mpr ⟨List.not_mem_nil, List.nodup_nil⟩, fun a ha b hb e => m (by rw [List.mem_singleton.mp hb] at e; rw [← e]; exact ha)⟩
theorem onceP_nd (ps : List Pr) : (onceP ps).Nodup := by
  unfold onceP
  suffices q : ∀ (l acc : List Pr), acc.Nodup → (l.foldl addP acc).Nodup from q ps [] List.nodup_nil
  intro l
  induction l with
  | nil => intro acc h; exact h
  | cons s l ih => intro acc h; exact ih _ (addP_nd h)
theorem onceP_len (ps : List Pr) : (onceP ps).length ≤ ps.length := by
  unfold onceP
  suffices q : ∀ (l acc : List Pr), (l.foldl addP acc).length ≤ acc.length + l.length by
    have := q ps []
    rw [List.length_nil, Nat.zero_add] at this
    exact this
  intro l
  induction l with
  | nil => intro acc; exact Nat.le_refl _
  | cons s l ih =>
    intro acc
    have h1 := ih (addP acc s)
    have h2 : (addP acc s).length ≤ acc.length + 1 := by
      unfold addP
      split
      · omega
      · rw [List.length_append]; exact Nat.le_refl _
    rw [List.foldl_cons, List.length_cons]
    omega
theorem onceP_mem {p : Pr} (ps : List Pr) : p ∈ onceP ps ↔ p ∈ ps := by
  unfold onceP
  suffices q : ∀ (l acc : List Pr), p ∈ l.foldl addP acc ↔ p ∈ acc ∨ p ∈ l by
    have := q ps []
    simpa using this
  intro l
  induction l with
  | nil => intro acc; simp
  | cons s l ih =>
    intro acc
    rw [List.foldl_cons, ih]
    unfold addP
    by_cases m : s ∈ acc
    · rw [if_pos m, List.mem_cons]
      exact ⟨fun h => h.elim .inl fun h => .inr (.inr h), fun h => h.elim .inl fun h => h.elim (fun e => .inl (by rw [e]; exact m)) .inr⟩
    · rw [if_neg m, List.mem_append, List.mem_singleton, List.mem_cons, or_assoc]
def kP (p : Pr) : List Key := [Sum.inr p.1, Sum.inr p.2]
theorem kP_inj {p q : Pr} (h : kP p = kP q) : p = q := by
  unfold kP at h
  injection h with h1 h2
  injection h2 with h2 _
  injection h1 with h1
  injection h2 with h2
  exact Prod.ext h1 h2
theorem kP_map (p : Pr) : (kP p).map kV = [.str p.1, .str p.2] := rfl
def pD (ps : List Pr) : List (List Key × V) := ps.map fun p => (kP p, V.bl true)
theorem pD_val (p : Pr) : ∀ ps : List Pr, valV (pD ps) (kP p) = if p ∈ ps then some (.bl true) else none
  | [] => by simp [pD, valV_nil]
  | t :: ps => by
    have e : pD (t :: ps) = (kP t, V.bl true) :: pD ps := rfl
    rw [e]
    by_cases h : t = p
    · subst h
      rw [valV_pos rfl, if_pos (List.mem_cons_self ..)]
    · rw [valV_neg (fun z => h (kP_inj z)), pD_val p ps]
      by_cases m : p ∈ ps
      · rw [if_pos m, if_pos (List.mem_cons_of_mem _ m)]
      · rw [if_neg m, if_neg fun q => (List.mem_cons.mp q).elim (fun z => h z.symm) m]
theorem pD_put (acc : List Pr) (p : Pr) : putK (pD acc) (kP p) (.bl true) = pD (addP acc p) := by
  unfold addP
  by_cases m : p ∈ acc
  · rw [if_pos m]
    unfold putK
    have a : ((pD acc).any fun kv => decide (kv.1 = kP p)) = true := by
      rw [valV_any, pD_val, if_pos m]
      rfl
    rw [if_pos a]
    have e : ∀ kv ∈ pD acc, (if kv.1 = kP p then (kv.1, V.bl true) else kv) = kv := fun kv hk => by
      obtain ⟨t, _, rfl⟩ := List.mem_map.mp hk
      split <;> rfl
    rw [List.map_congr_left e, List.map_id']
  · rw [if_neg m, putK_new _ (by rw [pD_val, if_neg m])]
    unfold pD
    rw [List.map_append]
    rfl
theorem pD_len (ps : List Pr) : (pD ps).length = ps.length := List.length_map _
theorem PairsAt.get {H : Hp} : ∀ {xs : List V} {ps : List Pr} {i : Nat} {x : V}, PairsAt H xs ps → xs[i]? = some x → ∃ t p, x = .ref t ∧ ps[i]? = some p ∧ H t = some (.tup [.str p.1, .str p.2])
  | v :: xs, p :: ps, 0, x, ⟨⟨t, e, h⟩, _⟩, hx => ⟨t, p, by rw [← Option.some.inj hx]; exact e, rfl, h⟩
  | v :: xs, p :: ps, i + 1, x, ⟨_, r⟩, hx => PairsAt.get (i := i) r (by simpa using hx)
  | [], _, _, _, _, hx => by simp at hx
  | _ :: _, [], _, _, h, _ => h.elim
end Yd
namespace Yd
open PySem L2
/-! ### == of two dicts whose keys are tuples -/
section
open PySem.W PySem.Calls
variable {prog : Program} {w : World} {K : Type} [DecidableEq K] {knd : HeapKind prog w K} {A : Around} {E : Value → Shared → Prop} {s : Shared}
inductive HitsH {K : Type} [DecidableEq K] (A : Around) (s : Shared) (ys : List (K × Addr × Value)) : List (K × Addr × Value) → Bool → Prop
  | nil : HitsH A s ys [] true
  | miss {k : K} {p : Addr × Value} {r : List (K × Addr × Value)} : atKey ys k = none → HitsH A s ys ((k, p) :: r) false
  | hit {k : K} {p y : Addr × Value} {r : List (K × Addr × Value)} {e b : Bool} : atKey ys k = some y → SeqAt.EqAt A s p.2 y.2 e → HitsH A s ys r b → HitsH A s ys ((k, p) :: r) (e && b)
theorem HitsH.inv {ys : List (K × Addr × Value)} {k : K} {p : Addr × Value} {r : List (K × Addr × Value)} {b : Bool} (h : HitsH A s ys ((k, p) :: r) b) :
    (atKey ys k = none ∧ b = false) ∨ ∃ y e b', atKey ys k = some y ∧ SeqAt.EqAt A s p.2 y.2 e ∧ HitsH A s ys r b' ∧ b = (e && b') := by
  cases h with
  | miss hn => exact .inl ⟨hn, rfl⟩
  | hit hy he hr => exact .inr ⟨_, _, _, hy, he, hr, rfl⟩
theorem heq_samePairs {nm : String} {a b : Addr} {xs ys : List (K × Addr × Value)} {r : Bool} {Q : Bool → Shared → Prop} (hu : knd.room A) (ha : (a == sysModules) = false) (hb : (b == sysModules) = false)
    (da : s.heap.DictOfH knd a xs) (db : s.heap.DictOfH knd b ys) (hits : xs.length = ys.length → HitsH A s ys xs r) (h : Q (xs.length == ys.length && r) s) :
    wpAny (model prog w) A (Builtin.Dict.samePairs nm a b) Q E s := by
  obtain ⟨oa, es, ep, hoa, _, hda, hea, hka, hna⟩ := da
  obtain ⟨ob, es', ep', hob, _, hdb, heb, hkb, hnb⟩ := db
  have hla : xs.length = es.size := (size_of_entries hea).symm
  have hlb : ys.length = es'.size := (size_of_entries heb).symm
  rw [hla, hlb] at h
  unfold Builtin.Dict.samePairs Builtin.Dict.showsAll
  rw [if_neg (show ¬ (a == sysModules) = true by rw [ha]; exact Bool.false_ne_true), if_neg (show ¬ (b == sysModules) = true by rw [hb]; exact Bool.false_ne_true)]
  refine wpAny_bind (wpAny_pure (wpAny_bind (wpAny_pure ?_)))
  refine wpAny_bind (wpAny_dictEntries hoa hda ?_)
  dsimp only
  refine wpAny_bind (wpAny_dictEntries hob hdb ?_)
  by_cases hsz : es.size = es'.size
  case neg =>
    rw [if_pos (by simpa using hsz)]
    have hbf : (es.size == es'.size) = false := by simpa using hsz
    rw [hbf, Bool.false_and] at h
    exact wpAny_bind (wpAny_rule (wpAny_pure h))
  case pos =>
    have h' : Q r s := by simpa [hsz] using h
    have hits' := hits (by rw [hla, hlb]; exact hsz)
    rw [if_neg (by rw [hsz]; simp)]
    refine wpAny_bind (wpAny_dictEpoch hoa hda ?_)
    refine wpAny_bind ?_
    rw [Std.Legacy.Range.forIn_eq_forIn_range']
    simp only [Std.Legacy.Range.size, Nat.sub_zero, Nat.add_sub_cancel, Nat.div_one]
    refine wpAny_forIn_list _
      (fun rest q s' => s' = s ∧ q = (none, ()) ∧ ∃ i, rest = List.range' i (es.size - i) ∧ i ≤ es.size ∧ HitsH A s ys (xs.drop i) r)
      _ ?_ ?_ _ _ ⟨rfl, rfl, 0, by simp, Nat.zero_le _, hits'⟩
    · rintro x rest q s' ⟨rfl, rfl, i, hr, hi, hpre⟩
      have hlt : i < es.size := by
        rcases Nat.lt_or_ge i es.size with h | h
        · exact h
        · rw [Nat.sub_eq_zero_of_le h] at hr; simp at hr
      obtain ⟨rfl, hrest⟩ : x = i ∧ rest = List.range' (i + 1) (es.size - (i + 1)) := by
        have e : es.size - i = (es.size - (i + 1)) + 1 := by omega
        rw [e, List.range'_succ] at hr
        injection hr with h1 h2
        exact ⟨h1, h2⟩
      refine wpAny_bind (wpAny_dictEntries hoa hda ?_)
      rw [Array.getElem?_eq_getElem hlt]
      have hlt' : x < xs.length := by rw [hla]; exact hlt
      obtain ⟨k, p, hkv⟩ : ∃ k p, xs[x] = (k, p) := ⟨_, _, rfl⟩
      have hdrop : xs.drop x = (k, p) :: xs.drop (x + 1) := by rw [← hkv]; exact List.drop_eq_getElem_cons hlt'
      have hent : es[x] = entryOfKey knd (k, p) := by
        have q := entry_at hea x
        rw [Array.getElem?_eq_getElem hlt, List.getElem?_eq_getElem hlt', hkv] at q
        exact Option.some.inj q
      have hkey : knd.is s'.heap k p.1 := hka (k, p) (by rw [← hkv]; exact List.getElem_mem hlt')
      rw [hdrop] at hpre
      rw [hent]
      refine wpAny_bind (wpAny_holding (wpAny_bind (wpAny_dictFind_heap (k := k) (a := p.1) hu hkey hob hdb heb hkb hnb (fun hnone => ?_) fun j y hj => ?_)))
      · have hn : atKey ys k = none := atKey_none_of_get hnone
        rcases hpre.inv with ⟨_, er⟩ | ⟨y, _, _, hy, _⟩
        · rw [er] at h'
          refine wpAny_pure ?_
          show wpAny _ _ (if (!false) = true then _ else _) _ _ _
          rw [if_pos (by decide)]
          exact wpAny_pure (wpAny_pure h')
        · rw [hn] at hy; exact nomatch hy
      · have hv' : atKey ys k = some y := atKey_of_get hnb hj
        refine wpAny_bind (wpAny_dictEntries hob hdb ?_)
        have hej : es'[j]? = some (entryOfKey knd (k, y)) := by rw [entry_at heb j, hj]; rfl
        rw [hej]
        rcases hpre.inv with ⟨hn, _⟩ | ⟨y', e, b', hy, he, hrr, er⟩
        · rw [hv'] at hn; exact nomatch hn
        · have ey : y = y' := Option.some.inj (hv'.symm.trans hy)
          rw [← ey] at he
          refine wpAny_holding (he prog w _ _ ?_)
          cases e with
          | false =>
            rw [er, Bool.false_and] at h'
            show wpAny _ _ (if (!false) = true then _ else _) _ _ _
            rw [if_pos (by decide)]
            exact wpAny_pure (wpAny_pure h')
          | true =>
            rw [Bool.true_and] at er
            rw [← er] at hrr
            show wpAny _ _ (if (!true) = true then _ else _) _ _ _
            rw [if_neg (by decide)]
            refine wpAny_bind (wpAny_dictEpoch hoa hda ?_)
            rw [if_neg (by simp)]
            exact wpAny_pure ⟨rfl, rfl, x + 1, hrest, hlt, hrr⟩
    · rintro q s' ⟨rfl, rfl, i, hr, hi, hpre⟩
      have hin : i = es.size := by
        rcases Nat.lt_or_ge i es.size with h | h
        · have e : es.size - i = (es.size - (i + 1)) + 1 := by omega
          rw [e, List.range'_succ] at hr; exact nomatch hr
        · exact Nat.le_antisymm hi h
      refine wpAny_pure ?_
      rw [hin, ← hla, List.drop_length] at hpre
      cases hpre
      exact h'
theorem heq_eq {a b : Addr} {xs ys : List (K × Addr × Value)} {r : Bool} {Q : Value → Shared → Prop} (hk : knd.room A.in1) (ha : (a == sysModules) = false) (hb : (b == sysModules) = false)
    (da : s.heap.DictOfH knd a xs) (db : s.heap.DictOfH knd b ys) (hu : A.units < cLine) (hits : xs.length = ys.length → HitsH A.in1 s ys xs r) (h : Q (.bool (xs.length == ys.length && r)) s) :
    wpAny (model prog w) A (compareOp .Eq (.ref a) (.ref b)) Q E s := by
  refine wpAny_richCompare_same_room (op := .Eq) da.typeIs db.typeIs PySem.F.slot_dict_eq (wpAny_call_entry PySem.F.slot_dict_eq da.typeIs PySem.F.entry_dict_eq ?_ (PySem.F.args_dict_eq_2 _ _)) hu
  show wpAny _ _ (Builtin.Dict.dictSlotArgs "__eq__" ⟨[.ref a, .ref b], []⟩ >>= _) _ _ s
  refine wpAny_bind ?_
  unfold Builtin.Dict.dictSlotArgs
  refine wpAny_bind (wpAny_notOrdered_dict da.typeIs ?_)
  show wpAny _ _ (pure (Value.ref a, Value.ref b)) _ _ s
  refine wpAny_pure ?_
  refine wpAny_bind (wpAny_isInstance (T := "dict") db.typeIs PySem.F.sub_dict_dict ?_)
  simp only [Bool.not_true, Bool.false_eq_true, if_false]
  refine wpAny_bind (wpAny_pure (wpAny_bind (wpAny_pure ?_)))
  refine wpAny_bind (heq_samePairs hk ha hb da db hits ?_)
  refine wpAny_pure ⟨_, rfl, ?_, ?_⟩
  · exact fun x => nomatch x
  · simpa using h
/-- what the values of the one say of those of the other -/
inductive HitsT (K : PySem.W.Frag) (H : Hp) (ls : List (List Key × V)) : List (List Key × V) → Bool → Prop
  | nil : HitsT K H ls [] true
  | miss {k : List Key} {v : V} {r : List (List Key × V)} : valV ls k = none → HitsT K H ls ((k, v) :: r) false
  | hit {k : List Key} {v v' : V} {d d' : PyData} {r : List (List Key × V)} {b : Bool} : valV ls k = some v' → Dp K H v d → Dp K H v' d' → d.plain = true → d'.plain = true → d.depth ≤ 60 → HitsT K H ls r b → HitsT K H ls ((k, v) :: r) (PyData.eqv d d' && b)
variable {X : Cx}
def rEqT (K : PySem.W.Frag) : R2 := fun x y H Q => ∃ a b ks ls r, x = .ref a ∧ y = .ref b ∧ Rd H a (.dT ks) ∧ Rd H b (.dT ls) ∧ (ks.length = ls.length → HitsT K H ls ks r) ∧ Q (.bl (ks.length == ls.length && r)) H
theorem op_eqT (hu : X.A.units + 70 < cLine) : OpR X (compareOp .Eq) (rEqT X.K) := by
  intro pins s σ H x y v u Q I rx ry h
  obtain ⟨a, b, ks, ls, r, rfl, rfl, ea, eb, hits, q⟩ := h
  obtain rfl : v = Value.ref a := rx
  obtain rfl : u = Value.ref b := ry
  obtain ⟨_, ya, xs, ra, da⟩ := dt_rd I.hok ea
  obtain ⟨_, yb, ys, rb, db⟩ := dt_rd I.hok eb
  have la : ks.length = xs.length := Paired.length ra
  have lb : ls.length = ys.length := Paired.length rb
  have conv : ∀ (ks : List (List Key × V)) (xs : List (List Key × Addr × Value)) (r : Bool), KT H ks xs → HitsT X.K H ls ks r → HitsH X.A.in1 s ys xs r := by
    intro ks xs r hk hh
    induction hh generalizing xs with
    | nil => cases hk; exact .nil
    | @miss k v rest hn =>
      cases hk with
      | @cons _ q _ qs h t =>
        obtain ⟨k', p⟩ := q
        obtain ⟨h1, _, _⟩ := h
        have h1 : k = k' := h1
        subst h1
        refine .miss ?_
        have z := rb.val k
        rw [hn] at z
        cases e : atKey ys k with
        | none => rfl
        | some y => rw [e] at z; exact z.elim
    | @hit k v v' d d' rest b hv hd hd' pd pd' dd hr ih =>
      cases hk with
      | @cons _ q _ qs h t =>
        obtain ⟨k', p⟩ := q
        obtain ⟨h1, _, h3⟩ := h
        have h1 : k = k' := h1
        subst h1
        have z := rb.val k
        rw [hv] at z
        cases e : atKey ys k with
        | none => rw [e] at z; exact z.elim
        | some y =>
          rw [e] at z
          obtain ⟨as, r1⟩ := Dp.reads I d v p.2 hd h3
          obtain ⟨bs, r2⟩ := Dp.reads I d' v' y.2 hd' z
          exact .hit e (SeqAt.eqAt_plain d d' X.A.in1 s p.2 y.2 as bs r1 r2 pd pd' (by show X.A.units + 1 + _ < cLine; omega)) (ih _ t)
  refine heq_eq (knd := tupleKind (mixKind X.prog X.w)) (r := r) (by show X.A.units + 1 < cLine; omega) ya yb da db (by omega) (fun e => conv ks xs r ra (hits (by omega))) ⟨.bl _, H, I, rfl, ?_⟩
  rw [← la, ← lb]
  exact q
end
end Yd
namespace Yd
open PySem L2
/-! ### o as *o: an instance whose __iter__ gives the iterator of a dict with tuple keys, with a __len__ of its own -/
section
open PySem.W PySem.Calls
variable {X : Cx} {pins : List (Addr × Obj)} {σ : St} {H : Hp} {s : Shared} {A : Around}
theorem env0_sub {n : Nat} (sb : Sub X n A) (I : Inv X pins σ H s) : Env0 X.prog X.w X.K X.mg X.base A X.stack s H := by
  have e := I.env0
  exact ⟨by rw [sb.fr]; exact e.frames, e.mod, e.bs, e.bsz, e.funs, e.frf, e.hok, e.bare⟩
variable {k : Nat} {f C : Addr} {fd : FuncData} {ps : List Str} {us : List Value} {vs : List V} {Q : VK} {E : Value → Shared → Prop} {E0 : XK}
/-- a call, somewhere below the running body, of a def that lets nothing out -/
theorem run_sub {sp : Sp} (sb : Sub X k A) (F : FnOk X.prog X.w X.K X.mg X.base CX0 k f fd ps sp) (hb : Binds X.K fd ps []) (I : Inv X pins σ H s) (r : Vals vs us) (h : sp vs H Q E0) :
    wpAny (model X.prog X.w) A (call (.ref f) us) (EP X pins σ Q) E s := by
  have hl : (us ++ []).length = ps.length := by rw [List.append_nil, ← r.length]; exact F.len _ _ _ _ h
  have b := hb s us I.kIn hl
  rw [List.append_nil] at b
  refine wpAny_call (codeAny_mono (F.run A X.stack s H ⟨us, []⟩ us vs Q E0 sb.room (env0_sub sb I) b r h) fun r s' hq => ?_)
  match r, hq with
  | .ok (.ret u), hq => exact I.after hq
theorem run_subN {sp : Nat → Sp} (sb : Sub X k A) (F : FnN X.prog X.w X.K X.mg X.base k f fd ps sp) (hb : Binds X.K fd ps []) (I : Inv X pins σ H s) (r : Vals vs us) (h : sp s.heap.objs.size vs H Q E0) :
    wpAny (model X.prog X.w) A (call (.ref f) us) (EP X pins σ Q) E s := by
  have hl : (us ++ []).length = ps.length := by rw [List.append_nil, ← r.length]; exact F.len _ _ _ _ _ h
  have b := hb s us I.kIn hl
  rw [List.append_nil] at b
  refine wpAny_call (codeAny_mono (F.run A X.stack s H ⟨us, []⟩ us vs Q E0 sb.room (env0_sub sb I) b r h) fun r s' hq => ?_)
  match r, hq with
  | .ok (.ret u), hq => exact I.after hq
/-- a record of ours is pinned -/
theorem pinN {u : Addr} {o : Obj} (I : Inv X pins σ H s) (hu : s.heap.get? u = some o) (hn : H u = none) (hL : u ≠ X.env.locals) (hf : u ∉ X.fs) (hd : ∀ v, o.data ≠ .cell v) : Inv X ((u, o) :: pins) σ H s :=
  I.pins_of fun p hp => by
    rcases List.mem_cons.mp hp with rfl | hp
    · exact ⟨hu, hn, hL, hf, hd⟩
    · exact I.pin p (List.mem_append_right _ hp)
theorem pinO {u : Addr} {o : Obj} (I : Inv X ((u, o) :: pins) σ H s) : Inv X pins σ H s := I.pins_of fun p hp => I.pin p (List.mem_append_right _ (List.mem_cons_of_mem _ hp))
/-- how long o says that it is -/
theorem hint_own {spl : Sp} {dx : Addr} {fs : List (Str × V)} {a : Addr} {Q : Bool → Shared → Prop} (sb : Sub X (k + 1) A) (c : OpC X.K C "__len__" f) (F : FnOk X.prog X.w X.K X.mg X.base CX0 k f fd ps spl) (hb : Binds X.K fd ps []) (I : Inv X pins σ H s)
    (ha : H a = some (.ins C dx fs)) (h : spl [.ref a] H (fun v H' => H' = H ∧ ∃ n : Nat, v = .int n ∧ n ≤ sizeLine) E0) (hQ : ∀ b s', Inv X pins σ H s' → Q b s') :
    wpAny (model X.prog X.w) A (Builtin.List.listLengthHint (.ref a)) Q E s := by
  obtain ⟨m, hF⟩ := I.fr
  obtain ⟨mA, O, _⟩ := ins_get I.hok ha
  obtain ⟨oa, J, _⟩ := O.look
  unfold Builtin.List.listLengthHint
  refine wpAny_bind (wpAny_bind (J.type.here ((looks_findIn I.kIn c.at_).here ?_)))
  refine KFB.if_not rfl ?_
  refine KFB.if_so rfl ?_
  refine wpAny_bind (wpAny_rule ?_)
  refine wpAny_bind (wpAny_attempt (len_K hF I.ok.mod.kin J c.at_ c.fn (wpAny_mono (run_sub sb.in1 F hb I (us := [.ref a]) (vs := [.ref a]) (.cons rfl .nil) h) (fun r s1 ⟨z, H1, I1, rz, eH, n, ez, hn⟩ => ?_) fun _ _ z => z)))
  subst ez
  subst eH
  obtain ⟨t, rfl⟩ := (show ∃ t, r = Value.int (n : Int) t from rz)
  have h63 : (n : Int) < 2 ^ 63 := by
    have : sizeLine < 2 ^ 63 := by decide
    omega
  refine ⟨⟨Int.natCast_nonneg n, h63⟩, ?_⟩
  refine wpAny_bind (wpAny_pure ?_)
  refine wpAny_ite_split (fun z => ?_) (fun _ => wpAny_pure (hQ _ _ (I1.tok _)))
  exfalso
  have : ¬ (n > sizeLine) := by omega
  simp [Builtin.List.listTooLong] at z
  omega
theorem kt_up {H H2 : Hp} {kvs : List (List Key × V)} {ks : List (List Key × Addr × Value)} (up : ∀ b xs, H2 b = some (.tup xs) → H b = some (.tup xs)) (pr : KT H2 kvs ks) : KT H kvs ks := by
  induction pr with
  | nil => exact .nil
  | cons h t ih => exact .cons ⟨h.1, up _ _ h.2.1, h.2.2⟩ ih
/-- the class: its __iter__ and its __len__ -/
structure StarC (K : Frag) (C fi fl : Addr) : Prop where
  it : OpC K C "__iter__" fi
  ln : OpC K C "__len__" fl
section
variable {fi fl a d : Addr} {fdi fdl : FuncData} {psi psl : List Str} {sp : Nat → Sp} {spl : Sp} {dx : Addr} {fs : List (Str × V)} {od : Obj} {kvs : List (List Key × V)}
/-- where the list S takes in what o's iterator gives -/
theorem own_ext {S : Addr} {R : Result → Shared → Prop} (c : StarC X.K C fi fl) (FI : FnN X.prog X.w X.K X.mg X.base k fi fdi psi sp) (bI : Binds X.K fdi psi []) (FL : FnOk X.prog X.w X.K X.mg X.base CX0 k fl fdl psl spl) (bL : Binds X.K fdl psl [])
    (hr : Room (k + 2) X.A) (hh : X.A.handled = none) (fpS : FpOk X pins H S) (I2 : Inv X ((S, ({ cls := .type "list", data := .seq #[] 0 } : Obj)) :: pins) σ H s) (ha : H a = some (.ins C dx fs)) (hd : H d = some (.frz od (.dT kvs)))
    (hi : ∀ n, sp n [.ref a] H (fun v H2 => ∃ it, v = .ref it ∧ n ≤ it ∧ H it = none ∧ H2 = upd H it (KIo d it od kvs.length)) (fun _ _ _ => False))
    (hl : ∀ H2, H2 a = some (.ins C dx fs) → H2 d = some (.frz od (.dT kvs)) → spl [.ref a] H2 (fun v H' => H' = H2 ∧ ∃ n : Nat, v = .int n ∧ n ≤ sizeLine) (fun _ _ _ => False))
    (hR : ∀ (bs : List Addr) s' c', Inv X pins σ H s' → IsKeys H kvs bs → s'.heap.get? S = some { cls := .type "list", dict := none, data := .seq (bs.map Value.ref).toArray c', slots := #[] } → R (.ok (.ret (.ref S))) s') :
    wpAny (model X.prog X.w) X.A.in1 (Builtin.List.listExtendWith (.ref S) (.ref a) (.ref S))
      (fun fin s' => match fin with | .done f => R (.ok f) s' | .again c' => c'.quiet = true ∧ codeAny (model X.prog X.w) X.A c' R s') (fun e s' => R (.error e) s') s := by
  have sb1 : Sub X (k + 1) X.A.in1 := Sub.in1 (⟨hr, rfl⟩ : Sub X (k + 2) X.A)
  obtain ⟨m1, hF1⟩ := I2.fr
  obtain ⟨mA1, O1, _⟩ := ins_get I2.hok ha
  obtain ⟨oa1, J1, _⟩ := O1.look
  have hne : S ≠ a := fun z => by rw [← z, fpS.1] at ha; cases ha
  unfold Builtin.List.listExtendWith
  refine wpAny_bind (J1.type.here ?_)
  have h1 : Builtin.List.listSameRef (.ref S) (.ref a) = false := by simp [Builtin.List.listSameRef, hne]
  have h2 : (Value.ref C == Value.type "list") = false := rfl
  have h3 : (Value.ref C == Value.type "tuple") = false := rfl
  simp only [h1, h2, h3, Bool.or_false, Bool.false_eq_true, if_false]
  refine wpAny_bind (owit_iter hF1 I2.ok.mod.kin J1 c.it.at_ c.it.fn (wpAny_mono (run_subN (sb1.mono (Nat.le_succ k)) FI bI I2 (us := [.ref a]) (vs := [.ref a]) (.cons rfl .nil) (hi _)) (fun v s2 hv => ?_) fun _ _ z => z))
  obtain ⟨v', H2, I3, rv, it, ev, hn, hit, eH⟩ := hv
  subst ev
  obtain rfl : v = Value.ref it := rv
  have e2 : H2 it = some (KIo d it od kvs.length) := by rw [eH, upd_same]
  have young : X.s_0.heap.objs.size ≤ it := Nat.le_trans I2.sz hn
  have hd2 : H2 d = some (.frz od (.dT kvs)) := by rw [eH, upd_ne (ne_of_none hd hit)]; exact hd
  have ha2 : H2 a = some (.ins C dx fs) := by rw [eH, upd_ne (ne_of_none ha hit)]; exact ha
  have hT : s2.TypeIs (.ref it) "dict_keyiterator" := by
    obtain ⟨⟨es, ep, hdd, st⟩, _⟩ := (show ObjOk X.prog X.w H2 s2.heap it (KIo d it od kvs.length) from I3.hok it _ e2)
    exact let ⟨o, ho, hc, _⟩ := st; ⟨o, ho, hc⟩
  unfold OwitIt
  refine wpAny_specialOf hT PySem.F.slot_dict_keyiterator_next.lookup ?_
  refine wpAny_bind (wpAny_holding (hint_own sb1 c.ln FL bL I3 ha2 (hl H2 ha2 hd2) fun b s3 I4 => ?_))
  obtain ⟨⟨es, ep, hdd, st⟩, _⟩ := (show ObjOk X.prog X.w H2 s3.heap it (KIo d it od kvs.length) from I4.hok it _ e2)
  obtain ⟨hod, z, hsy, ks, pr, o', es', ep', ho, hx, hdt, he, hnd⟩ := I4.hok d _ hd2
  rw [hod] at ho
  cases ho
  rw [hdd] at hdt
  cases hdt
  have hS3 : s3.heap.get? S = some { cls := .type "list", data := .seq #[] 0 } := (I4.pin _ (List.mem_append_right _ (List.mem_cons_self ..))).1
  have l1 : es.size = ks.length := size_of_entries he
  have l2 : kvs.length = ks.length := Paired.length pr
  have hSit : S ≠ it := fun q => by
    have w := (I4.pin _ (List.mem_append_right _ (List.mem_cons_self ..))).2.1
    rw [q, e2] at w
    cases w
  have hSd : S ≠ d := fun q => by
    have w := (I4.pin _ (List.mem_append_right _ (List.mem_cons_self ..))).2.1
    rw [q, hd2] at w
    cases w
  have hdit : d ≠ it := ne_of hd2 e2 (fun z => nomatch z)
  have W := walks_raw (prog := X.prog) (w := X.w) (A := X.A.in1) (o := od) (es := es) (ep := ep) hh it d hdit hdd
  rw [l2, ← l1] at st
  have hSf : S ∉ [it, d] := by simp only [List.mem_cons, List.not_mem_nil, or_false, not_or]; exact ⟨hSit, hSd⟩
  have I5 : Inv X pins σ (ItX.dropH H2 it) s3 := by
    have w := e2
    unfold KIo at w
    exact ItX.inv_drop (pinO I4) w
  have fpI : FpOk X pins (ItX.dropH H2 it) it := ItX.inv_fp (pinO I4) e2 young
  have hdrop : ItX.dropH H2 it = H := by rw [eH]; exact ItX.dropH_upd hit
  rw [hdrop] at I5 fpI
  have pr' : KT H kvs ks := by
    have up : ∀ b xs, H2 b = some (.tup xs) → H b = some (.tup xs) := fun b xs e => by
      have hb : b ≠ it := fun q => by rw [q, e2] at e; cases e
      rw [eH, upd_ne hb] at e
      exact e
    exact kt_up up pr
  -- the loop
  have key : ∀ (h : Heap) (c₁ tk : Nat), h.IsKeyIter it d 0 es.size ep ∧ h.get? d = some od → (∀ b o, b ≠ S → s3.heap.get? b = some o → h.get? b = some o) → h.get? S = some { cls := .type "list", data := .seq #[] c₁ } →
      codeAny (model X.prog X.w) X.A (.builtin "list.extend.loop" ⟨[.ref S, .ref it, .ref S], []⟩) R { s3 with heap := h, toks := tk } := by
    intro h c₁ tk hst hk hS₁
    refine codeAny_extend_loopS W.toS (by omega) S hSf (.ref S) es.size 0 _ #[] c₁ rfl (Nat.zero_le _) hst hS₁ (ItemsOf.nil _) fun s' acc' c' hm hS' hacc => ?_
    have ke : ∀ b o, b ∉ [S, it] → s3.heap.get? b = some o → s'.heap.get? b = some o := fun b o hb e => by
      simp only [List.mem_cons, List.not_mem_nil, or_false, not_or] at hb
      exact hm.heap b o (by simp only [List.mem_cons, List.not_mem_nil, or_false, not_or]; exact hb) (hk b o hb.1 e)
    have ea : acc'.toList = ks.map fun x => Value.ref x.2.1 := by
      have hll : acc'.toList.length = ks.length := by rw [Array.length_toList, hacc.1]; exact l1
      apply List.ext_getElem?
      intro j
      rw [List.getElem?_map]
      cases hj : acc'.toList[j]? with
      | none =>
        have h1 := List.getElem?_eq_none_iff.mp hj
        rw [List.getElem?_eq_none (by omega)]
        all_goals rfl
      | some v =>
        obtain ⟨en, hen, hv⟩ := hacc.2 j v (by rw [← Array.getElem?_toList]; exact hj)
        have qe := entry_at he j
        rw [hen] at qe
        cases hb : ks[j]? with
        | none =>
          rw [hb] at qe
          exact nomatch (show some en = none from qe)
        | some b =>
          rw [hb] at qe
          have e2 : en = entryOfKey (tupleKind (mixKind X.prog X.w)) b := Option.some.inj qe
          rw [hv, e2]
          all_goals rfl
    have eb : acc'.toList = (ks.map fun x => x.2.1).map Value.ref := by rw [ea, List.map_map]; all_goals rfl
    have ec : acc' = ((ks.map fun x => x.2.1).map Value.ref).toArray := by rw [← eb]
    rw [ec] at hS'
    have es' := Moved.eq_with hm
    have J6 : Inv X pins σ H { s3 with heap := s'.heap, toks := s'.toks } := Inv.turnedL (ch := [S, it]) (t' := s'.toks) I5 ke fun b hb => by
      rcases List.mem_cons.mp hb with q | q
      · rw [q]; exact fpS
      · rw [List.mem_singleton.mp q]; exact fpI
    exact hR _ s' c' (by rw [es']; exact J6) (isKeys_of pr') hS'
  refine wpAny_ite_split (fun _ => ?_) (fun _ => wpAny_pure ⟨plainId_quiet PySem.F.plain_extend_loop _, key s3.heap 0 s3.toks ⟨st, hod⟩ (fun b o _ e => e) hS3⟩)
  refine wpAny_bind (wpAny_rule ?_)
  refine wpAny_bind ?_
  show wpAny _ _ (updateSeq S (·.push .none) >>= fun _ => updateSeq S (·.pop)) _ _ _
  refine wpAny_bind (wpAny_updateSeq hS3 rfl ?_)
  have hS₂ := Heap.get?_update_self (Obj.mapSeq (·.push Value.none)) hS3 rfl
  refine wpAny_updateSeq (hz := by seq_fits) hS₂ rfl ?_
  have hS₃ := Heap.get?_update_self (Obj.mapSeq (·.pop)) hS₂ rfl
  refine wpAny_pure ⟨plainId_quiet PySem.F.plain_extend_loop _, key _ _ _ ?_ (fun b o hb e => ?_) hS₃⟩
  · refine W.frame 0 _ _ ⟨st, hod⟩ fun b hb o e => ?_
    have hbS : b ≠ S := fun h => hSf (h ▸ hb)
    exact (Heap.get?_update_other _ _ (Ne.symm hbS)).trans ((Heap.get?_update_other _ _ (Ne.symm hbS)).trans e)
  · exact (Heap.get?_update_other _ _ (Ne.symm hb)).trans ((Heap.get?_update_other _ _ (Ne.symm hb)).trans e)
theorem star_own {Q : List Value → Shared → Prop} (c : StarC X.K C fi fl) (FI : FnN X.prog X.w X.K X.mg X.base k fi fdi psi sp) (bI : Binds X.K fdi psi []) (FL : FnOk X.prog X.w X.K X.mg X.base CX0 k fl fdl psl spl) (bL : Binds X.K fdl psl [])
    (hr : Room (k + 2) X.A) (hc : X.calm = true) (I : Inv X pins σ H s) (ha : H a = some (.ins C dx fs)) (hd : H d = some (.frz od (.dT kvs)))
    (hi : ∀ n, sp n [.ref a] H (fun v H2 => ∃ it, v = .ref it ∧ n ≤ it ∧ H it = none ∧ H2 = upd H it (KIo d it od kvs.length)) (fun _ _ _ => False))
    (hl : ∀ H2, H2 a = some (.ins C dx fs) → H2 d = some (.frz od (.dT kvs)) → spl [.ref a] H2 (fun v H' => H' = H2 ∧ ∃ n : Nat, v = .int n ∧ n ≤ sizeLine) (fun _ _ _ => False))
    (hQ : ∀ bs s', Inv X pins σ H s' → IsKeys H kvs bs → Q (bs.map Value.ref) s') : StarOf (model X.prog X.w) X.A E (.ref a) Q s := by
  obtain ⟨mA, O, _⟩ := ins_get I.hok ha
  obtain ⟨oa, J, _⟩ := O.look
  unfold StarOf notIterableAtAll
  refine wpAny_bind (wpAny_bind (J.type.here ((looks_findIn I.kIn c.it.at_).here ?_)))
  refine wpAny_pure ⟨rfl, ?_⟩
  have fpS : FpOk X pins H s.heap.objs.size := I.fpOk (Nat.le_refl _) (I.hok.fresh (Nat.le_refl _))
  have new : (s.heap.push { cls := .type "list", data := .seq ([] : List Value).toArray }).get? s.heap.objs.size = some { cls := .type "list", data := .seq #[] 0 } := Heap.get?_push_size _ rfl
  unfold collect
  refine wpAny_bind (wpAny_runValue (codeAny_builtin F.entry_proto_collect ?_))
  rw [Around.under_plainId F.plain_proto_collect _]
  refine wpAny_bind (m := newList []) (wpAny_newObj_type (wpAny_pure ⟨plainId_quiet F.plain_list_iadd _, codeAny_builtin F.entry_list_iadd ?_⟩))
  rw [Around.under_plainId F.plain_list_iadd _]
  have I1 : Inv X pins σ H { s with heap := s.heap.push { cls := .type "list", data := .seq ([] : List Value).toArray } } := I.kept (t' := s.toks) fun b o q => Heap.get?_push_of_some _ q
  have I2 := pinN (o := { cls := .type "list", data := .seq #[] 0 }) I1 new fpS.1 fpS.2.1 fpS.2.2.1 (fun v z => by cases z)
  refine wpAny_mono (own_ext (S := s.heap.objs.size) (R := fun rr s' => rr = .ok (.ret (.ref s.heap.objs.size)) ∧ ∃ (bs : List Addr) (c' : Nat), s'.heap.get? s.heap.objs.size = some { cls := .type "list", dict := none, data := .seq (bs.map Value.ref).toArray c', slots := #[] } ∧ Q (bs.map Value.ref) s')
    c FI bI FL bL hr (I.ok.hd hc) fpS I2 ha hd hi hl (fun bs s' c' I' ik e => ⟨rfl, bs, c', e, hQ bs s' I' ik⟩)) (fun fin s' z => ?_) fun e s' z => absurd z.1 (by simp)
  cases fin with
  | done f =>
    obtain ⟨e, bs, c', hS, q⟩ := z
    cases e
    exact wpAny_bind (m := load s.heap.objs.size) (wpAny_load hS (wpAny_pure (by simpa using q)))
  | again c2 =>
    refine ⟨z.1, codeAny_mono z.2 fun rr s'' y => ?_⟩
    obtain ⟨e, bs, c', hS, q⟩ := y
    cases e
    exact wpAny_bind (m := load s.heap.objs.size) (wpAny_load hS (wpAny_pure (by simpa using q)))
/-- [.., *o, ..] -/
def tStarO (C : Addr) (sp : Nat → Sp) (spl : Sp) (te : TE) (t : TA) : TA := fun σ H Q => te σ H fun x H1 => ∃ a dx fs d od kvs, x = V.ref a ∧ H1 a = some (.ins C dx fs) ∧ H1 d = some (.frz od (.dT kvs)) ∧
  (∀ n, sp n [.ref a] H1 (fun v H2 => ∃ it, v = .ref it ∧ n ≤ it ∧ H1 it = none ∧ H2 = upd H1 it (KIo d it od kvs.length)) (fun _ _ _ => False)) ∧
  (∀ H2, H2 a = some (.ins C dx fs) → H2 d = some (.frz od (.dT kvs)) → spl [.ref a] H2 (fun v H' => H' = H2 ∧ ∃ n : Nat, v = .int n ∧ n ≤ sizeLine) (fun _ _ _ => False)) ∧
  ∀ bs, IsKeys H1 kvs bs → t σ H1 fun ys H2 => Q (bs.map V.ref ++ ys) H2
theorem pa_starO {e : Expr} {es : List Expr} {te : TE} {t : TA} {p : Pos} (c : StarC X.K C fi fl) (FI : FnN X.prog X.w X.K X.mg X.base k fi fdi psi sp) (bI : Binds X.K fdi psi []) (FL : FnOk X.prog X.w X.K X.mg X.base CX0 k fl fdl psl spl) (bL : Binds X.K fdl psl [])
    (hr : Room (k + 2) X.A) (hc : X.calm = true) (he : PE X e te) (hrest : PA X es t) (hs : starEach (.Starred e p :: es) X.env = (true, eval e X.env) :: starEach es X.env := by rfl) : PA X (.Starred e p :: es) (tStarO C sp spl te t) := by
  refine ⟨fun pos pins s σ H Q I h => ?_⟩
  refine items_star (thn (he.run pins s σ H _ I h) fun v s1 ⟨y, H1, I1, ry, a, dx, fs, d, od, kvs, ey, ha, hd, hi, hl, q⟩ => ?_) hs
  subst ey
  obtain rfl : v = Value.ref a := ry
  refine star_own c FI bI FL bL hr hc I1 ha hd hi hl fun bs s2 I2 ik => ?_
  exact thn (hrest.run pos pins s2 σ H1 _ I2 (q bs ik)) fun ws s3 ⟨vs, H3, I3, r3, q3⟩ => ⟨bs.map V.ref ++ vs, H3, I3, (vals_refs bs).append r3, q3⟩
end
end
end Yd
namespace Yd
open PySem L2
/-! ### the class Hold -/
section
variable {K : PySem.W.Frag} {a : Addr} {xs : List V} {g : TG} {tt : TT} {tk tv te : TE} {vs : List Nat} {σ : St} {H1 : Hp} {D : Addr} {Qd : Hp → Prop}
theorem dp_list (Pv : Nat → Hp → Prop) (h0 : Pv 0 (upd H1 D (.dT []))) (hl : ∀ i H, i ≤ xs.length → Pv i H → SqL K H a xs)
    (hs : ∀ i x H, xs[i]? = some x → Pv i H → g x (wipe σ vs) H fun σ2 H2 => wipe σ2 vs = wipe σ vs ∧ tt σ2 H2 fun b H3 => if b = true then pairTurn D tk tv σ2 H3 (Pv (i + 1)) else Pv (i + 1) H3) (hd : ∀ H, Pv xs.length H → Qd H) :
    ∃ W : Nat → Nat → Hp → Prop, (∃ m, W 0 m (upd H1 D (.dT []))) ∧ ∀ i m H, W i m H →
      ((Itl K a).stop i H ∧ Qd H) ∨ ((Itl K a).go i H ∧ ∃ Nx : Hp → Prop, (∀ H', Nx H' → ∃ m', m' < m ∧ W (i + 1) m' H') ∧ ∀ x H', (Itl K a).yld i H x H' → g x (wipe σ vs) H' fun σ2 H2 => wipe σ2 vs = wipe σ vs ∧ tt σ2 H2 fun b H3 => if b = true then pairTurn D tk tv σ2 H3 Nx else Nx H3) :=
  dp_run (n := xs.length) Pv h0 (fun i H hi p => ⟨xs, xs[i], hl i H (by omega) p, List.getElem?_eq_getElem hi⟩) (fun H p => ⟨xs, hl _ H (Nat.le_refl _) p, Nat.le_refl _⟩) (fun i x H H' hi p y => by obtain ⟨e, y⟩ := y; subst e; exact hs i x _ (y xs (hl i _ (by omega) p)) p) hd
theorem dp_tupl (Pv : Nat → Hp → Prop) (h0 : Pv 0 (upd H1 D (.dT []))) (hl : ∀ i H, i ≤ xs.length → Pv i H → SqT K H a xs)
    (hs : ∀ i x H, xs[i]? = some x → Pv i H → g x (wipe σ vs) H fun σ2 H2 => wipe σ2 vs = wipe σ vs ∧ tt σ2 H2 fun b H3 => if b = true then pairTurn D tk tv σ2 H3 (Pv (i + 1)) else Pv (i + 1) H3) (hd : ∀ H, Pv xs.length H → Qd H) :
    ∃ W : Nat → Nat → Hp → Prop, (∃ m, W 0 m (upd H1 D (.dT []))) ∧ ∀ i m H, W i m H →
      ((Itt K a).stop i H ∧ Qd H) ∨ ((Itt K a).go i H ∧ ∃ Nx : Hp → Prop, (∀ H', Nx H' → ∃ m', m' < m ∧ W (i + 1) m' H') ∧ ∀ x H', (Itt K a).yld i H x H' → g x (wipe σ vs) H' fun σ2 H2 => wipe σ2 vs = wipe σ vs ∧ tt σ2 H2 fun b H3 => if b = true then pairTurn D tk tv σ2 H3 Nx else Nx H3) :=
  dp_run (n := xs.length) Pv h0 (fun i H hi p => ⟨xs, xs[i], hl i H (by omega) p, List.getElem?_eq_getElem hi⟩) (fun H p => ⟨xs, hl _ H (Nat.le_refl _) p, Nat.le_refl _⟩) (fun i x H H' hi p y => by obtain ⟨e, y⟩ := y; subst e; exact hs i x _ (y xs (hl i _ (by omega) p)) p) hd
/-- a list comprehension over the spots of a locked dict -/
theorem lc_spots {d : Addr} {od : Obj} {ps : List Pr} (Pv : Nat → Hp → Prop) (h0 : Pv 0 (upd H1 D (.lst []))) (hl : ∀ i H, i ≤ ps.length → Pv i H → H d = some (.frz od (.dT (pD ps))))
    (hs : ∀ i p q H, ps[i]? = some p → H q = some (.tup [.str p.1, .str p.2]) → Pv i H → g (.ref q) (wipe σ vs) H fun σ2 H2 => wipe σ2 vs = wipe σ vs ∧ tt σ2 H2 fun b H3 =>
      if b = true then te σ2 H3 fun y H4 => ∃ acc, H4 D = some (.lst acc) ∧ acc.length < sizeLine ∧ Pv (i + 1) (upd H4 D (.lst (acc ++ [y]))) else Pv (i + 1) H3) (hd : ∀ H, Pv ps.length H → Qd H) :
    ∃ W : Nat → Nat → Hp → Prop, (∃ m, W 0 m (upd H1 D (.lst []))) ∧ ∀ i m H, W i m H →
      ((Itkt d od (pD ps)).stop i H ∧ Qd H) ∨ ((Itkt d od (pD ps)).go i H ∧ ∃ Nx : Hp → Prop, (∀ H', Nx H' → ∃ m', m' < m ∧ W (i + 1) m' H') ∧ ∀ x H', (Itkt d od (pD ps)).yld i H x H' → g x (wipe σ vs) H' fun σ2 H2 => wipe σ2 vs = wipe σ vs ∧ tt σ2 H2 fun b H3 =>
        if b = true then te σ2 H3 fun y H4 => ∃ acc, H4 D = some (.lst acc) ∧ acc.length < sizeLine ∧ Nx (upd H4 D (.lst (acc ++ [y]))) else Nx H3) :=
  lc_run (n := ps.length) Pv h0 (fun i H hi p => ⟨hl i H (by omega) p, by rw [pD_len]; exact hi⟩) (fun H p => ⟨hl _ H (Nat.le_refl _) p, by rw [pD_len]; exact Nat.le_refl _⟩) (fun i x H H' hi p y => by
    obtain ⟨e, k, v, q, hk, ex, hq⟩ := y
    subst e ex
    unfold pD at hk
    rw [List.getElem?_map] at hk
    cases hp : ps[i]? with
    | none => rw [hp] at hk; cases hk
    | some pr =>
      rw [hp] at hk
      obtain ⟨rfl, _⟩ := Prod.mk.inj (Option.some.inj hk)
      exact hs i pr q _ hp hq p) hd
end
theorem same_seqT {K : PySem.W.Frag} {H H' : Hp} {a : Addr} {xs : List V} (s : Same H H') (h : SqT K H a xs) : SqT K H' a xs := by
  rcases h with (h | ⟨o, h⟩) | h
  · exact .inl (.inl (s _ _ h))
  · exact .inl (.inr ⟨o, s _ _ h⟩)
  · exact .inr h
structure HCls (K : PySem.W.Frag) (C : Addr) : Prop where
  cls : Cls K C
  nS : NoAttr K C "_spots"
/-- a hold of these spots, its dict at d -/
structure HoldAt (H : Hp) (C a d : Addr) (ps : List Pr) : Prop where
  ins : ∃ dx, H a = some (.ins C dx [("_spots", .ref d)])
  dict : H d = some (.dT (pD ps))
  nd : ps.Nodup
theorem HoldAt.keep {H H' : Hp} {C a d : Addr} {ps : List Pr} (h : HoldAt H C a d ps) (s : Same H H') : HoldAt H' C a d ps := ⟨let ⟨dx, e⟩ := h.ins; ⟨dx, s _ _ e⟩, s _ _ h.dict, h.nd⟩
theorem PairsAt.same {H H' : Hp} {xs : List V} {ps : List Pr} (h : PairsAt H xs ps) (s : Same H H') : PairsAt H' xs ps := h.keep fun t ys e => s t _ e
/-- a list or a tuple of pairs -/
def RowsP (K : PySem.W.Frag) (H : Hp) (l : Addr) (ps : List Pr) : Prop := ∃ xs, PairsAt H xs ps ∧ (SqL K H l xs ∨ SqT K H l xs)
def spHInit (K : PySem.W.Frag) : Sp := fun vs H Q _ => ∃ (a C dx l : Addr) (ps : List Pr), vs = [.ref a, .ref l] ∧ H a = some (.ins C dx []) ∧ HCls K C ∧ RowsP K H l ps ∧ ps.length ≤ 1000 ∧
  ∀ d H', H d = none → Gro a H H' → H' a = some (.ins C dx [("_spots", .ref d)]) → H' d = some (.dT (pD (onceP ps))) → Q .non H'
def spHIter (K : PySem.W.Frag) : Nat → Sp := fun n vs H Q _ => ∃ (a C dx d : Addr) (od : Obj) (ps : List Pr), vs = [.ref a] ∧ H a = some (.ins C dx [("_spots", .ref d)]) ∧ HCls K C ∧ H d = some (.frz od (.dT (pD ps))) ∧
  ∀ it, H it = none → n ≤ it → Q (.ref it) (upd H it (KIo d it od (pD ps).length))
def spHLen (K : PySem.W.Frag) : Sp := fun vs H Q _ => ∃ (a C dx d : Addr) (ps : List Pr), vs = [.ref a] ∧ H a = some (.ins C dx [("_spots", .ref d)]) ∧ HCls K C ∧ Rd H d (.dT (pD ps)) ∧ Q (.int (ps.length : Nat)) H
def spHIn (K : PySem.W.Frag) : Sp := fun vs H Q _ => ∃ (a C dx d t : Addr) (ps : List Pr) (p : Pr), vs = [.ref a, .ref t] ∧ H a = some (.ins C dx [("_spots", .ref d)]) ∧ HCls K C ∧ Rd H d (.dT (pD ps)) ∧ H t = some (.tup [.str p.1, .str p.2]) ∧ Q (.bl (decide (p ∈ ps))) H
/-- len of a dict with tuple keys, locked or not -/
theorem call_lenT {X : Cx} : CallR X (.builtin "len") (fun xs H Q => ∃ (p : Addr) (kvs : List (List Key × V)), xs = [.ref p] ∧ Rd H p (.dT kvs) ∧ Q (.int ((kvs.length : Nat) : Int)) H) := by
  intro pins s σ H xs us Q I r h
  obtain ⟨p, kvs, rfl, hp, q⟩ := h
  obtain ⟨u, rfl, rx⟩ := vals1 r
  obtain rfl : u = .ref p := rx
  obtain ⟨z, hd, ys, rel, dd⟩ := dt_rd I.hok hp
  have hl : kvs.length = ys.length := Paired.length rel
  refine call_len_dictH hd dd (by rw [← hl]; rw [sizeLine_eq] at z; omega) ?_
  rw [← hl]
  exact ⟨.int ((kvs.length : Nat) : Int), H, I.tok _, ⟨_, rfl⟩, q⟩
section
variable {P : Program} {w : World} {K : PySem.W.Frag} {mg : Str → Option Value} {base : Heap}
theorem scHIter : FnScope ["self"] ["self"] (defScope sHoldIter) := ⟨rfl, rfl, rfl, by decide +kernel, rfl, by decide +kernel, by decide +kernel⟩
theorem ok_hIter {f : Addr} {fd : FuncData} (F : Fun K "__iter__" "Hold.__iter__" sHoldIter f fd) (hI : mg "iter" = none) : FnN P w K mg base 1 f fd ["self"] (spHIter K) := by
  refine fun_N F scHIter (fun n vs H Q E h => ?_) (fun cdv A outer s H vs Q E hr h => ?_)
  · obtain ⟨a, C, dx, d, od, ps, rfl, _⟩ := h
    rfl
  · obtain ⟨a, C, dx, d, od, ps, rfl, ha, hc, hd, k⟩ := h
    refine ⟨_, pss_one (ps_ret (pe_callB call_iterK (by rfl) hI (by decide +kernel) (pa_cons (pe_fld (pv 0) rfl) pa_nil))), ?_⟩
    exact ⟨_, rfl, a, C, dx, _, _, rfl, ha, hc.cls, hc.nS, rfl, d, od, _, rfl, .inr ⟨_, hd, rfl⟩, fun it h1 h2 => k it h1 h2⟩
theorem scHLen : FnScope ["self"] ["self"] (defScope sHoldLen) := ⟨rfl, rfl, rfl, by decide +kernel, rfl, by decide +kernel, by decide +kernel⟩
theorem ok_hLen {f : Addr} {fd : FuncData} (F : Fun K "__len__" "Hold.__len__" sHoldLen f fd) (hL : mg "len" = none) : FnOk P w K mg base CX0 1 f fd ["self"] (spHLen K) := by
  refine F.ok scHLen (fun vs H Q E h => ?_) (fun cdv A outer s H vs Q E hr h => ?_)
  · obtain ⟨a, C, dx, d, ps, rfl, _⟩ := h
    rfl
  · obtain ⟨a, C, dx, d, ps, rfl, ha, hc, hd, k⟩ := h
    refine ⟨_, pss_one (ps_ret (pe_callB call_lenT (by rfl) hL PySem.boot_len (pa_cons (pe_fld (pv 0) rfl) pa_nil))), ?_⟩
    refine ⟨_, rfl, a, C, dx, _, _, rfl, ha, hc.cls, hc.nS, rfl, d, _, rfl, hd, ?_⟩
    rw [pD_len]
    exact k
theorem scHIn : FnScope ["self", "x"] ["self", "x"] (defScope sHoldIn) := ⟨rfl, rfl, rfl, by decide +kernel, rfl, by decide +kernel, by decide +kernel⟩
theorem ok_hIn {f : Addr} {fd : FuncData} (F : Fun K "__contains__" "Hold.__contains__" sHoldIn f fd) : FnOk P w K mg base CX0 1 f fd ["self", "x"] (spHIn K) := by
  refine F.ok scHIn (fun vs H Q E h => ?_) (fun cdv A outer s H vs Q E hr h => ?_)
  · obtain ⟨a, C, dx, d, t, ps, p, rfl, _⟩ := h
    rfl
  · obtain ⟨a, C, dx, d, t, ps, p, rfl, ha, hc, hd, ht, k⟩ := h
    refine ⟨_, pss_one (ps_ret (pe_cmp (pc_din (hu_of hr) (pv 1) (pe_fld (pv 0) rfl)))), ?_⟩
    refine ⟨_, rfl, _, rfl, a, C, dx, _, _, rfl, ha, hc.cls, hc.nS, rfl, d, _, rfl, .inr ⟨_, kP p, t, hd, rfl, ht, rfl⟩, ?_⟩
    rw [pD_val]
    by_cases m : p ∈ ps
    · rw [if_pos m, decide_eq_true m] at *
      exact k
    · rw [if_neg m, decide_eq_false m] at *
      exact k
def nHInit : List Str := ["self", "rows", "kind", "standing"]
theorem scHInit : FnScope nHInit ["self", "rows"] (defScope sHoldInit) := ⟨rfl, rfl, rfl, by decide +kernel, rfl, by decide +kernel, by decide +kernel⟩
theorem ok_hInit {f : Addr} {fd : FuncData} {dvs : List V} (F : FunD K "__init__" "Hold.__init__" (defArgs sHoldInit) (defBody sHoldInit) (defScope sHoldInit) dvs [] f fd) : FnOk P w K mg base CX0 1 f fd ["self", "rows"] (spHInit K) := by
  refine F.ok scHInit (fun vs H Q E h => ?_) (fun cdv A outer s H vs Q E hr h => ?_)
  · obtain ⟨a, C, dx, l, ps, rfl, _⟩ := h
    rfl
  · obtain ⟨a, C, dx, l, ps, rfl, ha, hc, ⟨xs, hxs, hl⟩, hlen, k⟩ := h
    have hu := hu_of hr
    have turn : ∀ (D : Addr) (i : Nat) (x : V) (H' : Hp), H D = none → xs[i]? = some x → Same H H' → H' D = some (.dT (pD (onceP (ps.take i)))) → ∃ t p, x = .ref t ∧ ps[i]? = some p ∧ H' t = some (.tup [.str p.1, .str p.2]) ∧
        ∀ b, H' b = none → ∃ kvs k c, V.ref b = .ref c ∧ upd H' b (.tup [.str p.1, .str p.2]) c = some (.tup (List.map kV k)) ∧ upd H' b (.tup [.str p.1, .str p.2]) D = some (.dT kvs) ∧ kvs.length < sizeLine ∧
          (Same H (upd (upd H' b (.tup [.str p.1, .str p.2])) D (.dT (putK kvs k (.bl true)))) ∧ upd (upd H' b (.tup [.str p.1, .str p.2])) D (.dT (putK kvs k (.bl true))) D = some (.dT (pD (onceP (ps.take (i + 1)))))) := fun D i x H' hD hi s e => by
      obtain ⟨t, p, ex, hp, ht⟩ := PairsAt.get (hxs.same s) hi
      refine ⟨t, p, ex, hp, ht, fun b hb => ?_⟩
      have nDb : D ≠ b := ne_of_none e hb
      refine ⟨_, kP p, b, rfl, upd_same, by rw [upd_ne nDb]; exact e, ?_, fun c o q => ?_, ?_⟩
      · have q := onceP_len (ps.take i)
        rw [List.length_take] at q
        refine small1000 ?_
        rw [pD_len]
        omega
      · rw [upd_ne (ne_of_none q hD), upd_ne (ne_of_none (s c o q) hb)]
        exact s c o q
      · rw [upd_same, pD_put, onceP_more hp]
    have start : ∀ D, H D = none → Same H (upd H D (.dT [])) ∧ upd H D (.dT []) D = some (.dT (pD (onceP (ps.take 0)))) := fun D hD => ⟨fun b o e => by rw [upd_ne (ne_of_none e hD)]; exact e, upd_same⟩
    have lx : xs.length = ps.length := hxs.len
    have fin : ∀ (D : Addr) (H' : Hp), H D = none → Same H H' → H' D = some (.dT (pD (onceP (ps.take xs.length)))) → Q .non (upd H' a (.ins C dx [("_spots", .ref D)])) := fun D H' hD s e => by
      rw [lx, List.take_length] at e
      have naD : D ≠ a := (ne_of_none ha hD).symm
      exact k D _ hD (fun b o q n => by rw [upd_ne n]; exact s b o q) upd_same (by rw [upd_ne naD]; exact e)
    rcases hl with hl | hl
    · refine ⟨_, pss_one (ps_fld (pv 0) (pe_dp (own := [("kind", 2), ("standing", 3)]) (g := gTup K 2 (gCons (gName 2) (gCons (gName 3) gNil))) (tt := tYes) (Nat.lt_trans (Nat.lt_succ_self _) hu) rfl scHInit.nd (pi_list (pv 1)) (blkOk_by (N := nHInit) (sc := defScope sHoldInit) (by decide +kernel))
        (fun _ _ _ _ _ => pg_tup (by rfl) (pgs_cons (pg_name (i := 2) scHInit.nd rfl (Or.inl rfl)) (pgs_cons (pg_name (i := 3) scHInit.nd rfl (Or.inl rfl)) pgs_nil))) (fun _ _ _ _ _ => pts_nil)
        (fun _ _ _ _ _ => pe_tup (pa_cons (pv 2) (pa_cons (pv 3) pa_nil))) (fun _ _ _ _ _ => pe_bl)) rfl), ?_⟩
      refine ⟨_, rfl, l, rfl, ⟨_, hl⟩, fun D hD => ?_⟩
      refine dp_list (K := K) (a := l) (xs := xs) (fun i H' => Same H H' ∧ H' D = some (.dT (pD (onceP (ps.take i))))) (start D hD) (fun i H' _ h => h.1.seq hl) (fun i x H' hi h => ?_) fun H' h => ?_
      · obtain ⟨t, p, rfl, hp, ht, go⟩ := turn D i x H' hD hi h.1 h.2
        refine ⟨t, _, rfl, SqT.of ht, rfl, _, _, rfl, _, _, rfl, rfl, rfl, ?_⟩
        exact ⟨_, rfl, _, rfl, (by show 2 ≤ sizeLine; decide), fun b hb => go b hb⟩
      · exact ⟨_, rfl, a, C, dx, _, rfl, h.1 _ _ ha, hc.cls, hc.nS, (by show 0 < 1000; decide), fin D H' hD h.1 h.2⟩
    · refine ⟨_, pss_one (ps_fld (pv 0) (pe_dp (own := [("kind", 2), ("standing", 3)]) (g := gTup K 2 (gCons (gName 2) (gCons (gName 3) gNil))) (tt := tYes) (Nat.lt_trans (Nat.lt_succ_self _) hu) rfl scHInit.nd (pi_tup (pv 1)) (blkOk_by (N := nHInit) (sc := defScope sHoldInit) (by decide +kernel))
        (fun _ _ _ _ _ => pg_tup (by rfl) (pgs_cons (pg_name (i := 2) scHInit.nd rfl (Or.inl rfl)) (pgs_cons (pg_name (i := 3) scHInit.nd rfl (Or.inl rfl)) pgs_nil))) (fun _ _ _ _ _ => pts_nil)
        (fun _ _ _ _ _ => pe_tup (pa_cons (pv 2) (pa_cons (pv 3) pa_nil))) (fun _ _ _ _ _ => pe_bl)) rfl), ?_⟩
      refine ⟨_, rfl, l, rfl, ⟨_, hl⟩, fun D hD => ?_⟩
      refine dp_tupl (K := K) (a := l) (xs := xs) (fun i H' => Same H H' ∧ H' D = some (.dT (pD (onceP (ps.take i))))) (start D hD) (fun i H' _ h => same_seqT h.1 hl) (fun i x H' hi h => ?_) fun H' h => ?_
      · obtain ⟨t, p, rfl, hp, ht, go⟩ := turn D i x H' hD hi h.1 h.2
        refine ⟨t, _, rfl, SqT.of ht, rfl, _, _, rfl, _, _, rfl, rfl, rfl, ?_⟩
        exact ⟨_, rfl, _, rfl, (by show 2 ≤ sizeLine; decide), fun b hb => go b hb⟩
      · exact ⟨_, rfl, a, C, dx, _, rfl, h.1 _ _ ha, hc.cls, hc.nS, (by show 0 < 1000; decide), fin D H' hD h.1 h.2⟩
end
end Yd
namespace Yd
open PySem L2
/-! ### the values of a dict whose keys are tuples -/
section
variable {X : Cx} {pins : List (Addr × Obj)} {σ : St} {H : Hp} {s : Shared} {d : Addr} {o : Obj}
theorem frzTv {kvs : List (List Key × V)} (I : Inv X pins σ H s) (h : H d = some (.frz o (.dT kvs))) :
    (d == sysModules) = false ∧ s.heap.get? d = some o ∧ o.ExactDict ∧ ∃ (es : Array DictEntry) (ep : Nat), o.data = .dict es ep ∧ es.size = kvs.length ∧
      ∀ (i : Nat) (k : List Key) (v : V), kvs[i]? = some (k, v) → ∃ (en : DictEntry), es[i]? = some en ∧ RelV v en.val := by
  obtain ⟨hd, z, hs, xs, pr, o', es, ep, ho, hx, hdt, he, _⟩ := I.hok d _ h
  rw [hd] at ho
  cases ho
  refine ⟨hs, hd, hx, es, ep, hdt, ?_, fun i k v e => ?_⟩
  · have l1 : es.size = xs.length := size_of_entries he
    have l2 : kvs.length = xs.length := Paired.length pr
    omega
  · obtain ⟨b, hb, e1, e2, e3⟩ := paired_get pr e
    have q := entry_at he i
    rw [hb] at q
    exact ⟨_, q, e3⟩
/-- the values, in order -/
def Itdt (d : Addr) (o : Obj) (kvs : List (List Key × V)) : It :=
  ⟨fun i H => H d = some (.frz o (.dT kvs)) ∧ i < kvs.length, fun i H x H' => H' = H ∧ ∃ k, kvs[i]? = some (k, x), fun i H => H d = some (.frz o (.dT kvs)) ∧ kvs.length ≤ i⟩
theorem turn_valsT {P : Program} {w : World} {K : PySem.W.Frag} {tg : Expr} {es : Array DictEntry} {ep : Nat} {kvs : List (List Key × V)} (it : Addr) (hod : o.data = .dict es ep) : Turn P w K tg (Itdt d o kvs) [it] it (fun i h => h.IsValIter it d i kvs.length ep) where
  mem := by simp
  obj := fun i h st b hb => by
    have e : b = it := by simpa using hb
    subst e
    obtain ⟨oi, e, c, dd⟩ := st
    exact ⟨oi, e, fun v z => by rw [dd] at z; cases z⟩
  keep := fun i h h' st k => st.at fun oi e => k it (by simp) oi e
  item := by
    intro X hP hw hK hc i pins s σ H E I hf st hg
    subst hP hw hK
    obtain ⟨hd, hi⟩ := hg
    obtain ⟨f0, f1, f2, f3, f4, f5⟩ := hf it (by simp)
    obtain ⟨hs, hgd, hx, es', ep', hdt, hsz, ent⟩ := frzTv I hd
    obtain ⟨rfl, rfl⟩ := dict_ep hod hdt
    obtain ⟨⟨k, v⟩, hkv⟩ : ∃ p, kvs[i]? = some p := ⟨kvs[i], List.getElem?_eq_getElem hi⟩
    obtain ⟨en, hen, rv⟩ := ent i k v hkv
    rw [← hsz] at st
    have hlt : i < es'.size := by omega
    have hev : es'[i] = en := by
      rw [Array.getElem?_eq_getElem hlt] at hen
      exact Option.some.inj hen
    refine wpAny_pyNext_values_item_raw st ⟨o, hgd, hx, hdt⟩ hlt fun h' st' sb => ?_
    have I1 : Inv X pins σ H { s with heap := h' } := I.turned (t' := s.toks) (fun b ob hb e => (sb.2 b hb).trans e) f0 f1 f3 f4 f5
    obtain ⟨oi, e, c, dd⟩ := id st'
    refine ⟨es'[i].val, rfl, go_of (s := { s with heap := h' }) e c dd (by decide) ⟨v, H, I1, by rw [hev]; exact rv, ⟨rfl, k, hkv⟩, ?_, fun b hb => (hf b hb).1⟩⟩
    rw [← hsz]
    exact st'
  done := by
    intro X hP hw hK hc i pins s σ H E I hf st hg
    subst hP hw hK
    obtain ⟨hd, hi⟩ := hg
    obtain ⟨f0, f1, f2, f3, f4, f5⟩ := hf it (by simp)
    obtain ⟨hs, hgd, hx, es', ep', hdt, hsz, ent⟩ := frzTv I hd
    obtain ⟨rfl, rfl⟩ := dict_ep hod hdt
    rw [← hsz] at st
    exact wpAny_pyNext_values_end_raw (I.ok.hd hc) st ⟨o, hgd, hx, hdt⟩ (by omega) fun h' eb => ⟨rfl, I.turned (t' := s.toks) (fun b ob hb e => eb b ob hb e) f0 f1 f3 f4 f5⟩
  self := fun A i s Q E st h => wpAny_pyIter_valiter st h
/-- for x in d.values() -/
def iValsT (td : TE) : TI := fun σ H R => td σ H fun x H1 => ∃ d o kvs, x = .ref d ∧ H1 d = some (.frz o (.dT kvs)) ∧ R (Itdt d o kvs) H1
theorem pi_valuesT {e tg : Expr} {td : TE} {apos cpos : Pos} (he : PE X e td) (hbase : attributeBase e "values" X.env (eval e X.env) = eval e X.env := by rfl) (hline : (apos.endLine == cpos.line) = true := by rfl) : PI X tg (.Call (.Attribute e "values" apos) [] [] cpos) (iValsT td) := by
  refine ⟨fun pins s σ H R I h => ?_⟩
  refine wpAny_Call_method (T := "dict") (id := "dict.values") hbase rfl hline F.plainAttrs_dict F.slot_dict_values F.type_dict_values (thn (he.run pins s σ H _ I h) fun u s1 ⟨x, H1, I1, rx, d, o, kvs, ex, hd, q⟩ => ?_)
  subst ex
  obtain rfl : u = Value.ref d := rx
  obtain ⟨hs, hgd, hx, es, ep, hdt, hsz, ent⟩ := frzTv I1 hd
  have raw : s1.heap.DictRaw d es ep := ⟨o, hgd, hx, hdt⟩
  refine ⟨raw.typeIs, fun b e => ⟨o, by cases e; exact hgd, hx.2.1⟩, ?_⟩
  have I2 : Inv X pins σ H1 { s1 with heap := s1.heap.push { cls := .type "dict_values", data := .fields #[.ref d] } } := I1.kept (t' := s1.toks) fun b ob q => Heap.get?_push_of_some _ q
  have fin : wpAny (model X.prog X.w) X.A (pyIter (.ref s1.heap.objs.size)) (PIE X pins σ tg R) X.xe { s1 with heap := s1.heap.push { cls := .type "dict_values", data := .fields #[.ref d] } } := by
    refine wpAny_pyIter_values_raw (d := d) ⟨_, Heap.get?_push_size _ rfl, rfl, rfl⟩ (raw.at fun _ e => Heap.get?_push_of_some _ e) (pi_one (tk := s1.toks) I2 _ (turn_valsT _ hdt) ⟨_, Heap.get?_push_size _ rfl, rfl, ?_⟩ q)
    rw [hsz]
    all_goals rfl
  show wpAny _ _ (callWith cpos (.builtin "dict.values") [.ref d] [] []) _ X.xe s1
  exact method_meetsIn F.slot_dict_values F.entry_dict_values rfl (PySem.evalArgs_none ⟨rfl, raw.typeIs, F.args_dict_values_1 _, _, meets_dict_values_raw d hs, ⟨es, ep, raw⟩, fin⟩)
/-- a view of the values of the dict at d -/
def VwO (v d : Addr) : HO := .ext fun h => h.IsValuesView v d
theorem vwO_ok {P : Program} {w : World} {H : Hp} {h : Heap} {d v : Addr} (st : h.IsValuesView v d) : ObjOk P w H h v (VwO v d) :=
  ⟨st, (let ⟨o, ho, _⟩ := st; ⟨o, ho⟩), fun _ _ a1 k => let ⟨o, ho, r⟩ := a1; ⟨o, k o ho, r⟩⟩
def tVw (td : TE) : TE := fun σ H Q => td σ H fun x H1 => ∃ d o kvs, x = .ref d ∧ H1 d = some (.frz o (.dT kvs)) ∧ ∀ v, H1 v = none → Q (.ref v) (upd H1 v (VwO v d))
theorem pe_valuesT {e : Expr} {td : TE} {apos cpos : Pos} (he : PE X e td) (hbase : attributeBase e "values" X.env (eval e X.env) = eval e X.env := by rfl) (hline : (apos.endLine == cpos.line) = true := by rfl) : PE X (.Call (.Attribute e "values" apos) [] [] cpos) (tVw td) := by
  refine ⟨fun pins s σ H R I h => ?_⟩
  refine wpAny_Call_method (T := "dict") (id := "dict.values") hbase rfl hline F.plainAttrs_dict F.slot_dict_values F.type_dict_values (thn (he.run pins s σ H _ I h) fun u s1 ⟨x, H1, I1, rx, d, o, kvs, ex, hd, q⟩ => ?_)
  subst ex
  obtain rfl : u = Value.ref d := rx
  obtain ⟨hs, hgd, hx, es, ep, hdt, hsz, ent⟩ := frzTv I1 hd
  have raw : s1.heap.DictRaw d es ep := ⟨o, hgd, hx, hdt⟩
  refine ⟨raw.typeIs, fun b e => ⟨o, by cases e; exact hgd, hx.2.1⟩, ?_⟩
  show wpAny _ _ (callWith cpos (.builtin "dict.values") [.ref d] [] []) _ X.xe s1
  refine method_meetsIn F.slot_dict_values F.entry_dict_values rfl (PySem.evalArgs_none ⟨rfl, raw.typeIs, F.args_dict_values_1 _, _, meets_dict_values_raw d hs, ⟨es, ep, raw⟩, ?_⟩)
  exact ⟨.ref s1.heap.objs.size, _, I1.laid (t' := s1.toks) (fun b ob e => Heap.get?_push_of_some _ e) (Nat.le_refl _) (vwO_ok ⟨_, Heap.get?_push_size _ rfl, rfl, rfl⟩), rfl, q _ (I1.hok.fresh (Nat.le_refl _))⟩
/-- an iterator over the values of the locked dict at d, at its start -/
def KIv (d it : Addr) (od : Obj) (n : Nat) : HO := .ext fun h => ∃ es ep, od.data = .dict es ep ∧ h.IsValIter it d 0 n ep
theorem kiv_ok {P : Program} {w : World} {H : Hp} {h : Heap} {d it n ep : Nat} {od : Obj} {es : Array DictEntry} (hd : od.data = .dict es ep) (st : h.IsValIter it d 0 n ep) : ObjOk P w H h it (KIv d it od n) :=
  ⟨⟨es, ep, hd, st⟩, (let ⟨o, ho, _⟩ := st; ⟨o, ho⟩), fun _ _ ⟨e1, p1, a1, a2⟩ k => ⟨e1, p1, a1, a2.at k⟩⟩
theorem call_iterV : CallR X (.builtin "iter") (fun xs H Q => ∃ v d od kvs, xs = [.ref v] ∧ H v = some (VwO v d) ∧ H d = some (.frz od (.dT kvs)) ∧ ∀ it, H it = none → X.s_0.heap.objs.size ≤ it → Q (.ref it) (upd H it (KIv d it od kvs.length))) := by
  intro pins s σ H xs us Q I r h
  obtain ⟨v, d, od, kvs, rfl, hv, hk, q⟩ := h
  obtain ⟨u, rfl, ru⟩ := vals1 r
  cases ru
  obtain ⟨hs, hgd, hx, es, ep, hdt, hsz, ent⟩ := frzTv I hk
  have vw : s.heap.IsValuesView v d := (show ObjOk X.prog X.w H s.heap v (VwO v d) from I.hok v _ hv).1
  refine Calls.call_function_entry (by decide +kernel) (by decide +kernel) PySem.W.kdk_entry_iter (PySem.W.kdk_args_iter _) ?_
  unfold Builtin.«iter»
  refine wpAny_bind (m := someArgs "iter" 1 2 _) (wpAny_of_eq (a := [.ref v]) (by first | rfl | kernel_rfl!) (wpAny_bind (m := pyIter (.ref v)) (wpAny_pyIter_values_raw vw ⟨od, hgd, hx, hdt⟩ ?_)))
  refine wpAny_pure ⟨_, rfl, ?_⟩
  have st : (s.heap.push { cls := .type "dict_valueiterator", data := .fields #[.ref d, .int 0 0, .int es.size 0, .int ep 0] }).IsValIter s.heap.objs.size d 0 kvs.length ep := ⟨_, Heap.get?_push_size _ rfl, rfl, by rw [hsz]; rfl⟩
  exact ⟨.ref s.heap.objs.size, _, I.laid (t' := s.toks) (fun b ob e => Heap.get?_push_of_some _ e) (Nat.le_refl _) (kiv_ok hdt st), rfl, q _ (I.hok.fresh (Nat.le_refl _)) I.sz⟩
/-- for x in o, o an instance whose class has an __iter__ that gives such an iterator -/
def iOwnV (sp : Nat → Sp) (C : Addr) (te : TE) : TI := fun σ H R => te σ H fun x H1 => ∃ a dx fs, x = .ref a ∧ H1 a = some (.ins C dx fs) ∧ ∀ n, sp n [.ref a] H1 (fun v H2 => ∃ it d od kvs, v = .ref it ∧ n ≤ it ∧ H2 it = some (KIv d it od kvs.length) ∧ H2 d = some (.frz od (.dT kvs)) ∧
  R (Itdt d od kvs) (ItX.dropH H2 it)) (fun _ _ _ => False)
theorem pi_ownV {C f : Addr} {fd : FuncData} {k : Nat} {sp : Nat → Sp} {tg e : Expr} {te : TE} (he : PE X e te) (hi : PySem.W.findIn X.K (.ref C) "__iter__" = some (some (.ref f))) (hf : PySem.W.isFn X.K (.ref f) = true) (F : FnN X.prog X.w X.K X.mg X.base k f fd ["self"] sp) (hr : Room k X.A)
    (hb : Binds X.K fd ["self"] []) : PI X tg e (iOwnV sp C te) := by
  refine ⟨fun pins s σ H R I h => thn (he.run pins s σ H _ I h) fun u s1 ⟨x, H1, I1, rx, a, dx, fs, ex, ha, q⟩ => ?_⟩
  subst ex
  obtain rfl : u = Value.ref a := rx
  obtain ⟨m, hF⟩ := I1.fr
  obtain ⟨mA, O, _⟩ := ins_get I1.hok ha
  obtain ⟨oa, J, _⟩ := O.look
  have b1 := hb s1 [.ref a] I1.kIn rfl
  refine PySem.W.owit_iter hF I1.ok.mod.kin J hi hf (wpAny_call (codeAny_mono (F.run X.A X.stack s1 H1 ⟨[.ref a], []⟩ [.ref a] [.ref a] _ (fun _ _ _ => False) hr I1.env0 b1 (.cons rfl .nil) (q s1.heap.objs.size)) fun r s' hq => ?_))
  match r, hq with
  | .ok (.ret u), hq =>
    obtain ⟨v, H2, I2, rv, it, d, od, kvs, rfl, hn, e2, ed, hR⟩ := I1.after hq
    obtain rfl : u = Value.ref it := rv
    have young : X.s_0.heap.objs.size ≤ it := Nat.le_trans I1.sz hn
    obtain ⟨⟨es, ep, hd, st⟩, _⟩ := (show ObjOk X.prog X.w H2 s'.heap it (KIv d it od kvs.length) from I2.hok it _ e2)
    have hT : s'.TypeIs (.ref it) "dict_valueiterator" := st.typeIs
    have e2' := e2
    unfold KIv at e2'
    refine wpAny_specialOf hT PySem.F.slot_dict_valueiterator_next.lookup ?_
    exact ⟨it, [it], _, _, _, rfl, ItX.inv_drop I2 e2', turn_valsT it hd, st, fun b hb => by rw [List.mem_singleton.mp hb]; exact ItX.inv_fp I2 e2 young, hR⟩
end
end Yd
namespace Yd
open PySem L2
/-! ### o as *o: an instance whose __iter__ gives the iterator of the values of a dict with tuple keys -/
theorem same_newV {H : Hp} {q : Addr} {o : HO} (n : H q = none) : Same H (upd H q o) := fun b u e => by rw [upd_ne (ne_of_none e n)]; exact e
theorem vals_of_get : ∀ {vs : List V} {us : List Value}, vs.length = us.length → (∀ (i : Nat) (v : V) (u : Value), vs[i]? = some v → us[i]? = some u → RelV v u) → Vals vs us
  | [], [], _, _ => .nil
  | v :: vs, u :: us, hl, h => .cons (h 0 v u rfl rfl) (vals_of_get (by simpa using hl) fun i v' u' h1 h2 => h (i + 1) v' u' (by simpa using h1) (by simpa using h2))
  | [], _ :: _, hl, _ => by simp at hl
  | _ :: _, [], hl, _ => by simp at hl
section
open PySem.W PySem.Calls
variable {X : Cx} {pins : List (Addr × Obj)} {σ : St} {H : Hp} {s : Shared} {A : Around}
variable {k : Nat} {f C : Addr} {fd : FuncData} {ps : List Str} {us : List Value} {vs : List V} {Q : VK} {E : Value → Shared → Prop} {E0 : XK}
section
variable {fi fl a d : Addr} {fdi fdl : FuncData} {psi psl : List Str} {sp : Nat → Sp} {spl : Sp} {dx : Addr} {fs : List (Str × V)} {od : Obj} {kvs : List (List Key × V)}
/-- where the list S takes in what o's iterator gives -/
theorem own_extV {S : Addr} {R : Result → Shared → Prop} (c : StarC X.K C fi fl) (FI : FnN X.prog X.w X.K X.mg X.base k fi fdi psi sp) (bI : Binds X.K fdi psi []) (FL : FnOk X.prog X.w X.K X.mg X.base CX0 k fl fdl psl spl) (bL : Binds X.K fdl psl [])
    (hr : Room (k + 2) X.A) (hh : X.A.handled = none) (fpS : FpOk X pins H S) (I2 : Inv X ((S, ({ cls := .type "list", data := .seq #[] 0 } : Obj)) :: pins) σ H s) (ha : H a = some (.ins C dx fs)) (hd : H d = some (.frz od (.dT kvs)))
    (hi : ∀ n, sp n [.ref a] H (fun v H2 => ∃ vw it, v = .ref it ∧ n ≤ it ∧ H vw = none ∧ upd H vw (VwO vw d) it = none ∧ H2 = upd (upd H vw (VwO vw d)) it (KIv d it od kvs.length)) (fun _ _ _ => False))
    (hl : ∀ H2, H2 a = some (.ins C dx fs) → H2 d = some (.frz od (.dT kvs)) → spl [.ref a] H2 (fun v H' => H' = H2 ∧ ∃ n : Nat, v = .int n ∧ n ≤ sizeLine) (fun _ _ _ => False))
    (hR : ∀ (us : List Value) s' c', Inv X pins σ H s' → Vals (kvs.map (·.2)) us → s'.heap.get? S = some { cls := .type "list", dict := none, data := .seq us.toArray c', slots := #[] } → R (.ok (.ret (.ref S))) s') :
    wpAny (model X.prog X.w) X.A.in1 (Builtin.List.listExtendWith (.ref S) (.ref a) (.ref S))
      (fun fin s' => match fin with | .done f => R (.ok f) s' | .again c' => c'.quiet = true ∧ codeAny (model X.prog X.w) X.A c' R s') (fun e s' => R (.error e) s') s := by
  have sb1 : Sub X (k + 1) X.A.in1 := Sub.in1 (⟨hr, rfl⟩ : Sub X (k + 2) X.A)
  obtain ⟨m1, hF1⟩ := I2.fr
  obtain ⟨mA1, O1, _⟩ := ins_get I2.hok ha
  obtain ⟨oa1, J1, _⟩ := O1.look
  have hne : S ≠ a := fun z => by rw [← z, fpS.1] at ha; cases ha
  unfold Builtin.List.listExtendWith
  refine wpAny_bind (J1.type.here ?_)
  have h1 : Builtin.List.listSameRef (.ref S) (.ref a) = false := by simp [Builtin.List.listSameRef, hne]
  have h2 : (Value.ref C == Value.type "list") = false := rfl
  have h3 : (Value.ref C == Value.type "tuple") = false := rfl
  simp only [h1, h2, h3, Bool.or_false, Bool.false_eq_true, if_false]
  refine wpAny_bind (owit_iter hF1 I2.ok.mod.kin J1 c.it.at_ c.it.fn (wpAny_mono (run_subN (sb1.mono (Nat.le_succ k)) FI bI I2 (us := [.ref a]) (vs := [.ref a]) (.cons rfl .nil) (hi _)) (fun v s2 hv => ?_) fun _ _ z => z))
  obtain ⟨v', H2, I3, rv, vw, it, ev, hn, hvw, hit, eH⟩ := hv
  subst ev
  obtain rfl : v = Value.ref it := rv
  have e2 : H2 it = some (KIv d it od kvs.length) := by rw [eH, upd_same]
  have young : X.s_0.heap.objs.size ≤ it := Nat.le_trans I2.sz hn
  have sv : Same H H2 := fun b o e => by rw [eH]; exact (same_newV hit) _ _ ((same_newV hvw) _ _ e)
  have hd2 : H2 d = some (.frz od (.dT kvs)) := sv _ _ hd
  have ha2 : H2 a = some (.ins C dx fs) := sv _ _ ha
  have hT : s2.TypeIs (.ref it) "dict_valueiterator" := by
    obtain ⟨⟨es, ep, hdd, st⟩, _⟩ := (show ObjOk X.prog X.w H2 s2.heap it (KIv d it od kvs.length) from I3.hok it _ e2)
    exact st.typeIs
  unfold OwitIt
  refine wpAny_specialOf hT PySem.F.slot_dict_valueiterator_next.lookup ?_
  refine wpAny_bind (wpAny_holding (hint_own sb1 c.ln FL bL I3 ha2 (hl H2 ha2 hd2) fun b s3 I4 => ?_))
  obtain ⟨⟨es, ep, hdd, st⟩, _⟩ := (show ObjOk X.prog X.w H2 s3.heap it (KIv d it od kvs.length) from I4.hok it _ e2)
  obtain ⟨hsy, hod, hx, es', ep', hdt, hsz, ent⟩ := frzTv I4 hd2
  obtain ⟨rfl, rfl⟩ := dict_ep hdd hdt
  obtain ⟨_, zl, _⟩ := I4.hok d _ hd2
  have hS3 : s3.heap.get? S = some { cls := .type "list", data := .seq #[] 0 } := (I4.pin _ (List.mem_append_right _ (List.mem_cons_self ..))).1
  have hSit : S ≠ it := fun q => by
    have w := (I4.pin _ (List.mem_append_right _ (List.mem_cons_self ..))).2.1
    rw [q, e2] at w
    cases w
  have hSd : S ≠ d := fun q => by
    have w := (I4.pin _ (List.mem_append_right _ (List.mem_cons_self ..))).2.1
    rw [q, hd2] at w
    cases w
  have hdit : d ≠ it := ne_of hd2 e2 (fun z => nomatch z)
  have W := PySem.Walks.rawValues (prog := X.prog) (w := X.w) (A := X.A.in1) hh it d hdit es' ep'
  rw [← hsz] at st
  have hSf : S ∉ [it, d] := by simp only [List.mem_cons, List.not_mem_nil, or_false, not_or]; exact ⟨hSit, hSd⟩
  have I5 : Inv X pins σ (ItX.dropH H2 it) s3 := by
    have w := e2
    unfold KIv at w
    exact ItX.inv_drop (pinO I4) w
  have fpI : FpOk X pins (ItX.dropH H2 it) it := ItX.inv_fp (pinO I4) e2 young
  have hdrop : ItX.dropH H2 it = upd H vw (VwO vw d) := by rw [eH]; exact ItX.dropH_upd hit
  rw [hdrop] at I5 fpI
  have I5 : Inv X pins σ H s3 := by
    have w : upd H vw (VwO vw d) vw = some (VwO vw d) := upd_same
    unfold VwO at w I5
    have J := ItX.inv_drop I5 w
    rw [ItX.dropH_upd hvw] at J
    exact J
  have fpI : FpOk X pins H it := ⟨(same_newV hvw).free fpI.1, fpI.2⟩
  -- the loop
  have key : ∀ (h : Heap) (c₁ tk : Nat), h.IsValIter it d 0 es'.size ep' ∧ h.DictRaw d es' ep' → (∀ b o, b ≠ S → s3.heap.get? b = some o → h.get? b = some o) → h.get? S = some { cls := .type "list", data := .seq #[] c₁ } →
      codeAny (model X.prog X.w) X.A (.builtin "list.extend.loop" ⟨[.ref S, .ref it, .ref S], []⟩) R { s3 with heap := h, toks := tk } := by
    intro h c₁ tk hst hk hS₁
    refine codeAny_extend_loopS W.toS (by omega) S hSf (.ref S) es'.size 0 _ #[] c₁ rfl (Nat.zero_le _) hst hS₁ (ItemsOf.nil _) fun s' acc' c' hm hS' hacc => ?_
    have ke : ∀ b o, b ∉ [S, it] → s3.heap.get? b = some o → s'.heap.get? b = some o := fun b o hb e => by
      simp only [List.mem_cons, List.not_mem_nil, or_false, not_or] at hb
      exact hm.heap b o (by simp only [List.mem_cons, List.not_mem_nil, or_false, not_or]; exact hb) (hk b o hb.1 e)
    have vl : Vals (kvs.map (·.2)) acc'.toList := by
      refine vals_of_get (by rw [List.length_map]; have e1 := hacc.1; have e2 : acc'.toList.length = acc'.size := Array.length_toList; omega) fun i v u hv hu => ?_
      rw [List.getElem?_map] at hv
      cases hkv : kvs[i]? with
      | none => rw [hkv] at hv; cases hv
      | some kv =>
        rw [hkv] at hv
        obtain ⟨en, hen, rv⟩ := ent i kv.1 kv.2 hkv
        obtain ⟨hi', ev⟩ := hacc.2 i u (by rw [← Array.getElem?_toList]; exact hu)
        have e : es'[i] = en := by rw [Array.getElem?_eq_getElem hi'] at hen; exact Option.some.inj hen
        have e1 : kv.2 = v := Option.some.inj hv
        rw [ev, e, ← e1]
        exact rv
    have esm := Moved.eq_with hm
    have J6 : Inv X pins σ H { s3 with heap := s'.heap, toks := s'.toks } := Inv.turnedL (ch := [S, it]) (t' := s'.toks) I5 ke fun b hb => by
      rcases List.mem_cons.mp hb with q | q
      · rw [q]; exact fpS
      · rw [List.mem_singleton.mp q]; exact fpI
    exact hR acc'.toList s' c' (by rw [esm]; exact J6) vl hS'
  have raw : s3.heap.DictRaw d es' ep' := ⟨od, hod, hx, hdd⟩
  refine wpAny_ite_split (fun _ => ?_) (fun _ => wpAny_pure ⟨plainId_quiet PySem.F.plain_extend_loop _, key s3.heap 0 s3.toks ⟨st, raw⟩ (fun b o _ e => e) hS3⟩)
  refine wpAny_bind (wpAny_rule ?_)
  refine wpAny_bind ?_
  show wpAny _ _ (updateSeq S (·.push .none) >>= fun _ => updateSeq S (·.pop)) _ _ _
  refine wpAny_bind (wpAny_updateSeq hS3 rfl ?_)
  have hS₂ := Heap.get?_update_self (Obj.mapSeq (·.push Value.none)) hS3 rfl
  refine wpAny_updateSeq (hz := by seq_fits) hS₂ rfl ?_
  have hS₃ := Heap.get?_update_self (Obj.mapSeq (·.pop)) hS₂ rfl
  refine wpAny_pure ⟨plainId_quiet PySem.F.plain_extend_loop _, key _ _ _ ?_ (fun b o hb e => ?_) hS₃⟩
  · refine W.frame 0 _ _ ⟨st, raw⟩ fun b hb o e => ?_
    have hbS : b ≠ S := fun h => hSf (h ▸ hb)
    exact (Heap.get?_update_other _ _ (Ne.symm hbS)).trans ((Heap.get?_update_other _ _ (Ne.symm hbS)).trans e)
  · exact (Heap.get?_update_other _ _ (Ne.symm hb)).trans ((Heap.get?_update_other _ _ (Ne.symm hb)).trans e)
theorem star_ownV {Q : List Value → Shared → Prop} (c : StarC X.K C fi fl) (FI : FnN X.prog X.w X.K X.mg X.base k fi fdi psi sp) (bI : Binds X.K fdi psi []) (FL : FnOk X.prog X.w X.K X.mg X.base CX0 k fl fdl psl spl) (bL : Binds X.K fdl psl [])
    (hr : Room (k + 2) X.A) (hc : X.calm = true) (I : Inv X pins σ H s) (ha : H a = some (.ins C dx fs)) (hd : H d = some (.frz od (.dT kvs)))
    (hi : ∀ n, sp n [.ref a] H (fun v H2 => ∃ vw it, v = .ref it ∧ n ≤ it ∧ H vw = none ∧ upd H vw (VwO vw d) it = none ∧ H2 = upd (upd H vw (VwO vw d)) it (KIv d it od kvs.length)) (fun _ _ _ => False))
    (hl : ∀ H2, H2 a = some (.ins C dx fs) → H2 d = some (.frz od (.dT kvs)) → spl [.ref a] H2 (fun v H' => H' = H2 ∧ ∃ n : Nat, v = .int n ∧ n ≤ sizeLine) (fun _ _ _ => False))
    (hQ : ∀ us s', Inv X pins σ H s' → Vals (kvs.map (·.2)) us → Q us s') : StarOf (model X.prog X.w) X.A E (.ref a) Q s := by
  obtain ⟨mA, O, _⟩ := ins_get I.hok ha
  obtain ⟨oa, J, _⟩ := O.look
  unfold StarOf notIterableAtAll
  refine wpAny_bind (wpAny_bind (J.type.here ((looks_findIn I.kIn c.it.at_).here ?_)))
  refine wpAny_pure ⟨rfl, ?_⟩
  have fpS : FpOk X pins H s.heap.objs.size := I.fpOk (Nat.le_refl _) (I.hok.fresh (Nat.le_refl _))
  have new : (s.heap.push { cls := .type "list", data := .seq ([] : List Value).toArray }).get? s.heap.objs.size = some { cls := .type "list", data := .seq #[] 0 } := Heap.get?_push_size _ rfl
  unfold collect
  refine wpAny_bind (wpAny_runValue (codeAny_builtin F.entry_proto_collect ?_))
  rw [Around.under_plainId F.plain_proto_collect _]
  refine wpAny_bind (m := newList []) (wpAny_newObj_type (wpAny_pure ⟨plainId_quiet F.plain_list_iadd _, codeAny_builtin F.entry_list_iadd ?_⟩))
  rw [Around.under_plainId F.plain_list_iadd _]
  have I1 : Inv X pins σ H { s with heap := s.heap.push { cls := .type "list", data := .seq ([] : List Value).toArray } } := I.kept (t' := s.toks) fun b o q => Heap.get?_push_of_some _ q
  have I2 := pinN (o := { cls := .type "list", data := .seq #[] 0 }) I1 new fpS.1 fpS.2.1 fpS.2.2.1 (fun v z => by cases z)
  refine wpAny_mono (own_extV (S := s.heap.objs.size) (R := fun rr s' => rr = .ok (.ret (.ref s.heap.objs.size)) ∧ ∃ (us : List Value) (c' : Nat), s'.heap.get? s.heap.objs.size = some { cls := .type "list", dict := none, data := .seq us.toArray c', slots := #[] } ∧ Q us s')
    c FI bI FL bL hr (I.ok.hd hc) fpS I2 ha hd hi hl (fun bs s' c' I' ik e => ⟨rfl, bs, c', e, hQ bs s' I' ik⟩)) (fun fin s' z => ?_) fun e s' z => absurd z.1 (by simp)
  cases fin with
  | done f =>
    obtain ⟨e, bs, c', hS, q⟩ := z
    cases e
    exact wpAny_bind (m := load s.heap.objs.size) (wpAny_load hS (wpAny_pure (by simpa using q)))
  | again c2 =>
    refine ⟨z.1, codeAny_mono z.2 fun rr s'' y => ?_⟩
    obtain ⟨e, bs, c', hS, q⟩ := y
    cases e
    exact wpAny_bind (m := load s.heap.objs.size) (wpAny_load hS (wpAny_pure (by simpa using q)))
/-- [.., *o, ..] -/
def tStarV (C : Addr) (sp : Nat → Sp) (spl : Sp) (te : TE) (t : TA) : TA := fun σ H Q => te σ H fun x H1 => ∃ a dx fs d od kvs, x = V.ref a ∧ H1 a = some (.ins C dx fs) ∧ H1 d = some (.frz od (.dT kvs)) ∧
  (∀ n, sp n [.ref a] H1 (fun v H2 => ∃ vw it, v = .ref it ∧ n ≤ it ∧ H1 vw = none ∧ upd H1 vw (VwO vw d) it = none ∧ H2 = upd (upd H1 vw (VwO vw d)) it (KIv d it od kvs.length)) (fun _ _ _ => False)) ∧
  (∀ H2, H2 a = some (.ins C dx fs) → H2 d = some (.frz od (.dT kvs)) → spl [.ref a] H2 (fun v H' => H' = H2 ∧ ∃ n : Nat, v = .int n ∧ n ≤ sizeLine) (fun _ _ _ => False)) ∧
  t σ H1 fun ys H2 => Q (kvs.map (·.2) ++ ys) H2
theorem pa_starV {e : Expr} {es : List Expr} {te : TE} {t : TA} {p : Pos} (c : StarC X.K C fi fl) (FI : FnN X.prog X.w X.K X.mg X.base k fi fdi psi sp) (bI : Binds X.K fdi psi []) (FL : FnOk X.prog X.w X.K X.mg X.base CX0 k fl fdl psl spl) (bL : Binds X.K fdl psl [])
    (hr : Room (k + 2) X.A) (hc : X.calm = true) (he : PE X e te) (hrest : PA X es t) (hs : starEach (.Starred e p :: es) X.env = (true, eval e X.env) :: starEach es X.env := by rfl) : PA X (.Starred e p :: es) (tStarV C sp spl te t) := by
  refine ⟨fun pos pins s σ H Q I h => ?_⟩
  refine items_star (thn (he.run pins s σ H _ I h) fun v s1 ⟨y, H1, I1, ry, a, dx, fs, d, od, kvs, ey, ha, hd, hi, hl, q⟩ => ?_) hs
  subst ey
  obtain rfl : v = Value.ref a := ry
  refine star_ownV c FI bI FL bL hr hc I1 ha hd hi hl fun bs s2 I2 ik => ?_
  exact thn (hrest.run pos pins s2 σ H1 _ I2 q) fun ws s3 ⟨vs, H3, I3, r3, q3⟩ => ⟨kvs.map (·.2) ++ vs, H3, I3, ik.append r3, q3⟩
end
end
end Yd
namespace Yd
open PySem L2
/-! ### rows: spots with counts -/
abbrev R3 := Pr × Int
def tV (r : R3) : List V := [.str r.1.1, .str r.1.2, .int r.2]
def keysR (rs : List R3) : List Pr := rs.map (·.1)
def addR (acc : List R3) (r : R3) : List R3 := if r.1 ∈ keysR acc then acc.map (fun q => if q.1 = r.1 then (q.1, q.2 + r.2) else q) else acc ++ [r]
def mergeR (rs : List R3) : List R3 := rs.foldl addR []
def cntR : List R3 → Pr → Int
  | [], _ => 0
  | r :: rs, p => if r.1 = p then r.2 else cntR rs p
/-- a list of triples -/
def TripAt (H : Hp) : List V → List R3 → Prop
  | [], [] => True
  | v :: xs, r :: rs => (∃ t, v = .ref t ∧ H t = some (.tup (tV r))) ∧ TripAt H xs rs
  | _, _ => False
theorem TripAt.keep {H H' : Hp} (k : ∀ t xs, H t = some (.tup xs) → H' t = some (.tup xs)) : ∀ {xs : List V} {rs : List R3}, TripAt H xs rs → TripAt H' xs rs
  | [], [], _ => True.intro
  | v :: xs, r :: rs, ⟨⟨t, e, h⟩, q⟩ => ⟨⟨t, e, k _ _ h⟩, TripAt.keep k q⟩
  | [], _ :: _, h => h.elim
  | _ :: _, [], h => h.elim
theorem TripAt.same {H H' : Hp} {xs : List V} {rs : List R3} (h : TripAt H xs rs) (s : Same H H') : TripAt H' xs rs := h.keep fun t ys e => s t _ e
theorem TripAt.len {H : Hp} : ∀ {xs : List V} {rs : List R3}, TripAt H xs rs → xs.length = rs.length
  | [], [], _ => rfl
  | v :: xs, r :: rs, ⟨_, q⟩ => by rw [List.length_cons, List.length_cons, TripAt.len q]
  | [], _ :: _, h => h.elim
  | _ :: _, [], h => h.elim
theorem TripAt.get {H : Hp} : ∀ {xs : List V} {rs : List R3} {i : Nat} {x : V}, TripAt H xs rs → xs[i]? = some x → ∃ t r, x = .ref t ∧ rs[i]? = some r ∧ H t = some (.tup (tV r))
  | v :: xs, r :: rs, 0, x, ⟨⟨t, e, h⟩, _⟩, hx => ⟨t, r, by rw [← Option.some.inj hx]; exact e, rfl, h⟩
  | v :: xs, r :: rs, i + 1, x, ⟨_, q⟩, hx => TripAt.get (i := i) q (by simpa using hx)
  | [], _, _, _, _, hx => by simp at hx
  | _ :: _, [], _, _, h, _ => h.elim
theorem TripAt.app {H : Hp} : ∀ {xs ys : List V} {ps qs : List R3}, TripAt H xs ps → TripAt H ys qs → TripAt H (xs ++ ys) (ps ++ qs)
  | [], _, [], _, _, h => h
  | v :: xs, ys, p :: ps, qs, ⟨h, r⟩, h' => ⟨h, TripAt.app r h'⟩
  | [], _, _ :: _, _, h, _ => h.elim
  | _ :: _, _, [], _, h, _ => h.elim
theorem TripAt.snoc {H : Hp} {t : Addr} {r : R3} {xs : List V} {rs : List R3} (e : H t = some (.tup (tV r))) (h : TripAt H xs rs) : TripAt H (xs ++ [.ref t]) (rs ++ [r]) := h.app ⟨⟨t, rfl, e⟩, True.intro⟩
theorem takeR {rs : List R3} {i : Nat} {r : R3} (h : rs[i]? = some r) : rs.take (i + 1) = rs.take i ++ [r] := by
  rw [List.take_add_one, h]
  rfl
theorem mergeR_more {rs : List R3} {i : Nat} {r : R3} (h : rs[i]? = some r) : mergeR (rs.take (i + 1)) = addR (mergeR (rs.take i)) r := by
  unfold mergeR
  rw [takeR h, List.foldl_append]
  rfl
theorem addR_in {acc : List R3} {r : R3} (h : r.1 ∈ keysR acc) : addR acc r = acc.map (fun q => if q.1 = r.1 then (q.1, q.2 + r.2) else q) := if_pos h
theorem addR_out {acc : List R3} {r : R3} (h : r.1 ∉ keysR acc) : addR acc r = acc ++ [r] := if_neg h
theorem addR_keys (acc : List R3) (r : R3) : keysR (addR acc r) = addP (keysR acc) r.1 := by
  unfold addP
  by_cases m : r.1 ∈ keysR acc
  · rw [addR_in m, if_pos m]
    unfold keysR
    rw [List.map_map]
    refine List.map_congr_left fun q _ => ?_
    show (if q.1 = r.1 then (q.1, q.2 + r.2) else q).1 = q.1
    split <;> rfl
  · rw [addR_out m, if_neg m]
    unfold keysR
    rw [List.map_append]
    rfl
theorem mergeR_keys (rs : List R3) : keysR (mergeR rs) = onceP (keysR rs) := by
  unfold mergeR onceP
  suffices q : ∀ (l acc : List R3), keysR (l.foldl addR acc) = (keysR l).foldl addP (keysR acc) from q rs []
  intro l
  induction l with
  | nil => intro acc; rfl
  | cons s l ih =>
    intro acc
    rw [List.foldl_cons, ih, addR_keys]
    rfl
theorem mergeR_nd (rs : List R3) : (keysR (mergeR rs)).Nodup := by rw [mergeR_keys]; exact onceP_nd _
theorem mergeR_len (rs : List R3) : (mergeR rs).length ≤ rs.length := by
  have h := onceP_len (keysR rs)
  rw [← mergeR_keys] at h
  unfold keysR at h
  rw [List.length_map, List.length_map] at h
  exact h
/-- the dict of a lot: at each spot its row -/
def rD (rs : List R3) (xs : List V) : List (List Key × V) := List.zipWith (fun r v => (kP r.1, v)) rs xs
theorem rD_len {rs : List R3} {xs : List V} (h : xs.length = rs.length) : (rD rs xs).length = rs.length := by
  unfold rD
  rw [List.length_zipWith, h, Nat.min_self]
theorem rD_none : ∀ {rs : List R3} {xs : List V} {p : Pr}, p ∉ keysR rs → valV (rD rs xs) (kP p) = none
  | [], _, _, _ => rfl
  | _ :: _, [], _, _ => rfl
  | r :: rs, x :: xs, p, h => by
    have e : rD (r :: rs) (x :: xs) = (kP r.1, x) :: rD rs xs := rfl
    rw [e, valV_neg (fun z => h (by rw [← kP_inj z]; exact List.mem_cons_self ..))]
    exact rD_none fun m => h (List.mem_cons_of_mem _ m)
theorem rD_some {H : Hp} : ∀ {rs : List R3} {xs : List V} {p : Pr}, TripAt H xs rs → p ∈ keysR rs → ∃ t, valV (rD rs xs) (kP p) = some (.ref t) ∧ H t = some (.tup (tV (p, cntR rs p)))
  | [], _, _, _, m => nomatch m
  | _ :: _, [], _, h, _ => h.elim
  | r :: rs, x :: xs, p, ⟨⟨t, ex, ht⟩, q⟩, m => by
    have e : rD (r :: rs) (x :: xs) = (kP r.1, x) :: rD rs xs := rfl
    by_cases h : r.1 = p
    · subst h
      refine ⟨t, by rw [e, valV_pos rfl, ex], ?_⟩
      unfold cntR
      rw [if_pos rfl]
      exact ht
    · have m' : p ∈ keysR rs := (List.mem_cons.mp m).elim (fun z => absurd z.symm h) id
      obtain ⟨t', h1, h2⟩ := rD_some q m'
      refine ⟨t', by rw [e, valV_neg (fun z => h (kP_inj z))]; exact h1, ?_⟩
      unfold cntR
      rw [if_neg h]
      exact h2
/-- the values behind d[p] = v -/
def putX (acc : List R3) (xs : List V) (p : Pr) (v : V) : List V := List.zipWith (fun q x => if q.1 = p then v else x) acc xs
theorem rD_put_in (r : R3) (v : V) : ∀ (acc : List R3) (xs : List V), (rD acc xs).map (fun kv => if kv.1 = kP r.1 then (kv.1, v) else kv) = rD (acc.map (fun q => if q.1 = r.1 then (q.1, q.2 + r.2) else q)) (putX acc xs r.1 v)
  | [], _ => rfl
  | _ :: _, [] => rfl
  | q :: acc, x :: xs => by
    have ih := rD_put_in r v acc xs
    have e : rD (q :: acc) (x :: xs) = (kP q.1, x) :: rD acc xs := rfl
    rw [e, List.map_cons, ih]
    show _ = (kP (if q.1 = r.1 then (q.1, q.2 + r.2) else q).1, if q.1 = r.1 then v else x) :: _
    by_cases h : q.1 = r.1
    · rw [if_pos h, if_pos h, if_pos (by show kP q.1 = kP r.1; rw [h])]
      rfl
    · rw [if_neg h, if_neg h, if_neg (by show ¬ kP q.1 = kP r.1; exact fun z => h (kP_inj z))]
      rfl
theorem rD_put {acc : List R3} {xs : List V} (hl : xs.length = acc.length) (r : R3) (v : V) : putK (rD acc xs) (kP r.1) v = rD (addR acc r) (if r.1 ∈ keysR acc then putX acc xs r.1 v else xs ++ [v]) := by
  by_cases m : r.1 ∈ keysR acc
  · rw [if_pos m, addR_in m]
    unfold putK
    have a : ((rD acc xs).any fun kv => decide (kv.1 = kP r.1)) = true := by
      rw [valV_any]
      have : ∀ {rs : List R3} {xs : List V}, xs.length = rs.length → r.1 ∈ keysR rs → (valV (rD rs xs) (kP r.1)).isSome = true := by
        intro rs
        induction rs with
        | nil => intro xs _ h; exact nomatch h
        | cons q rs ih =>
          intro xs hl h
          match xs, hl with
          | x :: xs, hl =>
            have e : rD (q :: rs) (x :: xs) = (kP q.1, x) :: rD rs xs := rfl
            by_cases z : q.1 = r.1
            · rw [e, z, valV_pos rfl]; rfl
            · rw [e, valV_neg (fun y => z (kP_inj y))]
              exact ih (by simpa using hl) ((List.mem_cons.mp h).elim (fun y => absurd y.symm z) id)
      exact this hl m
    rw [if_pos a]
    exact rD_put_in r v acc xs
  · rw [if_neg m, addR_out m, putK_new _ (rD_none m)]
    unfold rD
    rw [List.zipWith_append hl.symm]
    rfl
theorem cntR_in : ∀ {rs : List R3} {q : R3}, (keysR rs).Nodup → q ∈ rs → cntR rs q.1 = q.2
  | r :: rs, q, nd, m => by
    rw [keysR, List.map_cons, List.nodup_cons] at nd
    unfold cntR
    rcases List.mem_cons.mp m with e | m
    · rw [e, if_pos rfl]
    · have : r.1 ≠ q.1 := fun z => nd.1 (by rw [z]; exact List.mem_map.mpr ⟨q, m, rfl⟩)
      rw [if_neg this]
      exact cntR_in nd.2 m
theorem trip_put {H H' : Hp} {r : R3} {t : Addr} (c : Int) (ht : H' t = some (.tup (tV (r.1, c + r.2)))) (k : ∀ t xs, H t = some (.tup xs) → H' t = some (.tup xs)) : ∀ {acc : List R3} {xs : List V}, (∀ q ∈ acc, q.1 = r.1 → q.2 = c) → TripAt H xs acc →
    TripAt H' (putX acc xs r.1 (.ref t)) (acc.map (fun q => if q.1 = r.1 then (q.1, q.2 + r.2) else q))
  | [], [], _, _ => True.intro
  | q :: acc, x :: xs, hc, ⟨⟨t0, e, h⟩, rest⟩ => by
    have ih := trip_put (H := H) c ht k (acc := acc) (xs := xs) (fun q' m => hc q' (List.mem_cons_of_mem _ m)) rest
    show (∃ t', (if q.1 = r.1 then V.ref t else x) = .ref t' ∧ H' t' = some (.tup (tV (if q.1 = r.1 then (q.1, q.2 + r.2) else q)))) ∧ _
    refine ⟨?_, ih⟩
    by_cases z : q.1 = r.1
    · rw [if_pos z, if_pos z]
      refine ⟨t, rfl, ?_⟩
      rw [hc q (List.mem_cons_self ..) z, z]
      exact ht
    · rw [if_neg z, if_neg z]
      exact ⟨t0, e, k _ _ h⟩
  | [], _ :: _, _, h => h.elim
  | _ :: _, [], _, h => h.elim
theorem trip_add {H H' : Hp} {r : R3} {t : Addr} {acc : List R3} {xs : List V} (nd : (keysR acc).Nodup) (ht : H' t = some (.tup (tV (r.1, (if r.1 ∈ keysR acc then cntR acc r.1 else 0) + r.2)))) (k : ∀ t xs, H t = some (.tup xs) → H' t = some (.tup xs)) (h : TripAt H xs acc) :
    TripAt H' (if r.1 ∈ keysR acc then putX acc xs r.1 (.ref t) else xs ++ [.ref t]) (addR acc r) := by
  by_cases m : r.1 ∈ keysR acc
  · rw [if_pos m] at ht ⊢
    rw [addR_in m]
    exact trip_put _ ht k (fun q hq e => by rw [← e, cntR_in nd hq]) h
  · rw [if_neg m] at ht ⊢
    rw [addR_out m]
    rw [Int.zero_add] at ht
    exact (h.keep k).snoc ht
theorem keysR_len (rs : List R3) : (keysR rs).length = rs.length := List.length_map _
end Yd
namespace Yd
open PySem L2
/-! ### added_up -/
theorem small500 {n : Nat} (h : n ≤ 1000) : n < sizeLine := by rw [sizeLine_eq]; omega
theorem same_new {H : Hp} {q : Addr} {o : HO} (n : H q = none) : Same H (upd H q o) := fun b u e => by rw [upd_ne (ne_of_none e n)]; exact e
/-- a list or a tuple of triples -/
def RowsT (K : PySem.W.Frag) (H : Hp) (l : Addr) (rs : List R3) : Prop := ∃ xs, TripAt H xs rs ∧ (SqL K H l xs ∨ SqT K H l xs)
/-- the first row with a count below 1 has the count c -/
def BadFirst (rs : List R3) (c : Int) : Prop := ∃ (i : Nat) (r : R3), rs[i]? = some r ∧ r.2 = c ∧ c < 1 ∧ ∀ (j : Nat) (r' : R3), j < i → rs[j]? = some r' → 1 ≤ r'.2
theorem Raised.from {C : Addr} {us : List V} {fs : List V → List (Str × V)} {H H1 : Hp} {E : XK} (h : Raised C us fs H E) (s : Same H H1) : Raised C us fs H1 E := fun d H' s' hd hx => h d H' (s.trans s') (s.free hd) hx
def spAdded (K : PySem.W.Frag) (CB : Addr) : Sp := fun vs H Q E => ∃ (l : Addr) (rs : List R3), vs = [.ref l] ∧ RowsT K H l rs ∧ rs.length ≤ 1000 ∧
  ((∀ r ∈ rs, 1 ≤ r.2) → ∀ d xs H', Same H H' → H d = none → H' d = some (.dT (rD (mergeR rs) xs)) → TripAt H' xs (mergeR rs) → Q (.ref d) H') ∧ (∀ c, BadFirst rs c → Raised CB [.int c] fsBadCount H E)
section
variable {P : Program} {w : World} {K : PySem.W.Frag} {mg : Str → Option Value} {base : Heap}
def nAdded : List Str := ["rows", "found", "kind", "standing", "count", "spot", "earlier"]
theorem scAdded : FnScope nAdded ["rows"] (defScope sAddedUp) := ⟨rfl, rfl, rfl, by decide +kernel, rfl, by decide +kernel, by decide +kernel⟩
theorem ok_added {f CB : Addr} {fd : FuncData} (F : Fun K "added_up" "added_up" sAddedUp f fd) (O : ErrOk P w K mg base "BadCount" CB 1 okBadCount fsBadCount) : FnOk P w K mg base (L2.CX P w) 3 f fd ["rows"] (spAdded K CB) := by
  refine F.okX scAdded (fun vs H Q E h => ?_) (fun cdv A outer s H vs Q E hr h => ?_)
  · obtain ⟨l, rs, rfl, _⟩ := h
    rfl
  · obtain ⟨l, rs, rfl, ⟨xs, hxs, hl⟩, hlen, kN, kR⟩ := h
    have hu := hu_of hr
    -- a turn
    have lx := hxs.len
    have fin : ∀ (D : Addr) (ys : List V) (H' : Hp), H D = none → Same H H' → (∀ j r, j < xs.length → rs[j]? = some r → 1 ≤ r.2) → H' D = some (.dT (rD (mergeR (rs.take xs.length)) ys)) → TripAt H' ys (mergeR (rs.take xs.length)) → Q (.ref D) H' := fun D ys H' hD s g e1 h1 => by
      rw [lx, List.take_length] at e1 h1
      refine kN (fun r hr => ?_) D ys H' s hD e1 h1
      obtain ⟨j, hj⟩ := List.mem_iff_getElem?.mp hr
      exact g j r (by rw [lx]; exact (List.getElem?_eq_some_iff.mp hj).1) hj
    have step : ∀ (D i : Nat) (x : V) (H' : Hp) (ys : List V), H D = none → xs[i]? = some x → Same H H' → (∀ j r, j < i → rs[j]? = some r → 1 ≤ r.2) → H' D = some (.dT (rD (mergeR (rs.take i)) ys)) → TripAt H' ys (mergeR (rs.take i)) →
        ∃ t r, x = .ref t ∧ rs[i]? = some r ∧ H' t = some (.tup (tV r)) ∧ (r.2 < 1 → Raised CB [.int r.2] fsBadCount H' E) ∧ (rD (mergeR (rs.take i)) ys).length < sizeLine ∧
          (¬ r.2 < 1 → ∀ b, H' b = none → ∃ o, DGet (upd H' b (.tup [.str r.1.1, .str r.1.2])) D (.ref b) o ∧ (o.isSome = true → ∃ t0 c0, o = some (.ref t0) ∧ upd H' b (.tup [.str r.1.1, .str r.1.2]) t0 = some (.tup [.str r.1.1, .str r.1.2, .int c0]) ∧
              ∀ t2, upd H' b (.tup [.str r.1.1, .str r.1.2]) t2 = none → ∃ zs, upd (upd (upd H' b (.tup [.str r.1.1, .str r.1.2])) t2 (.tup [.str r.1.1, .str r.1.2, .int (c0 + r.2)])) D (.dT (putK (rD (mergeR (rs.take i)) ys) (kP r.1) (.ref t2))) D = some (.dT (rD (mergeR (rs.take (i + 1))) zs)) ∧
                TripAt (upd (upd (upd H' b (.tup [.str r.1.1, .str r.1.2])) t2 (.tup [.str r.1.1, .str r.1.2, .int (c0 + r.2)])) D (.dT (putK (rD (mergeR (rs.take i)) ys) (kP r.1) (.ref t2)))) zs (mergeR (rs.take (i + 1)))) ∧
            (o.isSome = false → ∀ t2, upd H' b (.tup [.str r.1.1, .str r.1.2]) t2 = none → ∃ zs, upd (upd (upd H' b (.tup [.str r.1.1, .str r.1.2])) t2 (.tup [.str r.1.1, .str r.1.2, .int (0 + r.2)])) D (.dT (putK (rD (mergeR (rs.take i)) ys) (kP r.1) (.ref t2))) D = some (.dT (rD (mergeR (rs.take (i + 1))) zs)) ∧
                TripAt (upd (upd (upd H' b (.tup [.str r.1.1, .str r.1.2])) t2 (.tup [.str r.1.1, .str r.1.2, .int (0 + r.2)])) D (.dT (putK (rD (mergeR (rs.take i)) ys) (kP r.1) (.ref t2)))) zs (mergeR (rs.take (i + 1))))) := by
      intro D i x H' ys hD hi s g e1 h1
      obtain ⟨t, r, ex, hr, ht⟩ := TripAt.get (hxs.same s) hi
      have ly := h1.len
      refine ⟨t, r, ex, hr, ht, fun lt => (kR r.2 ⟨i, r, hr, rfl, lt, g⟩).from s, ?_, fun nlt b hb => ?_⟩
      · rw [rD_len ly]
        have q := mergeR_len (rs.take i)
        rw [List.length_take] at q
        exact small500 (by omega)
      have nDb : D ≠ b := ne_of_none e1 hb
      have e2 : upd H' b (.tup [.str r.1.1, .str r.1.2]) D = some (.dT (rD (mergeR (rs.take i)) ys)) := by rw [upd_ne nDb]; exact e1
      have k1 : ∀ t xs, H' t = some (.tup xs) → upd H' b (.tup [.str r.1.1, .str r.1.2]) t = some (.tup xs) := fun t xs e => by rw [upd_ne (ne_of_none e hb)]; exact e
      have tail : ∀ (c : Int), (if r.1 ∈ keysR (mergeR (rs.take i)) then cntR (mergeR (rs.take i)) r.1 else 0) = c → ∀ t2, upd H' b (.tup [.str r.1.1, .str r.1.2]) t2 = none → ∃ zs, upd (upd (upd H' b (.tup [.str r.1.1, .str r.1.2])) t2 (.tup [.str r.1.1, .str r.1.2, .int (c + r.2)])) D (.dT (putK (rD (mergeR (rs.take i)) ys) (kP r.1) (.ref t2))) D = some (.dT (rD (mergeR (rs.take (i + 1))) zs)) ∧
                TripAt (upd (upd (upd H' b (.tup [.str r.1.1, .str r.1.2])) t2 (.tup [.str r.1.1, .str r.1.2, .int (c + r.2)])) D (.dT (putK (rD (mergeR (rs.take i)) ys) (kP r.1) (.ref t2)))) zs (mergeR (rs.take (i + 1))) := by
        intro c hc t2 ht2
        have nDt : D ≠ t2 := ne_of_none e2 ht2
        refine ⟨_, by rw [upd_same, rD_put ly, mergeR_more hr], ?_⟩
        rw [mergeR_more hr]
        refine trip_add (H := H') (mergeR_nd _) (by rw [upd_ne nDt.symm, upd_same, hc]; rfl) (fun t' zs e => ?_) h1
        rw [upd_ne (fun z => by rw [z, e1] at e; cases e), upd_ne (ne_of_none (k1 _ _ e) ht2)]
        exact k1 _ _ e
      refine ⟨_, DGet.t (k := kP r.1) e2 upd_same, fun hs => ?_, fun hs => ?_⟩
      · by_cases m : r.1 ∈ keysR (mergeR (rs.take i))
        · obtain ⟨t0, v0, ht0⟩ := rD_some h1 m
          exact ⟨t0, _, v0, k1 _ _ ht0, tail _ (if_pos m)⟩
        · rw [rD_none m] at hs
          cases hs
      · by_cases m : r.1 ∈ keysR (mergeR (rs.take i))
        · obtain ⟨t0, v0, ht0⟩ := rD_some h1 m
          rw [v0] at hs
          cases hs
        · exact tail 0 (if_neg m)
    rcases hl with hl | hl
    · refine ⟨_, pss_cons (ps_set (i := 1) scAdded.nd rfl (Or.inl rfl) pe_dnewT)
        (pss_cons (ps_for (passes_of rfl) rfl (pi_list (pv 0)) (pg_tup (by rfl) (pgs_cons (pg_name (i := 2) scAdded.nd rfl (Or.inl rfl)) (pgs_cons (pg_name (i := 3) scAdded.nd rfl (Or.inl rfl)) (pgs_cons (pg_name (i := 4) scAdded.nd rfl (Or.inl rfl)) pgs_nil))))
          (pss_cons (ps_if (pt_cmpR op_lt (pv 4) pe_int (nomark _)) (pss_one (ps_raise rfl (takes_of rfl rfl rfl rfl) (pmk_err O hr rfl (pa_cons (pv 4) pa_nil)))) pss_nil)
          (pss_cons (ps_set (i := 5) scAdded.nd rfl (Or.inl rfl) (pe_tup (pa_cons (pv 2) (pa_cons (pv 3) pa_nil))))
          (pss_cons (ps_set (i := 6) scAdded.nd rfl (Or.inl rfl) (pe_ifExp (pt_cmp (pc_din hu (pv 5) (pv 1))) (pe_ix ix_tup (pe_dget hu (pv 1) (pv 5) (fun _ _ => rfl)) pe_int (fun _ _ => rfl)) pe_int))
          (pss_one (ps_dput hu (pv 1) (pv 5) (pe_tup (pa_cons (pv 2) (pa_cons (pv 3) (pa_cons (pe_op op_add (pv 6) (pv 4)) pa_nil)))) rfl))))))
        (pss_one (ps_ret (pv 1)))), ?_⟩
      refine fun D hD => ⟨_, rfl, l, rfl, ⟨_, (same_new hD).seq hl⟩, for_list (K := K) (a := l) (xs := xs)
        (fun i σ H' => Same H H' ∧ (∀ j r, j < i → rs[j]? = some r → 1 ≤ r.2) ∧ (∃ ys, H' D = some (.dT (rD (mergeR (rs.take i)) ys)) ∧ TripAt H' ys (mergeR (rs.take i))) ∧ ∃ v2 v3 v4 v5 v6 : Option V, σ = [some (.ref l), some (.ref D), v2, v3, v4, v5, v6])
        ⟨same_new hD, fun j r h => absurd h (Nat.not_lt_zero _), ⟨[], upd_same, True.intro⟩, _, _, _, _, _, rfl⟩ (fun i σ H' _ h => h.1.seq hl) ?_ ?_⟩
      · rintro i x σ H' hi ⟨s1, g, ⟨ys, e1, h1⟩, v2, v3, v4, v5, v6, rfl⟩
        obtain ⟨t, r, rfl, hr', ht, bad, size, good⟩ := step D i x H' ys hD hi s1 g e1 h1
        refine ⟨t, _, rfl, SqT.of ht, rfl, _, _, rfl, _, _, rfl, _, _, rfl, rfl, ?_⟩
        refine ⟨_, rfl, r.2, 1, rfl, rfl, _, rfl, ite2 (fun lt => ?_) (fun nlt => ?_)⟩
        · exact ⟨_, rfl, err_read rfl (by decide) True.intro (bad (of_decide_eq_true lt))⟩
        have nlt := of_decide_eq_false (Bool.eq_false_iff.mpr nlt)
        refine ⟨_, rfl, _, rfl, (by show 2 ≤ sizeLine; decide), fun b hb => ?_⟩
        obtain ⟨o, dg, yes', no'⟩ := good nlt b hb
        have e2 : upd H' b (.tup [.str r.1.1, .str r.1.2]) D = some (.dT (rD (mergeR (rs.take i)) ys)) := by rw [upd_ne (ne_of_none e1 hb)]; exact e1
        have g2 : ∀ j r', j < i + 1 → rs[j]? = some r' → 1 ≤ r'.2 := fun j r' hj e => by
          rcases Nat.lt_or_ge j i with q | q
          · exact g j r' q e
          · have : j = i := by omega
            rw [this, hr'] at e
            cases e
            omega
        have s2 : ∀ (t2 : Addr) (c : Int) (kvs : List (List Key × V)), upd H' b (.tup [.str r.1.1, .str r.1.2]) t2 = none → Same H (upd (upd (upd H' b (.tup [.str r.1.1, .str r.1.2])) t2 (.tup [.str r.1.1, .str r.1.2, .int c])) D (.dT kvs)) := fun t2 c kvs ht2 q o' e => by
          rw [upd_ne (ne_of_none e hD)]
          exact same_new ht2 _ _ (same_new hb _ _ (s1 _ _ e))
        refine ⟨_, rfl, _, rfl, D, o, rfl, dg, _, rfl, ?_⟩
        cases ho : o.isSome with
        | true =>
          obtain ⟨t0, c0, rfl, ht0, next⟩ := yes' ho
          refine yes rfl ⟨_, rfl, _, rfl, D, _, rfl, dg, t0, _, 2, _, rfl, rfl, SqT.of ht0, at_c (j := 2) rfl rfl, _, rfl, _, rfl, _, rfl, _, rfl, c0, r.2, rfl, rfl, (by show 3 ≤ sizeLine; decide), fun t2 ht2 => ?_⟩
          obtain ⟨zs, z1, z2⟩ := next t2 ht2
          exact ⟨_, rfl, _, rfl, D, _, rfl, DPut.t (k := kP r.1) (by rw [upd_ne (ne_of_none e2 ht2)]; exact e2) (same_new ht2 _ _ upd_same) size, s2 t2 _ _ ht2, g2, ⟨zs, z1, z2⟩, _, _, _, _, _, rfl⟩
        | false =>
          refine no rfl ⟨_, rfl, _, rfl, _, rfl, _, rfl, 0, r.2, rfl, rfl, (by show 3 ≤ sizeLine; decide), fun t2 ht2 => ?_⟩
          obtain ⟨zs, z1, z2⟩ := no' ho t2 ht2
          exact ⟨_, rfl, _, rfl, D, _, rfl, DPut.t (k := kP r.1) (by rw [upd_ne (ne_of_none e2 ht2)]; exact e2) (same_new ht2 _ _ upd_same) size, s2 t2 _ _ ht2, g2, ⟨zs, z1, z2⟩, _, _, _, _, _, rfl⟩
      · rintro σ H' ⟨s1, g, ⟨ys, e1, h1⟩, v2, v3, v4, v5, v6, rfl⟩
        exact ⟨_, rfl, fin D ys H' hD s1 g e1 h1⟩
    · refine ⟨_, pss_cons (ps_set (i := 1) scAdded.nd rfl (Or.inl rfl) pe_dnewT)
        (pss_cons (ps_for (passes_of rfl) rfl (pi_tup (pv 0)) (pg_tup (by rfl) (pgs_cons (pg_name (i := 2) scAdded.nd rfl (Or.inl rfl)) (pgs_cons (pg_name (i := 3) scAdded.nd rfl (Or.inl rfl)) (pgs_cons (pg_name (i := 4) scAdded.nd rfl (Or.inl rfl)) pgs_nil))))
          (pss_cons (ps_if (pt_cmpR op_lt (pv 4) pe_int (nomark _)) (pss_one (ps_raise rfl (takes_of rfl rfl rfl rfl) (pmk_err O hr rfl (pa_cons (pv 4) pa_nil)))) pss_nil)
          (pss_cons (ps_set (i := 5) scAdded.nd rfl (Or.inl rfl) (pe_tup (pa_cons (pv 2) (pa_cons (pv 3) pa_nil))))
          (pss_cons (ps_set (i := 6) scAdded.nd rfl (Or.inl rfl) (pe_ifExp (pt_cmp (pc_din hu (pv 5) (pv 1))) (pe_ix ix_tup (pe_dget hu (pv 1) (pv 5) (fun _ _ => rfl)) pe_int (fun _ _ => rfl)) pe_int))
          (pss_one (ps_dput hu (pv 1) (pv 5) (pe_tup (pa_cons (pv 2) (pa_cons (pv 3) (pa_cons (pe_op op_add (pv 6) (pv 4)) pa_nil)))) rfl))))))
        (pss_one (ps_ret (pv 1)))), ?_⟩
      refine fun D hD => ⟨_, rfl, l, rfl, ⟨_, same_seqT (same_new hD) hl⟩, for_tup (K := K) (a := l) (xs := xs)
        (fun i σ H' => Same H H' ∧ (∀ j r, j < i → rs[j]? = some r → 1 ≤ r.2) ∧ (∃ ys, H' D = some (.dT (rD (mergeR (rs.take i)) ys)) ∧ TripAt H' ys (mergeR (rs.take i))) ∧ ∃ v2 v3 v4 v5 v6 : Option V, σ = [some (.ref l), some (.ref D), v2, v3, v4, v5, v6])
        ⟨same_new hD, fun j r h => absurd h (Nat.not_lt_zero _), ⟨[], upd_same, True.intro⟩, _, _, _, _, _, rfl⟩ (fun i σ H' _ h => same_seqT h.1 hl) ?_ ?_⟩
      · rintro i x σ H' hi ⟨s1, g, ⟨ys, e1, h1⟩, v2, v3, v4, v5, v6, rfl⟩
        obtain ⟨t, r, rfl, hr', ht, bad, size, good⟩ := step D i x H' ys hD hi s1 g e1 h1
        refine ⟨t, _, rfl, SqT.of ht, rfl, _, _, rfl, _, _, rfl, _, _, rfl, rfl, ?_⟩
        refine ⟨_, rfl, r.2, 1, rfl, rfl, _, rfl, ite2 (fun lt => ?_) (fun nlt => ?_)⟩
        · exact ⟨_, rfl, err_read rfl (by decide) True.intro (bad (of_decide_eq_true lt))⟩
        have nlt := of_decide_eq_false (Bool.eq_false_iff.mpr nlt)
        refine ⟨_, rfl, _, rfl, (by show 2 ≤ sizeLine; decide), fun b hb => ?_⟩
        obtain ⟨o, dg, yes', no'⟩ := good nlt b hb
        have e2 : upd H' b (.tup [.str r.1.1, .str r.1.2]) D = some (.dT (rD (mergeR (rs.take i)) ys)) := by rw [upd_ne (ne_of_none e1 hb)]; exact e1
        have g2 : ∀ j r', j < i + 1 → rs[j]? = some r' → 1 ≤ r'.2 := fun j r' hj e => by
          rcases Nat.lt_or_ge j i with q | q
          · exact g j r' q e
          · have : j = i := by omega
            rw [this, hr'] at e
            cases e
            omega
        have s2 : ∀ (t2 : Addr) (c : Int) (kvs : List (List Key × V)), upd H' b (.tup [.str r.1.1, .str r.1.2]) t2 = none → Same H (upd (upd (upd H' b (.tup [.str r.1.1, .str r.1.2])) t2 (.tup [.str r.1.1, .str r.1.2, .int c])) D (.dT kvs)) := fun t2 c kvs ht2 q o' e => by
          rw [upd_ne (ne_of_none e hD)]
          exact same_new ht2 _ _ (same_new hb _ _ (s1 _ _ e))
        refine ⟨_, rfl, _, rfl, D, o, rfl, dg, _, rfl, ?_⟩
        cases ho : o.isSome with
        | true =>
          obtain ⟨t0, c0, rfl, ht0, next⟩ := yes' ho
          refine yes rfl ⟨_, rfl, _, rfl, D, _, rfl, dg, t0, _, 2, _, rfl, rfl, SqT.of ht0, at_c (j := 2) rfl rfl, _, rfl, _, rfl, _, rfl, _, rfl, c0, r.2, rfl, rfl, (by show 3 ≤ sizeLine; decide), fun t2 ht2 => ?_⟩
          obtain ⟨zs, z1, z2⟩ := next t2 ht2
          exact ⟨_, rfl, _, rfl, D, _, rfl, DPut.t (k := kP r.1) (by rw [upd_ne (ne_of_none e2 ht2)]; exact e2) (same_new ht2 _ _ upd_same) size, s2 t2 _ _ ht2, g2, ⟨zs, z1, z2⟩, _, _, _, _, _, rfl⟩
        | false =>
          refine no rfl ⟨_, rfl, _, rfl, _, rfl, _, rfl, 0, r.2, rfl, rfl, (by show 3 ≤ sizeLine; decide), fun t2 ht2 => ?_⟩
          obtain ⟨zs, z1, z2⟩ := no' ho t2 ht2
          exact ⟨_, rfl, _, rfl, D, _, rfl, DPut.t (k := kP r.1) (by rw [upd_ne (ne_of_none e2 ht2)]; exact e2) (same_new ht2 _ _ upd_same) size, s2 t2 _ _ ht2, g2, ⟨zs, z1, z2⟩, _, _, _, _, _, rfl⟩
      · rintro σ H' ⟨s1, g, ⟨ys, e1, h1⟩, v2, v3, v4, v5, v6, rfl⟩
        exact ⟨_, rfl, fin D ys H' hD s1 g e1 h1⟩
end
end Yd
namespace Yd
open PySem L2
/-! ### the class Lot -/
section
variable {X : Cx} {CX : CXT} {k i : Nat} {f C : Addr} {fd : FuncData} {ps : List Str} {sp : Sp} {E : XK} {x : Str} {e : Expr} {es : List Expr} {t : TA} {p pos : Pos}
/-- v(e, ..), v a local name that holds a class -/
def tMakeV (i : Nat) (C : Addr) (sp : Sp) (E : XK) (t : TA) : TE := fun σ H Q => σ[i]? = some (some (.ref C)) ∧ tMake C sp [] E t σ H Q
theorem pe_makeV (M : Mk X.K C f) (F : FnOk X.prog X.w X.K X.mg X.base CX k f fd ps sp) (hr : Room (k + 1) X.A) (hb : Binds X.K fd ps []) (hx : Passes CX X E) (hN : X.N[i]? = some x) (hv : Vis X.env.scope x) (ha : PA X (e :: es) t)
    (hd : (x == ("__debug__" : Str)) = false := by decide) (hcd : (x == ("__classdict__" : Str)) = false := by decide)
    (he : starEach (e :: es) X.env = (false, eval e X.env) :: starEach es X.env := by rfl) (hpl : (backTo pos (starEach es X.env)).any (·.1) = false := by rfl) : PE X (.Call (.Name x p) (e :: es) [] pos) (tMakeV i C sp E t) := by
  refine ⟨fun pins s σ H Q I h => ?_⟩
  obtain ⟨hs, h⟩ := h
  refine wpAny_Call_Name_kw (thn ((pe_var (pos := p) (i := i) hN hv hd hcd).run pins s σ H (fun v H1 => v = .ref C ∧ H1 = H) I ⟨.ref C, hs, rfl, rfl⟩) fun u s1 ⟨v, H1, I1, r1, ev, eH⟩ => ?_)
  subst ev
  rw [eH] at I1
  cases r1
  refine PySem.W.callWith_K (h₀ := X.base) I.ok.mod.kin M.kp (thn (ha.run pos pins s1 σ H _ I1 h) fun us s2 ⟨vs, H2, I2, r, q⟩ => ⟨I2.kIn, ?_⟩) he hpl
  exact run_make M F hr hb .nil hx I2 r q
end
theorem fn_R {P : Program} {w : World} {K : PySem.W.Frag} {mg : Str → Option Value} {base : Heap} {CX : CXT} {k : Nat} {f : Addr} {fd : FuncData} {ps : List Str} {sp : Sp} (F : FnOk P w K mg base CX k f fd ps sp) (hb : Binds K fd ps []) : FnR P w K mg base CX k f sp :=
  fun A outer s H us vs Q E hr e0 r hs => F.run A outer s H ⟨us, []⟩ us vs Q E hr e0 (by
    have hl : (us ++ []).length = ps.length := by rw [List.append_nil, ← r.length]; exact F.len _ _ _ _ hs
    have b := hb s us (e0.mod.kin.keeps fun b o e => (e0.bs b o e).1) hl
    rw [List.append_nil] at b
    exact b) r hs
structure LCls (K : PySem.W.Frag) (C : Addr) : Prop where
  cls : Cls K C
  nR : NoAttr K C "_rows"
/-- a lot of these rows, its dict at d, the rows' tuples at xs -/
structure LotAt (H : Hp) (C a d : Addr) (xs : List V) (rs : List R3) : Prop where
  ins : ∃ dx, H a = some (.ins C dx [("_rows", .ref d)])
  dict : H d = some (.dT (rD rs xs))
  trip : TripAt H xs rs
  nd : (keysR rs).Nodup
theorem LotAt.keep {H H' : Hp} {C a d : Addr} {xs : List V} {rs : List R3} (h : LotAt H C a d xs rs) (s : Same H H') : LotAt H' C a d xs rs := ⟨let ⟨dx, e⟩ := h.ins; ⟨dx, s _ _ e⟩, s _ _ h.dict, h.trip.same s, h.nd⟩
section
variable {K : PySem.W.Frag} {g : TG} {tt : TT} {te : TE} {vs : List Nat} {σ : L2.St} {H1 : Hp} {D : Addr} {Qd : Hp → Prop}
/-- a list comprehension over the rows of a locked dict -/
theorem lc_rows {d : Addr} {od : Obj} {rs : List R3} {xs : List V} (Pv : Nat → Hp → Prop) (h0 : Pv 0 (upd H1 D (.lst []))) (hx : xs.length = rs.length) (hl : ∀ i H, i ≤ rs.length → Pv i H → H d = some (.frz od (.dT (rD rs xs))) ∧ TripAt H xs rs)
    (hs : ∀ i r t H, rs[i]? = some r → H t = some (.tup (tV r)) → Pv i H → g (.ref t) (wipe σ vs) H fun σ2 H2 => wipe σ2 vs = wipe σ vs ∧ tt σ2 H2 fun b H3 =>
      if b = true then te σ2 H3 fun y H4 => ∃ acc, H4 D = some (.lst acc) ∧ acc.length < sizeLine ∧ Pv (i + 1) (upd H4 D (.lst (acc ++ [y]))) else Pv (i + 1) H3) (hd : ∀ H, Pv rs.length H → Qd H) :
    ∃ W : Nat → Nat → Hp → Prop, (∃ m, W 0 m (upd H1 D (.lst []))) ∧ ∀ i m H, W i m H →
      ((Itdt d od (rD rs xs)).stop i H ∧ Qd H) ∨ ((Itdt d od (rD rs xs)).go i H ∧ ∃ Nx : Hp → Prop, (∀ H', Nx H' → ∃ m', m' < m ∧ W (i + 1) m' H') ∧ ∀ x H', (Itdt d od (rD rs xs)).yld i H x H' → g x (wipe σ vs) H' fun σ2 H2 => wipe σ2 vs = wipe σ vs ∧ tt σ2 H2 fun b H3 =>
        if b = true then te σ2 H3 fun y H4 => ∃ acc, H4 D = some (.lst acc) ∧ acc.length < sizeLine ∧ Nx (upd H4 D (.lst (acc ++ [y]))) else Nx H3) :=
  lc_run (n := rs.length) Pv h0 (fun i H hi p => ⟨(hl i H (by omega) p).1, by rw [rD_len hx]; exact hi⟩) (fun H p => ⟨(hl _ H (Nat.le_refl _) p).1, by rw [rD_len hx]; exact Nat.le_refl _⟩) (fun i x H H' hi p y => by
    obtain ⟨e, k, hk⟩ := y
    subst e
    unfold rD at hk
    rw [List.getElem?_zipWith] at hk
    cases hr : rs[i]? with
    | none => rw [hr] at hk; cases hk
    | some r =>
      cases hxx : xs[i]? with
      | none => rw [hr, hxx] at hk; cases hk
      | some x' =>
        rw [hr, hxx] at hk
        have ex : x' = x := by injection hk with z; injection z
        subst ex
        obtain ⟨t, r', ex, hr', ht⟩ := (hl i _ (by omega) p).2.get hxx
        rw [hr] at hr'
        cases hr'
        subst ex
        exact hs i r t _ hr ht p) hd
end
def spLInit (K : PySem.W.Frag) (CB : Addr) : Sp := fun vs H Q E => ∃ (a C dx l : Addr) (rs : List R3), vs = [.ref a, .ref l] ∧ H a = some (.ins C dx []) ∧ LCls K C ∧ RowsT K H l rs ∧ rs.length ≤ 1000 ∧
  ((∀ r ∈ rs, 1 ≤ r.2) → ∀ d xs H', H d = none → Gro a H H' → H' a = some (.ins C dx [("_rows", .ref d)]) → H' d = some (.dT (rD (mergeR rs) xs)) → TripAt H' xs (mergeR rs) → Q .non H') ∧ (∀ c, BadFirst rs c → Raised CB [.int c] fsBadCount H E)
def spLOne (K : PySem.W.Frag) (C : Addr) : Sp := fun vs H Q _ => ∃ z y : Str, vs = [.ref C, .str z, .str y] ∧ ∀ a d xs H', Same H H' → H a = none → LotAt H' C a d xs [((z, y), 1)] → Q (.ref a) H'
def spLIter (K : PySem.W.Frag) : Nat → Sp := fun n vs H Q _ => ∃ (a C dx d : Addr) (od : Obj) (kvs : List (List Key × V)), vs = [.ref a] ∧ H a = some (.ins C dx [("_rows", .ref d)]) ∧ LCls K C ∧ H d = some (.frz od (.dT kvs)) ∧
  ∀ v it, H v = none → upd H v (VwO v d) it = none → n ≤ it → Q (.ref it) (upd (upd H v (VwO v d)) it (KIv d it od kvs.length))
def spLLen (K : PySem.W.Frag) : Sp := fun vs H Q _ => ∃ (a C dx d : Addr) (kvs : List (List Key × V)), vs = [.ref a] ∧ H a = some (.ins C dx [("_rows", .ref d)]) ∧ LCls K C ∧ Rd H d (.dT kvs) ∧ Q (.int (kvs.length : Nat)) H
def spLIn (K : PySem.W.Frag) : Sp := fun vs H Q _ => ∃ (a C dx d t : Addr) (rs : List R3) (xs : List V) (p : Pr), vs = [.ref a, .ref t] ∧ H a = some (.ins C dx [("_rows", .ref d)]) ∧ LCls K C ∧ Rd H d (.dT (rD rs xs)) ∧ TripAt H xs rs ∧ H t = some (.tup [.str p.1, .str p.2]) ∧ Q (.bl (decide (p ∈ keysR rs))) H
def spLGet (K : PySem.W.Frag) : Sp := fun vs H Q _ => ∃ (a C dx d t : Addr) (rs : List R3) (xs : List V) (p : Pr), vs = [.ref a, .ref t] ∧ H a = some (.ins C dx [("_rows", .ref d)]) ∧ LCls K C ∧ Rd H d (.dT (rD rs xs)) ∧ TripAt H xs rs ∧ H t = some (.tup [.str p.1, .str p.2]) ∧ Q (.int (cntR rs p)) H
def sumR (rs : List R3) : Int := (rs.map (·.2)).sum
def spLTot (K : PySem.W.Frag) : Sp := fun vs H Q _ => ∃ (a C d : Addr) (xs : List V) (rs : List R3), vs = [.ref a] ∧ LCls K C ∧ LotAt H C a d xs rs ∧ rs.length ≤ 1000 ∧ ∀ H', Same H H' → Q (.int (sumR rs)) H'
def spLSpots (K : PySem.W.Frag) (CH : Addr) : Sp := fun vs H Q _ => ∃ (a C d : Addr) (xs : List V) (rs : List R3), vs = [.ref a] ∧ LCls K C ∧ LotAt H C a d xs rs ∧ rs.length ≤ 1000 ∧ ∀ h e H', Same H H' → H h = none → HoldAt H' CH h e (keysR rs) → Q (.ref h) H'
theorem cntR_out : ∀ {rs : List R3} {p : Pr}, p ∉ keysR rs → cntR rs p = 0
  | [], _, _ => rfl
  | r :: rs, p, h => by
    unfold cntR
    rw [if_neg (fun z => h (by rw [← z]; exact List.mem_cons_self ..))]
    exact cntR_out fun m => h (List.mem_cons_of_mem _ m)
theorem hold_new {K : PySem.W.Frag} {C : Addr} (c : HCls K C) {H : Hp} {l x dx : Addr} {vs : List V} {rows : List Pr} {Q : Hp → Prop} {E : XK} (hv : vs = [.ref x, .ref l]) (hl : RowsP K H l rows) (hz : rows.length ≤ 1000) (nx : H x = none) (ndx : H dx = none) (nex : dx ≠ x)
    (k : ∀ d' H', Same H H' → H d' = none → HoldAt H' C x d' (onceP rows) → Q H') :
    spHInit K vs (upd (upd H dx (.own x)) x (.ins C dx [])) (fun v H2 => v = .non ∧ Q H2) E := by
  have s0 : Same H (upd (upd H dx (.own x)) x (.ins C dx [])) := fun b o e => by rw [upd_ne (ne_of_none e nx), upd_ne (ne_of_none e ndx)]; exact e
  obtain ⟨xs, hp, hl⟩ := hl
  refine ⟨x, C, dx, l, rows, hv, upd_same, c, ⟨xs, hp.same s0, hl.imp (fun h => s0.seq h) fun h => same_seqT s0 h⟩, hz, fun d H' hd g e1 e2 => ⟨rfl, k d H' (fun b o e => ?_) (s0.free hd) ⟨⟨dx, e1⟩, e2, onceP_nd _⟩⟩⟩
  exact g b o (s0 b o e) (ne_of_none e nx)
/-- a lot just made of the rows at l, all counts good -/
theorem lot_new {K : PySem.W.Frag} {C CB : Addr} (c : LCls K C) {H : Hp} {l x dx : Addr} {vs : List V} {rows : List R3} {Q : Hp → Prop} {E : XK} (hv : vs = [.ref x, .ref l]) (hl : RowsT K H l rows) (hz : rows.length ≤ 1000) (hg : ∀ r ∈ rows, 1 ≤ r.2) (nx : H x = none) (ndx : H dx = none) (nex : dx ≠ x)
    (k : ∀ d' xs H', Same H H' → H d' = none → LotAt H' C x d' xs (mergeR rows) → Q H') :
    spLInit K CB vs (upd (upd H dx (.own x)) x (.ins C dx [])) (fun v H2 => v = .non ∧ Q H2) E := by
  have s0 : Same H (upd (upd H dx (.own x)) x (.ins C dx [])) := fun b o e => by rw [upd_ne (ne_of_none e nx), upd_ne (ne_of_none e ndx)]; exact e
  obtain ⟨xs, hp, hl⟩ := hl
  refine ⟨x, C, dx, l, rows, hv, upd_same, c, ⟨xs, hp.same s0, hl.imp (fun h => s0.seq h) fun h => same_seqT s0 h⟩, hz, fun _ d ys H' hd g e1 e2 e3 => ⟨rfl, k d ys H' (fun b o e => ?_) (s0.free hd) ⟨⟨dx, e1⟩, e2, e3, mergeR_nd _⟩⟩, fun c' hb => ?_⟩
  · exact g b o (s0 b o e) (ne_of_none e nx)
  · exfalso
    obtain ⟨i, r, hr, e, lt, _⟩ := hb
    have := hg r (List.mem_of_getElem? hr)
    omega
section
variable {P : Program} {w : World} {K : PySem.W.Frag} {mg : Str → Option Value} {base : Heap}
theorem scLInit : FnScope ["self", "rows"] ["self", "rows"] (defScope sLotInit) := ⟨rfl, rfl, rfl, by decide +kernel, rfl, by decide +kernel, by decide +kernel⟩
theorem ok_lInit {f fA CB : Addr} {fd fdA : FuncData} {dvs : List V} (F : FunD K "__init__" "Lot.__init__" (defArgs sLotInit) (defBody sLotInit) (defScope sLotInit) dvs [] f fd) (GA : FnOk P w K mg base (L2.CX P w) 3 fA fdA ["rows"] (spAdded K CB)) (gA : mg "added_up" = some (.ref fA)) (kA : PySem.W.keepIn K (.ref fA) = true) (bA : Binds K fdA ["rows"] []) :
    FnOk P w K mg base (L2.CX P w) 4 f fd ["self", "rows"] (spLInit K CB) := by
  refine F.ok scLInit (fun vs H Q E h => ?_) (fun cdv A outer s H vs Q E hr h => ?_)
  · obtain ⟨a, C, dx, l, rs, rfl, _⟩ := h
    rfl
  · obtain ⟨a, C, dx, l, rs, rfl, ha, hc, hl, hlen, kN, kR⟩ := h
    refine ⟨_, pss_one (ps_fld (pv 0) (pe_call (E := E) GA hr (by rfl) gA kA bA .nil (passes_call (takes_of rfl rfl rfl rfl) fun _ _ _ _ h => h) (pa_cons (pv 1) pa_nil)) rfl), ?_⟩
    refine ⟨_, rfl, l, rs, rfl, hl, hlen, fun hg d xs H' s hd e1 e2 => ?_, kR⟩
    have nad : a ≠ d := ne_of_none ha hd
    refine ⟨_, rfl, a, C, dx, _, rfl, s _ _ ha, hc.cls, hc.nR, (by show 0 < 1000; decide), ?_⟩
    have ha' := s _ _ ha
    exact kN hg d xs _ hd (fun b o q n => by rw [upd_ne n]; exact s b o q) upd_same (by rw [upd_ne nad.symm]; exact e1) (e2.keep fun t ys et => by rw [upd_ne (ne_of et ha' (fun z => nomatch z))]; exact et)
theorem scLIter : FnScope ["self"] ["self"] (defScope sLotIter) := ⟨rfl, rfl, rfl, by decide +kernel, rfl, by decide +kernel, by decide +kernel⟩
theorem ok_lIter {f : Addr} {fd : FuncData} (F : Fun K "__iter__" "Lot.__iter__" sLotIter f fd) (hI : mg "iter" = none) : FnN P w K mg base 1 f fd ["self"] (spLIter K) := by
  refine fun_N F scLIter (fun n vs H Q E h => ?_) (fun cdv A outer s H vs Q E hr h => ?_)
  · obtain ⟨a, C, dx, d, od, kvs, rfl, _⟩ := h
    rfl
  · obtain ⟨a, C, dx, d, od, kvs, rfl, ha, hc, hd, k⟩ := h
    refine ⟨_, pss_one (ps_ret (pe_callB call_iterV (by rfl) hI (by decide +kernel) (pa_cons (pe_valuesT (pe_fld (pv 0) rfl)) pa_nil))), ?_⟩
    exact ⟨_, rfl, a, C, dx, _, _, rfl, ha, hc.cls, hc.nR, rfl, d, od, kvs, rfl, hd, fun v hv => ⟨v, d, od, kvs, rfl, upd_same, by rw [upd_ne (ne_of_none hd hv)]; exact hd, fun it h1 h2 => k v it hv h1 h2⟩⟩
theorem scLLen : FnScope ["self"] ["self"] (defScope sLotLen) := ⟨rfl, rfl, rfl, by decide +kernel, rfl, by decide +kernel, by decide +kernel⟩
theorem ok_lLen {f : Addr} {fd : FuncData} (F : Fun K "__len__" "Lot.__len__" sLotLen f fd) (hL : mg "len" = none) : FnOk P w K mg base CX0 1 f fd ["self"] (spLLen K) := by
  refine F.ok scLLen (fun vs H Q E h => ?_) (fun cdv A outer s H vs Q E hr h => ?_)
  · obtain ⟨a, C, dx, d, kvs, rfl, _⟩ := h
    rfl
  · obtain ⟨a, C, dx, d, kvs, rfl, ha, hc, hd, k⟩ := h
    refine ⟨_, pss_one (ps_ret (pe_callB call_lenT (by rfl) hL PySem.boot_len (pa_cons (pe_fld (pv 0) rfl) pa_nil))), ?_⟩
    exact ⟨_, rfl, a, C, dx, _, _, rfl, ha, hc.cls, hc.nR, rfl, d, _, rfl, hd, k⟩
theorem scLIn : FnScope ["self", "x"] ["self", "x"] (defScope sLotIn) := ⟨rfl, rfl, rfl, by decide +kernel, rfl, by decide +kernel, by decide +kernel⟩
theorem ok_lIn {f : Addr} {fd : FuncData} (F : Fun K "__contains__" "Lot.__contains__" sLotIn f fd) : FnOk P w K mg base CX0 1 f fd ["self", "x"] (spLIn K) := by
  refine F.ok scLIn (fun vs H Q E h => ?_) (fun cdv A outer s H vs Q E hr h => ?_)
  · obtain ⟨a, C, dx, d, t, rs, xs, p, rfl, _⟩ := h
    rfl
  · obtain ⟨a, C, dx, d, t, rs, xs, p, rfl, ha, hc, hd, htr, ht, k⟩ := h
    refine ⟨_, pss_one (ps_ret (pe_cmp (pc_din (hu_of hr) (pv 1) (pe_fld (pv 0) rfl)))), ?_⟩
    refine ⟨_, rfl, _, rfl, a, C, dx, _, _, rfl, ha, hc.cls, hc.nR, rfl, d, _, rfl, .inr ⟨_, kP p, t, hd, rfl, ht, rfl⟩, ?_⟩
    by_cases m : p ∈ keysR rs
    · obtain ⟨t0, v0, _⟩ := rD_some htr m
      rw [v0]
      rw [decide_eq_true m] at k
      exact k
    · rw [rD_none m]
      rw [decide_eq_false m] at k
      exact k
theorem scLGet : FnScope ["self", "at"] ["self", "at"] (defScope sLotGet) := ⟨rfl, rfl, rfl, by decide +kernel, rfl, by decide +kernel, by decide +kernel⟩
theorem ok_lGet {f : Addr} {fd : FuncData} (F : Fun K "__getitem__" "Lot.__getitem__" sLotGet f fd) : FnOk P w K mg base CX0 1 f fd ["self", "at"] (spLGet K) := by
  refine F.ok scLGet (fun vs H Q E h => ?_) (fun cdv A outer s H vs Q E hr h => ?_)
  · obtain ⟨a, C, dx, d, t, rs, xs, p, rfl, _⟩ := h
    rfl
  · obtain ⟨a, C, dx, d, t, rs, xs, p, rfl, ha, hc, hd, htr, ht, k⟩ := h
    have hu := hu_of hr
    refine ⟨_, pss_one (ps_ret (pe_ifExp (pt_cmp (pc_din hu (pv 1) (pe_fld (pv 0) rfl))) (pe_ix ix_tup (pe_dget hu (pe_fld (pv 0) rfl) (pv 1) (fun _ _ => rfl)) pe_int (fun _ _ => rfl)) pe_int)), ?_⟩
    refine ⟨_, rfl, _, rfl, a, C, dx, _, _, rfl, ha, hc.cls, hc.nR, rfl, d, _, rfl, .inr ⟨_, kP p, t, hd, rfl, ht, rfl⟩, _, rfl, ?_⟩
    by_cases m : p ∈ keysR rs
    · obtain ⟨t0, v0, ht0⟩ := rD_some htr m
      exact yes (by rw [v0]; rfl) ⟨_, rfl, a, C, dx, _, _, rfl, ha, hc.cls, hc.nR, rfl, _, rfl, d, _, rfl, .inr ⟨_, kP p, t, hd, rfl, ht, v0.symm⟩, t0, _, 2, _, rfl, rfl, SqT.of ht0, at_c (j := 2) rfl rfl, k⟩
    · refine no (by rw [rD_none m]; rfl) ?_
      rw [cntR_out m] at k
      exact k
def nLTot : List Str := ["self", "row"]
theorem scLTot : FnScope nLTot ["self"] (defScope sLotTotal) := ⟨rfl, rfl, rfl, by decide +kernel, rfl, by decide +kernel, by decide +kernel⟩
theorem ok_lTot {f : Addr} {fd : FuncData} (F : Fun K "total" "Lot.total" sLotTotal f fd) (hS : mg "sum" = none) : FnOk P w K mg base CX0 1 f fd ["self"] (spLTot K) := by
  refine F.ok scLTot (fun vs H Q E h => ?_) (fun cdv A outer s H vs Q E hr h => ?_)
  · obtain ⟨a, C, d, xs, rs, rfl, _⟩ := h
    rfl
  · obtain ⟨a, C, d, xs, rs, rfl, hc, hL, hlen, k⟩ := h
    refine ⟨_, pss_one (ps_ret (pe_callB (cr_sum rfl) (by rfl) hS (by decide +kernel) (pa_cons (pe_lock (pe_lc (own := [("row", 1)]) (g := gName 1) (tt := tYes) (te := tOp (rIxT K) (tVar 1) (tC (.int 2))) rfl scLTot.nd (pi_valuesT (pe_fld (pv 0) rfl)) (blkOk_by (N := nLTot) (sc := defScope sLotTotal) (by decide +kernel))
        (fun _ _ _ _ _ => pg_name (i := 1) scLTot.nd rfl (Or.inl rfl)) (fun _ _ _ _ _ => pts_nil) (fun _ _ _ _ _ => pe_ix ix_tup (pv 1) pe_int (fun _ _ => rfl)))) pa_nil))), ?_⟩
    obtain ⟨dx, ea⟩ := hL.ins
    have nad : a ≠ d := ne_of ea hL.dict (by intro z; cases z)
    have lx := hL.trip.len
    refine ⟨d, _, hL.dict, True.intro, fun od => ?_⟩
    refine ⟨_, rfl, a, C, dx, _, _, rfl, by rw [upd_ne nad]; exact ea, hc.cls, hc.nR, rfl, d, od, _, rfl, upd_same, fun D hD => ?_⟩
    have ndD : d ≠ D := fun q => by rw [← q, upd_same] at hD; cases hD
    have hD0 : H D = none := by rw [upd_ne ndD.symm] at hD; exact hD
    refine lc_rows (fun j H' => (∀ q o, H q = some o → q ≠ d → H' q = some o) ∧ H' d = some (.frz od (.dT (rD rs xs))) ∧ H' D = some (.lst (((rs.take j).map (·.2)).map V.int)))
      ⟨fun q o e1 e2 => by rw [upd_ne (ne_of_none e1 hD0), upd_ne e2]; exact e1, by rw [upd_ne ndD, upd_same], upd_same⟩ lx (fun j H' _ h => ⟨h.2.1, hL.trip.keep fun t ys e => h.1 _ _ e (ne_of e hL.dict (fun z => nomatch z))⟩) ?_ ?_
    · rintro j r t H' hr ht ⟨s1, s2, s3⟩
      refine ⟨rfl, _, rfl, t, _, 2, _, rfl, rfl, SqT.of ht, at_c (j := 2) rfl rfl, _, s3, small500 (by rw [List.length_map, List.length_map, List.length_take]; omega), fun q o e1 e2 => ?_, by rw [upd_ne ndD]; exact s2, ?_⟩
      · rw [upd_ne (ne_of_none e1 hD0)]
        exact s1 q o e1 e2
      · rw [upd_same, takeR hr, List.map_append, List.map_append]
        rfl
    · rintro H' ⟨s1, s2, s3⟩
      rw [List.take_length] at s3
      have sm : Same H (upd H' d (.dT (rD rs xs))) := fun q o e => by
        by_cases n : q = d
        · rw [n, upd_same, ← hL.dict, ← n, e]
        · rw [upd_ne n]
          exact s1 q o e n
      have kk := k _ sm
      unfold sumR at kk
      exact ⟨s2, D, List.map (fun (r : R3) => r.2) rs, rfl, SqL.of (by rw [upd_ne ndD.symm]; exact s3), kk⟩
theorem keys_rows {H : Hp} : ∀ {rs : List R3} {xs : List V} {bs : List Addr}, xs.length = rs.length → IsKeys H (rD rs xs) bs → PairsAt H (bs.map V.ref) (keysR rs)
  | [], _, [], _, _ => True.intro
  | r :: rs, x :: xs, b :: bs, hl, h => by
    cases h with
    | cons h t => exact ⟨⟨b, rfl, h⟩, keys_rows (by simpa using hl) t⟩
  | [], _, _ :: _, _, h => by cases h
  | _ :: _, [], _, hl, _ => by simp at hl
  | _ :: _, _ :: _, [], _, h => by cases h
theorem scLSpots : FnScope ["self"] ["self"] (defScope sLotSpots) := ⟨rfl, rfl, rfl, by decide +kernel, rfl, by decide +kernel, by decide +kernel⟩
theorem ok_lSpots {f fN CH : Addr} {fd fdN : FuncData} (F : Fun K "spots" "Lot.spots" sLotSpots f fd) (hL : mg "list" = none) (cH : HCls K CH) (gH : mg "Hold" = some (.ref CH)) (M : Mk K CH fN) (GN : FnOk P w K mg base CX0 1 fN fdN ["self", "rows"] (spHInit K)) (bN : Binds K fdN ["self", "rows"] []) : FnOk P w K mg base CX0 3 f fd ["self"] (spLSpots K CH) := by
  refine F.ok scLSpots (fun vs H Q E h => ?_) (fun cdv A outer s H vs Q E hr h => ?_)
  · obtain ⟨a, C, d, xs, rs, rfl, _⟩ := h
    rfl
  · obtain ⟨a, C, d, xs, rs, rfl, hc, hl, hlen, k⟩ := h
    refine ⟨_, pss_one (ps_ret (pe_make (E := fun _ _ _ => False) M GN hr (by rfl) gH bN .nil pass0 (pa_cons (pe_callTy (call_list_dT rfl) (by rfl) hL (by decide +kernel) (pa_cons (pe_fld (pv 0) rfl) pa_nil)) pa_nil))), ?_⟩
    obtain ⟨dx, ea⟩ := hl.ins
    refine ⟨_, rfl, a, C, dx, _, _, rfl, ea, hc.cls, hc.nR, rfl, d, _, rfl, .inl hl.dict, fun q bs hq ik => ?_⟩
    have pr := (keys_rows hl.trip.len ik).same (same_new (o := .lst (bs.map V.ref)) hq)
    refine fun x dx nx ndx nex => hold_new cH (rows := keysR rs) rfl ⟨_, pr, .inl (SqL.of upd_same)⟩ (by rw [keysR_len]; exact hlen) nx ndx nex fun d' H2 s2 _ h2 => ?_
    have e : onceP (keysR rs) = keysR rs := by
      suffices q : ∀ (l acc : List Pr), (acc ++ l).Nodup → l.foldl addP acc = acc ++ l from q _ [] hl.nd
      intro l
      induction l with
      | nil => intro acc _; simp
      | cons s l ih =>
        intro acc h
        rw [List.foldl_cons]
        have hs : s ∉ acc := fun m => by
          rw [List.nodup_append] at h
          exact h.2.2 s m s (List.mem_cons_self ..) rfl
        have e : addP acc s = acc ++ [s] := if_neg hs
        rw [e, ih _ (by rw [List.append_assoc]; exact h), List.append_assoc]
        rfl
    rw [e] at h2
    exact k x d' H2 ((same_new hq).trans s2) ((same_new hq).free nx) h2
theorem scLOne : FnScope ["cls", "kind", "standing"] ["cls", "kind", "standing"] (defScope sLotOne) := ⟨rfl, rfl, rfl, by decide +kernel, rfl, by decide +kernel, by decide +kernel⟩
theorem ok_lOne {f fN C CB : Addr} {fd fdN : FuncData} (F : Fun K "one" "Lot.one" sLotOne f fd) (c : LCls K C) (M : Mk K C fN) (GN : FnOk P w K mg base (L2.CX P w) 4 fN fdN ["self", "rows"] (spLInit K CB)) (bN : Binds K fdN ["self", "rows"] []) : FnOk P w K mg base (L2.CX P w) 6 f fd ["cls", "kind", "standing"] (spLOne K C) := by
  refine F.okX scLOne (fun vs H Q E h => ?_) (fun cdv A outer s H vs Q E hr h => ?_)
  · obtain ⟨z, y, rfl, _⟩ := h
    rfl
  · obtain ⟨z, y, rfl, k⟩ := h
    refine ⟨_, pss_one (ps_ret (pe_makeV (i := 0) (E := E) M GN hr bN (passes_call (takes_of rfl rfl rfl rfl) fun _ _ _ _ h => h) rfl (.inl rfl) (pa_cons (pe_lst (pa_cons (pe_tup (pa_cons (pv 1) (pa_cons (pv 2) (pa_cons pe_int pa_nil)))) pa_nil)) pa_nil))), ?_⟩
    refine ⟨rfl, _, rfl, _, rfl, (by show 3 ≤ sizeLine; decide), fun t ht => ⟨(by show 1 ≤ sizeLine; decide), fun l hl => ?_⟩⟩
    have s1 := (same_new (o := .tup [.str z, .str y, .int 1]) ht).trans (same_new (o := .lst [.ref t]) hl)
    refine fun x dx nx ndx nex => lot_new c (rows := [((z, y), 1)]) rfl ⟨[.ref t], ⟨⟨t, rfl, same_new hl _ _ upd_same⟩, True.intro⟩, .inl (SqL.of upd_same)⟩ (by show 1 ≤ 1000; decide) (fun r hr => by rw [List.mem_singleton.mp hr]; exact Int.le_refl _) nx ndx nex fun d' xs H' s2 _ h2 => ?_
    exact k x d' xs H' (s1.trans s2) (s1.free nx) h2
end
end Yd
namespace Yd
open PySem L2
/-! ### the helpers of the law of lots -/
theorem passF {X : Cx} : Passes (L2.CX X.prog X.w) X (fun _ _ _ => False) := fun _ _ _ _ _ _ _ ⟨_, _, _, _, _, _, _, _, _, _, _, _, h⟩ => h.elim
theorem units65 {A : Around} {k : Nat} (hr : Room k A) : A.units + 65 < cLine := by have := hr.un; omega
section
variable {X : Cx}
/-- both read as data with a Lean type -/
def rEqY (K : PySem.W.Frag) (α : Type) [DecidableEq α] [PySem.W.Datum α] : R2 := fun x y H Q => ∃ (a b : α), Dp K H x (PySem.W.Datum.toD a) ∧ Dp K H y (PySem.W.Datum.toD b) ∧ Q (.bl (decide (a = b))) H
theorem op_eqY {α : Type} [DecidableEq α] [PySem.W.Datum α] (hd : PySem.W.Datum.depth α ≤ 60) (hu : X.A.units + 65 < cLine) : OpR X (compareOp .Eq) (rEqY X.K α) := by
  intro pins s σ H x y v u Q I rx ry h
  obtain ⟨a, b, h1, h2, q⟩ := h
  obtain ⟨_, r1⟩ := Dp.reads I _ x v h1 rx
  obtain ⟨_, r2⟩ := Dp.reads I _ y u h2 ry
  have d1 := PySem.W.Datum.depth_le (α := α) a
  have d2 := PySem.W.Datum.depth_le (α := α) b
  refine SeqAt.eq_plain r1 r2 (PySem.W.Datum.plain a) (PySem.W.Datum.plain b) (by omega) ⟨.bl _, H, I, rfl, ?_⟩
  rw [PySem.W.Datum.eqv]
  exact q
end
/-- a list of pairs -/
def ListP (K : PySem.W.Frag) (H : Hp) (l : Addr) (ps : List Pr) : Prop := ∃ xs, SqL K H l xs ∧ PairsAt H xs ps
theorem ListP.keep {K : PySem.W.Frag} {H H' : Hp} {l : Addr} {ps : List Pr} (h : ListP K H l ps) (s : Same H H') : ListP K H' l ps := let ⟨xs, a, b⟩ := h; ⟨xs, s.seq a, b.same s⟩
theorem plain_prs (ps : List Pr) : (PyData.list (ps.map PySem.W.Datum.toD)).plain = true := by simp only [PyData.plain]; exact PySem.W.plainAll_map (α := Pr) ps
theorem depth_prs (ps : List Pr) : (PyData.list (ps.map PySem.W.Datum.toD)).depth ≤ 60 := by
  have h : PyData.depthAll (ps.map PySem.W.Datum.toD) ≤ _ := PySem.W.depthAll_map (α := Pr) ps
  have h2 : PySem.W.Datum.depth Pr ≤ 5 := by decide
  simp only [PyData.depth]
  omega
theorem ListP.dp {K : PySem.W.Frag} {H : Hp} {l : Addr} {ps : List Pr} (h : ListP K H l ps) : Dp K H (.ref l) (.list (ps.map PySem.W.Datum.toD)) := let ⟨_, a, b⟩ := h; .lst a b.dp
section
variable {X : Cx}
/-- l.index(x), x in l, both with a Lean type -/
def rIndexY (K : PySem.W.Frag) (α : Type) [DecidableEq α] [PySem.W.Datum α] : V → List V → Hp → VK → Prop := fun x vs H Q => ∃ (a : Addr) (y : V) (xs : List V) (p : α) (ps : List α) (j : Nat), x = .ref a ∧ vs = [y] ∧ SqL K H a xs ∧ DpAll K H xs (ps.map PySem.W.Datum.toD) ∧ Dp K H y (PySem.W.Datum.toD p) ∧ ps[j]? = some p ∧ ps.Nodup ∧ Q (.int (j : Nat)) H
theorem mt_indexY {α : Type} [DecidableEq α] [PySem.W.Datum α] (hd : PySem.W.Datum.depth α ≤ 60) (hu : X.A.units + 65 < cLine) : MtR X "list.index" (rIndexY X.K α) := by
  intro pins s σ H x xs v us Q I rx rxs h
  obtain ⟨a, y, ys, p, ps, j, rfl, rfl, hl, hds, hy, hj, nd, q⟩ := h
  have hm : p ∈ ps := List.mem_of_getElem? hj
  have hi : ps.idxOf p = j := by
    have h1 := List.idxOf_lt_length_of_mem hm
    exact (List.getElem?_inj h1 nd).mp (by rw [hj, List.getElem?_eq_getElem h1, List.getElem_idxOf h1])
  cases rx
  cases rxs with
  | cons ry rt =>
    rename_i uy ut
    cases rt
    obtain ⟨_, r1⟩ := Dp.reads I _ y uy hy ry
    obtain ⟨its, rv, ht, hlen⟩ := I.list hl
    have h4 := Dp.readsAll I _ ys its hds rv
    have HA : PySem.W.HoldAll s.heap its ps := h4
    have h5 := HA.length
    have h6 := rv.length
    exact PySem.W.index_list_datum ht.isList HA ⟨_, r1⟩ (by omega) (by omega) hm ⟨.int (j : Nat), H, I.tok _, ⟨_, by rw [hi]⟩, q⟩
end
/-- a row as data -/
def toT (r : R3) : PyData := .tuple [.str r.1.1, .str r.1.2, .int r.2]
theorem trip_dp {K : PySem.W.Frag} {H : Hp} : ∀ {xs : List V} {rs : List R3}, TripAt H xs rs → DpAll K H xs (rs.map toT)
  | [], [], _ => .nil
  | v :: xs, r :: rs, ⟨⟨t, e, h⟩, q⟩ => by subst e; exact .cons (.tup (SqT.of h) (.cons (.str _) (.cons (.str _) (.cons (.int _) .nil)))) (trip_dp q)
  | [], _ :: _, h => h.elim
  | _ :: _, [], h => h.elim
theorem plain_ts : ∀ rs : List R3, PyData.plainAll (rs.map toT) = true
  | [] => by simp [PyData.plainAll]
  | r :: rs => by simp [PyData.plainAll, toT, PyData.plain, plain_ts rs]
theorem depth_ts : ∀ rs : List R3, PyData.depthAll (rs.map toT) ≤ 5
  | [] => by simp [PyData.depthAll]
  | r :: rs => by
    have h := depth_ts rs
    have h2 : (toT r).depth ≤ 5 := by simp [toT, PyData.depth, PyData.depthAll]
    simp only [List.map_cons, PyData.depthAll]
    omega
theorem plain_trs (rs : List R3) : (PyData.list (rs.map toT)).plain = true := by simp only [PyData.plain]; exact plain_ts rs
theorem depth_trs (rs : List R3) : (PyData.list (rs.map toT)).depth ≤ 60 := by
  have h := depth_ts rs
  simp only [PyData.depth]
  omega
/-- a list of rows -/
def ListT (K : PySem.W.Frag) (H : Hp) (l : Addr) (rs : List R3) : Prop := ∃ xs, SqL K H l xs ∧ TripAt H xs rs
theorem ListT.keep {K : PySem.W.Frag} {H H' : Hp} {l : Addr} {rs : List R3} (h : ListT K H l rs) (s : Same H H') : ListT K H' l rs := let ⟨xs, a, b⟩ := h; ⟨xs, s.seq a, b.same s⟩
theorem ListT.rows {K : PySem.W.Frag} {H : Hp} {l : Addr} {rs : List R3} (h : ListT K H l rs) : RowsT K H l rs := let ⟨xs, a, b⟩ := h; ⟨xs, b, .inl a⟩
theorem ListT.dp {K : PySem.W.Frag} {H : Hp} {l : Addr} {rs : List R3} (h : ListT K H l rs) : Dp K H (.ref l) (.list (rs.map toT)) := let ⟨_, a, b⟩ := h; .lst a (trip_dp b)
/-! ### rows added up, as the law does it -/
theorem nd_at {l : List Pr} (h : l.Nodup) {i j : Nat} {p : Pr} (hi : l[i]? = some p) (hj : l[j]? = some p) : i = j := (List.getElem?_inj (List.getElem?_eq_some_iff.mp hi).1 h).mp (hi.trans hj.symm)
theorem keysR_get {rs : List R3} {i : Nat} {r : R3} (h : rs[i]? = some r) : (keysR rs)[i]? = some r.1 := by
  unfold keysR
  rw [List.getElem?_map, h]
  rfl
theorem addR_set {acc : List R3} {r q : R3} {j : Nat} (nd : (keysR acc).Nodup) (hj : acc[j]? = some q) (e : q.1 = r.1) : addR acc r = acc.set j (q.1, q.2 + r.2) := by
  have m : r.1 ∈ keysR acc := by rw [← e]; exact List.mem_of_getElem? (keysR_get hj)
  rw [addR_in m]
  refine List.ext_getElem? fun i => ?_
  rw [List.getElem?_map, List.getElem?_set]
  cases hi : acc[i]? with
  | none =>
    by_cases z : j = i
    · rw [z, hi] at hj
      cases hj
    · rw [if_neg z]
      rfl
  | some p =>
    have hl := (List.getElem?_eq_some_iff.mp hi).1
    by_cases z : j = i
    · subst z
      rw [hj] at hi
      cases hi
      rw [if_pos rfl, if_pos hl]
      show some (if q.1 = r.1 then (q.1, q.2 + r.2) else q) = _
      rw [if_pos e]
    · rw [if_neg z]
      show some (if p.1 = r.1 then (p.1, p.2 + r.2) else p) = some p
      rw [if_neg (fun e2 => z (nd_at nd (keysR_get hj) (by rw [e, ← e2]; exact keysR_get hi)))]
theorem TripAt.set {H : Hp} {t : Addr} {r : R3} (e : H t = some (.tup (tV r))) : ∀ {xs : List V} {rs : List R3} {j : Nat}, TripAt H xs rs → TripAt H (xs.set j (.ref t)) (rs.set j r)
  | [], [], _, _ => True.intro
  | v :: xs, q :: rs, 0, ⟨_, h⟩ => ⟨⟨t, rfl, e⟩, h⟩
  | v :: xs, q :: rs, j + 1, ⟨h0, h⟩ => ⟨h0, TripAt.set (j := j) e h⟩
  | [], _ :: _, _, h => h.elim
  | _ :: _, [], _, h => h.elim
theorem TripAt.val {H : Hp} {xs : List V} {rs : List R3} {j : Nat} {r : R3} (h : TripAt H xs rs) (hj : rs[j]? = some r) : ∃ t, xs[j]? = some (.ref t) ∧ H t = some (.tup (tV r)) := by
  have hl : j < xs.length := by rw [h.len]; exact (List.getElem?_eq_some_iff.mp hj).1
  obtain ⟨t, r', e, hr, ht⟩ := h.get (List.getElem?_eq_getElem hl)
  rw [hj] at hr
  cases hr
  exact ⟨t, by rw [List.getElem?_eq_getElem hl, e], ht⟩
theorem cut2 (z y : Str) (c : Int) : cutV [.str z, .str y, .int c] none (some 2) = [.str z, .str y] := rfl
theorem ncut2 (z y : Str) (c : Int) : ¬ (HT.sIx [V.str z, V.str y, V.int c].length 0 none = 0 ∧ HT.sIx [V.str z, V.str y, V.int c].length [V.str z, V.str y, V.int c].length (some 2) = [V.str z, V.str y, V.int c].length) := by
  show ¬ (HT.sIx 3 0 none = 0 ∧ HT.sIx 3 3 (some 2) = 3)
  decide
def spIsInt : Sp := fun vs H Q _ => ∃ i : Int, vs = [.int i] ∧ Q (.bl true) H
def spMerged (K : PySem.W.Frag) : Sp := fun vs H Q _ => ∃ (l : Addr) (rs : List R3), vs = [.ref l] ∧ ListT K H l rs ∧ rs.length ≤ 500 ∧ ∀ q ys H', Same H H' → H q = none → H' q = some (.lst ys) → TripAt H' ys (mergeR rs) → Q (.ref q) H'
def spCount (K : PySem.W.Frag) : Sp := fun vs H Q _ => ∃ (l t : Addr) (rs : List R3) (p : Pr), vs = [.ref l, .ref t] ∧ ListT K H l rs ∧ H t = some (.tup [.str p.1, .str p.2]) ∧ ∀ H', Same H H' → Q (.int (cntR rs p)) H'
section
variable {P : Program} {w : World} {K : PySem.W.Frag} {mg : Str → Option Value} {base : Heap}
theorem scIsInt : FnScope ["_law_actual"] ["_law_actual"] (defScope sIsInt) := ⟨rfl, rfl, rfl, by decide +kernel, rfl, by decide +kernel, by decide +kernel⟩
theorem ok_isInt {f : Addr} {fd : FuncData} (F : Fun K "_law_is_int" "_law_is_int" sIsInt f fd) (B : Blt mg) (hI : mg "isinstance" = none) (hB : mg "bool" = none) : FnOk P w K mg base CX0 1 f fd ["_law_actual"] spIsInt := by
  refine F.ok scIsInt (fun vs H Q E h => ?_) (fun cdv A outer s H vs Q E hr h => ?_)
  · obtain ⟨i, rfl, _⟩ := h
    rfl
  · obtain ⟨i, rfl, k⟩ := h
    refine ⟨_, pss_one (ps_ret (pe_and (pe_callB call_isi (by rfl) hI (by decide +kernel) (pa_cons (pv 0) (pa_cons (pe_bltn (v := .ty "int") (by rfl) B.int (by decide +kernel) rfl) pa_nil)))
      (pe_one (pe_not (pe_callB call_isi (by rfl) hI (by decide +kernel) (pa_cons (pv 0) (pa_cons (pe_bltn (v := .ty "bool") (by rfl) hB (by decide +kernel) rfl) pa_nil))))))), ?_⟩
    refine ⟨_, rfl, _, _, _, _, true, rfl, .ty _, .base (.int i), kit_ty (by decide +kernel), _, rfl, yes rfl ?_⟩
    exact ⟨_, rfl, _, _, _, _, false, rfl, .ty _, .base (.int i), kit_ty (by decide +kernel), _, rfl, k⟩
def nMerged : List Str := ["_law_rows", "_law_merged_here", "_law_row", "_law_spots", "_law_at", "_law_old"]
theorem scMerged : FnScope nMerged ["_law_rows"] (defScope sMerged) := ⟨rfl, rfl, rfl, by decide +kernel, rfl, by decide +kernel, by decide +kernel⟩
theorem scCount : FnScope ["_law_rows", "_law_spot", "_law_row"] ["_law_rows", "_law_spot"] (defScope sCount) := ⟨rfl, rfl, rfl, by decide +kernel, rfl, by decide +kernel, by decide +kernel⟩
theorem cntR_step {rs : List R3} {p : Pr} : ∀ {i : Nat} {r : R3}, rs[i]? = some r → r.1 = p → (∀ (j : Nat) (r' : R3), j < i → rs[j]? = some r' → r'.1 ≠ p) → cntR rs p = r.2 := by
  induction rs with
  | nil => intro i r h; simp at h
  | cons q rs ih =>
    intro i r h e n
    unfold cntR
    match i, h with
    | 0, h =>
      cases h
      rw [if_pos e]
    | i + 1, h =>
      rw [if_neg (n 0 q (by omega) rfl)]
      exact ih (i := i) (by simpa using h) e fun j r' hj hr => n (j + 1) r' (by omega) (by simpa using hr)
theorem ok_count {f : Addr} {fd : FuncData} (F : Fun K "_law_count" "_law_count" sCount f fd) : FnOk P w K mg base CX0 1 f fd ["_law_rows", "_law_spot"] (spCount K) := by
  refine F.ok scCount (fun vs H Q E h => ?_) (fun cdv A outer s H vs Q E hr h => ?_)
  · obtain ⟨l, t, rs, p, rfl, _⟩ := h
    rfl
  · obtain ⟨l, t, rs, p, rfl, ⟨xs, hl, hxs⟩, ht, k⟩ := h
    refine ⟨_, pss_cons (ps_for PassesOwn.never rfl (pi_list (pv 0)) (pg_name (i := 2) scCount.nd rfl (Or.inl rfl))
        (pss_one (ps_if (pt_cmpR (op_eqY (α := Pr) (by decide) (units65 hr)) (pe_slice sl_tup (pv 2) po_none (po_some pe_int)) (pv 1) (nomark _)) (pss_one (ps_ret (pe_ix ix_tup (pv 2) pe_int (fun _ _ => rfl)))) pss_nil)))
      (pss_one (ps_ret pe_int)), ?_⟩
    refine ⟨_, rfl, l, rfl, ⟨_, hl⟩, for_list (K := K) (a := l) (xs := xs) (fun i σ H' => Same H H' ∧ (∀ (j : Nat) (r' : R3), j < i → rs[j]? = some r' → r'.1 ≠ p) ∧ ∃ v : Option V, σ = [some (.ref l), some (.ref t), v])
      ⟨Same.refl _, fun j r' h => absurd h (Nat.not_lt_zero _), _, rfl⟩ (fun i σ H' _ h => h.1.seq hl) ?_ ?_⟩
    · rintro i x σ H' hi ⟨s1, n, v, rfl⟩
      obtain ⟨t', r, rfl, hr', ht'⟩ := TripAt.get (hxs.same s1) hi
      refine ⟨_, rfl, _, rfl, t', _, rfl, SqT.of ht', ncut2 _ _ _, fun q hq => ?_⟩
      have s2 := s1.trans (same_new (o := .tup (cutV (tV r) none (some 2))) hq)
      refine ⟨_, rfl, r.1, p, dp_pair (p := r.1) (by rw [upd_same]; rfl), dp_pair (s2 _ _ ht), _, rfl, ite2 (fun e => ?_) (fun e => ?_)⟩
      · have e' : r.1 = p := by simpa using e
        refine ⟨_, rfl, t', _, 2, _, rfl, rfl, SqT.of (by rw [upd_ne (ne_of_none ht' hq)]; exact ht'), at_c (j := 2) rfl rfl, ?_⟩
        have kk := k _ s2
        rw [cntR_step hr' e' n] at kk
        exact kk
      · have e' : r.1 ≠ p := by simpa using e
        refine ⟨s2, fun j r' hj hjr => ?_, _, rfl⟩
        rcases Nat.lt_or_ge j i with z | z
        · exact n j r' z hjr
        · have : j = i := by omega
          rw [this, hr'] at hjr
          cases hjr
          exact e'
    · rintro σ H' ⟨s1, n, v, rfl⟩
      have kk := k _ s1
      rw [cntR_out (rs := rs) (p := p) (fun m => by
        obtain ⟨j, hj⟩ := List.mem_iff_getElem?.mp m
        unfold keysR at hj
        rw [List.getElem?_map] at hj
        cases hr : rs[j]? with
        | none => rw [hr] at hj; cases hj
        | some r =>
          rw [hr] at hj
          exact n j r (by rw [hxs.len]; exact (List.getElem?_eq_some_iff.mp hr).1) hr (Option.some.inj hj))] at kk
      exact kk
end
section
variable {P : Program} {w : World} {K : PySem.W.Frag} {mg : Str → Option Value} {base : Heap}
theorem idx_at {l : List R3} {p : Pr} (m : p ∈ keysR l) : ∃ (j : Nat) (q : R3), l[j]? = some q ∧ q.1 = p := by
  obtain ⟨j, hj⟩ := List.mem_iff_getElem?.mp m
  unfold keysR at hj
  rw [List.getElem?_map] at hj
  cases hq : l[j]? with
  | none => rw [hq] at hj; cases hj
  | some q => rw [hq] at hj; exact ⟨j, q, hq, Option.some.inj hj⟩
theorem ok_merged {f : Addr} {fd : FuncData} (F : Fun K "_law_merged" "_law_merged" sMerged f fd) : FnOk P w K mg base CX0 1 f fd ["_law_rows"] (spMerged K) := by
  refine F.ok scMerged (fun vs H Q E h => ?_) (fun cdv A outer s H vs Q E hr h => ?_)
  · obtain ⟨l, rs, rfl, _⟩ := h
    rfl
  · obtain ⟨l, rs, rfl, ⟨xs, hl, hxs⟩, hz, k⟩ := h
    have u65 := units65 hr
    refine ⟨_, pss_cons (ps_set (i := 1) scMerged.nd rfl (Or.inl rfl) (pe_lst pa_nil))
      (pss_cons (ps_for PassesOwn.never rfl (pi_list (pv 0)) (pg_name (i := 2) scMerged.nd rfl (Or.inl rfl))
        (pss_cons (ps_setLc (i := 3) (own := [("_law_old", 5)]) (g := gName 5) (tt := tYes) (te := tSl (rSlT K) (tVar 5) tNoPart (tPart (tC (.int 2)))) rfl scMerged.nd rfl rfl (sw_true rfl rfl rfl (by decide +kernel)) (pi_list (pv 1))
            (blkOk_by (N := nMerged) (sc := defScope sMerged) (by decide +kernel)) (fun _ _ _ _ _ => pg_name (i := 5) scMerged.nd rfl (Or.inl rfl)) (fun _ _ _ _ _ => pts_nil) (fun _ _ _ _ _ => pe_slice sl_tup (pv 5) po_none (po_some pe_int)))
        (pss_one (ps_if (pt_cmpR (op_inY (α := Pr) (by decide) u65) (pe_slice sl_tup (pv 2) po_none (po_some pe_int)) (pv 3) rfl)
          (pss_cons (ps_set (i := 4) scMerged.nd rfl (Or.inl rfl) (pe_bm PySem.F.plainAttrs_list PySem.F.slot_list_index PySem.F.type_list_index (mt_indexY (α := Pr) (by decide) u65) (pv 3) (pa_cons (pe_slice sl_tup (pv 2) po_none (po_some pe_int)) pa_nil)))
            (pss_one (ps_asg (pe_op op_catA (pe_slice sl_tup (pv 2) po_none (po_some pe_int)) (pe_tup (pa_cons (pe_op op_add (pe_ix ix_tup (pe_ix ix_list (pv 1) (pv 4) (fun _ _ => rfl)) pe_int (fun _ _ => rfl)) (pe_ix ix_tup (pv 2) pe_int (fun _ _ => rfl))) pa_nil))) (pg_sub (pv 1) (pv 4) set_list))))
          (pss_one (ps_expr (pe_bm PySem.F.plainAttrs_list PySem.F.slot_list_append PySem.F.type_list_append mt_append (pv 1) (pa_cons (pv 2) pa_nil))))))))
      (pss_one (ps_ret (pv 1)))), ?_⟩
    refine ⟨(by show 0 ≤ sizeLine; omega), fun D hD => ?_⟩
    refine ⟨_, rfl, l, rfl, ⟨_, (same_new hD).seq hl⟩, for_list (K := K) (a := l) (xs := xs) (fun i σ H' => Same H H' ∧ (∃ ys, H' D = some (.lst ys) ∧ TripAt H' ys (mergeR (rs.take i))) ∧ ∃ v2 v3 v4 : Option V, σ = [some (.ref l), some (.ref D), v2, v3, v4, none])
      ⟨same_new hD, ⟨[], upd_same, True.intro⟩, _, _, _, rfl⟩ (fun i σ H' _ h => h.1.seq hl) ?_ ?_⟩
    · rintro i x σ H' hi ⟨s1, ⟨ys, e1, h1⟩, v2, v3, v4, rfl⟩
      obtain ⟨t, r, rfl, hr', ht⟩ := TripAt.get (hxs.same s1) hi
      have lm := mergeR_len (rs.take i)
      rw [List.length_take] at lm
      have ly := h1.len
      have mm := mergeR_more hr'
      have nd := mergeR_nd (rs.take i)
      refine ⟨_, rfl, D, rfl, ⟨_, SqL.of e1⟩, fun S hS => ?_⟩
      refine lc_list (K := K) (a := D) (xs := ys) (fun j H2 => Same H' H2 ∧ ∃ zs, H2 S = some (.lst zs) ∧ PairsAt H2 zs ((keysR (mergeR (rs.take i))).take j))
        ⟨same_new hS, [], upd_same, True.intro⟩ (fun j H2 _ h => SqL.of (h.1 _ _ e1)) ?_ ?_
      · rintro j x H2 hj ⟨s2, zs, e2, h2⟩
        obtain ⟨t2, q, rfl, hq, ht2⟩ := TripAt.get (h1.same s2) hj
        refine ⟨rfl, _, rfl, _, rfl, t2, _, rfl, SqT.of ht2, ncut2 _ _ _, fun p hp => ⟨zs, by rw [upd_ne (ne_of_none e2 hp)]; exact e2, small500 ?_, fun b o e => ?_, zs ++ [.ref p], upd_same, ?_⟩⟩
        · rw [h2.len, List.length_take, keysR_len]
          omega
        · rw [upd_ne (ne_of_none e hS), upd_ne (ne_of_none (s2 _ _ e) hp)]
          exact s2 _ _ e
        · have n1 : S ≠ p := ne_of_none e2 hp
          have nq : ∀ t ws, upd H2 p (.tup (cutV (tV q) none (some 2))) t = some (.tup ws) → upd (upd H2 p (.tup (cutV (tV q) none (some 2)))) S (.lst (zs ++ [.ref p])) t = some (.tup ws) := fun t ws et => by
            rw [upd_ne (fun z => by rw [z, upd_ne n1, e2] at et; cases et)]
            exact et
          have ek : (keysR (mergeR (rs.take i))).take (j + 1) = (keysR (mergeR (rs.take i))).take j ++ [q.1] := by rw [List.take_add_one, keysR_get hq]; rfl
          rw [ek]
          exact PairsAt.snoc (p := q.1) (nq _ _ (by rw [upd_same]; rfl)) ((h2.same (same_new hp)).keep nq)
      rintro H2 ⟨s2, zs, e2, h2⟩
      rw [ly, ← keysR_len, List.take_length] at h2
      have e1 := s2 _ _ e1
      have h1 := h1.same s2
      have ht := s2 _ _ ht
      have s1 := s1.trans s2
      clear s2 hS
      refine ⟨_, rfl, _, rfl, t, _, rfl, SqT.of ht, ncut2 _ _ _, fun p hp => ?_⟩
      have sp := same_new (o := .tup (cutV (tV r) none (some 2))) hp
      have ep : upd H2 p (.tup (cutV (tV r) none (some 2))) p = some (.tup [.str r.1.1, .str r.1.2]) := by rw [upd_same]; rfl
      refine ⟨_, rfl, r.1, _, dp_pair ep, .lst (SqL.of (sp _ _ e2)) (h2.same sp).dp, _, rfl, ?_⟩
      have e1 := sp _ _ e1
      have e2 := sp _ _ e2
      have h1 := h1.same sp
      have h2 := h2.same sp
      have ht := sp _ _ ht
      have s1 := s1.trans sp
      generalize upd H2 p (.tup (cutV (tV r) none (some 2))) = H3 at *
      clear sp ep hp
      by_cases m : r.1 ∈ keysR (mergeR (rs.take i))
      · refine yes (by simpa using m) ?_
        obtain ⟨j, q, hq, eq⟩ := idx_at m
        obtain ⟨tq, hyq, htq⟩ := h1.val hq
        refine ⟨_, rfl, .inl ⟨rfl, _, SqL.of e2⟩, _, rfl, _, rfl, t, _, rfl, SqT.of ht, ncut2 _ _ _, fun p hp => ?_⟩
        have sp := same_new (o := .tup (cutV (tV r) none (some 2))) hp
        have ep : upd H3 p (.tup (cutV (tV r) none (some 2))) p = some (.tup [.str r.1.1, .str r.1.2]) := by rw [upd_same]; rfl
        refine ⟨S, _, _, r.1, _, j, rfl, rfl, SqL.of (sp _ _ e2), (h2.same sp).dp, dp_pair ep, by rw [keysR_get hq, eq], nd, ?_⟩
        have e1 := sp _ _ e1
        have h1 := h1.same sp
        have ht := sp _ _ ht
        have htq := sp _ _ htq
        have s1 := s1.trans sp
        generalize upd H3 p (.tup (cutV (tV r) none (some 2))) = H4 at *
        clear sp ep hp e2 h2
        refine ⟨_, rfl, _, rfl, t, _, rfl, SqT.of ht, ncut2 _ _ _, fun p hp => ?_⟩
        have sp := same_new (o := .tup (cutV (tV r) none (some 2))) hp
        have ep : upd H4 p (.tup (cutV (tV r) none (some 2))) p = some (.tup [.str r.1.1, .str r.1.2]) := by rw [upd_same]; rfl
        have e1 := sp _ _ e1
        have h1 := h1.same sp
        have ht := sp _ _ ht
        have htq := sp _ _ htq
        have s1 := s1.trans sp
        generalize upd H4 p (.tup (cutV (tV r) none (some 2))) = H5 at *
        refine ⟨_, rfl, _, rfl, D, _, (j : Int), _, rfl, rfl, SqL.of e1, at_c hyq rfl, tq, _, 2, _, rfl, rfl, SqT.of htq, at_c (j := 2) rfl rfl, _, rfl, t, _, 2, _, rfl, rfl, SqT.of ht, at_c (j := 2) rfl rfl, _, _, rfl, rfl, (by show 1 ≤ sizeLine; decide), fun o ho => ?_⟩
        have so := same_new (o := .tup [.int (q.2 + r.2)]) ho
        refine ⟨p, o, _, _, rfl, rfl, SqT.of (so _ _ ep), SqT.of upd_same, (by show 3 ≤ sizeLine; decide), fun z => (List.cons_ne_nil _ _ z).elim, fun _ z => (List.cons_ne_nil _ _ z).elim, fun _ _ n hn => ?_⟩
        have sn := so.trans (same_new (o := .tup ([.str r.1.1, .str r.1.2] ++ [.int (q.2 + r.2)])) hn)
        have en : upd (upd H5 o (.tup [.int (q.2 + r.2)])) n (.tup ([.str r.1.1, .str r.1.2] ++ [.int (q.2 + r.2)])) n = some (.tup (tV (q.1, q.2 + r.2))) := by rw [upd_same, eq]; rfl
        have e1 := sn _ _ e1
        have h1 := h1.same sn
        have s1 := s1.trans sn
        generalize upd (upd H5 o (.tup [.int (q.2 + r.2)])) n (.tup ([.str r.1.1, .str r.1.2] ++ [.int (q.2 + r.2)])) = H6 at *
        refine ⟨_, rfl, _, rfl, D, _, _, _, rfl, rfl, e1, ixN_c (List.getElem?_eq_some_iff.mp hyq).1 rfl, fun b o' z => ?_, ⟨_, upd_same, ?_⟩, _, _, _, rfl⟩
        · rw [upd_ne (ne_of_none z hD)]
          exact s1 _ _ z
        · rw [mm, addR_set nd hq eq]
          have nq : ∀ t ws, H6 t = some (.tup ws) → upd H6 D (.lst (ys.set j (.ref n))) t = some (.tup ws) := fun t ws et => by
            rw [upd_ne (ne_of et e1 (fun z => nomatch z))]
            exact et
          exact TripAt.set (nq _ _ en) (h1.keep nq)
      · refine no (by simpa using m) ?_
        refine ⟨_, rfl, .inl ⟨rfl, _, SqL.of e1⟩, _, rfl, D, _, _, rfl, rfl, e1, small500 (by omega), fun b o z => ?_, ⟨_, upd_same, ?_⟩, _, _, _, rfl⟩
        · rw [upd_ne (ne_of_none z hD)]
          exact s1 _ _ z
        · rw [mm, addR_out m]
          have nq : ∀ t' ws, H3 t' = some (.tup ws) → upd H3 D (.lst (ys ++ [.ref t])) t' = some (.tup ws) := fun t' ws et => by
            rw [upd_ne (ne_of et e1 (fun z => nomatch z))]
            exact et
          exact TripAt.snoc (nq _ _ ht) (h1.keep nq)
    · rintro σ H' ⟨s1, ⟨ys, e1, h1⟩, v2, v3, v4, rfl⟩
      rw [hxs.len, List.take_length] at h1
      exact ⟨_, rfl, k D ys H' s1 hD e1 h1⟩
end
end Yd
namespace Yd
open PySem L2
/-! ### a lot that holds the rows -/
structure HoldL (P : Program) (w : World) (K : PySem.W.Frag) (mg : Str → Option Value) (base : Heap) (C : Addr) : Prop where
  h : HCls K C
  g : mg "Hold" = some (.ref C)
  ca : PySem.W.findIn K (.ref C) "__class__" = some (some (.builtin "object.__class__"))
  cn : PySem.W.specialIn K (.builtin "object.__class__") "__get__" = some (some (.builtin "getset_descriptor.__get__"))
  ct : PySem.W.takesIn K (.builtin "object.__class__") = some true
  cm : PySem.W.mroIn K C (.type "object") = some true
  kH : PySem.W.kitOne K (.ref C) (.ref C) = some true
  st : ∃ fi fdi, OpC K C "__iter__" fi ∧ FnN P w K mg base 1 fi fdi ["self"] (spHIter K) ∧ Binds K fdi ["self"] []
structure LotC (P : Program) (w : World) (K : PySem.W.Frag) (mg : Str → Option Value) (base : Heap) (C CB CH : Addr) : Prop where
  h : LCls K C
  g : mg "Lot" = some (.ref C)
  ca : PySem.W.findIn K (.ref C) "__class__" = some (some (.builtin "object.__class__"))
  cn : PySem.W.specialIn K (.builtin "object.__class__") "__get__" = some (some (.builtin "getset_descriptor.__get__"))
  ct : PySem.W.takesIn K (.builtin "object.__class__") = some true
  cm : PySem.W.mroIn K C (.type "object") = some true
  kL : PySem.W.kitOne K (.ref C) (.ref C) = some true
  hold : HoldL P w K mg base CH
  st : ∃ fi fl fdi fdl, OpC K C "__iter__" fi ∧ OpC K C "__len__" fl ∧ FnN P w K mg base 1 fi fdi ["self"] (spLIter K) ∧ Binds K fdi ["self"] [] ∧ FnOk P w K mg base CX0 1 fl fdl ["self"] (spLLen K) ∧ Binds K fdl ["self"] []
  inn : ∃ f fd, OpC K C "__contains__" f ∧ FnOk P w K mg base CX0 1 f fd ["self", "x"] (spLIn K) ∧ Binds K fd ["self", "x"] []
  get : ∃ f fd, ItemC K C "__getitem__" f ∧ FnOk P w K mg base CX0 1 f fd ["self", "at"] (spLGet K) ∧ Binds K fd ["self", "at"] []
  tot : ∃ p f fd, PropOf K C "total" p f ∧ FnOk P w K mg base CX0 1 f fd ["self"] (spLTot K) ∧ Binds K fd ["self"] []
  spots : ∃ f fd, Meth K C "spots" f ∧ FnOk P w K mg base CX0 3 f fd ["self"] (spLSpots K CH) ∧ Binds K fd ["self"] []
  one : ∃ mc p f fd, ClX.CRead K C mc ∧ ClX.CMet K C mc "one" p f ∧ FnOk P w K mg base (L2.CX P w) 6 f fd ["cls", "kind", "standing"] (spLOne K C) ∧ Binds K fd ["cls", "kind", "standing"] []
  ini : ∃ f fd e ee, Mk K C f ∧ FnOk P w K mg base (L2.CX P w) 4 f fd ["self", "rows"] (spLInit K CB) ∧ Binds K fd ["self", "rows"] [] ∧ Binds K fd ["self", "rows"] [ee] ∧ RelV (.ref e) ee ∧ ∀ H, SqT K H e []
theorem same_unlock {H H' : Hp} {d : Addr} {u : HO} (hd : H d = some u) (h : ∀ q o, H q = some o → q ≠ d → H' q = some o) : Same H (upd H' d u) := fun q o e => by
  by_cases n : q = d
  · subst n
    rw [upd_same, ← e, hd]
  · rw [upd_ne n]
    exact h q o e n
theorem LotAt.ty {P : Program} {w : World} {K : PySem.W.Frag} {mg : Str → Option Value} {base : Heap} {C CB CH a d : Addr} {H : Hp} {xs : List V} {rs : List R3} (h : LotAt H C a d xs rs) (c : LotC P w K mg base C CB CH) : TyX K H (.ref a) (.ref C) :=
  let ⟨_, e⟩ := h.ins; .base (.ins e c.h.cls c.ca c.cn c.ct c.cm)
theorem HoldAt.tyL {P : Program} {w : World} {K : PySem.W.Frag} {mg : Str → Option Value} {base : Heap} {C a d : Addr} {H : Hp} {ps : List Pr} (h : HoldAt H C a d ps) (c : HoldL P w K mg base C) : TyX K H (.ref a) (.ref C) :=
  let ⟨_, e⟩ := h.ins; .base (.ins e c.h.cls c.ca c.cn c.ct c.cm)
def spIsLot (K : PySem.W.Frag) (C : Addr) : Sp := fun vs H Q _ => ∃ (a d l : Addr) (xs : List V) (rs : List R3), vs = [.ref a, .ref l] ∧ LotAt H C a d xs rs ∧ ListT K H l rs ∧ rs.length ≤ 500 ∧ ∀ H', Same H H' → Q (.bl true) H'
section
variable {P : Program} {w : World} {K : PySem.W.Frag} {mg : Str → Option Value} {base : Heap}
def nIsLot : List Str := ["_law_lot", "_law_rows", "_law_row", "_law_told"]
theorem scIsLot : FnScope nIsLot ["_law_lot", "_law_rows"] (defScope sIsLot) := ⟨rfl, rfl, rfl, by decide +kernel, rfl, by decide +kernel, by decide +kernel⟩
theorem ok_isLot {f fI C CB CH : Addr} {fd dI : FuncData} (F : Fun K "_law_is_lot" "_law_is_lot" sIsLot f fd) (B : Blt mg) (c : LotC P w K mg base C CB CH) (hI : mg "isinstance" = none) (hB : mg "bool" = none) (hS : mg "sum" = none) (TI : Fn K mg "_law_is_int" sIsInt ["_law_actual"] fI dI) :
    FnOk P w K mg base CX0 3 f fd ["_law_lot", "_law_rows"] (spIsLot K C) := by
  have GI : FnOk P w K mg base CX0 1 fI dI ["_law_actual"] spIsInt := ok_isInt TI.F B hI hB
  obtain ⟨fi, fl, fdi, fdl, ci, cl, Gi, bi, Gl, bl⟩ := c.st
  obtain ⟨pt_, ft, fdt, cT, GT, bT⟩ := c.tot
  refine F.ok scIsLot (fun vs H Q E h => ?_) (fun cdv A outer s H vs Q E hr h => ?_)
  · obtain ⟨a, d, l, xs, rs, rfl, _⟩ := h
    rfl
  · obtain ⟨a, d, l, xs, rs, rfl, h1, hl, hz, k⟩ := h
    have r1 : Room 1 _ := hr.mono (by decide)
    refine ⟨_, pss_cons (ps_if (pt_not (pt_val (pe_callB call_isi (by rfl) hI (by decide +kernel) (pa_cons (pv 0) (pa_cons (pe_glob (v := .ref C) (by rfl) c.g rfl) pa_nil))))) (pss_one (ps_ret pe_bl)) pss_nil)
      (pss_cons (ps_lock (ps_setLc (i := 3) (own := [("_law_row", 2)]) (g := gName 2) (tt := tYes) (te := tVar 2) rfl scIsLot.nd rfl rfl (sw_true rfl rfl rfl (by decide +kernel)) (pi_ownV (pv 0) ci.at_ ci.fn Gi r1 bi) (blkOk_by (N := nIsLot) (sc := defScope sIsLot) (by decide +kernel))
          (fun _ _ _ _ _ => pg_name (i := 2) scIsLot.nd rfl (Or.inl rfl)) (fun _ _ _ _ _ => pts_nil) (fun _ _ _ _ _ => pv 2)))
      (pss_cons (ps_if (PW.pt (pw_or (pt_cmpR (op_neS hr.units) (pv 3) (pv 1) (nomark _)) (pw_or1 (pt_cmpR op_ne (pe_callB (call_lenO (E := fun _ _ _ => False) cl Gl hr bl pass0) (by rfl) B.len PySem.boot_len (pa_cons (pv 0) pa_nil)) (pe_callB call_len_seq (by rfl) B.len PySem.boot_len (pa_cons (pv 1) pa_nil)) (nomark _))))) (pss_one (ps_ret pe_bl)) pss_nil)
      (pss_cons (ps_for PassesOwn.never rfl (pi_list (pv 3)) (pg_name (i := 2) scIsLot.nd rfl (Or.inl rfl))
        (pss_one (ps_if (pt_not (pt_val (pe_call GI r1 rfl TI.g TI.F.kp TI.b .nil pass0 (pa_cons (pe_ix ix_tup (pv 2) pe_int (fun _ _ => rfl)) pa_nil)))) (pss_one (ps_ret pe_bl)) pss_nil)))
      (pss_one (ps_ret (pe_and (pe_call GI r1 rfl TI.g TI.F.kp TI.b .nil pass0 (pa_cons (pe_prop (E := fun _ _ _ => False) (pv 0) c.h.cls cT GT hr bT .nil pass0 rfl) pa_nil))
        (pe_one (pe_cmpR op_eq (pe_prop (E := fun _ _ _ => False) (pv 0) c.h.cls cT GT hr bT .nil pass0 rfl) (pe_callB (cr_sum rfl) (by rfl) hS (by decide +kernel) (pa_cons (pe_lc (own := [("_law_row", 2)]) (g := gName 2) (tt := tYes) (te := tOp (rIxT K) (tVar 2) (tC (.int 2))) rfl scIsLot.nd (pi_list (pv 1)) (blkOk_by (N := nIsLot) (sc := defScope sIsLot) (by decide +kernel))
          (fun _ _ _ _ _ => pg_name (i := 2) scIsLot.nd rfl (Or.inl rfl)) (fun _ _ _ _ _ => pts_nil) (fun _ _ _ _ _ => pe_ix ix_tup (pv 2) pe_int (fun _ _ => rfl))) pa_nil)) (nomark _))))))))), ?_⟩
    refine ⟨_, rfl, _, _, _, _, true, rfl, .own C, h1.ty c, c.kL, true, rfl, no rfl ?_⟩
    obtain ⟨dx, ea⟩ := h1.ins
    have nad : a ≠ d := ne_of ea h1.dict (by intro z; cases z)
    have lx := h1.trip.len
    refine ⟨d, _, h1.dict, True.intro, fun od => ?_⟩
    refine ⟨_, rfl, a, dx, _, rfl, by rw [upd_ne nad]; exact ea, fun m => ⟨a, C, dx, d, od, _, rfl, by rw [upd_ne nad]; exact ea, c.h, upd_same, fun v it hv hit him => ⟨it, d, od, _, rfl, him, upd_same, by rw [upd_ne (ne_of_none (same_new hv _ _ upd_same) hit)]; exact same_new hv _ _ upd_same, ?_⟩⟩⟩
    rw [ItX.dropH_upd hit]
    have base : ∀ q o, H q = some o → q ≠ d → upd (upd H d (.frz od (.dT (rD rs xs)))) v (VwO v d) q = some o := fun q o e n => same_new hv _ _ (by rw [upd_ne n]; exact e)
    have hdV : upd (upd H d (.frz od (.dT (rD rs xs)))) v (VwO v d) d = some (.frz od (.dT (rD rs xs))) := same_new hv _ _ upd_same
    generalize upd (upd H d (.frz od (.dT (rD rs xs)))) v (VwO v d) = HV at base hdV
    clear him hit hv
    intro Dl hDl
    have nDd : d ≠ Dl := ne_of_none hdV hDl
    refine lc_rows (fun j H' => (∀ q o, H q = some o → q ≠ d → H' q = some o) ∧ H' d = some (.frz od (.dT (rD rs xs))) ∧ ∃ ys, H' Dl = some (.lst ys) ∧ TripAt H' ys (rs.take j))
      ⟨fun q o e1 e2 => same_new hDl _ _ (base q o e1 e2), by rw [upd_ne nDd]; exact hdV, [], upd_same, True.intro⟩ lx (fun j H' _ h => ⟨h.2.1, h1.trip.keep fun t ys e => h.1 _ _ e (ne_of e h1.dict (fun z => nomatch z))⟩) ?_ ?_
    · rintro j r t H' hr' ht ⟨s1, s2, ys, s3, s4⟩
      have l1 := s4.len
      rw [List.length_take] at l1
      refine ⟨rfl, _, rfl, ys, s3, small500 (by omega), fun q o e1 e2 => ?_, by rw [upd_ne nDd]; exact s2, _, upd_same, ?_⟩
      · rw [upd_ne (fun z => by rw [z] at e1; exact absurd (base _ _ e1 (by rw [← z]; exact e2)) (by rw [hDl]; intro z; cases z))]
        exact s1 q o e1 e2
      · have nq : ∀ t ws, H' t = some (.tup ws) → upd H' Dl (.lst (ys ++ [.ref t])) t = some (.tup ws) := fun t ws et => by rw [upd_ne (ne_of et s3 (fun z => nomatch z))]; exact et
        rw [takeR hr']
        have nt : ∀ t' ws, H' t' = some (.tup ws) → upd H' Dl (.lst (ys ++ [V.ref t])) t' = some (.tup ws) := fun t' ws et => by rw [upd_ne (ne_of et s3 (fun z => nomatch z))]; exact et
        exact TripAt.snoc (nt _ _ ht) (s4.keep nt)
    rintro H' ⟨s1, s2, ys, s3, s4⟩
    rw [List.take_length] at s4
    have s5 := same_unlock h1.dict s1
    have eD : upd H' d (.dT (rD rs xs)) Dl = some (.lst ys) := by rw [upd_ne nDd.symm]; exact s3
    have tD : TripAt (upd H' d (.dT (rD rs xs))) ys rs := s4.keep fun t ws et => by rw [upd_ne (ne_of et s2 (fun z => nomatch z))]; exact et
    refine ⟨s2, ?_⟩
    clear s1 s2 s3 s4 hDl nDd hdV base
    generalize upd H' d (.dT (rD rs xs)) = H1 at s5 eD tD
    have hl1 := hl.keep s5
    have h2 := h1.keep s5
    obtain ⟨dx2, ea2⟩ := h2.ins
    obtain ⟨zs, hzs, pzs⟩ := id hl1
    have lz := pzs.len
    refine ⟨_, rfl, _, rfl, _, (show ListT K H1 Dl rs from ⟨ys, SqL.of eD, tD⟩).dp, hl1.dp, plain_trs rs, depth_trs rs, _, rfl, no rfl ?_⟩
    refine ⟨_, rfl, a, dx2, _, rfl, ea2, a, C, dx2, d, _, rfl, ea2, c.h, .inl h2.dict, _, rfl, Nat.le_of_lt (small500 (by rw [rD_len lx]; omega)), ?_⟩
    refine ⟨_, rfl, l, _, rfl, .inl hzs, rfl, _, rfl, no ?_ ?_⟩
    · rw [rD_len lx, lz, decide_eq_true rfl]
      rfl
    refine ⟨_, rfl, Dl, rfl, ⟨_, SqL.of eD⟩, for_list (K := K) (a := Dl) (xs := ys) (fun i σ H' => H' = H1 ∧ ∃ v : Option V, σ = [some (.ref a), some (.ref l), v, some (.ref Dl)])
      ⟨rfl, _, rfl⟩ (fun i σ H' _ h => by rw [h.1]; exact SqL.of eD) ?_ ?_⟩
    · rintro i x σ H2 hi ⟨rfl, v, rfl⟩
      obtain ⟨t, r, rfl, hr', ht⟩ := TripAt.get tD hi
      exact ⟨_, rfl, t, _, 2, _, rfl, rfl, SqT.of ht, at_c (j := 2) rfl rfl, r.2, rfl, true, rfl, no rfl ⟨rfl, _, rfl⟩⟩
    · rintro σ H2 ⟨rfl, v, rfl⟩
      refine ⟨_, rfl, a, dx2, _, rfl, ea2, a, C, d, xs, rs, rfl, c.h, h2, by omega, fun H3 s3 => ⟨sumR rs, rfl, _, rfl, yes rfl ?_⟩⟩
      have h3 := h2.keep s3
      obtain ⟨dx3, ea3⟩ := h3.ins
      refine ⟨_, rfl, a, dx3, _, rfl, ea3, a, C, d, xs, rs, rfl, c.h, h3, by omega, fun H4 s4 => ?_⟩
      have s4 := s3.trans s4
      have hl4 := s4.seq hzs
      have p4 := pzs.same s4
      refine ⟨_, rfl, l, rfl, ⟨_, hl4⟩, fun D hD => ?_⟩
      refine lc_list (K := K) (a := l) (xs := zs) (fun j H' => Same H4 H' ∧ H' D = some (.lst (((rs.take j).map (·.2)).map V.int)))
        ⟨same_new hD, upd_same⟩ (fun j H' _ h => h.1.seq hl4) ?_ ?_
      · rintro j x H' hj ⟨s6, e6⟩
        obtain ⟨t, r, rfl, hr', ht⟩ := TripAt.get (p4.same s6) hj
        refine ⟨rfl, _, rfl, t, _, 2, _, rfl, rfl, SqT.of ht, at_c (j := 2) rfl rfl, _, e6, small500 (by rw [List.length_map, List.length_map, List.length_take]; omega), fun q o e1 => ?_, ?_⟩
        · rw [upd_ne (ne_of_none e1 hD)]
          exact s6 q o e1
        · rw [upd_same, takeR hr', List.map_append, List.map_append]
          rfl
      · rintro H' ⟨s6, e6⟩
        rw [lz, List.take_length] at e6
        refine ⟨D, List.map (fun (r : R3) => r.2) rs, rfl, SqL.of e6, rfl, ?_⟩
        have kk := k _ (s5.trans (s4.trans s6))
        have e : decide (V.int (sumR rs) = V.int ((List.map (fun (r : R3) => r.2) rs).sum)) = true := decide_eq_true rfl
        rw [e]
        exact kk
end
end Yd
namespace Yd
open PySem L2
/-! ### the class Lot: its operators -/
theorem LotAt.rd {H H' : Hp} {C b d1 d2 : Addr} {xs ys : List V} {rs qs : List R3} {od : Obj} (h2 : LotAt H C b d2 ys qs) (h1 : H d1 = some (.dT (rD rs xs))) (hk : ∀ q o, H q = some o → q ≠ d1 → H' q = some o) (hd : H' d1 = some (.frz od (.dT (rD rs xs)))) :
    (∃ dy, H' b = some (.ins C dy [("_rows", .ref d2)])) ∧ Rd H' d2 (.dT (rD qs ys)) ∧ TripAt H' ys qs := by
  obtain ⟨dy, e⟩ := h2.ins
  refine ⟨⟨dy, hk _ _ e (ne_of e h1 (fun z => nomatch z))⟩, ?_, h2.trip.keep fun t zs e => hk _ _ e (ne_of e h1 (fun z => nomatch z))⟩
  by_cases n : d2 = d1
  · have q := h2.dict
    rw [n, h1] at q
    refine .inr ⟨od, ?_⟩
    rw [n, hd]
    rw [HO.dT.inj (Option.some.inj q)]
  · exact .inl (hk _ _ h2.dict n)
theorem rD_vals : ∀ {rs : List R3} {xs : List V}, xs.length = rs.length → (rD rs xs).map (·.2) = xs
  | [], [], _ => rfl
  | r :: rs, x :: xs, h => by
    have e : rD (r :: rs) (x :: xs) = (kP r.1, x) :: rD rs xs := rfl
    rw [e, List.map_cons, rD_vals (by simpa using h)]
  | [], _ :: _, h => by simp at h
  | _ :: _, [], h => by simp at h
section
variable {K : PySem.W.Frag}
/-- for v in o, over the rows of a locked dict -/
theorem for_rows {d : Addr} {od : Obj} {rs : List R3} {xs : List V} {g : TG} {tb : TS} {D : Ends} {σ : L2.St} {H : Hp} (Pv : Nat → L2.St → Hp → Prop) (h0 : Pv 0 σ H) (hx : xs.length = rs.length) (hl : ∀ i σ H, i ≤ rs.length → Pv i σ H → H d = some (.frz od (.dT (rD rs xs))) ∧ TripAt H xs rs)
    (hs : ∀ i r t σ H, rs[i]? = some r → H t = some (.tup (tV r)) → Pv i σ H → g (.ref t) σ H fun σ2 H2 => tb { D with nx := Pv (i + 1), ct := Pv (i + 1), bk := D.nx } σ2 H2) (hd : ∀ σ H, Pv rs.length σ H → D.nx σ H) :
    ∃ W : Nat → Nat → L2.St → Hp → Prop, (∃ m, W 0 m σ H) ∧ ∀ i m σ H, W i m σ H →
      ((Itdt d od (rD rs xs)).stop i H ∧ D.nx σ H) ∨ ((Itdt d od (rD rs xs)).go i H ∧ ∃ N : L2.St → Hp → Prop, (∀ σ' H', N σ' H' → ∃ m', m' < m ∧ W (i + 1) m' σ' H') ∧ ∀ x H', (Itdt d od (rD rs xs)).yld i H x H' → g x σ H' fun σ2 H2 => tb { D with nx := N, ct := N, bk := D.nx } σ2 H2) := by
  refine ⟨fun i m σ H => m = rs.length - i ∧ i ≤ rs.length ∧ Pv i σ H, ⟨rs.length, by simp, Nat.zero_le _, h0⟩, ?_⟩
  rintro i m σ H ⟨rfl, hi, p⟩
  have q := hl i σ H hi p
  have lD := rD_len (rs := rs) hx
  by_cases hlt : i < rs.length
  · refine .inr ⟨⟨q.1, by rw [lD]; exact hlt⟩, Pv (i + 1), fun σ' H' p' => ⟨rs.length - (i + 1), by omega, rfl, hlt, p'⟩, fun x H' y => ?_⟩
    obtain ⟨e, k, hk⟩ := y
    subst e
    unfold rD at hk
    rw [List.getElem?_zipWith] at hk
    cases hr : rs[i]? with
    | none => rw [hr] at hk; cases hk
    | some r =>
      cases hxx : xs[i]? with
      | none => rw [hr, hxx] at hk; cases hk
      | some x' =>
        rw [hr, hxx] at hk
        have ex : x' = x := by injection hk with z; injection z
        subst ex
        obtain ⟨t, r', ex, hr', ht⟩ := q.2.get hxx
        rw [hr] at hr'
        cases hr'
        subst ex
        exact hs i r t σ _ hr ht p
  · have e : i = rs.length := by omega
    subst e
    exact .inl ⟨⟨q.1, by rw [lD]; exact Nat.le_refl _⟩, hd σ H p⟩
end
theorem toT_eqv (r q : R3) : PyData.eqv (toT r) (toT q) = decide (r = q) := by
  obtain ⟨⟨a, b⟩, c⟩ := r
  obtain ⟨⟨a', b'⟩, c'⟩ := q
  have e : PyData.eqv (toT ((a, b), c)) (toT ((a', b'), c')) = (PyData.eqv (.str a) (.str a') && (PyData.eqv (.str b) (.str b') && (PyData.eqv (.int c) (.int c') && true))) := by simp only [toT, PyData.eqv, PyData.eqvAll]
  have e1 : PyData.eqv (.str a) (.str a') = decide (a = a') := PySem.W.Datum.eqv (α := Str) a a'
  have e2 : PyData.eqv (.str b) (.str b') = decide (b = b') := PySem.W.Datum.eqv (α := Str) b b'
  have e3 : PyData.eqv (.int c) (.int c') = decide (c = c') := PySem.W.Datum.eqv (α := Int) c c'
  rw [e, e1, e2, e3, Bool.and_true, Bool.eq_iff_iff]
  simp [Prod.ext_iff, and_assoc]
def leR (rs qs : List R3) : Bool := rs.all fun r => decide (r.2 ≤ cntR qs r.1)
def eqR (rs qs : List R3) : Bool := rs.all fun r => decide (r.1 ∈ keysR qs ∧ r.2 = cntR qs r.1)
theorem hits_lots {K : PySem.W.Frag} {H : Hp} {qs : List R3} {ys : List V} (h2 : TripAt H ys qs) : ∀ {rs : List R3} {xs : List V}, TripAt H xs rs → HitsT K H (rD qs ys) (rD rs xs) (eqR rs qs)
  | [], [], _ => .nil
  | r :: rs, x :: xs, ⟨⟨t, ex, ht⟩, h⟩ => by
    have ih := hits_lots (K := K) h2 h
    have e : rD (r :: rs) (x :: xs) = (kP r.1, x) :: rD rs xs := rfl
    have e' : eqR (r :: rs) qs = (decide (r.1 ∈ keysR qs ∧ r.2 = cntR qs r.1) && eqR rs qs) := rfl
    rw [e, e']
    subst ex
    by_cases m : r.1 ∈ keysR qs
    · obtain ⟨t', v', ht'⟩ := rD_some h2 m
      have q : PyData.eqv (toT r) (toT (r.1, cntR qs r.1)) = decide (r.1 ∈ keysR qs ∧ r.2 = cntR qs r.1) := by
        rw [toT_eqv]
        refine decide_eq_decide.mpr ?_
        rw [Prod.ext_iff]
        exact ⟨fun z => ⟨m, z.2⟩, fun z => ⟨rfl, z.2⟩⟩
      rw [← q]
      refine .hit (d := toT r) (d' := toT (r.1, cntR qs r.1)) v' ?_ ?_ (by simp [toT, PyData.plain, PyData.plainAll]) (by simp [toT, PyData.plain, PyData.plainAll]) (by simp [toT, PyData.depth, PyData.depthAll]) ih
      · exact .tup (SqT.of ht) (.cons (.str _) (.cons (.str _) (.cons (.int _) .nil)))
      · exact .tup (SqT.of ht') (.cons (.str _) (.cons (.str _) (.cons (.int _) .nil)))
    · rw [decide_eq_false (fun z => m z.1), Bool.false_and]
      exact .miss (rD_none m)
  | [], _ :: _, h => h.elim
  | _ :: _, [], h => h.elim
def spLAdd (K : PySem.W.Frag) (C : Addr) : Sp := fun vs H Q _ => ∃ (a b d1 d2 : Addr) (xs ys : List V) (rs qs : List R3), vs = [.ref a, .ref b] ∧ LotAt H C a d1 xs rs ∧ LotAt H C b d2 ys qs ∧ d1 ≠ d2 ∧ rs.length ≤ 250 ∧ qs.length ≤ 250 ∧ (∀ r ∈ rs, 1 ≤ r.2) ∧ (∀ r ∈ qs, 1 ≤ r.2) ∧
  ∀ c d' zs H', Same H H' → H c = none → H d' = none → LotAt H' C c d' zs (mergeR (rs ++ qs)) → Q (.ref c) H'
def spLLe (K : PySem.W.Frag) (C : Addr) : Sp := fun vs H Q _ => ∃ (a b d1 d2 : Addr) (xs ys : List V) (rs qs : List R3), vs = [.ref a, .ref b] ∧ LotAt H C a d1 xs rs ∧ LotAt H C b d2 ys qs ∧ rs.length ≤ 250 ∧ ∀ H', Same H H' → Q (.bl (leR rs qs)) H'
def spLEq (K : PySem.W.Frag) (C : Addr) : Sp := fun vs H Q _ => ∃ (a b d1 : Addr) (xs : List V) (rs : List R3), vs = [.ref a, .ref b] ∧ LotAt H C a d1 xs rs ∧
  ((∃ d2 ys qs, LotAt H C b d2 ys qs ∧ Q (.bl (rs.length == qs.length && eqR rs qs)) H) ∨ ∃ ys, H b = some (.lst ys) ∧ Q (.bl false) H)
section
variable {P : Program} {w : World} {K : PySem.W.Frag} {mg : Str → Option Value} {base : Heap}
theorem scLAdd : FnScope ["self", "other"] ["self", "other"] (defScope sLotAdd) := ⟨rfl, rfl, rfl, by decide +kernel, rfl, by decide +kernel, by decide +kernel⟩
theorem ok_lAdd {f C CB CH : Addr} {fd : FuncData} (F : Fun K "__add__" "Lot.__add__" sLotAdd f fd) (c : LotC P w K mg base C CB CH) (hI : mg "isinstance" = none) : FnOk P w K mg base CX0 6 f fd ["self", "other"] (spLAdd K C) := by
  refine F.ok scLAdd (fun vs H Q E h => ?_) (fun cdv A outer s H vs Q E hr h => ?_)
  · obtain ⟨a, b, d1, d2, xs, ys, rs, qs, rfl, _⟩ := h
    rfl
  · obtain ⟨a, b, d1, d2, xs, ys, rs, qs, rfl, h1, h2, hd, hl, hl2, g1, g2, k⟩ := h
    obtain ⟨fi, fl, fdi, fdl, ci, cl, GI, bI, GL, bL⟩ := c.st
    have sc : StarC K C fi fl := ⟨ci, cl⟩
    obtain ⟨fn, fdn, e, ee, M, GN, bN, _⟩ := c.ini
    have r3 : Room 3 _ := hr.mono (by decide)
    refine ⟨_, pss_cons (ps_if (pt_not (pt_val (pe_callB call_isi (by rfl) hI (by decide +kernel) (pa_cons (pv 1) (pa_cons (pe_glob (v := .ref C) (by rfl) c.g rfl) pa_nil))))) pss_never pss_nil)
        (pss_one (ps_ret (pe_make (E := fun _ _ _ => False) M GN hr (by rfl) c.g bN .nil passF (pa_cons (pe_lock (pe_lock (pe_lst (pa_starV sc GI bI GL bL r3 rfl (pv 0) (pa_starV sc GI bI GL bL r3 rfl (pv 1) pa_nil))))) pa_nil)))), ?_⟩
    refine ⟨_, rfl, _, _, _, _, true, rfl, .own C, h2.ty c, c.kL, true, rfl, no rfl ?_⟩
    obtain ⟨dx, ea⟩ := h1.ins
    obtain ⟨dy, eb⟩ := h2.ins
    have lx := h1.trip.len
    have ly := h2.trip.len
    refine ⟨d1, _, h1.dict, True.intro, fun od => ⟨d2, .dT (rD qs ys), by rw [upd_ne (Ne.symm hd)]; exact h2.dict, True.intro, fun od2 => ?_⟩⟩
    have n1 : a ≠ d1 := ne_of ea h1.dict (fun z => nomatch z)
    have n2 : a ≠ d2 := ne_of ea h2.dict (fun z => nomatch z)
    have n3 : b ≠ d1 := ne_of eb h1.dict (fun z => nomatch z)
    have n4 : b ≠ d2 := ne_of eb h2.dict (fun z => nomatch z)
    have f1 : upd (upd H d1 (.frz od (.dT (rD rs xs)))) d2 (.frz od2 (.dT (rD qs ys))) d1 = some (.frz od (.dT (rD rs xs))) := by rw [upd_ne hd, upd_same]
    have f2 : upd (upd H d1 (.frz od (.dT (rD rs xs)))) d2 (.frz od2 (.dT (rD qs ys))) d2 = some (.frz od2 (.dT (rD qs ys))) := upd_same
    have fa : upd (upd H d1 (.frz od (.dT (rD rs xs)))) d2 (.frz od2 (.dT (rD qs ys))) a = some (.ins C dx [("_rows", .ref d1)]) := by rw [upd_ne n2, upd_ne n1]; exact ea
    have fb : upd (upd H d1 (.frz od (.dT (rD rs xs)))) d2 (.frz od2 (.dT (rD qs ys))) b = some (.ins C dy [("_rows", .ref d2)]) := by rw [upd_ne n4, upd_ne n3]; exact eb
    have hk : ∀ q o, H q = some o → q ≠ d1 → q ≠ d2 → upd (upd H d1 (.frz od (.dT (rD rs xs)))) d2 (.frz od2 (.dT (rD qs ys))) q = some o := fun q o e m1 m2 => by rw [upd_ne m2, upd_ne m1]; exact e
    have big : ∀ n : Nat, n ≤ 500 → n ≤ sizeLine := fun n h => Nat.le_of_lt (small500 (by omega))
    generalize upd (upd H d1 (.frz od (.dT (rD rs xs)))) d2 (.frz od2 (.dT (rD qs ys))) = G at *
    refine ⟨_, rfl, a, dx, _, d1, od, _, rfl, fa, f1, fun n => ⟨a, C, dx, d1, od, _, rfl, fa, c.h, f1, fun vw it hv hit hn => ⟨vw, it, rfl, hn, hv, hit, rfl⟩⟩, fun H2 ha2 hd2 => ⟨a, C, dx, d1, _, rfl, ha2, c.h, .inr ⟨od, hd2⟩, rfl, _, rfl, big _ (by rw [rD_len lx]; omega)⟩, ?_⟩
    refine ⟨_, rfl, b, dy, _, d2, od2, _, rfl, fb, f2, fun n => ⟨b, C, dy, d2, od2, _, rfl, fb, c.h, f2, fun vw it hv hit hn => ⟨vw, it, rfl, hn, hv, hit, rfl⟩⟩, fun H2 ha2 hd2 => ⟨b, C, dy, d2, _, rfl, ha2, c.h, .inr ⟨od2, hd2⟩, rfl, _, rfl, big _ (by rw [rD_len ly]; omega)⟩, ?_⟩
    have e3 : (rD rs xs).map (·.2) ++ ((rD qs ys).map (·.2) ++ []) = xs ++ ys := by rw [rD_vals lx, rD_vals ly, List.append_nil]
    have p3 : TripAt H ((rD rs xs).map (·.2) ++ ((rD qs ys).map (·.2) ++ [])) (rs ++ qs) := by rw [e3]; exact h1.trip.app h2.trip
    have l3 := p3.len
    refine ⟨Nat.le_trans (Nat.le_of_eq l3) (big _ (by rw [List.length_append]; omega)), fun L hL => ?_⟩
    have nL1 : L ≠ d1 := fun z => by rw [z, f1] at hL; cases hL
    have nL2 : L ≠ d2 := fun z => by rw [z, f2] at hL; cases hL
    refine ⟨by rw [upd_ne (Ne.symm nL2)]; exact f2, by rw [upd_ne hd, upd_ne (Ne.symm nL1)]; exact f1, ?_⟩
    have s5 : Same H (upd (upd (upd G L (.lst ((rD rs xs).map (·.2) ++ ((rD qs ys).map (·.2) ++ [])))) d2 (.dT (rD qs ys))) d1 (.dT (rD rs xs))) := fun q o e => by
      by_cases m1 : q = d1
      · rw [m1, upd_same, ← h1.dict, ← m1, e]
      · rw [upd_ne m1]
        by_cases m2 : q = d2
        · rw [m2, upd_same, ← h2.dict, ← m2, e]
        · have g := hk q o e m1 m2
          rw [upd_ne m2, upd_ne (ne_of_none g hL)]
          exact g
    have rows : RowsT K (upd (upd (upd G L (.lst ((rD rs xs).map (·.2) ++ ((rD qs ys).map (·.2) ++ [])))) d2 (.dT (rD qs ys))) d1 (.dT (rD rs xs))) L (rs ++ qs) := ⟨_, p3.same s5, .inl (SqL.of (by rw [upd_ne nL1, upd_ne nL2, upd_same]))⟩
    exact fun x dx nx ndx nex => lot_new c.h rfl rows (by rw [List.length_append]; omega) (fun r hr => (List.mem_append.mp hr).elim (g1 r) (g2 r)) nx ndx nex fun d' zs H2 s6 nd h' => k x d' zs H2 (s5.trans s6) (s5.free nx) (s5.free nd) h'
def nLLe : List Str := ["self", "other", "kind", "standing", "count"]
theorem scLLe : FnScope nLLe ["self", "other"] (defScope sLotLe) := ⟨rfl, rfl, rfl, by decide +kernel, rfl, by decide +kernel, by decide +kernel⟩
theorem ok_lLe {f C CB CH : Addr} {fd : FuncData} (F : Fun K "__le__" "Lot.__le__" sLotLe f fd) (c : LotC P w K mg base C CB CH) (hI : mg "isinstance" = none) (hA : mg "all" = none) : FnOk P w K mg base CX0 3 f fd ["self", "other"] (spLLe K C) := by
  refine F.ok scLLe (fun vs H Q E h => ?_) (fun cdv A outer s H vs Q E hr h => ?_)
  · obtain ⟨a, b, d1, d2, xs, ys, rs, qs, rfl, _⟩ := h
    rfl
  · obtain ⟨a, b, d1, d2, xs, ys, rs, qs, rfl, h1, h2, hl, k⟩ := h
    obtain ⟨fi, fl, fdi, fdl, ci, cl, GI, bI, GL, bL⟩ := c.st
    obtain ⟨fg, fdg, cg, GG, bG⟩ := c.get
    have r1 : Room 1 _ := hr.mono (by decide)
    refine ⟨_, pss_cons (ps_if (pt_not (pt_val (pe_callB call_isi (by rfl) hI (by decide +kernel) (pa_cons (pv 1) (pa_cons (pe_glob (v := .ref C) (by rfl) c.g rfl) pa_nil))))) pss_never pss_nil)
      (pss_one (ps_ret (pe_callB (cr_all rfl) (by rfl) hA (by decide +kernel) (pa_cons (pe_lock (pe_lc (own := [("kind", 2), ("standing", 3), ("count", 4)]) (g := gTup K 3 (gCons (gName 2) (gCons (gName 3) (gCons (gName 4) _)))) (tt := tYes) rfl scLLe.nd (pi_ownV (pv 0) ci.at_ ci.fn GI r1 bI) (blkOk_by (N := nLLe) (sc := defScope sLotLe) (by decide +kernel))
        (fun _ _ _ _ _ => pg_tup (by rfl) (pgs_cons (pg_name (i := 2) scLLe.nd rfl (Or.inl rfl)) (pgs_cons (pg_name (i := 3) scLLe.nd rfl (Or.inl rfl)) (pgs_cons (pg_name (i := 4) scLLe.nd rfl (Or.inl rfl)) pgs_nil)))) (fun _ _ _ _ _ => pts_nil) (fun _ _ _ _ _ => pe_cmpR op_le (pv 4) (pe_subO (E := fun _ _ _ _ => False) (pv 1) (pe_tup (pa_cons (pv 2) (pa_cons (pv 3) pa_nil))) cg GG hr bG (at_all pass0)) (nomark _)))) pa_nil)))), ?_⟩
    refine ⟨_, rfl, _, _, _, _, true, rfl, .own C, h2.ty c, c.kL, true, rfl, no rfl ?_⟩
    obtain ⟨dx, ea⟩ := h1.ins
    have nad : a ≠ d1 := ne_of ea h1.dict (by intro z; cases z)
    have lx := h1.trip.len
    refine ⟨d1, _, h1.dict, True.intro, fun od => ?_⟩
    refine ⟨_, rfl, a, dx, _, rfl, by rw [upd_ne nad]; exact ea, fun m => ⟨a, C, dx, d1, od, _, rfl, by rw [upd_ne nad]; exact ea, c.h, upd_same, fun v it hv hit him => ⟨it, d1, od, _, rfl, him, upd_same, by rw [upd_ne (ne_of_none (same_new hv _ _ upd_same) hit)]; exact same_new hv _ _ upd_same, ?_⟩⟩⟩
    rw [ItX.dropH_upd hit]
    have base : ∀ q o, H q = some o → q ≠ d1 → upd (upd H d1 (.frz od (.dT (rD rs xs)))) v (VwO v d1) q = some o := fun q o e n => same_new hv _ _ (by rw [upd_ne n]; exact e)
    have hdV : upd (upd H d1 (.frz od (.dT (rD rs xs)))) v (VwO v d1) d1 = some (.frz od (.dT (rD rs xs))) := same_new hv _ _ upd_same
    generalize upd (upd H d1 (.frz od (.dT (rD rs xs)))) v (VwO v d1) = HV at base hdV
    clear him hit hv
    intro Dl hDl
    have nDd : d1 ≠ Dl := ne_of_none hdV hDl
    have hD0 : ∀ q o, H q = some o → q ≠ Dl := fun q o e z => by
      by_cases n : q = d1
      · exact nDd (n.symm.trans z)
      · have := base q o e n
        rw [z, hDl] at this
        cases this
    refine lc_rows (fun j H' => (∀ q o, H q = some o → q ≠ d1 → H' q = some o) ∧ H' d1 = some (.frz od (.dT (rD rs xs))) ∧ H' Dl = some (.lst ((rs.take j).map fun r => V.bl (decide (r.2 ≤ cntR qs r.1)))))
      ⟨fun q o e1 e2 => same_new hDl _ _ (base q o e1 e2), by rw [upd_ne nDd]; exact hdV, upd_same⟩ lx (fun j H' _ h => ⟨h.2.1, h1.trip.keep fun t ys e => h.1 _ _ e (ne_of e h1.dict (fun z => nomatch z))⟩) ?_ ?_
    · rintro j r t H' hr' ht ⟨s1, s2, s3⟩
      refine ⟨t, _, rfl, SqT.of ht, rfl, _, _, rfl, _, _, rfl, _, _, rfl, rfl, rfl, ?_⟩
      refine ⟨_, rfl, _, rfl, _, rfl, _, rfl, (by show 2 ≤ sizeLine; decide), fun t2 ht2 => ?_⟩
      have e2 : ∀ q o, H' q = some o → upd H' t2 (.tup [.str r.1.1, .str r.1.2]) q = some o := same_new ht2
      obtain ⟨⟨dy, eb⟩, rd, tr⟩ := h2.rd (H' := upd H' t2 (.tup [.str r.1.1, .str r.1.2])) h1.dict (fun q o e n => e2 _ _ (s1 q o e n)) (e2 _ _ s2)
      refine ⟨b, dy, _, rfl, eb, b, C, dy, d2, t2, qs, ys, r.1, rfl, eb, c.h, rd, tr, upd_same, r.2, cntR qs r.1, rfl, rfl, ?_⟩
      have hj : j < rs.length := (List.getElem?_eq_some_iff.mp hr').1
      refine ⟨_, e2 _ _ s3, small500 (by rw [List.length_map, List.length_take]; omega), fun q o e1 n => ?_, by rw [upd_ne nDd]; exact e2 _ _ s2, ?_⟩
      · rw [upd_ne (hD0 q o e1)]
        exact e2 _ _ (s1 q o e1 n)
      · rw [upd_same, takeR hr', List.map_append]
        rfl
    · rintro H' ⟨s1, s2, s3⟩
      rw [List.take_length] at s3
      refine ⟨s2, Dl, rs.map fun r => decide (r.2 ≤ cntR qs r.1), rfl, SqL.of (by rw [upd_ne nDd.symm, s3, List.map_map]; rfl), ?_⟩
      have e : ((rs.map fun r => decide (r.2 ≤ cntR qs r.1)).all id) = leR rs qs := by rw [List.all_map]; rfl
      rw [e]
      exact k _ (same_unlock h1.dict s1)
theorem scLEq : FnScope ["self", "other"] ["self", "other"] (defScope sLotEq) := ⟨rfl, rfl, rfl, by decide +kernel, rfl, by decide +kernel, by decide +kernel⟩
theorem units70 {n : Nat} {A : Around} (h : Room n A) : A.units + 70 < cLine := by
  have := h.un
  omega
theorem ok_lEq {f C CB CH : Addr} {fd : FuncData} (F : Fun K "__eq__" "Lot.__eq__" sLotEq f fd) (c : LotC P w K mg base C CB CH) (kLst : PySem.W.kitOne K (.type "list") (.ref C) = some false) (hI : mg "isinstance" = none) : FnOk P w K mg base CX0 1 f fd ["self", "other"] (spLEq K C) := by
  refine F.ok scLEq (fun vs H Q E h => ?_) (fun cdv A outer s H vs Q E hr h => ?_)
  · obtain ⟨a, b, d1, xs, rs, rfl, _⟩ := h
    rfl
  · obtain ⟨a, b, d1, xs, rs, rfl, h1, hq⟩ := h
    refine ⟨_, pss_one (ps_ret (pe_and (pe_callB call_isi (by rfl) hI (by decide +kernel) (pa_cons (pv 1) (pa_cons (pe_glob (v := .ref C) (by rfl) c.g rfl) pa_nil)))
      (pe_one (pe_cmpR (op_eqT (units70 hr)) (pe_fld (pv 0) rfl) (pe_fld (pv 1) rfl) (nomark _))))), ?_⟩
    obtain ⟨dx, ea⟩ := h1.ins
    rcases hq with ⟨d2, ys, qs, h2, k⟩ | ⟨ys, hb, k⟩
    · obtain ⟨dy, eb⟩ := h2.ins
      refine ⟨_, rfl, _, _, _, _, true, rfl, .own C, h2.ty c, c.kL, _, rfl, yes rfl ?_⟩
      refine ⟨_, rfl, a, C, dx, _, _, rfl, ea, c.h.cls, c.h.nR, rfl, _, rfl, b, C, dy, _, _, rfl, eb, c.h.cls, c.h.nR, rfl, ?_⟩
      refine ⟨d1, d2, _, _, _, rfl, rfl, .inl h1.dict, .inl h2.dict, fun _ => hits_lots h2.trip h1.trip, ?_⟩
      rw [rD_len h1.trip.len, rD_len h2.trip.len]
      exact k
    · exact ⟨_, rfl, _, _, _, _, false, rfl, .own C, .base (.lst hb), kLst, _, rfl, no rfl k⟩
end
end Yd
namespace Yd
open PySem L2
/-! ### Lot: -, *, reflected * -/
def lackR (rs qs : List R3) : Option Pr := (qs.find? fun q => decide (cntR rs q.1 < q.2)).map (·.1)
def lessR (rs qs : List R3) : List R3 := (rs.map fun r => (r.1, r.2 - cntR qs r.1)).filter fun r => decide (r.2 > 0)
def mulR (rs : List R3) (n : Int) : List R3 := if n > 0 then rs.map fun r => (r.1, r.2 * n) else []
theorem mergeR_id : ∀ {rs : List R3}, (keysR rs).Nodup → mergeR rs = rs := by
  suffices q : ∀ (l acc : List R3), (keysR acc ++ keysR l).Nodup → l.foldl addR acc = acc ++ l from fun {rs} h => q rs [] h
  intro l
  induction l with
  | nil => intro acc _; simp
  | cons s l ih =>
    intro acc h
    rw [List.foldl_cons]
    have hs : s.1 ∉ keysR acc := fun m => by
      rw [List.nodup_append] at h
      exact h.2.2 s.1 m s.1 (by unfold keysR; rw [List.map_cons]; exact List.mem_cons_self ..) rfl
    have e : keysR (acc ++ [s]) = keysR acc ++ [s.1] := by unfold keysR; rw [List.map_append]; rfl
    have e2 : keysR (s :: l) = s.1 :: keysR l := rfl
    rw [addR_out hs, ih _ (by rw [e, List.append_assoc]; rw [e2] at h; exact h), List.append_assoc]
    rfl
theorem lessR_nd {rs qs : List R3} (h : (keysR rs).Nodup) : (keysR (lessR rs qs)).Nodup := by
  have e : keysR (rs.map fun r => (r.1, r.2 - cntR qs r.1)) = keysR rs := by unfold keysR; rw [List.map_map]; rfl
  unfold lessR
  refine List.Nodup.sublist (l₂ := keysR (rs.map fun r => (r.1, r.2 - cntR qs r.1))) ?_ (by rw [e]; exact h)
  unfold keysR
  exact List.Sublist.map _ (List.filter_sublist)
theorem mulR_nd {rs : List R3} {n : Int} (h : (keysR rs).Nodup) : (keysR (mulR rs n)).Nodup := by
  unfold mulR
  split
  · have e : keysR (rs.map fun r => (r.1, r.2 * n)) = keysR rs := by unfold keysR; rw [List.map_map]; rfl
    rw [e]
    exact h
  · exact List.nodup_nil
theorem lessR_good (rs qs : List R3) : ∀ r ∈ lessR rs qs, 1 ≤ r.2 := fun r hr => by
  have h := (List.mem_filter.mp hr).2
  have := of_decide_eq_true h
  omega
theorem mulR_good {rs : List R3} {n : Int} (g : ∀ r ∈ rs, 1 ≤ r.2) : ∀ r ∈ mulR rs n, 1 ≤ r.2 := by
  unfold mulR
  split
  · rename_i hn
    intro r hr
    obtain ⟨q, hq, e⟩ := List.mem_map.mp hr
    rw [← e]
    have h1 := g q hq
    show 1 ≤ q.2 * n
    have : 1 * 1 ≤ q.2 * n := Int.mul_le_mul h1 (by omega) (by omega) (by omega)
    omega
  · exact fun r h => nomatch h
theorem lessR_len (rs qs : List R3) : (lessR rs qs).length ≤ rs.length := by
  unfold lessR
  refine Nat.le_trans (List.length_filter_le ..) ?_
  rw [List.length_map]
  exact Nat.le_refl _
theorem lackR_none {rs qs : List R3} (h : ∀ (j : Nat) (q : R3), j < qs.length → qs[j]? = some q → q.2 ≤ cntR rs q.1) : lackR rs qs = none := by
  unfold lackR
  have e : (qs.find? fun q => decide (cntR rs q.1 < q.2)) = none := by
    rw [List.find?_eq_none]
    intro q hq
    obtain ⟨j, hj⟩ := List.mem_iff_getElem?.mp hq
    have := h j q (List.getElem?_eq_some_iff.mp hj).1 hj
    simp
    omega
  rw [e]
  rfl
theorem lackR_some : ∀ {qs : List R3} {rs : List R3} {i : Nat} {q : R3}, qs[i]? = some q → cntR rs q.1 < q.2 → (∀ (j : Nat) (q' : R3), j < i → qs[j]? = some q' → q'.2 ≤ cntR rs q'.1) → lackR rs qs = some q.1
  | [], _, _, _, h, _, _ => by simp at h
  | q0 :: qs, rs, 0, q, h, lt, _ => by
    cases h
    unfold lackR
    rw [List.find?_cons_of_pos (by simpa using lt)]
    rfl
  | q0 :: qs, rs, i + 1, q, h, lt, n => by
    have n0 := n 0 q0 (by omega) rfl
    have ih := lackR_some (qs := qs) (rs := rs) (i := i) (q := q) (by simpa using h) lt fun j q' hj hq => n (j + 1) q' (by omega) (by simpa using hq)
    unfold lackR at ih ⊢
    rw [List.find?_cons_of_neg (by simp; omega)]
    exact ih
def TxtR (rs : List R3) : Prop := ∀ r ∈ rs, r.1.1.length ≤ 100 ∧ r.1.2.length ≤ 100
def spLSub (K : PySem.W.Frag) (C CL : Addr) : Sp := fun vs H Q E => ∃ (a b d1 d2 : Addr) (xs ys : List V) (rs qs : List R3), vs = [.ref a, .ref b] ∧ LotAt H C a d1 xs rs ∧ LotAt H C b d2 ys qs ∧ rs.length ≤ 250 ∧ qs.length ≤ 250 ∧ TxtR qs ∧
  (lackR rs qs = none → ∀ c d' zs H', Same H H' → H c = none → H d' = none → LotAt H' C c d' zs (lessR rs qs) → Q (.ref c) H') ∧
  (∀ od p, lackR rs qs = some p → Raised CL [.str p.1, .str p.2] fsLacking (upd H d2 (.frz od (.dT (rD qs ys)))) E)
def spLMul (K : PySem.W.Frag) (C CB : Addr) : Sp := fun vs H Q E => ∃ (a d1 : Addr) (n : Int) (xs : List V) (rs : List R3), vs = [.ref a, .int n] ∧ LotAt H C a d1 xs rs ∧ rs.length ≤ 250 ∧ (∀ r ∈ rs, 1 ≤ r.2) ∧ (∀ r ∈ rs, r.2.natAbs < 2 ^ 400) ∧ n.natAbs < 2 ^ 400 ∧
  (0 ≤ n → ∀ c d' zs H', Same H H' → H c = none → H d' = none → LotAt H' C c d' zs (mulR rs n) → Q (.ref c) H') ∧ (n < 0 → Raised CB [.int n] fsBadCount H E)
section
variable {P : Program} {w : World} {K : PySem.W.Frag} {mg : Str → Option Value} {base : Heap}
def nLMul : List Str := ["self", "other", "kind", "standing", "count"]
theorem scLMul : FnScope nLMul ["self", "other"] (defScope sLotMul) := ⟨rfl, rfl, rfl, by decide +kernel, rfl, by decide +kernel, by decide +kernel⟩
theorem ok_lMul {f C CB CH : Addr} {fd : FuncData} (F : Fun K "__mul__" "Lot.__mul__" sLotMul f fd) (c : LotC P w K mg base C CB CH) (O : ErrOk P w K mg base "BadCount" CB 1 okBadCount fsBadCount) (hI : mg "isinstance" = none) (hInt : mg "int" = none) : FnOk P w K mg base (L2.CX P w) 6 f fd ["self", "other"] (spLMul K C CB) := by
  refine F.okX scLMul (fun vs H Q E h => ?_) (fun cdv A outer s H vs Q E hr h => ?_)
  · obtain ⟨a, d1, n, xs, rs, rfl, _⟩ := h
    rfl
  · obtain ⟨a, d1, n, xs, rs, rfl, h1, hl, g, bd, bn, k1, k2⟩ := h
    obtain ⟨fi, fl, fdi, fdl, ci, cl, GI, bI, GL, bL⟩ := c.st
    obtain ⟨fn, fdn, e, ee, M, GN, bN, _⟩ := c.ini
    have r1 : Room 1 _ := hr.mono (by decide)
    have r2 : Room 2 _ := hr.mono (by decide)
    refine ⟨_, pss_cons (ps_if (pt_not (pt_val (pe_callB call_isi (by rfl) hI (by decide +kernel) (pa_cons (pv 1) (pa_cons (pe_bltn (v := .ty "int") (by rfl) hInt (by decide +kernel) rfl) pa_nil))))) pss_never pss_nil)
      (pss_cons (ps_if (pt_cmpR op_lt (pv 1) pe_int (nomark _)) (pss_one (ps_raise rfl (takes_of rfl rfl rfl rfl) (pmk_err O r2 rfl (pa_cons (pv 1) pa_nil)))) pss_nil)
      (pss_one (ps_ret (pe_make (E := fun _ _ _ => False) M GN hr (by rfl) c.g bN .nil passF (pa_cons (pe_lock (pe_lc (own := [("kind", 2), ("standing", 3), ("count", 4)]) (g := gTup K 3 (gCons (gName 2) (gCons (gName 3) (gCons (gName 4) _)))) rfl scLMul.nd (pi_ownV (pv 0) ci.at_ ci.fn GI r1 bI) (blkOk_by (N := nLMul) (sc := defScope sLotMul) (by decide +kernel))
        (fun _ _ _ _ _ => pg_tup (by rfl) (pgs_cons (pg_name (i := 2) scLMul.nd rfl (Or.inl rfl)) (pgs_cons (pg_name (i := 3) scLMul.nd rfl (Or.inl rfl)) (pgs_cons (pg_name (i := 4) scLMul.nd rfl (Or.inl rfl)) pgs_nil)))) (fun _ _ _ _ _ => pts_one (pt_cmpR op_gt (pv 1) pe_int (nomark _))) (fun _ _ _ _ _ => pe_tup (pa_cons (pv 2) (pa_cons (pv 3) (pa_cons (pe_op op_mulW (pv 4) (pv 1)) pa_nil)))))) pa_nil))))), ?_⟩
    refine ⟨_, rfl, _, _, _, _, true, rfl, .ty _, .base (.int n), kit_ty (by decide +kernel), true, rfl, no rfl ?_⟩
    refine ⟨_, rfl, n, 0, rfl, rfl, _, rfl, ite2 (fun lt => ?_) (fun nlt => ?_)⟩
    · exact ⟨_, rfl, err_read rfl (by decide) True.intro (k2 (of_decide_eq_true lt))⟩
    have nlt := of_decide_eq_false (Bool.eq_false_iff.mpr nlt)
    obtain ⟨dx, ea⟩ := h1.ins
    have nad : a ≠ d1 := ne_of ea h1.dict (by intro z; cases z)
    have lx := h1.trip.len
    refine ⟨d1, _, h1.dict, True.intro, fun od => ?_⟩
    refine ⟨_, rfl, a, dx, _, rfl, by rw [upd_ne nad]; exact ea, fun m => ⟨a, C, dx, d1, od, _, rfl, by rw [upd_ne nad]; exact ea, c.h, upd_same, fun v it hv hit him => ⟨it, d1, od, _, rfl, him, upd_same, by rw [upd_ne (ne_of_none (same_new hv _ _ upd_same) hit)]; exact same_new hv _ _ upd_same, ?_⟩⟩⟩
    rw [ItX.dropH_upd hit]
    have base : ∀ q o, H q = some o → q ≠ d1 → upd (upd H d1 (.frz od (.dT (rD rs xs)))) v (VwO v d1) q = some o := fun q o e n => same_new hv _ _ (by rw [upd_ne n]; exact e)
    have hdV : upd (upd H d1 (.frz od (.dT (rD rs xs)))) v (VwO v d1) d1 = some (.frz od (.dT (rD rs xs))) := same_new hv _ _ upd_same
    generalize upd (upd H d1 (.frz od (.dT (rD rs xs)))) v (VwO v d1) = HV at base hdV
    clear him hit hv
    intro Dl hDl
    have nDd : d1 ≠ Dl := ne_of_none hdV hDl
    have hD0 : ∀ q o, H q = some o → q ≠ Dl := fun q o e z => by
      by_cases n : q = d1
      · exact nDd (n.symm.trans z)
      · have := base q o e n
        rw [z, hDl] at this
        cases this
    refine lc_rows (fun j H' => (∀ q o, H q = some o → q ≠ d1 → H' q = some o) ∧ H' d1 = some (.frz od (.dT (rD rs xs))) ∧ ∃ zs, H' Dl = some (.lst zs) ∧ TripAt H' zs (mulR (rs.take j) n))
      ⟨fun q o e1 e2 => same_new hDl _ _ (base q o e1 e2), by rw [upd_ne nDd]; exact hdV, [], upd_same, by unfold mulR; split <;> exact True.intro⟩ lx (fun j H' _ h => ⟨h.2.1, h1.trip.keep fun t ys e => h.1 _ _ e (ne_of e h1.dict (fun z => nomatch z))⟩) ?_ ?_
    · rintro j r t H' hr' ht ⟨s1, s2, zs, s3, s4⟩
      have hj : j < rs.length := (List.getElem?_eq_some_iff.mp hr').1
      have hmem := List.mem_of_getElem? hr'
      have l4 := s4.len
      have l5 : (mulR (rs.take j) n).length ≤ 250 := by
        unfold mulR
        split
        · rw [List.length_map, List.length_take]; omega
        · exact Nat.zero_le _
      refine ⟨t, _, rfl, SqT.of ht, rfl, _, _, rfl, _, _, rfl, _, _, rfl, rfl, rfl, ?_⟩
      refine ⟨_, rfl, n, 0, rfl, rfl, _, rfl, ?_⟩
      by_cases hn : n > 0
      · refine yes (decide_eq_true hn) ⟨_, rfl, _, rfl, _, rfl, _, rfl, r.2, n, rfl, rfl, ⟨bd r hmem, bn⟩, (by show 3 ≤ sizeLine; decide), fun t2 ht2 => ?_⟩
        have e2 : ∀ q o, H' q = some o → upd H' t2 (.tup [.str r.1.1, .str r.1.2, .int (r.2 * n)]) q = some o := same_new ht2
        refine ⟨zs, e2 _ _ s3, small500 (by omega), fun q o e1 m => ?_, by rw [upd_ne nDd]; exact e2 _ _ s2, zs ++ [.ref t2], upd_same, ?_⟩
        · rw [upd_ne (hD0 q o e1)]
          exact e2 _ _ (s1 q o e1 m)
        · have em : mulR (rs.take (j + 1)) n = mulR (rs.take j) n ++ [(r.1, r.2 * n)] := by unfold mulR; rw [if_pos hn, if_pos hn, takeR hr', List.map_append]; rfl
          rw [em]
          have nDt : Dl ≠ t2 := ne_of_none s3 ht2
          have nq : ∀ t' ws, upd H' t2 (.tup [.str r.1.1, .str r.1.2, .int (r.2 * n)]) t' = some (.tup ws) → upd (upd H' t2 (.tup [.str r.1.1, .str r.1.2, .int (r.2 * n)])) Dl (.lst (zs ++ [V.ref t2])) t' = some (.tup ws) := fun t' ws et => by
            rw [upd_ne (fun z => by rw [z, upd_ne nDt, s3] at et; cases et)]
            exact et
          exact TripAt.snoc (r := (r.1, r.2 * n)) (nq _ _ upd_same) ((s4.same (same_new ht2)).keep nq)
      · have em : mulR (rs.take (j + 1)) n = mulR (rs.take j) n := by unfold mulR; rw [if_neg hn, if_neg hn]
        exact no (decide_eq_false hn) ⟨s1, s2, zs, s3, by rw [em]; exact s4⟩
    · rintro H' ⟨s1, s2, zs, s3, s4⟩
      rw [List.take_length] at s4
      have s5 := same_unlock h1.dict s1
      have rows : RowsT K (upd H' d1 (.dT (rD rs xs))) Dl (mulR rs n) := ⟨zs, s4.keep fun t ws et => by rw [upd_ne (ne_of et s2 (fun z => nomatch z))]; exact et, .inl (SqL.of (by rw [upd_ne nDd.symm]; exact s3))⟩
      refine ⟨s2, fun x dx nx ndx nex => lot_new c.h rfl rows ?_ (mulR_good g) nx ndx nex fun d' zs' H2 s6 nd h' => ?_⟩
      · unfold mulR
        split
        · rw [List.length_map]; omega
        · exact Nat.zero_le _
      · rw [mergeR_id (mulR_nd h1.nd)] at h'
        exact k1 (by omega) x d' zs' H2 (s5.trans s6) (s5.free nx) (s5.free nd) h'
end
end Yd
namespace Yd
open PySem L2
section
variable {P : Program} {w : World} {K : PySem.W.Frag} {mg : Str → Option Value} {base : Heap}
theorem scLRmul : FnScope ["self", "other"] ["self", "other"] (defScope sLotRmul) := ⟨rfl, rfl, rfl, by decide +kernel, rfl, by decide +kernel, by decide +kernel⟩
theorem ok_lRmul {f fM C CB : Addr} {fd fdM : FuncData} {g : Addr} (F : Fun K "__rmul__" "Lot.__rmul__" sLotRmul f fd) (m : MulC K C fM g) (GM : FnOk P w K mg base (L2.CX P w) 6 fM fdM ["self", "other"] (spLMul K C CB)) (bM : Binds K fdM ["self", "other"] []) : FnOk P w K mg base (L2.CX P w) 7 f fd ["self", "other"] (spLMul K C CB) := by
  refine F.okX scLRmul (fun vs H Q E h => ?_) (fun cdv A outer s H vs Q E hr h => ?_)
  · obtain ⟨a, d1, n, xs, rs, rfl, _⟩ := h
    rfl
  · obtain ⟨a, d1, n, xs, rs, rfl, h1, hl, g, bd, bn, k1, k2⟩ := h
    refine ⟨_, pss_one (ps_ret (pe_opS (op_mulS (E := fun _ => E) m GM hr bM (at_all (passes_call (takes_of rfl rfl rfl rfl) fun _ _ _ _ h => h))) (pv 0) (pv 1))), ?_⟩
    obtain ⟨dx, ea⟩ := h1.ins
    exact ⟨_, rfl, _, rfl, a, n, dx, _, rfl, rfl, ea, a, d1, n, xs, rs, rfl, h1, hl, g, bd, bn, fun hn c d' zs H' s nc nd h => ⟨c, rfl, k1 hn c d' zs H' s nc nd h⟩, k2⟩
def nLSub : List Str := ["self", "other", "kind", "standing", "count", "less", "row"]
theorem scLSub : FnScope nLSub ["self", "other"] (defScope sLotSub) := ⟨rfl, rfl, rfl, by decide +kernel, rfl, by decide +kernel, by decide +kernel⟩
theorem ok_lSub {f C CB CH CL : Addr} {fd : FuncData} (F : Fun K "__sub__" "Lot.__sub__" sLotSub f fd) (c : LotC P w K mg base C CB CH) (O : ErrOk P w K mg base "Lacking" CL 2 okLacking fsLacking) (hI : mg "isinstance" = none) : FnOk P w K mg base (L2.CX P w) 6 f fd ["self", "other"] (spLSub K C CL) := by
  refine F.okX scLSub (fun vs H Q E h => ?_) (fun cdv A outer s H vs Q E hr h => ?_)
  · obtain ⟨a, b, d1, d2, xs, ys, rs, qs, rfl, _⟩ := h
    rfl
  · obtain ⟨a, b, d1, d2, xs, ys, rs, qs, rfl, h1, h2, hl, hl2, tx, k1, k2⟩ := h
    obtain ⟨fi, fl, fdi, fdl, ci, cl, GI, bI, GL, bL⟩ := c.st
    obtain ⟨fg, fdg, cg, GG, bG⟩ := c.get
    obtain ⟨fn, fdn, e, ee, M, GN, bN, _⟩ := c.ini
    have r1 : Room 1 _ := hr.mono (by decide)
    have r2 : Room 2 _ := hr.mono (by decide)
    refine ⟨_, pss_cons (ps_if (pt_not (pt_val (pe_callB call_isi (by rfl) hI (by decide +kernel) (pa_cons (pv 1) (pa_cons (pe_glob (v := .ref C) (by rfl) c.g rfl) pa_nil))))) pss_never pss_nil)
      (pss_cons (ps_lock (ps_for (passes_of rfl) rfl (pi_ownV (pv 1) ci.at_ ci.fn GI r1 bI) (pg_tup (by rfl) (pgs_cons (pg_name (i := 2) scLSub.nd rfl (Or.inl rfl)) (pgs_cons (pg_name (i := 3) scLSub.nd rfl (Or.inl rfl)) (pgs_cons (pg_name (i := 4) scLSub.nd rfl (Or.inl rfl)) pgs_nil))))
        (pss_one (ps_if (pt_cmpR op_gt (pv 4) (pe_subO (E := fun _ _ _ _ => False) (pv 0) (pe_tup (pa_cons (pv 2) (pa_cons (pv 3) pa_nil))) cg GG r2 bG (at_all pass0)) (nomark _)) (pss_one (ps_raise rfl (takes_of rfl rfl rfl rfl) (pmk_err O r2 rfl (pa_cons (pv 2) (pa_cons (pv 3) pa_nil))))) pss_nil))))
      (pss_cons (ps_lock (ps_setLc (i := 5) (own := [("kind", 2), ("standing", 3), ("count", 4)]) (g := gTup K 3 (gCons (gName 2) (gCons (gName 3) (gCons (gName 4) _)))) (tt := tYes) rfl scLSub.nd rfl rfl (sw_true rfl rfl rfl (by decide +kernel)) (pi_ownV (pv 0) ci.at_ ci.fn GI r1 bI) (blkOk_by (N := nLSub) (sc := defScope sLotSub) (by decide +kernel))
        (fun _ _ _ _ _ => pg_tup (by rfl) (pgs_cons (pg_name (i := 2) scLSub.nd rfl (Or.inl rfl)) (pgs_cons (pg_name (i := 3) scLSub.nd rfl (Or.inl rfl)) (pgs_cons (pg_name (i := 4) scLSub.nd rfl (Or.inl rfl)) pgs_nil)))) (fun _ _ _ _ _ => pts_nil) (fun _ _ _ _ _ => pe_tup (pa_cons (pv 2) (pa_cons (pv 3) (pa_cons (pe_op op_sub (pv 4) (pe_subO (E := fun _ _ _ _ => False) (pv 1) (pe_tup (pa_cons (pv 2) (pa_cons (pv 3) pa_nil))) cg GG r2 bG (at_all pass0))) pa_nil))))))
      (pss_one (ps_ret (pe_make (E := fun _ _ _ => False) M GN hr (by rfl) c.g bN .nil passF (pa_cons (pe_lc (own := [("row", 6)]) (g := gName 6) (tt := tTest (tOp (rI0 fun i j => .bl (decide (j < i))) (tOp (rIxT K) (tVar 6) (tC (.int 2))) (tC (.int 0)))) (te := tVar 6) rfl scLSub.nd (pi_list (pv 5)) (blkOk_by (N := nLSub) (sc := defScope sLotSub) (by decide +kernel))
        (fun _ _ _ _ _ => pg_name (i := 6) scLSub.nd rfl (Or.inl rfl)) (fun _ _ _ _ _ => pts_one (pt_cmpR op_gt (pe_ix ix_tup (pv 6) pe_int (fun _ _ => rfl)) pe_int (nomark _))) (fun _ _ _ _ _ => pv 6)) pa_nil)))))), ?_⟩
    refine ⟨_, rfl, _, _, _, _, true, rfl, .own C, h2.ty c, c.kL, true, rfl, no rfl ?_⟩
    obtain ⟨dx, ea⟩ := h1.ins
    obtain ⟨dy, eb⟩ := h2.ins
    have nad : a ≠ d1 := ne_of ea h1.dict (by intro z; cases z)
    have nbd : b ≠ d2 := ne_of eb h2.dict (by intro z; cases z)
    have lx := h1.trip.len
    have ly := h2.trip.len
    -- is there enough
    refine ⟨d2, _, h2.dict, True.intro, fun od => ?_⟩
    refine ⟨_, rfl, b, dy, _, rfl, by rw [upd_ne nbd]; exact eb, fun m => ⟨b, C, dy, d2, od, _, rfl, by rw [upd_ne nbd]; exact eb, c.h, upd_same, fun v it hv hit him => ⟨it, d2, od, _, rfl, him, upd_same, by rw [upd_ne (ne_of_none (same_new hv _ _ upd_same) hit)]; exact same_new hv _ _ upd_same, ?_⟩⟩⟩
    rw [ItX.dropH_upd hit]
    have base : ∀ q o, H q = some o → q ≠ d2 → upd (upd H d2 (.frz od (.dT (rD qs ys)))) v (VwO v d2) q = some o := fun q o e n => same_new hv _ _ (by rw [upd_ne n]; exact e)
    have hdV : upd (upd H d2 (.frz od (.dT (rD qs ys)))) v (VwO v d2) d2 = some (.frz od (.dT (rD qs ys))) := same_new hv _ _ upd_same
    have sL : Same (upd H d2 (.frz od (.dT (rD qs ys)))) (upd (upd H d2 (.frz od (.dT (rD qs ys)))) v (VwO v d2)) := same_new hv
    generalize upd (upd H d2 (.frz od (.dT (rD qs ys)))) v (VwO v d2) = HV at base hdV sL
    clear him hit hv
    refine for_rows (fun j σ H' => (∀ q o, H q = some o → q ≠ d2 → H' q = some o) ∧ H' d2 = some (.frz od (.dT (rD qs ys))) ∧ Same HV H' ∧ (∀ (i : Nat) (q : R3), i < j → qs[i]? = some q → q.2 ≤ cntR rs q.1) ∧ ∃ v2 v3 v4 : Option V, σ = [some (.ref a), some (.ref b), v2, v3, v4, none, none])
      ⟨base, hdV, Same.refl _, fun i q h => absurd h (Nat.not_lt_zero _), _, _, _, rfl⟩ ly (fun j σ H' _ h => ⟨h.2.1, h2.trip.keep fun t ys e => h.1 _ _ e (ne_of e h2.dict (fun z => nomatch z))⟩) ?_ ?_
    · rintro j q t σ H' hq ht ⟨s1, s2, s3, en, v2, v3, v4, rfl⟩
      refine ⟨t, _, rfl, SqT.of ht, rfl, _, _, rfl, _, _, rfl, _, _, rfl, rfl, ?_⟩
      refine ⟨_, rfl, _, rfl, _, rfl, _, rfl, (by show 2 ≤ sizeLine; decide), fun t2 ht2 => ?_⟩
      have e2 := same_new (o := .tup [.str q.1.1, .str q.1.2]) ht2
      obtain ⟨⟨dx', ea'⟩, rd, tr⟩ := h1.rd (H' := upd H' t2 (.tup [.str q.1.1, .str q.1.2])) h2.dict (fun q o e n => e2 _ _ (s1 q o e n)) (e2 _ _ s2)
      refine ⟨a, dx', _, rfl, ea', a, C, dx', d1, t2, rs, xs, q.1, rfl, ea', c.h, rd, tr, upd_same, q.2, cntR rs q.1, rfl, rfl, _, rfl, ite2 (fun lt => ?_) (fun nlt => ?_)⟩
      · have lt := of_decide_eq_true lt
        have tq := tx q (List.mem_of_getElem? hq)
        refine ⟨_, rfl, _, rfl, err_read rfl (by decide) ⟨⟨_, rfl, ?_⟩, ⟨_, rfl, ?_⟩⟩ ((k2 od q.1 (lackR_some hq (by omega) en)).from ((sL.trans s3).trans e2))⟩
        · exact tq.1
        · exact tq.2
      · have nlt := of_decide_eq_false (Bool.eq_false_iff.mpr nlt)
        refine ⟨fun x o e n => e2 _ _ (s1 x o e n), e2 _ _ s2, s3.trans e2, fun i q' hi hq' => ?_, _, _, _, rfl⟩
        rcases Nat.lt_or_ge i j with z | z
        · exact en i q' z hq'
        · have : i = j := by omega
          rw [this, hq] at hq'
          cases hq'
          omega
    rintro σ H1 ⟨s1, s2, s3, en, v2, v3, v4, rfl⟩
    have s5 := same_unlock h2.dict s1
    refine ⟨s2, ?_⟩
    clear s1 s2 s3 base hdV sL
    have nolack := lackR_none en
    clear en
    generalize upd H1 d2 (.dT (rD qs ys)) = H2 at s5
    have h1 := h1.keep s5
    have h2 := h2.keep s5
    obtain ⟨dx, ea⟩ := h1.ins
    -- what is left
    refine ⟨d1, _, h1.dict, True.intro, fun od => ?_⟩
    refine ⟨_, rfl, a, dx, _, rfl, by rw [upd_ne nad]; exact ea, fun m => ⟨a, C, dx, d1, od, _, rfl, by rw [upd_ne nad]; exact ea, c.h, upd_same, fun v it hv hit him => ⟨it, d1, od, _, rfl, him, upd_same, by rw [upd_ne (ne_of_none (same_new hv _ _ upd_same) hit)]; exact same_new hv _ _ upd_same, ?_⟩⟩⟩
    rw [ItX.dropH_upd hit]
    have base : ∀ q o, H2 q = some o → q ≠ d1 → upd (upd H2 d1 (.frz od (.dT (rD rs xs)))) v (VwO v d1) q = some o := fun q o e n => same_new hv _ _ (by rw [upd_ne n]; exact e)
    have hdV : upd (upd H2 d1 (.frz od (.dT (rD rs xs)))) v (VwO v d1) d1 = some (.frz od (.dT (rD rs xs))) := same_new hv _ _ upd_same
    generalize upd (upd H2 d1 (.frz od (.dT (rD rs xs)))) v (VwO v d1) = HV at base hdV
    clear him hit hv
    intro Dl hDl
    have nDd : d1 ≠ Dl := ne_of_none hdV hDl
    have hD0 : ∀ q o, H2 q = some o → q ≠ Dl := fun q o e z => by
      by_cases n : q = d1
      · exact nDd (n.symm.trans z)
      · have := base q o e n
        rw [z, hDl] at this
        cases this
    refine lc_rows (fun j H' => (∀ q o, H2 q = some o → q ≠ d1 → H' q = some o) ∧ H' d1 = some (.frz od (.dT (rD rs xs))) ∧ ∃ zs, H' Dl = some (.lst zs) ∧ TripAt H' zs ((rs.take j).map fun r => (r.1, r.2 - cntR qs r.1)))
      ⟨fun q o e1 e2 => same_new hDl _ _ (base q o e1 e2), by rw [upd_ne nDd]; exact hdV, [], upd_same, True.intro⟩ lx (fun j H' _ h => ⟨h.2.1, h1.trip.keep fun t ys e => h.1 _ _ e (ne_of e h1.dict (fun z => nomatch z))⟩) ?_ ?_
    · rintro j r t H' hr' ht ⟨s1, s2, zs, s3, s4⟩
      have l4 := s4.len
      rw [List.length_map, List.length_take] at l4
      refine ⟨t, _, rfl, SqT.of ht, rfl, _, _, rfl, _, _, rfl, _, _, rfl, rfl, rfl, ?_⟩
      refine ⟨_, rfl, _, rfl, _, rfl, _, rfl, _, rfl, _, rfl, (by show 2 ≤ sizeLine; decide), fun t2 ht2 => ?_⟩
      have e2 := same_new (o := .tup [.str r.1.1, .str r.1.2]) ht2
      obtain ⟨⟨dy', eb'⟩, rd, tr⟩ := h2.rd (H' := upd H' t2 (.tup [.str r.1.1, .str r.1.2])) h1.dict (fun q o e n => e2 _ _ (s1 q o e n)) (e2 _ _ s2)
      refine ⟨b, dy', _, rfl, eb', b, C, dy', d2, t2, qs, ys, r.1, rfl, eb', c.h, rd, tr, upd_same, r.2, cntR qs r.1, rfl, rfl, (by show 3 ≤ sizeLine; decide), fun t3 ht3 => ?_⟩
      have e3 := e2.trans (same_new (o := .tup [.str r.1.1, .str r.1.2, .int (r.2 - cntR qs r.1)]) ht3)
      have et3 : upd (upd H' t2 (.tup [.str r.1.1, .str r.1.2])) t3 (.tup [.str r.1.1, .str r.1.2, .int (r.2 - cntR qs r.1)]) t3 = some (.tup (tV (r.1, r.2 - cntR qs r.1))) := upd_same
      generalize upd (upd H' t2 (.tup [.str r.1.1, .str r.1.2])) t3 (.tup [.str r.1.1, .str r.1.2, .int (r.2 - cntR qs r.1)]) = H3 at e3 et3
      have z3 := e3 _ _ s3
      refine ⟨zs, z3, small500 (by omega), fun q o e1 m => ?_, by rw [upd_ne nDd]; exact e3 _ _ s2, zs ++ [.ref t3], upd_same, ?_⟩
      · rw [upd_ne (hD0 q o e1)]
        exact e3 _ _ (s1 q o e1 m)
      · rw [takeR hr', List.map_append]
        have nq : ∀ t' ws, H3 t' = some (.tup ws) → upd H3 Dl (.lst (zs ++ [V.ref t3])) t' = some (.tup ws) := fun t' ws et => by rw [upd_ne (ne_of et z3 (fun z => nomatch z))]; exact et
        exact TripAt.snoc (r := (r.1, r.2 - cntR qs r.1)) (nq _ _ et3) ((s4.same e3).keep nq)
    rintro H3 ⟨s1, s2, zs, s3, s4⟩
    rw [List.take_length] at s4
    have s6 := s5.trans (same_unlock h1.dict s1)
    have eZ : upd H3 d1 (.dT (rD rs xs)) Dl = some (.lst zs) := by rw [upd_ne nDd.symm]; exact s3
    have tZ : TripAt (upd H3 d1 (.dT (rD rs xs))) zs (rs.map fun r => (r.1, r.2 - cntR qs r.1)) := s4.keep fun t ws et => by rw [upd_ne (ne_of et s2 (fun z => nomatch z))]; exact et
    refine ⟨s2, ?_⟩
    clear s1 s2 s3 s4 hDl nDd hD0 base hdV
    generalize upd H3 d1 (.dT (rD rs xs)) = H4 at s6 eZ tZ
    have lz := tZ.len
    rw [List.length_map] at lz
    refine ⟨_, rfl, Dl, rfl, ⟨_, SqL.of eZ⟩, fun D hD => ?_⟩
    refine lc_list (K := K) (a := Dl) (xs := zs) (fun j H' => Same H4 H' ∧ ∃ ws, H' D = some (.lst ws) ∧ TripAt H' ws (((rs.map fun r => (r.1, r.2 - cntR qs r.1)).take j).filter fun r => decide (r.2 > 0)))
      ⟨same_new hD, [], upd_same, True.intro⟩ (fun j H' _ h => SqL.of (h.1 _ _ eZ)) ?_ ?_
    · rintro j x H' hj ⟨t1, ws, e1, w1⟩
      obtain ⟨t, r, rfl, hr', ht⟩ := TripAt.get (tZ.same t1) hj
      have lw := w1.len
      have lf : ((((rs.map fun r => (r.1, r.2 - cntR qs r.1)).take j).filter fun r => decide (r.2 > 0))).length ≤ 250 := Nat.le_trans (List.length_filter_le ..) (by rw [List.length_take, List.length_map]; omega)
      refine ⟨rfl, _, rfl, t, _, 2, _, rfl, rfl, SqT.of ht, at_c (j := 2) rfl rfl, r.2, 0, rfl, rfl, _, rfl, ?_⟩
      rw [takeR hr', List.filter_append]
      by_cases hp : r.2 > 0
      · have e5 : ([r].filter fun r => decide (r.2 > 0)) = [r] := by simp [hp]
        rw [e5]
        refine yes (decide_eq_true hp) ⟨_, rfl, ws, e1, small500 (by rw [lw]; exact Nat.le_trans lf (by decide)), fun q o e => ?_, ws ++ [.ref t], upd_same, ?_⟩
        · rw [upd_ne (ne_of_none e hD)]
          exact t1 _ _ e
        · have nq : ∀ t' us, H' t' = some (.tup us) → upd H' D (.lst (ws ++ [V.ref t])) t' = some (.tup us) := fun t' us et => by rw [upd_ne (ne_of et e1 (fun z => nomatch z))]; exact et
          exact TripAt.snoc (nq _ _ ht) (w1.keep nq)
      · have e5 : ([r].filter fun r => decide (r.2 > 0)) = [] := by simp [hp]
        rw [e5, List.append_nil]
        exact no (decide_eq_false hp) ⟨t1, ws, e1, w1⟩
    · rintro H' ⟨t1, ws, e1, w1⟩
      rw [lz, ← List.length_map (fun r : R3 => (r.1, r.2 - cntR qs r.1)), List.take_length] at w1
      have s7 := s6.trans t1
      refine fun x dx nx ndx nex => lot_new c.h (rows := lessR rs qs) rfl ⟨ws, w1, .inl (SqL.of e1)⟩ (Nat.le_trans (lessR_len rs qs) (by omega)) (lessR_good rs qs) nx ndx nex fun d' zs' H5 s8 nd h' => ?_
      rw [mergeR_id (lessR_nd h1.nd)] at h'
      exact k1 nolack x d' zs' H5 (s7.trans s8) (s7.free nx) (s7.free nd) h'
end
end Yd
namespace Yd
open PySem L2
/-! ### += and -= of an own class -/
section
open PySem.W
variable {X : Cx} {CX : CXT} {k : Nat} {f C : Addr} {fd : FuncData} {ps : List Str} {sp : Sp} {E : L2.St → XK}
def rOwnIp (C : Addr) (sp : Sp) (E : XK) : R2 := fun x y H Q => ∃ a b dx dy fs gs, x = .ref a ∧ y = .ref b ∧ H a = some (.ins C dx fs) ∧ H b = some (.ins C dy gs) ∧ sp [x, y] H (fun v H' => ∃ q, v = .ref q ∧ Q (.ref q) H') E
theorem op_iownS {op : Operator} (hc : selfFirst X.K C = true) (c : OpC X.K C (dunderI op.info.2) f) (F : FnOk X.prog X.w X.K X.mg X.base CX k f fd ps sp) (hr : Room k X.A) (hb : Binds X.K fd ps []) (hx : ∀ σ, PassesAt CX X σ (E σ)) : OpRS X (inplaceOp op) (fun σ => rOwnIp C sp (E σ)) := by
  intro pins s σ H x y v u Q I rx ry h
  obtain ⟨a, b, dx, dy, fs, gs, rfl, rfl, ha, hb', q⟩ := h
  obtain rfl : v = Value.ref a := rx
  obtain rfl : u = Value.ref b := ry
  obtain ⟨m, hF⟩ := I.fr
  obtain ⟨mA, O, _⟩ := ins_get I.hok ha
  obtain ⟨oa, J, _⟩ := O.look
  refine ksp_inplace hF I.ok.mod.kin J hc c.at_ c.fn (thn (run_fnS (us := [.ref a, .ref b]) (vs := [.ref a, .ref b]) F hr hb (hx σ) I (.cons rfl (.cons rfl .nil)) q) fun r s1 ⟨z, H1, I1, rz, d, ez, q1⟩ => ?_)
  subst ez
  obtain rfl : r = Value.ref d := rz
  exact ⟨.ref d, H1, I1, rfl, q1⟩
/-- name op= e, the promise may speak of the names -/
def tAugO (i : Nat) (te : TE) (r : L2.St → R2) : TS := fun D σ H => ∃ x, σ[i]? = some (some x) ∧ te σ H fun y H1 => r σ x y H1 fun z H2 => D.nx (σ.set i (some z)) H2
theorem ps_augO {i : Nat} {x : Str} {e : Expr} {te : TE} {op : Operator} {r : L2.St → R2} {pos pos' : Pos} (hN : X.N.Nodup) (hi : X.N[i]? = some x) (hx : Loc X.env.scope x) (he : PE X e te) (ho : OpRS X (inplaceOp op) r) (hf : X.fn x = true ∨ X.env.scope.names.lookup x = some .local := by first | exact .inl rfl | exact .inr rfl | assumption) :
    PS X (.AugAssign (.Name x pos') op e pos) (tAugO i te r) := by
  refine ⟨fun pins s σ H D I h => ?_⟩
  obtain ⟨v, e1, h⟩ := h
  obtain ⟨m, hn, hl⟩ := I.loc
  have vis : Vis X.env.scope x := by rcases hx with k | k; exact .inl k; exact .inr (.inl k)
  obtain ⟨u, r', l⟩ := hl i x v hi e1 vis
  refine wpAny_AugAssign_Name ?_
  have go : wpAny (model X.prog X.w) X.A (eval e X.env) (fun w s₂ => wpAny (model X.prog X.w) X.A (inplaceOp op u w) (fun r s₃ => wpAny (model X.prog X.w) X.A (storeName X.env x r) (fun _ => SP X pins D .next) X.xe s₃) X.xe s₂) X.xe s := by
    refine thn (he.run pins s σ H _ I h) fun w s1 ⟨y, H1, I1, r1, q1⟩ => ?_
    refine thn (ho pins s1 σ H1 v y u w _ I1 r' r1 q1) fun z s2 ⟨zv, H2, I2, r2, q2⟩ => ?_
    exact store_ok I2 hN hi hx r2 (fun s3 I3 => ⟨_, H2, I3, q2⟩) hf
  rcases l with ⟨hk, hm⟩ | ⟨hk, c, hc, hcell⟩
  · exact wpAny_loadName_local I.ok.kind hk hn hm go
  · rcases hk with hk | hk
    · exact wpAny_loadName_cell I.ok.kind hk hc hcell go
    · rcases hx with k | k
      · have : X.env.scope.names.lookup x = some .free := hk
        rw [k] at this; cases this
      · have : X.env.scope.names.lookup x = some .free := hk
        rw [k] at this; cases this
end
def spLIadd (K : PySem.W.Frag) (C : Addr) : Sp := fun vs H Q _ => ∃ (a b d1 d2 : Addr) (xs ys : List V) (rs qs : List R3), vs = [.ref a, .ref b] ∧ LotAt H C a d1 xs rs ∧ LotAt H C b d2 ys qs ∧ d1 ≠ d2 ∧ rs.length ≤ 250 ∧ qs.length ≤ 250 ∧ (∀ r ∈ rs, 1 ≤ r.2) ∧ (∀ r ∈ qs, 1 ≤ r.2) ∧
  ∀ d' zs H', Gro a H H' → H d' = none → LotAt H' C a d' zs (mergeR (rs ++ qs)) → Q (.ref a) H'
def spLIsub (K : PySem.W.Frag) (C CL : Addr) : Sp := fun vs H Q E => ∃ (a b d1 d2 : Addr) (xs ys : List V) (rs qs : List R3), vs = [.ref a, .ref b] ∧ LotAt H C a d1 xs rs ∧ LotAt H C b d2 ys qs ∧ rs.length ≤ 250 ∧ qs.length ≤ 250 ∧ TxtR qs ∧
  (lackR rs qs = none → ∀ d' zs H', Gro a H H' → H d' = none → LotAt H' C a d' zs (lessR rs qs) → Q (.ref a) H') ∧
  (∀ od p, lackR rs qs = some p → Raised CL [.str p.1, .str p.2] fsLacking (upd H d2 (.frz od (.dT (rD qs ys)))) E)
theorem lot_moved {H H1 : Hp} {C a c d1 d' dx : Addr} {xs zs : List V} {rs ts : List R3} (h1 : LotAt H C a d1 xs rs) (s : Same H H1) (hx : H a = some (.ins C dx [("_rows", .ref d1)])) (hc : LotAt H1 C c d' zs ts) : Gro a H (upd H1 a (.ins C dx [("_rows", .ref d')])) ∧ LotAt (upd H1 a (.ins C dx [("_rows", .ref d')])) C a d' zs ts := by
  have ea := s _ _ hx
  refine ⟨fun b o e n => by rw [upd_ne n]; exact s _ _ e, ⟨dx, upd_same⟩, ?_, hc.trip.keep fun t ws e => ?_, hc.nd⟩
  · rw [upd_ne (ne_of hc.dict ea (fun z => nomatch z))]
    exact hc.dict
  · rw [upd_ne (ne_of e ea (fun z => nomatch z))]
    exact e
section
variable {P : Program} {w : World} {K : PySem.W.Frag} {mg : Str → Option Value} {base : Heap}
theorem scLIadd : FnScope ["self", "other", "changed"] ["self", "other"] (defScope sLotIadd) := ⟨rfl, rfl, rfl, by decide +kernel, rfl, by decide +kernel, by decide +kernel⟩
theorem scLIsub : FnScope ["self", "other", "changed"] ["self", "other"] (defScope sLotIsub) := ⟨rfl, rfl, rfl, by decide +kernel, rfl, by decide +kernel, by decide +kernel⟩
theorem ok_lIadd {f fA C : Addr} {fd fdA : FuncData} (F : Fun K "__iadd__" "Lot.__iadd__" sLotIadd f fd) (lc : LCls K C) (sf : PySem.W.selfFirst K C = true) (cA : OpC K C (PySem.dunder (Operator.Add).info.2) fA) (GA : FnOk P w K mg base CX0 6 fA fdA ["self", "other"] (spLAdd K C)) (bA : Binds K fdA ["self", "other"] []) :
    FnOk P w K mg base CX0 7 f fd ["self", "other"] (spLIadd K C) := by
  refine F.ok scLIadd (fun vs H Q E h => ?_) (fun cdv A outer s H vs Q E hr h => ?_)
  · obtain ⟨a, b, d1, d2, xs, ys, rs, qs, rfl, _⟩ := h
    rfl
  · obtain ⟨a, b, d1, d2, xs, ys, rs, qs, rfl, h1, h2, hd, l1, l2, g1, g2, k⟩ := h
    refine ⟨_, pss_cons (ps_set (i := 2) scLIadd.nd rfl (Or.inl rfl) (pe_op (op_ownO (op := .Add) (E := fun _ _ _ => False) sf cA GA hr bA pass0) (pv 0) (pv 1)))
      (pss_cons (ps_fld (pv 0) (pe_fld (pv 2) rfl) rfl) (pss_one (ps_ret (pv 0)))), ?_⟩
    obtain ⟨dx, ea⟩ := h1.ins
    obtain ⟨dy, eb⟩ := h2.ins
    refine ⟨_, rfl, _, rfl, a, b, dx, dy, _, _, rfl, rfl, ea, eb, a, b, d1, d2, xs, ys, rs, qs, rfl, h1, h2, hd, l1, l2, g1, g2, fun c d' zs H' s nc nd h' => ⟨c, rfl, ?_⟩⟩
    obtain ⟨dc, ec⟩ := h'.ins
    obtain ⟨g, hl⟩ := lot_moved h1 s ea h'
    exact ⟨_, rfl, c, C, dc, _, _, rfl, ec, lc.cls, lc.nR, rfl, _, rfl, a, C, dx, _, rfl, s _ _ ea, lc.cls, lc.nR, (by show 1 < 1000; decide), _, rfl, k d' zs _ g nd hl⟩
theorem ok_lIsub {f fA C CL : Addr} {fd fdA : FuncData} (F : Fun K "__isub__" "Lot.__isub__" sLotIsub f fd) (lc : LCls K C) (sf : PySem.W.selfFirst K C = true) (cA : OpC K C (PySem.dunder (Operator.Sub).info.2) fA) (GA : FnOk P w K mg base (L2.CX P w) 6 fA fdA ["self", "other"] (spLSub K C CL)) (bA : Binds K fdA ["self", "other"] []) :
    FnOk P w K mg base (L2.CX P w) 7 f fd ["self", "other"] (spLIsub K C CL) := by
  refine F.okX scLIsub (fun vs H Q E h => ?_) (fun cdv A outer s H vs Q E hr h => ?_)
  · obtain ⟨a, b, d1, d2, xs, ys, rs, qs, rfl, _⟩ := h
    rfl
  · obtain ⟨a, b, d1, d2, xs, ys, rs, qs, rfl, h1, h2, l1, l2, tx, k1, k2⟩ := h
    refine ⟨_, pss_cons (ps_set (i := 2) scLIsub.nd rfl (Or.inl rfl) (pe_op (op_ownO (op := .Sub) (E := E) sf cA GA hr bA (passes_call (takes_of rfl rfl rfl rfl) fun _ _ _ _ h => h)) (pv 0) (pv 1)))
      (pss_cons (ps_fld (pv 0) (pe_fld (pv 2) rfl) rfl) (pss_one (ps_ret (pv 0)))), ?_⟩
    obtain ⟨dx, ea⟩ := h1.ins
    obtain ⟨dy, eb⟩ := h2.ins
    refine ⟨_, rfl, _, rfl, a, b, dx, dy, _, _, rfl, rfl, ea, eb, a, b, d1, d2, xs, ys, rs, qs, rfl, h1, h2, l1, l2, tx, fun hn c d' zs H' s nc nd h' => ⟨c, rfl, ?_⟩, k2⟩
    obtain ⟨dc, ec⟩ := h'.ins
    obtain ⟨g, hl⟩ := lot_moved h1 s ea h'
    exact ⟨_, rfl, c, C, dc, _, _, rfl, ec, lc.cls, lc.nR, rfl, _, rfl, a, C, dx, _, rfl, s _ _ ea, lc.cls, lc.nR, (by show 1 < 1000; decide), _, rfl, k1 hn d' zs _ g nd hl⟩
end
end Yd
namespace Yd
open PySem L2
/-! ### the helpers of the law of lots added and taken -/
def Okr (b : Int) (rs : List R3) : Prop := ∀ r ∈ rs, 1 ≤ r.2 ∧ r.2 ≤ b ∧ r.1.1.length ≤ 100 ∧ r.1.2.length ≤ 100
theorem Okr.good {b : Int} {rs : List R3} (h : Okr b rs) : ∀ r ∈ rs, 1 ≤ r.2 := fun r hr => (h r hr).1
theorem Okr.txt {b : Int} {rs : List R3} (h : Okr b rs) : TxtR rs := fun r hr => (h r hr).2.2
theorem Okr.mono {b c : Int} {rs : List R3} (h : Okr b rs) (e : b ≤ c) : Okr c rs := fun r hr => let ⟨a, z, t⟩ := h r hr; ⟨a, by omega, t⟩
theorem Okr.app {b : Int} {rs qs : List R3} (h : Okr b rs) (g : Okr b qs) : Okr b (rs ++ qs) := fun r hr => (List.mem_append.mp hr).elim (h r) (g r)
theorem Okr.one {b : Int} {r : R3} (h : 1 ≤ r.2 ∧ r.2 ≤ b ∧ r.1.1.length ≤ 100 ∧ r.1.2.length ≤ 100) : Okr b [r] := fun q hq => by rw [List.mem_singleton.mp hq]; exact h
theorem addR_ok {acc : List R3} {r : R3} {b B : Int} (h : Okr B acc) (hr : 1 ≤ r.2 ∧ r.2 ≤ b ∧ r.1.1.length ≤ 100 ∧ r.1.2.length ≤ 100) (hB : 0 ≤ B) : Okr (B + b) (addR acc r) := by
  intro q hq
  by_cases m : r.1 ∈ keysR acc
  · rw [addR_in m] at hq
    obtain ⟨p, hp, e⟩ := List.mem_map.mp hq
    have hp' := h p hp
    rw [← e]
    split
    · exact ⟨by show 1 ≤ p.2 + r.2; omega, by show p.2 + r.2 ≤ B + b; omega, hp'.2.2⟩
    · exact ⟨hp'.1, by omega, hp'.2.2⟩
  · rw [addR_out m] at hq
    rcases List.mem_append.mp hq with z | z
    · have hp' := h q z
      exact ⟨hp'.1, by omega, hp'.2.2⟩
    · rw [List.mem_singleton.mp z]
      exact ⟨hr.1, by omega, hr.2.2⟩
theorem mergeR_ok {b : Int} {rs : List R3} (h : Okr b rs) (hb : 0 ≤ b) : Okr ((rs.length : Nat) * b) (mergeR rs) := by
  unfold mergeR
  suffices q : ∀ (l acc : List R3) (B : Int), Okr b l → 0 ≤ B → Okr B acc → Okr (B + (l.length : Nat) * b) (l.foldl addR acc) by
    have z := q rs [] 0 h (by omega) (fun r h => nomatch h)
    rw [Int.zero_add] at z
    exact z
  intro l
  induction l with
  | nil => intro acc B _ _ h; exact h.mono (by simp)
  | cons s l ih =>
    intro acc B h1 h0 h2
    rw [List.foldl_cons]
    have z := ih (addR acc s) (B + b) (fun r h => h1 r (List.mem_cons_of_mem _ h)) (by omega) (addR_ok h2 (h1 s (List.mem_cons_self ..)) h0)
    refine z.mono ?_
    rw [List.length_cons, Int.natCast_add, Int.add_mul]
    omega
def cap : Int := 10 ^ 30
/-- an error class as the clauses read it -/
structure CatchC (K : PySem.W.Frag) (C : Addr) : Prop where
  xf : XfC K C
  self : PySem.W.exmOne K (.ref C) (.ref C) = some true
def spDrawn : Sp := fun vs H Q _ => ∃ (p c n : Addr) (m : Nat) (ns : List Str), vs = [.ref p, .ref n, .int m] ∧ Pool H p c ∧ H n = some (.lst (ns.map V.str)) ∧ n ≠ p ∧ 0 < ns.length ∧ ns.length ≤ 10 ∧ (∀ z ∈ ns, z.length ≤ 100) ∧ m ≤ 60 ∧
  ∀ q xs rs H', Gro p H H' → Pool H' p c → H q = none → q ≠ p → q ≠ c → H' q = some (.lst xs) → TripAt H' xs rs → rs.length ≤ m → Okr cap rs → Q (.ref q) H'
theorem gro_tup {p c : Addr} {H H' : Hp} (g : Gro p H H') (P : Pool H p c) {t : Addr} {xs : List V} (e : H t = some (.tup xs)) : H' t = some (.tup xs) := by
  obtain ⟨ys, hp, _⟩ := P
  exact g t _ e (fun z => by rw [z, hp] at e; cases e)
theorem nb4 {n : Nat} (h : n ≤ 1000) : ((n : Int)).natAbs < 2 ^ 200 := Nat.lt_of_le_of_lt (m := 1000) (by omega) (by decide)
theorem five {v : Int} (v0 : 0 ≤ v) (v1 : v < 5) : ∃ n : Int, atI [V.int 1, V.int 2, V.int 3, V.int 3, V.int (10 ^ (Int.toNat 30))] v = some (V.int n) ∧ 0 < n ∧ n.natAbs < 2 ^ 200 ∧ n ≤ cap := by
  obtain ⟨j, rfl⟩ : ∃ j : Nat, v = (j : Int) := ⟨v.toNat, by omega⟩
  match j, v1 with
  | 0, _ => exact ⟨1, at_c (j := 0) rfl rfl, by decide, by decide, by decide⟩
  | 1, _ => exact ⟨2, at_c (j := 1) rfl rfl, by decide, by decide, by decide⟩
  | 2, _ => exact ⟨3, at_c (j := 2) rfl rfl, by decide, by decide, by decide⟩
  | 3, _ => exact ⟨3, at_c (j := 3) rfl rfl, by decide, by decide, by decide⟩
  | 4, _ => exact ⟨10 ^ (Int.toNat 30), at_c (j := 4) rfl rfl, by decide, by decide, by decide⟩
  | j + 5, h => omega
def spLess (K : PySem.W.Frag) : Sp := fun vs H Q _ => ∃ (l m : Addr) (rs qs : List R3), vs = [.ref l, .ref m] ∧ ListT K H l rs ∧ ListT K H m qs ∧ rs.length ≤ 250 ∧
  (∀ p, lackR rs qs = some p → ∀ q H', Same H H' → H' q = some (.tup [.str "lacking", .str p.1, .str p.2]) → Q (.ref q) H') ∧ (lackR rs qs = none → ∀ q ys H', Same H H' → H q = none → H' q = some (.lst ys) → TripAt H' ys (lessR rs qs) → Q (.ref q) H')
def spTaken (K : PySem.W.Frag) (C : Addr) : Sp := fun vs H Q _ => ∃ (a b d1 d2 : Addr) (xs ys : List V) (rs qs : List R3), vs = [.ref a, .ref b] ∧ LotAt H C a d1 xs rs ∧ LotAt H C b d2 ys qs ∧ rs.length ≤ 250 ∧ qs.length ≤ 250 ∧ TxtR qs ∧
  (lackR rs qs = none → ∀ c d' zs H', Same H H' → H c = none → H d' = none → LotAt H' C c d' zs (lessR rs qs) → Q (.ref c) H') ∧
  (∀ od p, lackR rs qs = some p → ∀ q H', Same (upd H d2 (.frz od (.dT (rD qs ys)))) H' → H' q = some (.tup [.str "lacking", .str p.1, .str p.2]) → Q (.ref q) H')
def spTimes (K : PySem.W.Frag) (C : Addr) : Sp := fun vs H Q _ => ∃ (a d1 : Addr) (n : Int) (left : Bool) (xs : List V) (rs : List R3), vs = [.ref a, .int n, .bl left] ∧ LotAt H C a d1 xs rs ∧ rs.length ≤ 250 ∧ (∀ r ∈ rs, 1 ≤ r.2) ∧ (∀ r ∈ rs, r.2.natAbs < 2 ^ 400) ∧ n.natAbs < 2 ^ 400 ∧
  (0 ≤ n → ∀ c d' zs H', Same H H' → H c = none → H d' = none → LotAt H' C c d' zs (mulR rs n) → Q (.ref c) H') ∧ (n < 0 → ∀ q H', Same H H' → H' q = some (.tup [.str "bad", .int n]) → Q (.ref q) H')
def spIsBool : Sp := fun vs H Q _ => ∃ b : Bool, vs = [.bl b, .bl b] ∧ Q (.bl true) H
def spAgrees (K : PySem.W.Frag) (C : Addr) : Sp := fun vs H Q _ =>
  (∃ (q t : Addr) (ws us : List V) (ds : List PyData), vs = [.ref q, .ref t] ∧ SqT K H q ws ∧ DpAll K H ws ds ∧ H q = some (.tup ws) ∧ H t = some (.tup us) ∧ DpAll K H us ds ∧ PyData.plainAll ds = true ∧ PyData.depthAll ds ≤ 50 ∧ ∀ H', Same H H' → Q (.bl true) H') ∨
  (∃ (a d l : Addr) (xs zs : List V) (rs : List R3), vs = [.ref a, .ref l] ∧ LotAt H C a d xs rs ∧ H l = some (.lst zs) ∧ TripAt H zs rs ∧ rs.length ≤ 500 ∧ ∀ H', Same H H' → Q (.bl true) H')
section
variable {P : Program} {w : World} {K : PySem.W.Frag} {mg : Str → Option Value} {base : Heap}
def nDrawn : List Str := ["_law_pool_here", "_law_names", "_law_most", "_law_rows", "_law_k", "_law_count_here"]
theorem scDrawn : FnScope nDrawn ["_law_pool_here", "_law_names", "_law_most"] (defScope sDrawnRows) := ⟨rfl, rfl, rfl, by decide +kernel, rfl, by decide +kernel, by decide +kernel⟩
theorem ok_drawn {f fT : Addr} {fd fdT : FuncData} (F : Fun K "_law_drawn_rows" "_law_drawn_rows" sDrawnRows f fd) (B : Blt mg) (T : Fn K mg "_law_take" sTake ["_law_pool_here", "_law_size"] fT fdT) :
    FnOk P w K mg base CX0 2 f fd ["_law_pool_here", "_law_names", "_law_most"] spDrawn := by
  have GT : FnOk P w K mg base CX0 1 fT fdT ["_law_pool_here", "_law_size"] spTake := ok_take T.F B
  refine F.ok scDrawn (fun vs H Q E h => ?_) (fun cdv A outer s H vs Q E hr h => ?_)
  · obtain ⟨p, c, n, m, ns, rfl, _⟩ := h
    rfl
  · obtain ⟨p, c, n, m, ns, rfl, hP, hn, nnp, hn0, hn1, hnt, hm, k⟩ := h
    refine ⟨_, pss_cons (ps_set (i := 3) scDrawn.nd rfl (Or.inl rfl) (pe_lst pa_nil))
      (pss_cons (ps_for PassesOwn.never rfl (pi_range1 rfl B.range (pa_cons (pe_op op_sub (pv 2) (pe_call GT hr rfl T.g T.F.kp T.b .nil pass0 (pa_cons (pv 0) (pa_cons (pe_op op_add (pv 2) pe_int) pa_nil)))) pa_nil)) (pg_name (i := 4) scDrawn.nd rfl (Or.inl rfl))
        (pss_cons (ps_set (i := 5) scDrawn.nd rfl (Or.inl rfl) (pe_op op_add pe_int (pe_call GT hr rfl T.g T.F.kp T.b .nil pass0 (pa_cons (pv 0) (pa_cons (pe_ix ix_list (pe_lst (pa_cons pe_int (pa_cons pe_int (pa_cons pe_int (pa_cons pe_int (pa_cons (pe_op op_pow pe_int pe_int) pa_nil)))))) (pe_call GT hr rfl T.g T.F.kp T.b .nil pass0 (pa_cons (pv 0) (pa_cons pe_int pa_nil))) (fun _ _ => rfl)) pa_nil)))))
        (pss_one (ps_expr (pe_bm PySem.F.plainAttrs_list PySem.F.slot_list_append PySem.F.type_list_append mt_append (pv 3) (pa_cons (pe_tup (pa_cons (pe_ix ix_list (pv 1) (pe_call GT hr rfl T.g T.F.kp T.b .nil pass0 (pa_cons (pv 0) (pa_cons (pe_callB call_len_seq (by rfl) B.len PySem.boot_len (pa_cons (pv 1) pa_nil)) pa_nil))) (fun _ _ => rfl))
          (pa_cons (pe_ix ix_list (pv 1) (pe_call GT hr rfl T.g T.F.kp T.b .nil pass0 (pa_cons (pv 0) (pa_cons (pe_callB call_len_seq (by rfl) B.len PySem.boot_len (pa_cons (pv 1) pa_nil)) pa_nil))) (fun _ _ => rfl)) (pa_cons (pv 5) pa_nil)))) pa_nil))))))
      (pss_one (ps_ret (pv 3)))), ?_⟩
    refine ⟨(by show 0 ≤ sizeLine; omega), fun D hD => ?_⟩
    obtain ⟨nDp, nDc⟩ := hP.ne hD
    have hn' : upd H D (.lst []) n = some (.lst (ns.map V.str)) := same_new hD _ _ hn
    refine ⟨_, rfl, _, rfl, _, rfl, _, _, rfl, rfl, p, c, (m : Int) + 1, rfl, hP.new hD, by omega, Nat.lt_of_le_of_lt (m := 1000) (by omega) (by decide), fun v H1 v0 v1 g1 P1 => ?_⟩
    obtain ⟨m', em⟩ : ∃ m' : Nat, (m : Int) - v = (m' : Int) := ⟨((m : Int) - v).toNat, by omega⟩
    have e1 : H1 D = some (.lst []) := g1 _ _ upd_same nDp
    have hn1' := g1 _ _ hn' nnp
    have G1 : Gro p H H1 := Gro.trans (.new hD) g1
    refine ⟨_, _, rfl, rfl, (m' : Int), (by show [V.int ((m : Int) - v)] = [V.int (m' : Int)]; rw [em]), by omega, by omega, for_range (n := m') (fun i σ H' => Gro p H H' ∧ Pool H' p c ∧ (∃ xs rs, H' D = some (.lst xs) ∧ TripAt H' xs rs ∧ rs.length = i ∧ Okr cap rs) ∧ ∃ v w : Option V, σ = [some (.ref p), some (.ref n), some (.int m), some (.ref D), v, w])
      ⟨G1, P1, ⟨[], [], e1, True.intro, rfl, fun r h => nomatch h⟩, _, _, rfl⟩ ?_ ?_⟩
    · rintro i σ H' hi ⟨g1, P1, ⟨xs, rs, e1, hxs, hpl, good⟩, v, w, rfl⟩
      have draw : ∀ {v : Int}, 0 ≤ v → v < (ns.map V.str).length → ∃ s, atI (ns.map V.str) v = some (.str s) ∧ s.length ≤ 100 := fun {v} v0 v1 => by
        have hj : v.toNat < ns.length := by rw [List.length_map] at v1; omega
        exact ⟨ns[v.toNat], at_c (j := v.toNat) (by rw [List.getElem?_map, List.getElem?_eq_getElem hj]; rfl) (by omega), hnt _ (List.getElem_mem hj)⟩
      have hn' := g1 _ _ hn nnp
      have lb : (((ns.map V.str).length : Nat) : Int).natAbs < 2 ^ 200 := nb4 (by rw [List.length_map]; omega)
      refine ⟨_, rfl, 10, 30, rfl, rfl, ⟨by decide, by decide, by decide⟩, (by show 5 ≤ sizeLine; decide), fun L hL => ?_⟩
      obtain ⟨nLp, nLc⟩ := P1.ne hL
      refine ⟨_, rfl, p, c, 5, rfl, P1.new hL, by decide, by decide, fun v1 H2 a0 a1 g2 P2 => ?_⟩
      obtain ⟨nn, at5, np, nb, nc⟩ := five a0 a1
      refine ⟨L, _, v1, _, rfl, rfl, SqL.of (g2 _ _ upd_same nLp), at5, p, c, nn, rfl, P2, np, nb, fun v2 H3 b0 b1 g3 P3 => ⟨_, _, rfl, rfl, ?_⟩⟩
      have g13 : Gro p H' H3 := (Gro.trans (.new hL) g2).trans g3
      have e3 : H3 D = some (.lst xs) := g13 _ _ e1 nDp
      have hn3 := g13 _ _ hn' nnp
      refine ⟨_, rfl, .inl ⟨rfl, _, SqL.of e3⟩, _, rfl, _, rfl, _, rfl, n, _, rfl, .inl (SqL.of hn3), p, c, _, rfl, P3, by rw [List.length_map]; omega, lb, fun v3 H4 c0 c1 g4 P4 => ?_⟩
      obtain ⟨s1, at1, t1⟩ := draw c0 c1
      have hn4 := g4 _ _ hn3 nnp
      refine ⟨n, _, v3, _, rfl, rfl, SqL.of hn4, at1, _, rfl, _, rfl, _, rfl, n, _, rfl, .inl (SqL.of hn4), p, c, _, rfl, P4, by rw [List.length_map]; omega, lb, fun v4 H5 d0 d1 g5 P5 => ?_⟩
      obtain ⟨s2, at2, t2⟩ := draw d0 d1
      have hn5 := g5 _ _ hn4 nnp
      refine ⟨n, _, v4, _, rfl, rfl, SqL.of hn5, at2, _, rfl, (by show 3 ≤ sizeLine; decide), fun t ht => ?_⟩
      have g15 : Gro p H' H5 := (g13.trans g4).trans g5
      have e5 : H5 D = some (.lst xs) := g15 _ _ e1 nDp
      have hxs5 : TripAt H5 xs rs := hxs.keep fun t ys e => gro_tup g15 P1 e
      have nDt : D ≠ t := ne_of_none e5 ht
      have lx := hxs.len
      refine ⟨D, _, _, rfl, rfl, by rw [upd_ne nDt]; exact e5, small500 (by omega), fun b o q nb => ?_, (P5.new ht).off nDp nDc, ⟨_, rs ++ [((s1, s2), 1 + v2)], upd_same, ?_, by rw [List.length_append, hpl]; rfl, good.app (Okr.one ⟨by show 1 ≤ 1 + v2; omega, by show 1 + v2 ≤ cap; omega, t1, t2⟩)⟩, _, _, rfl⟩
      · have q3 := g15 b o (g1 b o q nb) nb
        rw [upd_ne (ne_of_none q hD), upd_ne (ne_of_none q3 ht)]
        exact q3
      · have nq : ∀ t' zs, upd H5 t (.tup [.str s1, .str s2, .int (1 + v2)]) t' = some (.tup zs) → upd (upd H5 t (.tup [.str s1, .str s2, .int (1 + v2)])) D (.lst (xs ++ [.ref t])) t' = some (.tup zs) := fun t' zs et => by
          rw [upd_ne (fun z => by rw [z, upd_ne nDt, e5] at et; cases et)]
          exact et
        exact TripAt.snoc (r := ((s1, s2), 1 + v2)) (nq _ _ upd_same) ((hxs5.same (same_new ht)).keep nq)
    · rintro σ H' ⟨g1, P1, ⟨xs, rs, e1, hxs, hpl, good⟩, v, w, rfl⟩
      exact ⟨_, rfl, k D xs rs H' g1 P1 hD nDp nDc e1 hxs (by omega) good⟩
end
end Yd
namespace Yd
open PySem L2
section
variable {P : Program} {w : World} {K : PySem.W.Frag} {mg : Str → Option Value} {base : Heap}
def nLess : List Str := ["_law_rows", "_law_others", "_law_row", "_law_left"]
theorem scLess : FnScope nLess ["_law_rows", "_law_others"] (defScope sLess) := ⟨rfl, rfl, rfl, by decide +kernel, rfl, by decide +kernel, by decide +kernel⟩
theorem ok_less {f fCo : Addr} {fd dCo : FuncData} (F : Fun K "_law_less" "_law_less" sLess f fd) (TC : Fn K mg "_law_count" sCount ["_law_rows", "_law_spot"] fCo dCo) : FnOk P w K mg base CX0 2 f fd ["_law_rows", "_law_others"] (spLess K) := by
  have GC : FnOk P w K mg base CX0 1 fCo dCo ["_law_rows", "_law_spot"] (spCount K) := ok_count TC.F
  refine F.ok scLess (fun vs H Q E h => ?_) (fun cdv A outer s H vs Q E hr h => ?_)
  · obtain ⟨l, m, rs, qs, rfl, _⟩ := h
    rfl
  · obtain ⟨l, m, rs, qs, rfl, hl, hm, hz, k1, k2⟩ := h
    refine ⟨_, pss_cons (ps_for PassesOwn.never rfl (pi_list (pv 1)) (pg_name (i := 2) scLess.nd rfl (Or.inl rfl))
        (pss_one (ps_if (pt_cmpR op_gt (pe_ix ix_tup (pv 2) pe_int (fun _ _ => rfl)) (pe_call GC hr rfl TC.g TC.F.kp TC.b .nil pass0 (pa_cons (pv 0) (pa_cons (pe_slice sl_tup (pv 2) po_none (po_some pe_int)) pa_nil))) (nomark _))
          (pss_one (ps_ret (pe_tup (pa_cons pe_str (pa_cons (pe_ix ix_tup (pv 2) pe_int (fun _ _ => rfl)) (pa_cons (pe_ix ix_tup (pv 2) pe_int (fun _ _ => rfl)) pa_nil)))))) pss_nil)))
      (pss_cons (ps_setLc (i := 3) (own := [("_law_row", 2)]) (g := gName 2) (tt := tYes) (te := tOp (rCatA K) (tSl (rSlT K) _ _ _) (tTup (tCons (tOp _ (tOp (rIxT K) _ _) (tCall _ _ _ (tCons _ (tCons (tSl (rSlT K) _ _ _) tNil)))) tNil))) rfl scLess.nd rfl rfl (sw_true rfl rfl rfl (by decide +kernel)) (pi_list (pv 0)) (blkOk_by (N := nLess) (sc := defScope sLess) (by decide +kernel))
          (fun _ _ _ _ _ => pg_name (i := 2) scLess.nd rfl (Or.inl rfl)) (fun _ _ _ _ _ => pts_nil)
          (fun _ _ _ _ _ => pe_op op_catA (pe_slice sl_tup (pv 2) po_none (po_some pe_int)) (pe_tup (pa_cons (pe_op op_sub (pe_ix ix_tup (pv 2) pe_int (fun _ _ => rfl)) (pe_call (E := fun _ _ _ => False) GC hr rfl TC.g TC.F.kp TC.b .nil pass0 (pa_cons (pv 1) (pa_cons (pe_slice sl_tup (pv 2) po_none (po_some pe_int)) pa_nil)))) pa_nil))))
      (pss_one (ps_ret (pe_lc (own := [("_law_row", 2)]) (g := gName 2) (tt := tTest (tOp (rI0 fun i j => .bl (decide (j < i))) (tOp (rIxT K) (tVar 2) (tC (.int 2))) (tC (.int 0)))) (te := tVar 2) rfl scLess.nd (pi_list (pv 3)) (blkOk_by (N := nLess) (sc := defScope sLess) (by decide +kernel))
        (fun _ _ _ _ _ => pg_name (i := 2) scLess.nd rfl (Or.inl rfl)) (fun _ _ _ _ _ => pts_one (pt_cmpR op_gt (pe_ix ix_tup (pv 2) pe_int (fun _ _ => rfl)) pe_int (nomark _))) (fun _ _ _ _ _ => pv 2))))), ?_⟩
    obtain ⟨ys, hy, ty⟩ := id hm
    obtain ⟨xs, hx, tx⟩ := id hl
    have lx := tx.len
    have ly := ty.len
    refine ⟨_, rfl, m, rfl, ⟨_, hy⟩, for_list (K := K) (a := m) (xs := ys) (fun j σ H' => Same H H' ∧ (∀ (i : Nat) (q : R3), i < j → qs[i]? = some q → q.2 ≤ cntR rs q.1) ∧ ∃ v : Option V, σ = [some (.ref l), some (.ref m), v, none])
      ⟨Same.refl _, fun i q h => absurd h (Nat.not_lt_zero _), _, rfl⟩ (fun j σ H' _ h => h.1.seq hy) ?_ ?_⟩
    · rintro j x σ H' hj ⟨s1, en, v, rfl⟩
      obtain ⟨t, q, rfl, hq, ht⟩ := TripAt.get (ty.same s1) hj
      refine ⟨_, rfl, t, _, 2, _, rfl, rfl, SqT.of ht, at_c (j := 2) rfl rfl, _, rfl, _, rfl, _, rfl, t, _, rfl, SqT.of ht, ncut2 _ _ _, fun p hp => ?_⟩
      have s2 := s1.trans (same_new (o := .tup (cutV (tV q) none (some 2))) hp)
      refine ⟨l, p, rs, q.1, rfl, hl.keep s2, by rw [upd_same]; rfl, fun H3 s3 => ?_⟩
      have s3 := s2.trans s3
      refine ⟨q.2, cntR rs q.1, rfl, rfl, _, rfl, ite2 (fun lt => ?_) (fun nlt => ?_)⟩
      · have lt := of_decide_eq_true lt
        obtain ⟨t', q', et, hq', ht'⟩ := TripAt.get (ty.same s3) hj
        cases et
        rw [hq] at hq'
        cases hq'
        refine ⟨_, rfl, t, _, 0, _, rfl, rfl, SqT.of ht', at_c (j := 0) rfl rfl, _, rfl, t, _, 1, _, rfl, rfl, SqT.of ht', at_c (j := 1) rfl rfl, (by show 3 ≤ sizeLine; decide), fun u hu => ?_⟩
        exact k1 q.1 (lackR_some hq (by omega) en) u _ (s3.trans (same_new hu)) upd_same
      · have nlt := of_decide_eq_false (Bool.eq_false_iff.mpr nlt)
        refine ⟨s3, fun i q' hi hq' => ?_, _, rfl⟩
        rcases Nat.lt_or_ge i j with z | z
        · exact en i q' z hq'
        · have : i = j := by omega
          rw [this, hq] at hq'
          cases hq'
          omega
    rintro σ H1 ⟨s1, en, v, rfl⟩
    rw [ly] at en
    have nolack := lackR_none en
    refine ⟨_, rfl, l, rfl, ⟨_, s1.seq hx⟩, fun Dl hDl => ?_⟩
    refine lc_list (K := K) (a := l) (xs := xs) (fun j H' => Same H1 H' ∧ ∃ zs, H' Dl = some (.lst zs) ∧ TripAt H' zs ((rs.take j).map fun r => (r.1, r.2 - cntR qs r.1)))
      ⟨same_new hDl, [], upd_same, True.intro⟩ (fun j H' _ h => (s1.trans h.1).seq hx) ?_ ?_
    · rintro j x H' hj ⟨s2, zs, s3, s4⟩
      obtain ⟨t, r, rfl, hr', ht⟩ := TripAt.get (tx.same (s1.trans s2)) hj
      have l4 := s4.len
      rw [List.length_map, List.length_take] at l4
      refine ⟨rfl, _, rfl, _, rfl, t, _, rfl, SqT.of ht, ncut2 _ _ _, fun p hp => ?_⟩
      have e2 := same_new (o := .tup (cutV (tV r) none (some 2))) hp
      have ep : upd H' p (.tup (cutV (tV r) none (some 2))) p = some (.tup [.str r.1.1, .str r.1.2]) := by rw [upd_same]; rfl
      have ht2 := e2 _ _ ht
      generalize upd H' p (.tup (cutV (tV r) none (some 2))) = H2 at e2 ep ht2
      refine ⟨_, rfl, t, _, 2, _, rfl, rfl, SqT.of ht2, at_c (j := 2) rfl rfl, _, rfl, _, rfl, _, rfl, t, _, rfl, SqT.of ht2, ncut2 _ _ _, fun p2 hp2 => ?_⟩
      have e3 := e2.trans (same_new (o := .tup (cutV (tV r) none (some 2))) hp2)
      have ep := same_new (o := .tup (cutV (tV r) none (some 2))) hp2 _ _ ep
      refine ⟨m, p2, qs, r.1, rfl, (hm.keep s1).keep (s2.trans e3), by rw [upd_same]; rfl, fun H3 s5 => ?_⟩
      have e4 := e3.trans s5
      have ep := s5 _ _ ep
      refine ⟨r.2, cntR qs r.1, rfl, rfl, (by show 1 ≤ sizeLine; decide), fun o ho => ?_⟩
      have so := same_new (o := .tup [.int (r.2 - cntR qs r.1)]) ho
      refine ⟨p, o, _, _, rfl, rfl, SqT.of (so _ _ ep), SqT.of upd_same, (by show 3 ≤ sizeLine; decide), fun z => (List.cons_ne_nil _ _ z).elim, fun _ z => (List.cons_ne_nil _ _ z).elim, fun _ _ n hn => ?_⟩
      have e5 := e4.trans (so.trans (same_new (o := .tup ([.str r.1.1, .str r.1.2] ++ [.int (r.2 - cntR qs r.1)])) hn))
      have en' : upd (upd H3 o (.tup [.int (r.2 - cntR qs r.1)])) n (.tup ([.str r.1.1, .str r.1.2] ++ [.int (r.2 - cntR qs r.1)])) n = some (.tup (tV (r.1, r.2 - cntR qs r.1))) := by rw [upd_same]; rfl
      generalize upd (upd H3 o (.tup [.int (r.2 - cntR qs r.1)])) n (.tup ([.str r.1.1, .str r.1.2] ++ [.int (r.2 - cntR qs r.1)])) = H6 at e5 en'
      have z6 := e5 _ _ s3
      refine ⟨zs, z6, small500 (by omega), fun q o e => ?_, zs ++ [.ref n], upd_same, ?_⟩
      · rw [upd_ne (ne_of_none e hDl)]
        exact e5 _ _ (s2 _ _ e)
      · rw [takeR hr', List.map_append]
        have nq : ∀ t' ws, H6 t' = some (.tup ws) → upd H6 Dl (.lst (zs ++ [V.ref n])) t' = some (.tup ws) := fun t' ws et => by rw [upd_ne (ne_of et z6 (fun z => nomatch z))]; exact et
        exact TripAt.snoc (r := (r.1, r.2 - cntR qs r.1)) (nq _ _ en') ((s4.same e5).keep nq)
    rintro H4 ⟨s2, zs, eZ, tZ⟩
    rw [lx, List.take_length] at tZ
    have s6 := s1.trans s2
    have lz := tZ.len
    rw [List.length_map] at lz
    refine ⟨_, rfl, Dl, rfl, ⟨_, SqL.of eZ⟩, fun D hD => ?_⟩
    refine lc_list (K := K) (a := Dl) (xs := zs) (fun j H' => Same H4 H' ∧ ∃ ws, H' D = some (.lst ws) ∧ TripAt H' ws (((rs.map fun r => (r.1, r.2 - cntR qs r.1)).take j).filter fun r => decide (r.2 > 0)))
      ⟨same_new hD, [], upd_same, True.intro⟩ (fun j H' _ h => SqL.of (h.1 _ _ eZ)) ?_ ?_
    · rintro j x H' hj ⟨t1, ws, e1, w1⟩
      obtain ⟨t, r, rfl, hr', ht⟩ := TripAt.get (tZ.same t1) hj
      have lw := w1.len
      have lf : ((((rs.map fun r => (r.1, r.2 - cntR qs r.1)).take j).filter fun r => decide (r.2 > 0))).length ≤ 250 := Nat.le_trans (List.length_filter_le ..) (by rw [List.length_take, List.length_map]; omega)
      refine ⟨rfl, _, rfl, t, _, 2, _, rfl, rfl, SqT.of ht, at_c (j := 2) rfl rfl, r.2, 0, rfl, rfl, _, rfl, ?_⟩
      rw [takeR hr', List.filter_append]
      by_cases hp : r.2 > 0
      · have e5 : ([r].filter fun r => decide (r.2 > 0)) = [r] := by simp [hp]
        rw [e5]
        refine yes (decide_eq_true hp) ⟨_, rfl, ws, e1, small500 (by rw [lw]; exact Nat.le_trans lf (by decide)), fun q o e => ?_, ws ++ [.ref t], upd_same, ?_⟩
        · rw [upd_ne (ne_of_none e hD)]
          exact t1 _ _ e
        · have nq : ∀ t' us, H' t' = some (.tup us) → upd H' D (.lst (ws ++ [V.ref t])) t' = some (.tup us) := fun t' us et => by rw [upd_ne (ne_of et e1 (fun z => nomatch z))]; exact et
          exact TripAt.snoc (nq _ _ ht) (w1.keep nq)
      · have e5 : ([r].filter fun r => decide (r.2 > 0)) = [] := by simp [hp]
        rw [e5, List.append_nil]
        exact no (decide_eq_false hp) ⟨t1, ws, e1, w1⟩
    · rintro H' ⟨t1, ws, e1, w1⟩
      rw [lz, ← List.length_map (fun r : R3 => (r.1, r.2 - cntR qs r.1)), List.take_length] at w1
      exact k2 nolack D ws H' (s6.trans t1) (s6.free hD) e1 w1
end
end Yd
namespace Yd
open PySem L2
theorem pool_gro {p c g : Addr} {H H' : Hp} (h : Pool H p c) (gr : Gro g H H') (n1 : p ≠ g) (n2 : c ≠ g) : Pool H' p c := h.keep (fun o e => gr _ _ e n1) fun o e => gr _ _ e n2
theorem TripAt.mem {H : Hp} {xs : List V} {rs : List R3} {i : Nat} (h : TripAt H xs rs) (hi : i < xs.length) : ∃ (t : Addr) (r : R3), atI xs (-1 - (0 + (i : Int))) = some (.ref t) ∧ rs.reverse[i]? = some r ∧ H t = some (.tup (tV r)) := by
  have hj : xs.length - 1 - i < xs.length := by omega
  obtain ⟨t, r, e, hr, ht⟩ := h.get (List.getElem?_eq_getElem hj)
  have hl := h.len
  refine ⟨t, r, ?_, ?_, ht⟩
  · have e2 : ixN xs.length (-1 - (0 + (i : Int))) = some (xs.length - 1 - i) := by
      unfold ixN
      rw [if_neg (by omega), if_pos (by omega)]
      congr 1
      omega
    unfold atI
    rw [e2]
    show xs[xs.length - 1 - i]? = _
    rw [List.getElem?_eq_getElem hj, e]
  · rw [List.getElem?_reverse (by omega), ← hl]
    exact hr
theorem keysR_rev (rs : List R3) : keysR rs.reverse = (keysR rs).reverse := by unfold keysR; rw [List.map_reverse]
theorem nd_rev {rs : List R3} (h : (keysR rs).Nodup) : (keysR rs.reverse).Nodup := by rw [keysR_rev]; exact List.pairwise_reverse.mpr (h.imp fun e => e.symm)
theorem Okr.rev {b : Int} {rs : List R3} (h : Okr b rs) : Okr b rs.reverse := fun r hr => h r (List.mem_reverse.mp hr)
theorem cap_pos : 0 < cap := by decide
theorem cap_nb {v : Int} (h0 : 1 ≤ v) (h : v ≤ 100 * cap) : v.natAbs < 2 ^ 200 := Nat.lt_of_le_of_lt (m := (100 * cap).natAbs) (by omega) (by decide)
def spSecond : Sp := fun vs H Q _ => ∃ (p c D l : Addr) (ns : List Str) (xs : List V) (rs : List R3), vs = [.ref p, .ref D, .ref l] ∧ Pool H p c ∧ H D = some (.lst (ns.map V.str)) ∧ D ≠ p ∧ 0 < ns.length ∧ ns.length ≤ 10 ∧ (∀ z ∈ ns, z.length ≤ 100) ∧ H l = some (.lst xs) ∧ TripAt H xs rs ∧ l ≠ p ∧ rs.length ≤ 8 ∧ (keysR rs).Nodup ∧ Okr (8 * cap) rs ∧
  ∀ q zs qs H', Gro p H H' → Pool H' p c → H q = none → q ≠ p → q ≠ c → H' q = some (.lst zs) → TripAt H' zs qs → (keysR qs).Nodup → Okr (100 * cap) qs → qs.length ≤ 12 → Q (.ref q) H'
/-- what second stands at -/
structure SecAt (H H' : Hp) (p c D : Addr) (ns : List Str) (L : Addr) (b : Int) (n : Nat) (zs : List V) (qs : List R3) : Prop where
  gro : Gro p H H'
  pool : Pool H' p c
  nm : H' D = some (.lst (ns.map V.str))
  new : H L = none
  np : L ≠ p
  nc : L ≠ c
  at_ : H' L = some (.lst zs)
  trip : TripAt H' zs qs
  nd : (keysR qs).Nodup
  ok : Okr b qs
  len : qs.length ≤ n
theorem SecAt.draw {H H1 H2 : Hp} {p c D L : Addr} {ns : List Str} {b : Int} {n : Nat} {zs : List V} {qs : List R3} (h : SecAt H H1 p c D ns L b n zs qs) (g : Gro p H1 H2) (P : Pool H2 p c) (hD : D ≠ p) : SecAt H H2 p c D ns L b n zs qs :=
  ⟨h.gro.trans g, P, g _ _ h.nm hD, h.new, h.np, h.nc, g _ _ h.at_ h.np, h.trip.keep fun t ws e => gro_tup g h.pool e, h.nd, h.ok, h.len⟩
section
variable {P : Program} {w : World} {K : PySem.W.Frag} {mg : Str → Option Value} {base : Heap}
def nSecond : List Str := ["_law_pool_here", "_law_names", "_law_first", "_law_second_here", "_law_row", "_law_k"]
theorem scSecond : FnScope nSecond ["_law_pool_here", "_law_names", "_law_first"] (defScope sSecond) := ⟨rfl, rfl, rfl, by decide +kernel, rfl, by decide +kernel, by decide +kernel⟩
theorem ok_second {f fT fD fMe : Addr} {fd fdT dD dMe : FuncData} (F : Fun K "_law_second" "_law_second" sSecond f fd) (B : Blt mg) (T : Fn K mg "_law_take" sTake ["_law_pool_here", "_law_size"] fT fdT)
    (TD : Fn K mg "_law_drawn_rows" sDrawnRows ["_law_pool_here", "_law_names", "_law_most"] fD dD) (TM : Fn K mg "_law_merged" sMerged ["_law_rows"] fMe dMe) : FnOk P w K mg base CX0 3 f fd ["_law_pool_here", "_law_names", "_law_first"] spSecond := by
  have GT : FnOk P w K mg base CX0 1 fT fdT ["_law_pool_here", "_law_size"] spTake := ok_take T.F B
  have GD : FnOk P w K mg base CX0 2 fD dD ["_law_pool_here", "_law_names", "_law_most"] spDrawn := ok_drawn TD.F B T
  have GM : FnOk P w K mg base CX0 1 fMe dMe ["_law_rows"] (spMerged K) := ok_merged TM.F
  refine F.ok scSecond (fun vs H Q E h => ?_) (fun cdv A outer s H vs Q E hr h => ?_)
  · obtain ⟨p, c, D, l, ns, xs, rs, rfl, _⟩ := h
    rfl
  · obtain ⟨p, c, D, l, ns, xs, rs, rfl, hP, hD, nDp, hn0, hn1, hnt, hl, tl, nlp, hz, hnd, hok, k⟩ := h
    have r1 : Room 1 _ := hr.mono (by decide)
    refine ⟨_, pss_cons (ps_set (i := 3) scSecond.nd rfl (Or.inr rfl) (pe_lc (own := [("_law_row", 4)]) (g := gName 4) (te := tOp (rCatA K) (tSl (rSlT K) _ _ _) (tTup (tCons (tOp _ _ (tCall _ _ _ (tCons _ (tCons (tOp (rIxT K) _ _) tNil)))) tNil))) rfl scSecond.nd (pi_list (pv 2)) (blkOk_by (N := nSecond) (sc := defScope sSecond) (by decide +kernel))
          (fun _ _ _ _ _ => pg_name (i := 4) scSecond.nd rfl (Or.inl rfl)) (fun _ _ _ _ _ => pts_one (pt_cmpR op_eq (pe_call (E := fun _ _ _ => False) GT r1 rfl T.g T.F.kp T.b .nil pass0 (pa_cons (pv 0) (pa_cons pe_int pa_nil))) pe_int (nomark _)))
          (fun _ _ _ _ _ => pe_op op_catA (pe_slice sl_tup (pv 4) po_none (po_some pe_int)) (pe_tup (pa_cons (pe_op op_add pe_int (pe_call (E := fun _ _ _ => False) GT r1 rfl T.g T.F.kp T.b .nil pass0 (pa_cons (pv 0) (pa_cons (pe_ix ix_tup (pv 4) pe_int (fun _ _ => rfl)) pa_nil)))) pa_nil)))))
      (C8.pss_cut (ps_if (pt_cmpR op_eq (pe_call GT r1 rfl T.g T.F.kp T.b .nil pass0 (pa_cons (pv 0) (pa_cons pe_int pa_nil))) pe_int (nomark _))
          (pss_one (ps_set (i := 3) scSecond.nd rfl (Or.inr rfl) (pe_lc (own := [("_law_k", 5)]) (g := gName 5) (tt := tYes) (te := tOp (rIxL K) (tVar 3) (tOp (rI0 fun i j => .int (i - j)) (tUn (rU fun i => .int (-i)) (tC (.int 1))) (tVar 5))) rfl scSecond.nd (pi_range1 rfl B.range (pa_cons (pe_callB call_len_seq (by rfl) B.len PySem.boot_len (pa_cons (pv 3) pa_nil)) pa_nil)) (blkOk_by (N := nSecond) (sc := defScope sSecond) (by decide +kernel))
            (fun _ _ _ _ _ => pg_name (i := 5) scSecond.nd rfl (Or.inl rfl)) (fun _ _ _ _ _ => pts_nil) (fun _ _ _ _ _ => pe_ix ix_list (pv 3) (pe_op op_sub (pe_un un_neg pe_int) (pv 5)) (fun _ _ => rfl))))) pss_nil)
      (C8.pss_cut (ps_if (pt_cmpR op_eq (pe_call GT r1 rfl T.g T.F.kp T.b .nil pass0 (pa_cons (pv 0) (pa_cons pe_int pa_nil))) pe_int (nomark _))
          (pss_one (ps_set (i := 3) scSecond.nd rfl (Or.inr rfl) (pe_call GM r1 rfl TM.g TM.F.kp TM.b .nil pass0 (pa_cons (pe_op op_cat (pv 3) (pe_call GD hr rfl TD.g TD.F.kp TD.b .nil pass0 (pa_cons (pv 0) (pa_cons (pv 1) (pa_cons pe_int pa_nil))))) pa_nil)))) pss_nil)
      (pss_one (ps_ret (pv 3))))), ?_⟩
    have lx := tl.len
    refine ⟨_, rfl, l, rfl, ⟨_, SqL.of hl⟩, fun S hS => ?_⟩
    obtain ⟨nSp, nSc⟩ := hP.ne hS
    have nSD : S ≠ D := (ne_of_none hD hS).symm
    refine lc_list (K := K) (a := l) (xs := xs) (fun i H' => Gro p H H' ∧ Pool H' p c ∧ ∃ zs qs, H' S = some (.lst zs) ∧ TripAt H' zs qs ∧ (keysR qs).Sublist (keysR (rs.take i)) ∧ Okr (8 * cap) qs ∧ qs.length ≤ i)
      ⟨.new hS, hP.new hS, [], [], upd_same, True.intro, List.Sublist.refl _, (fun r h => nomatch h), Nat.le_refl _⟩ (fun i H' _ h => SqL.of (h.1 _ _ hl nlp)) ?_ ?_
    · rintro i x H' hi ⟨g1, P1, zs, qs, e1, t1, sb, ok1, l1⟩
      have ht0 : TripAt H' xs rs := tl.keep fun t ws e => gro_tup g1 hP e
      obtain ⟨t, r, rfl, hr', ht⟩ := TripAt.get ht0 hi
      have hrm := hok r (List.mem_of_getElem? hr')
      have ek : keysR (rs.take (i + 1)) = keysR (rs.take i) ++ [r.1] := by rw [takeR hr']; unfold keysR; rw [List.map_append]; rfl
      refine ⟨rfl, _, rfl, p, c, 2, rfl, P1, by decide, by decide, fun v H2 v0 v1 g2 P2 => ⟨rfl, _, rfl, ite2 (fun _ => ?_) (fun _ => ?_)⟩⟩
      · have ht2 := gro_tup g2 P1 ht
        have e2 := g2 _ _ e1 nSp
        have t2 : TripAt H2 zs qs := t1.keep fun t ws e => gro_tup g2 P1 e
        refine ⟨_, rfl, _, rfl, t, _, rfl, SqT.of ht2, ncut2 _ _ _, fun p1 hp1 => ?_⟩
        have s3 := same_new (o := .tup (cutV (tV r) none (some 2))) hp1
        have ep : upd H2 p1 (.tup (cutV (tV r) none (some 2))) p1 = some (.tup [.str r.1.1, .str r.1.2]) := by rw [upd_same]; rfl
        have P3 := P2.new (o := .tup (cutV (tV r) none (some 2))) hp1
        have ht3 := s3 _ _ ht2
        have e3 := s3 _ _ e2
        have t3 := t2.same s3
        generalize upd H2 p1 (.tup (cutV (tV r) none (some 2))) = H3 at s3 ep P3 ht3 e3 t3
        refine ⟨_, rfl, _, rfl, t, _, 2, _, rfl, rfl, SqT.of ht3, at_c (j := 2) rfl rfl, p, c, r.2, rfl, P3, by omega, cap_nb hrm.1 (by have := cap_pos; omega), fun v2 H4 w0 w1 g4 P4 => ⟨_, _, rfl, rfl, (by show 1 ≤ sizeLine; decide), fun o ho => ?_⟩⟩
        have ep4 := gro_tup g4 P3 ep
        have e4 := g4 _ _ e3 nSp
        have t4 : TripAt H4 zs qs := t3.keep fun t ws e => gro_tup g4 P3 e
        have so := same_new (o := .tup [.int (1 + v2)]) ho
        refine ⟨p1, o, _, _, rfl, rfl, SqT.of (so _ _ ep4), SqT.of upd_same, (by show 3 ≤ sizeLine; decide), fun z => (List.cons_ne_nil _ _ z).elim, fun _ z => (List.cons_ne_nil _ _ z).elim, fun _ _ n hn => ?_⟩
        have s5 := so.trans (same_new (o := .tup ([.str r.1.1, .str r.1.2] ++ [.int (1 + v2)])) hn)
        have en : upd (upd H4 o (.tup [.int (1 + v2)])) n (.tup ([.str r.1.1, .str r.1.2] ++ [.int (1 + v2)])) n = some (.tup (tV (r.1, 1 + v2))) := by rw [upd_same]; rfl
        have P5 : Pool (upd (upd H4 o (.tup [.int (1 + v2)])) n (.tup ([.str r.1.1, .str r.1.2] ++ [.int (1 + v2)]))) p c := (P4.new ho).new hn
        generalize upd (upd H4 o (.tup [.int (1 + v2)])) n (.tup ([.str r.1.1, .str r.1.2] ++ [.int (1 + v2)])) = H5 at s5 en P5
        have e5 := s5 _ _ e4
        have t5 := t4.same s5
        have lz := t5.len
        have lR : (rs.take i).length ≤ 8 := by rw [List.length_take]; omega
        have li : i < 8 := by have := (List.getElem?_eq_some_iff.mp hr').1; omega
        refine ⟨zs, e5, small500 (by omega), fun b o' q nb => ?_, P5.off nSp nSc, zs ++ [.ref n], qs ++ [(r.1, 1 + v2)], upd_same, ?_, ?_, ok1.app (Okr.one ⟨by show 1 ≤ 1 + v2; omega, by show 1 + v2 ≤ 8 * cap; omega, hrm.2.2⟩), by rw [List.length_append]; show qs.length + 1 ≤ i + 1; omega⟩
        · rw [upd_ne (ne_of_none q hS)]
          exact s5 _ _ (g4 _ _ (s3 _ _ (g2 _ _ (g1 _ _ q nb) nb)) nb)
        · have nq : ∀ t' ws, H5 t' = some (.tup ws) → upd H5 S (.lst (zs ++ [V.ref n])) t' = some (.tup ws) := fun t' ws et => by rw [upd_ne (ne_of et e5 (fun z => nomatch z))]; exact et
          exact TripAt.snoc (r := (r.1, 1 + v2)) (nq _ _ en) (t5.keep nq)
        · have e6 : keysR (qs ++ [(r.1, 1 + v2)]) = keysR qs ++ [r.1] := by unfold keysR; rw [List.map_append]; rfl
          rw [ek, e6]
          exact List.Sublist.append sb (List.Sublist.refl _)
      · refine ⟨g1.trans g2, P2, zs, qs, g2 _ _ e1 nSp, t1.keep fun t ws e => gro_tup g2 P1 e, ?_, ok1, by omega⟩
        rw [ek]
        exact sb.trans (List.sublist_append_left _ _)
    rintro H1 ⟨g1, P1, zs, qs, e1, t1, sb, ok1, l1⟩
    rw [lx, List.take_length] at sb
    have S1 : SecAt H H1 p c D ns S (8 * cap) 8 zs qs := ⟨g1, P1, g1 _ _ hD nDp, hS, nSp, nSc, e1, t1, List.Nodup.sublist sb hnd, ok1, by omega⟩
    clear e1 t1 sb ok1 l1 g1 P1
    -- turned round
    refine ⟨fun σ H' => ∃ L zs qs, SecAt H H' p c D ns L (8 * cap) 8 zs qs ∧ σ = [some (.ref p), some (.ref D), some (.ref l), some (.ref L), none, none], ?_, ?_⟩
    · refine ⟨_, rfl, p, c, 2, rfl, S1.pool, by decide, by decide, fun v H2 _ _ g2 P2 => ⟨rfl, _, rfl, ite2 (fun _ => ?_) (fun _ => ?_)⟩⟩
      · have S2 := S1.draw g2 P2 nDp
        have lz := S2.trip.len
        have l8 := S2.len
        refine ⟨_, rfl, S, _, rfl, .inl (SqL.of S2.at_), _, rfl, by omega, by omega, fun L hL => ?_⟩
        obtain ⟨nLp, nLc⟩ := S2.pool.ne hL
        refine lc_range (lo := 0) (n := ((zs.length : Nat) : Int).toNat) (fun i H' => Same H2 H' ∧ ∃ ys, H' L = some (.lst ys) ∧ TripAt H' ys (qs.reverse.take i))
          ⟨same_new hL, [], upd_same, True.intro⟩ ?_ ?_
        · rintro i H' hi ⟨s3, ys, e3, t3⟩
          obtain ⟨t, r, hat, hr', ht⟩ := (S2.trip.same s3).mem (i := i) (by omega)
          have l3 := t3.len
          rw [List.length_take] at l3
          refine ⟨rfl, _, rfl, _, rfl, _, rfl, _, _, rfl, rfl, S, _, _, .ref t, rfl, rfl, SqL.of (s3 _ _ S2.at_), hat, ys, e3, small500 (by omega), fun b o q => ?_, ys ++ [.ref t], upd_same, ?_⟩
          · rw [upd_ne (ne_of_none q hL)]
            exact s3 _ _ q
          · rw [takeR hr']
            have nq : ∀ t' ws, H' t' = some (.tup ws) → upd H' L (.lst (ys ++ [V.ref t])) t' = some (.tup ws) := fun t' ws et => by rw [upd_ne (ne_of et e3 (fun z => nomatch z))]; exact et
            exact TripAt.snoc (nq _ _ ht) (t3.keep nq)
        · rintro H3 ⟨s3, ys, e3, t3⟩
          have el : ((zs.length : Nat) : Int).toNat = qs.reverse.length := by rw [List.length_reverse]; omega
          rw [el, List.take_length] at t3
          exact ⟨L, ys, qs.reverse, ⟨S2.gro.trans (.of_same s3), S2.pool.keep (fun o e => s3 _ _ e) (fun o e => s3 _ _ e), s3 _ _ S2.nm, S2.gro.free hL nLp, nLp, nLc, e3, t3, nd_rev S2.nd, S2.ok.rev, by rw [List.length_reverse]; exact S2.len⟩, rfl⟩
      · exact ⟨S, zs, qs, S1.draw g2 P2 nDp, rfl⟩
    clear S1
    rintro σ H1 ⟨L, zs, qs, S1, rfl⟩
    -- some more
    refine ⟨fun σ H' => ∃ L zs qs, SecAt H H' p c D ns L (100 * cap) 12 zs qs ∧ σ = [some (.ref p), some (.ref D), some (.ref l), some (.ref L), none, none], ?_, ?_⟩
    · refine ⟨_, rfl, p, c, 2, rfl, S1.pool, by decide, by decide, fun v H2 _ _ g2 P2 => ⟨rfl, _, rfl, ite2 (fun _ => ?_) (fun _ => ?_)⟩⟩
      · have S2 := S1.draw g2 P2 nDp
        refine ⟨_, rfl, _, rfl, _, rfl, p, c, D, 4, ns, rfl, S2.pool, S2.nm, nDp, hn0, hn1, hnt, by decide, fun q2 zs2 qs2 H3 g3 P3 nq2 nqp nqc eq2 tq2 lq2 okq2 => ?_⟩
        have S3 := S2.draw g3 P3 nDp
        have lz := S3.trip.len
        have lz2 := tq2.len
        have l8 := S3.len
        refine ⟨L, q2, _, _, rfl, rfl, S3.at_, eq2, Nat.le_of_lt (small500 (by omega)), fun cl hcl => ?_⟩
        have s4 := same_new (o := .lst (zs ++ zs2)) hcl
        refine ⟨cl, qs ++ qs2, rfl, ⟨_, SqL.of upd_same, (S3.trip.app tq2).same s4⟩, by rw [List.length_append]; omega, fun q ys H5 s5 nq eq tq => ?_⟩
        have s5 := s4.trans s5
        have nq := s4.free nq
        obtain ⟨nq1, nq3⟩ := S3.pool.ne nq
        have l12 : (qs ++ qs2).length ≤ 12 := by rw [List.length_append]; omega
        have cp := cap_pos
        have okm := mergeR_ok (S3.ok.app (okq2.mono (by omega))) (by omega)
        refine ⟨q, ys, mergeR (qs ++ qs2), ⟨S3.gro.trans (.of_same s5), S3.pool.keep (fun o e => s5 _ _ e) (fun o e => s5 _ _ e), s5 _ _ S3.nm, S3.gro.free nq nq1, nq1, nq3, eq, tq, mergeR_nd _, okm.mono ?_, Nat.le_trans (mergeR_len _) l12⟩, rfl⟩
        have h1 : (((qs ++ qs2).length : Nat) : Int) * (8 * cap) ≤ 12 * (8 * cap) := Int.mul_le_mul_of_nonneg_right (by omega) (by omega)
        omega
      · have S2 := S1.draw g2 P2 nDp
        have cp := cap_pos
        exact ⟨L, zs, qs, ⟨S2.gro, S2.pool, S2.nm, S2.new, S2.np, S2.nc, S2.at_, S2.trip, S2.nd, S2.ok.mono (by omega), Nat.le_trans S2.len (by decide)⟩, rfl⟩
    clear S1
    rintro σ H1 ⟨L, zs, qs, S1, rfl⟩
    exact ⟨_, rfl, k L zs qs H1 S1.gro S1.pool S1.new S1.np S1.nc S1.at_ S1.trip S1.nd S1.ok S1.len⟩
end
end Yd
namespace Yd
open PySem L2
/-! ### what the operators come to -/
theorem keysR_mem {rs : List R3} {p : Pr} : p ∈ keysR rs ↔ ∃ r ∈ rs, r.1 = p := by unfold keysR; exact List.mem_map
theorem keysR_app (a b : List R3) : keysR (a ++ b) = keysR a ++ keysR b := by unfold keysR; exact List.map_append
theorem fold_form : ∀ (S F : List R3), (keysR S).Nodup → S.foldl addR F = (F.map fun r => (r.1, r.2 + cntR S r.1)) ++ S.filter fun q => decide (q.1 ∉ keysR F)
  | [], F, _ => by
    have e : (F.map fun r => (r.1, r.2 + cntR [] r.1)) = F := by
      have : (fun r : R3 => (r.1, r.2 + cntR [] r.1)) = id := by funext r; show (r.1, r.2 + 0) = r; rw [Int.add_zero]
      rw [this, List.map_id]
    rw [e]
    simp
  | s :: S, F, nd => by
    have nd2 : s.1 ∉ keysR S ∧ (keysR S).Nodup := List.nodup_cons.mp nd
    have c0 := cntR_out nd2.1
    have cs : ∀ p, cntR (s :: S) p = if s.1 = p then s.2 else cntR S p := fun p => rfl
    rw [List.foldl_cons, fold_form S (addR F s) nd2.2]
    by_cases m : s.1 ∈ keysR F
    · have ek : keysR (addR F s) = keysR F := by rw [addR_keys]; unfold addP; rw [if_pos m]
      rw [ek, addR_in m, List.map_map, List.filter_cons_of_neg (by simpa using m)]
      congr 1
      refine List.map_congr_left fun r _ => ?_
      show ((if r.1 = s.1 then (r.1, r.2 + s.2) else r).1, (if r.1 = s.1 then (r.1, r.2 + s.2) else r).2 + cntR S (if r.1 = s.1 then (r.1, r.2 + s.2) else r).1) = (r.1, r.2 + cntR (s :: S) r.1)
      rw [cs]
      by_cases e : r.1 = s.1
      · rw [if_pos e, if_pos e.symm]
        show (r.1, r.2 + s.2 + cntR S r.1) = (r.1, r.2 + s.2)
        rw [e, c0, Int.add_zero]
      · rw [if_neg e, if_neg (fun z => e z.symm)]
    · have ek : keysR (addR F s) = keysR F ++ [s.1] := by rw [addR_keys]; unfold addP; rw [if_neg m]
      rw [ek, addR_out m, List.map_append, List.filter_cons_of_pos (by simpa using m), List.append_assoc]
      congr 1
      · refine List.map_congr_left fun r hr => ?_
        rw [cs, if_neg (fun z => m (by rw [z]; exact keysR_mem.mpr ⟨r, hr, rfl⟩))]
      · have e1 : ([s].map fun r => (r.1, r.2 + cntR S r.1)) = [s] := by
          show [(s.1, s.2 + cntR S s.1)] = [s]
          rw [c0, Int.add_zero]
        rw [e1]
        refine congrArg (List.cons s) (List.filter_congr fun q hq => ?_)
        have ne : q.1 ≠ s.1 := fun z => nd2.1 (by rw [← z]; exact keysR_mem.mpr ⟨q, hq, rfl⟩)
        simp [ne]
theorem merge_form {F S : List R3} (nF : (keysR F).Nodup) (nS : (keysR S).Nodup) : mergeR (F ++ S) = (F.map fun r => (r.1, r.2 + cntR S r.1)) ++ S.filter fun q => decide (q.1 ∉ keysR F) := by
  have e : mergeR (F ++ S) = S.foldl addR (mergeR F) := by unfold mergeR; rw [List.foldl_append]
  rw [e, mergeR_id nF]
  exact fold_form S F nS
theorem lack_merge {F S : List R3} (nF : (keysR F).Nodup) (nS : (keysR S).Nodup) (gF : ∀ r ∈ F, 1 ≤ r.2) : lackR (mergeR (F ++ S)) S = none := by
  refine lackR_none fun j q hj hq => ?_
  have hm := List.mem_of_getElem? hq
  have cq : cntR S q.1 = q.2 := cntR_in nS hm
  have nM := mergeR_nd (F ++ S)
  by_cases m : q.1 ∈ keysR F
  · obtain ⟨r, hr, er⟩ := keysR_mem.mp m
    have hM : (r.1, r.2 + cntR S r.1) ∈ mergeR (F ++ S) := by
      rw [merge_form nF nS]
      exact List.mem_append_left _ (List.mem_map.mpr ⟨r, hr, rfl⟩)
    have c := cntR_in nM hM
    have g := gF r hr
    have c : cntR (mergeR (F ++ S)) r.1 = r.2 + cntR S r.1 := c
    rw [er] at c
    omega
  · have hM : q ∈ mergeR (F ++ S) := by
      rw [merge_form nF nS]
      exact List.mem_append_right _ (List.mem_filter.mpr ⟨hm, by simpa using m⟩)
    have c := cntR_in nM hM
    omega
theorem less_merge {F S : List R3} (nF : (keysR F).Nodup) (nS : (keysR S).Nodup) (gF : ∀ r ∈ F, 1 ≤ r.2) : lessR (mergeR (F ++ S)) S = F := by
  unfold lessR
  rw [merge_form nF nS, List.map_append, List.filter_append, List.map_map]
  have e1 : (F.map ((fun r : R3 => (r.1, r.2 - cntR S r.1)) ∘ fun r => (r.1, r.2 + cntR S r.1))) = F := by
    have : F.map ((fun r : R3 => (r.1, r.2 - cntR S r.1)) ∘ fun r => (r.1, r.2 + cntR S r.1)) = F.map id := by
      refine List.map_congr_left fun r _ => ?_
      show (r.1, r.2 + cntR S r.1 - cntR S r.1) = r
      rw [Int.add_sub_cancel]
    rw [this, List.map_id]
  have e2 : (F.filter fun r => decide (r.2 > 0)) = F := List.filter_eq_self.mpr fun r hr => decide_eq_true (by have := gF r hr; omega)
  have e3 : (((S.filter fun q => decide (q.1 ∉ keysR F)).map fun r => (r.1, r.2 - cntR S r.1)).filter fun r => decide (r.2 > 0)) = [] := by
    rw [List.filter_eq_nil_iff]
    intro r hr
    obtain ⟨q, hq, e⟩ := List.mem_map.mp hr
    have cq := cntR_in nS (List.mem_filter.mp hq).1
    rw [← e]
    simp
    omega
  rw [e1, e2, e3, List.append_nil]
theorem lack_self {F : List R3} (nF : (keysR F).Nodup) : lackR F F = none := lackR_none fun j q _ hq => by rw [cntR_in nF (List.mem_of_getElem? hq)]; exact Int.le_refl _
theorem less_self {F : List R3} (nF : (keysR F).Nodup) : lessR F F = [] := by
  unfold lessR
  rw [List.filter_eq_nil_iff]
  intro r hr
  obtain ⟨q, hq, e⟩ := List.mem_map.mp hr
  have cq := cntR_in nF hq
  rw [← e]
  simp
  omega
theorem le_lack (F S : List R3) : leR F S = (lackR S F).isNone := by
  unfold leR lackR
  rw [Bool.eq_iff_iff, Option.isNone_map]
  simp only [List.all_eq_true, decide_eq_true_eq, Option.isNone_iff_eq_none, List.find?_eq_none]
  exact ⟨fun h q hq => by have := h q hq; omega, fun h q hq => by have := h q hq; omega⟩
theorem eq_mem {F S : List R3} (nS : (keysR S).Nodup) : eqR F S = decide ((F.filter fun r => decide (r ∈ S)).length = F.length) := by
  have key : ∀ r : R3, (r.1 ∈ keysR S ∧ r.2 = cntR S r.1) ↔ r ∈ S := fun r => ⟨fun ⟨m, e⟩ => by
    obtain ⟨q, hq, eq⟩ := keysR_mem.mp m
    have c := cntR_in nS hq
    have : r = q := Prod.ext eq.symm (by rw [e, ← eq, c])
    rw [this]
    exact hq, fun h => ⟨keysR_mem.mpr ⟨r, h, rfl⟩, (cntR_in nS h).symm⟩⟩
  unfold eqR
  rw [Bool.eq_iff_iff]
  simp only [List.all_eq_true, decide_eq_true_eq]
  rw [List.length_filter_eq_length_iff]
  simp only [decide_eq_true_eq]
  exact ⟨fun h r hr => (key r).mp (h r hr), fun h r hr => (key r).mpr (h r hr)⟩
theorem eq_rev {F : List R3} (nF : (keysR F).Nodup) : eqR F F.reverse = true := by
  rw [eq_mem (nd_rev nF)]
  refine decide_eq_true ?_
  rw [List.length_filter_eq_length_iff]
  intro r hr
  exact decide_eq_true (List.mem_reverse.mpr hr)
theorem any_toT (r : R3) : ∀ S : List R3, ((S.map toT).any fun z => PyData.eqv z (toT r)) = decide (r ∈ S)
  | [] => by simp
  | q :: S => by
    rw [List.map_cons, List.any_cons, any_toT r S, toT_eqv, ← Bool.decide_or]
    refine decide_eq_decide.mpr ?_
    rw [List.mem_cons]
    exact ⟨fun h => h.imp Eq.symm id, fun h => h.imp Eq.symm id⟩
section
variable {X : Cx}
/-- x in l, of plain data -/
def rInP (K : PySem.W.Frag) : R2 := fun x y H Q => ∃ (d : PyData) (ds : List PyData), Dp K H x d ∧ Dp K H y (.list ds) ∧ PyData.plainAll ds = true ∧ d.plain = true ∧ d.depth ≤ 50 ∧ Q (.bl (ds.any fun z => PyData.eqv z d)) H
theorem op_inP (hu : X.A.units + 65 < cLine) : OpR X (compareOp .In) (rInP X.K) := by
  intro pins s σ H x y v u Q I rx ry h
  obtain ⟨d, ds, h1, h2, pl, pd, dd, q⟩ := h
  obtain ⟨_, r1⟩ := Dp.reads I _ x v h1 rx
  obtain ⟨_, r2⟩ := Dp.reads I _ y u h2 ry
  exact SeqAt.in_list_data r2 r1 pl pd (by omega) ⟨.bl _, H, I, rfl, q⟩
end
end Yd
namespace Yd
open PySem L2
/-! ### the helpers of the law of lots in place -/
def spCut (K : PySem.W.Frag) (C : Addr) : Sp := fun vs H Q _ => ∃ (a b d1 d2 : Addr) (xs ys : List V) (rs qs : List R3), vs = [.ref a, .ref b] ∧ LotAt H C a d1 xs rs ∧ LotAt H C b d2 ys qs ∧ rs.length ≤ 250 ∧ qs.length ≤ 250 ∧ TxtR qs ∧
  (lackR rs qs = none → ∀ d' zs H', Gro a H H' → H d' = none → LotAt H' C a d' zs (lessR rs qs) → Q .non H') ∧
  (∀ od p, lackR rs qs = some p → ∀ q H', Same (upd H d2 (.frz od (.dT (rD qs ys)))) H' → H' q = some (.tup [.str "lacking", .str p.1, .str p.2]) → Q (.ref q) H')
def spRaised (K : PySem.W.Frag) (C : Addr) : Sp := fun vs H Q _ => ∃ (a t d1 : Addr) (xs : List V) (rs : List R3) (r : R3), vs = [.ref a, .ref t] ∧ LotAt H C a d1 xs rs ∧ rs.length ≤ 200 ∧ (∀ r ∈ rs, 1 ≤ r.2) ∧ H t = some (.tup (tV r)) ∧ 1 ≤ r.2 ∧ ∀ H', Gro a H H' → Q (.int (cntR (mergeR (rs ++ [r])) r.1)) H'
section
variable {P : Program} {w : World} {K : PySem.W.Frag} {mg : Str → Option Value} {base : Heap}
theorem scCut : FnScope ["_law_lot", "_law_other", "e"] ["_law_lot", "_law_other"] (defScope sCut) := ⟨rfl, rfl, rfl, by decide +kernel, rfl, by decide +kernel, by decide +kernel⟩
theorem ok_cut {f fS C CL : Addr} {fd fdS : FuncData} (F : Fun K "_law_cut" "_law_cut" sCut f fd) (sf : PySem.W.selfFirst K C = true) (cS : OpC K C (PySem.dunderI (Operator.Sub).info.2) fS) (GS : FnOk P w K mg base (L2.CX P w) 7 fS fdS ["self", "other"] (spLIsub K C CL)) (bS : Binds K fdS ["self", "other"] [])
    (gL : mg "Lacking" = some (.ref CL)) (T : CatchC K CL) (n0 : PySem.W.findIn K (.ref CL) "kind" = some none) (n1 : PySem.W.findIn K (.ref CL) "standing" = some none) : FnOk P w K mg base CX0 8 f fd ["_law_lot", "_law_other"] (spCut K C) := by
  refine F.ok scCut (fun vs H Q E h => ?_) (fun cdv A outer s H vs Q E hr h => ?_)
  · obtain ⟨a, b, d1, d2, xs, ys, rs, qs, rfl, _⟩ := h
    rfl
  · obtain ⟨a, b, d1, d2, xs, ys, rs, qs, rfl, h1, h2, hl, hl2, tx, k1, k2⟩ := h
    obtain ⟨dx, ea⟩ := h1.ins
    obtain ⟨dy, eb⟩ := h2.ins
    refine ⟨_, pss_cons (ps_try_as (i := 2) (tb := fun W => tAugO 0 (tVar 1) (fun σ => rOwnIp C (spLIsub K C CL) (WE W σ))) (ts := fun a cls d => tRet (tTup (tCons (tC (.str "lacking")) (tCons (tXf a cls d CL "kind" (tVar 2)) (tCons (tXf a cls d CL "standing" (tVar 2)) tNil)))))
        (Wout := fun _ _ _ _ => False) rfl rfl scCut.nd rfl rfl ⟨rfl, by decide, Or.inl gL⟩ takes0
        (fun W pn xe tk _ => pss_one (by exact (ps_augO (i := 0) scCut.nd rfl (Or.inl rfl) (pv 1) (op_iownS (op := .Sub) sf cS GS hr bS (fun σ => passAt tk σ)))))
        (fun a oe cls d pn hz hf => pss_one (ps_ret (pe_tup (by exact (pa_cons pe_str (pa_cons (pe_xf T.xf n0 hz hf (pv 2)) (pa_cons (pe_xf T.xf n1 hz hf (pv 2)) pa_nil))))))))
      (pss_one (ps_ret pe_non)), ?_⟩
    refine ⟨_, rfl, _, rfl, a, b, dx, dy, _, _, rfl, rfl, ea, eb, a, b, d1, d2, xs, ys, rs, qs, rfl, h1, h2, hl, hl2, tx, fun hn d' zs H' g nd h' => ⟨_, rfl, k1 hn d' zs H' g nd h'⟩, fun od p hp d H' s5 hd hx => ?_⟩
    refine ⟨true, T.self, fun _ a0 _ => ?_, fun q => Bool.noConfusion q⟩
    refine ⟨_, rfl, rfl, rfl, d, _, _, rfl, hx, rfl, _, rfl, rfl, rfl, d, _, _, rfl, hx, rfl, (by show 3 ≤ sizeLine; decide), fun t ht => ?_⟩
    exact k2 od p hp t _ (s5.trans (same_new ht)) upd_same
theorem scRaised : FnScope ["_law_lot", "_law_row"] ["_law_lot", "_law_row"] (defScope sRaised) := ⟨rfl, rfl, rfl, by decide +kernel, rfl, by decide +kernel, by decide +kernel⟩
theorem ok_raised {f fA C CB CH : Addr} {fd fdA : FuncData} (F : Fun K "_law_raised" "_law_raised" sRaised f fd) (c : LotC P w K mg base C CB CH) (sf : PySem.W.selfFirst K C = true) (cA : OpC K C (PySem.dunderI (Operator.Add).info.2) fA) (GA : FnOk P w K mg base CX0 7 fA fdA ["self", "other"] (spLIadd K C)) (bA : Binds K fdA ["self", "other"] []) :
    FnOk P w K mg base CX0 8 f fd ["_law_lot", "_law_row"] (spRaised K C) := by
  obtain ⟨fn, fdn, e0, ee, M, GN, bN, _, _, _⟩ := c.ini
  obtain ⟨fg, fdg, cg, GG, bG⟩ := c.get
  refine F.ok scRaised (fun vs H Q E h => ?_) (fun cdv A outer s H vs Q E hr h => ?_)
  · obtain ⟨a, t, d1, xs, rs, r, rfl, _⟩ := h
    rfl
  · obtain ⟨a, t, d1, xs, rs, r, rfl, h1, hl, g, ht, hr1, k⟩ := h
    have r5 : Room 5 _ := hr.mono (by decide)
    have r2 : Room 2 _ := hr.mono (by decide)
    refine ⟨_, pss_cons (ps_augO (i := 0) scRaised.nd rfl (Or.inl rfl) (pe_make (E := fun _ _ _ => False) M GN r5 (by rfl) c.g bN .nil passF (pa_cons (pe_lst (pa_cons (pv 1) pa_nil)) pa_nil)) (op_iownS (op := .Add) (E := fun _ _ _ _ => False) sf cA GA hr bA (at_all pass0)))
      (pss_one (ps_ret (pe_subO (E := fun _ _ _ _ => False) (pv 0) (pe_tup (pa_cons (pe_ix ix_tup (pv 1) pe_int (fun _ _ => rfl)) (pa_cons (pe_ix ix_tup (pv 1) pe_int (fun _ _ => rfl)) pa_nil))) cg GG r2 bG (at_all pass0)))), ?_⟩
    refine ⟨_, rfl, _, rfl, (by show 1 ≤ sizeLine; decide), fun l hl2 => ?_⟩
    have s1 := same_new (o := .lst [.ref t]) hl2
    refine fun x dx nx ndx nex => lot_new c.h (rows := [r]) rfl ⟨[.ref t], ⟨⟨t, rfl, s1 _ _ ht⟩, True.intro⟩, .inl (SqL.of upd_same)⟩ (by show 1 ≤ 1000; decide) (fun q hq => by rw [List.mem_singleton.mp hq]; exact hr1) nx ndx nex fun d' zs H' s2 nd h2 => ?_
    have s3 := s1.trans s2
    have h1' := h1.keep s3
    obtain ⟨da, ea⟩ := h1'.ins
    obtain ⟨db, eb⟩ := h2.ins
    have ndd : d1 ≠ d' := ne_of_none (s1 _ _ h1.dict) nd
    refine ⟨a, x, da, db, _, _, rfl, rfl, ea, eb, a, x, d1, d', xs, zs, rs, [r], rfl, h1', h2, ndd, by omega, (by show 1 ≤ 250; decide), g, (fun q hq => by rw [List.mem_singleton.mp hq]; exact hr1), fun d3 ws H3 g3 nd3 h3 => ⟨_, rfl, ?_⟩⟩
    have nta : t ≠ a := ne_of (s3 _ _ ht) ea (fun z => nomatch z)
    have ht3 := g3 _ _ (s3 _ _ ht) nta
    refine ⟨_, rfl, _, rfl, t, _, 0, _, rfl, rfl, SqT.of ht3, at_c (j := 0) rfl rfl, _, rfl, t, _, 1, _, rfl, rfl, SqT.of ht3, at_c (j := 1) rfl rfl, (by show 2 ≤ sizeLine; decide), fun u hu => ?_⟩
    have h4 := h3.keep (same_new (o := .tup [.str r.1.1, .str r.1.2]) hu)
    obtain ⟨dc, ec⟩ := h4.ins
    exact ⟨a, dc, _, rfl, ec, a, C, dc, d3, u, mergeR (rs ++ [r]), ws, r.1, rfl, ec, c.h, .inl h4.dict, h4.trip, upd_same, k _ ((Gro.of_same s3).trans (g3.trans (.of_same (same_new hu))))⟩
end
end Yd
namespace Yd
open PySem L2
/-! ### the law of lots in place -/
structure LotO (P : Program) (w : World) (K : PySem.W.Frag) (mg : Str → Option Value) (base : Heap) (C CB CH CLk : Addr) : Prop where
  c : LotC P w K mg base C CB CH
  sf : PySem.W.selfFirst K C = true
  add : ∃ f fd, OpC K C (PySem.dunder (Operator.Add).info.2) f ∧ FnOk P w K mg base CX0 6 f fd ["self", "other"] (spLAdd K C) ∧ Binds K fd ["self", "other"] []
  sub : ∃ f fd, OpC K C (PySem.dunder (Operator.Sub).info.2) f ∧ FnOk P w K mg base (L2.CX P w) 6 f fd ["self", "other"] (spLSub K C CLk) ∧ Binds K fd ["self", "other"] []
  iadd : ∃ f fd, OpC K C (PySem.dunderI (Operator.Add).info.2) f ∧ FnOk P w K mg base CX0 7 f fd ["self", "other"] (spLIadd K C) ∧ Binds K fd ["self", "other"] []
  isub : ∃ f fd, OpC K C (PySem.dunderI (Operator.Sub).info.2) f ∧ FnOk P w K mg base (L2.CX P w) 7 f fd ["self", "other"] (spLIsub K C CLk) ∧ Binds K fd ["self", "other"] []
  mul : ∃ fM fR dM dR, MulC K C fM fR ∧ FnOk P w K mg base (L2.CX P w) 6 fM dM ["self", "other"] (spLMul K C CB) ∧ Binds K dM ["self", "other"] [] ∧ FnOk P w K mg base (L2.CX P w) 7 fR dR ["self", "other"] (spLMul K C CB) ∧ Binds K dR ["self", "other"] []
theorem gro_ins {H H' : Hp} {x C dx b : Addr} {fs : List (Str × V)} {o : HO} (g : Gro x H H') (e : H x = some (.ins C dx fs)) (hb : H b = some o) (no : ∀ C dx fs, o ≠ .ins C dx fs) : H' b = some o := g _ _ hb (fun z => by rw [z, e] at hb; cases hb; exact no _ _ _ rfl)
theorem TripAt.groI {H H' : Hp} {x C dx : Addr} {fs : List (Str × V)} {xs : List V} {rs : List R3} (h : TripAt H xs rs) (g : Gro x H H') (e : H x = some (.ins C dx fs)) : TripAt H' xs rs := h.keep fun t ws et => gro_ins g e et (fun _ _ _ z => nomatch z)
theorem LotAt.groI {H H' : Hp} {x C C' dx a d : Addr} {fs : List (Str × V)} {xs : List V} {rs : List R3} (h : LotAt H C' a d xs rs) (g : Gro x H H') (e : H x = some (.ins C dx fs)) (n : a ≠ x) : LotAt H' C' a d xs rs :=
  ⟨let ⟨dx, i⟩ := h.ins; ⟨dx, g _ _ i n⟩, gro_ins g e h.dict (fun _ _ _ z => nomatch z), h.trip.groI g e, h.nd⟩
/-- what stands -/
structure LawM (H : Hp) (C D l m x d x2 d2 x0 d0 : Addr) (ns : List Str) (ls ms xs ys zs : List V) (O rs qs : List R3) : Prop where
  n : H D = some (.lst (ns.map V.str))
  f : H l = some (.lst ls)
  ft : TripAt H ls rs
  s : H m = some (.lst ms)
  st : TripAt H ms qs
  one : LotAt H C x d xs O
  two : LotAt H C x2 d2 ys qs
  bes : LotAt H C x0 d0 zs rs
theorem LawM.keep {H H' : Hp} {C D l m x d x2 d2 x0 d0 : Addr} {ns : List Str} {ls ms xs ys zs : List V} {O rs qs : List R3} (h : LawM H C D l m x d x2 d2 x0 d0 ns ls ms xs ys zs O rs qs) (s : Same H H') : LawM H' C D l m x d x2 d2 x0 d0 ns ls ms xs ys zs O rs qs :=
  ⟨s _ _ h.n, s _ _ h.f, h.ft.same s, s _ _ h.s, h.st.same s, h.one.keep s, h.two.keep s, h.bes.keep s⟩
theorem LawM.moved {H H' : Hp} {C D l m x d x2 d2 x0 d0 d' : Addr} {ns : List Str} {ls ms xs ys zs xs' : List V} {O rs qs O' : List R3} (h : LawM H C D l m x d x2 d2 x0 d0 ns ls ms xs ys zs O rs qs) (g : Gro x H H') (n2 : x2 ≠ x) (n0 : x0 ≠ x) (h' : LotAt H' C x d' xs' O') : LawM H' C D l m x d' x2 d2 x0 d0 ns ls ms xs' ys zs O' rs qs := by
  obtain ⟨dx, e⟩ := h.one.ins
  exact ⟨gro_ins g e h.n (fun _ _ _ z => nomatch z), gro_ins g e h.f (fun _ _ _ z => nomatch z), h.ft.groI g e, gro_ins g e h.s (fun _ _ _ z => nomatch z), h.st.groI g e, h', h.two.groI g e n2, h.bes.groI g e n0⟩
theorem less_nil {F : List R3} (g : ∀ r ∈ F, 1 ≤ r.2) : lessR F [] = F := by
  unfold lessR
  have e : (F.map fun r => (r.1, r.2 - cntR [] r.1)) = F := by
    have : (fun r : R3 => (r.1, r.2 - cntR [] r.1)) = id := by funext r; show (r.1, r.2 - 0) = r; rw [Int.sub_zero]
    rw [this, List.map_id]
  rw [e]
  exact List.filter_eq_self.mpr fun r hr => decide_eq_true (by have := g r hr; omega)
theorem mul_one1 (F : List R3) : mulR F 1 = F := by
  unfold mulR
  rw [if_pos (by decide)]
  have : (fun r : R3 => (r.1, r.2 * 1)) = id := by funext r; show (r.1, r.2 * 1) = r; rw [Int.mul_one]
  rw [this, List.map_id]
theorem cnt_raise {F : List R3} {r : R3} (nF : (keysR F).Nodup) : cntR (mergeR (F ++ [r])) r.1 = cntR F r.1 + r.2 := by
  have nS : (keysR [r]).Nodup := List.nodup_cons.mpr ⟨List.not_mem_nil, List.nodup_nil⟩
  have nM := mergeR_nd (F ++ [r])
  have cr : cntR [r] r.1 = r.2 := if_pos rfl
  by_cases m : r.1 ∈ keysR F
  · obtain ⟨q, hq, e⟩ := keysR_mem.mp m
    have hM : (q.1, q.2 + cntR [r] q.1) ∈ mergeR (F ++ [r]) := by
      rw [merge_form nF nS]
      exact List.mem_append_left _ (List.mem_map.mpr ⟨q, hq, rfl⟩)
    have c : cntR (mergeR (F ++ [r])) q.1 = q.2 + cntR [r] q.1 := cntR_in nM hM
    have cq := cntR_in nF hq
    rw [e] at c cq
    rw [c, cq, cr]
  · have hM : r ∈ mergeR (F ++ [r]) := by
      rw [merge_form nF nS]
      exact List.mem_append_right _ (List.mem_filter.mpr ⟨List.mem_cons_self .., by simpa using m⟩)
    rw [cntR_in nM hM, cntR_out m, Int.zero_add]
def spLaw (K : PySem.W.Frag) : Sp := fun vs H Q _ => ∃ (a : Addr) (ns : List Int), vs = [.ref a] ∧ SqL K H a (ns.map V.int) ∧ ns.length ≤ 63 ∧ ∀ H', Q (.bl true) H'
def nLaw : List Str := ["_law_script", "_law_pool_here", "_law_base_here", "_law_names", "_law_first", "_law_second_here", "_law_beside", "_law_one", "_law_two", "_law_again", "_law_due", "_law_told", "_law_total", "_law_row", "_law_lot", "_law_k"]
theorem scLaw : FnScope nLaw ["_law_script"] (defScope sLaw) := ⟨rfl, rfl, rfl, by decide +kernel, rfl, by decide +kernel, by decide +kernel⟩
section
variable {P : Program} {w : World} {K : PySem.W.Frag} {mg : Str → Option Value} {base : Heap}
theorem ok_law {f fPo fTa fB fNa fI fL fCo fMe fDr fLs fS2 fCt fRa C CB CH CLk : Addr} {fd dP dT dB dN dI dL dCo dMe dDr dLs dS2 dCt dRa : FuncData} (F : Fun K "law" "law" sLaw f fd) (B : Blt mg) (hT : mg "tuple" = none) (hI : mg "isinstance" = none) (hB : mg "bool" = none) (hS : mg "sum" = none)
    (TP : Fn K mg "_law_pool" sPool ["_law_script"] fPo dP) (TT : Fn K mg "_law_take" sTake ["_law_pool_here", "_law_size"] fTa dT) (TB : Fn K mg "_law_base" sBase ["_law_pool_here"] fB dB)
    (TN : Fn K mg "_law_name" sName ["_law_pool_here", "_law_base_here", "_law_k"] fNa dN) (TI : Fn K mg "_law_is_int" sIsInt ["_law_actual"] fI dI)
    (TL : Fn K mg "_law_is_lot" sIsLot ["_law_lot", "_law_rows"] fL dL) (TC : Fn K mg "_law_count" sCount ["_law_rows", "_law_spot"] fCo dCo)
    (TM : Fn K mg "_law_merged" sMerged ["_law_rows"] fMe dMe) (TD : Fn K mg "_law_drawn_rows" sDrawnRows ["_law_pool_here", "_law_names", "_law_most"] fDr dDr)
    (TLs : Fn K mg "_law_less" sLess ["_law_rows", "_law_others"] fLs dLs) (TS2 : Fn K mg "_law_second" sSecond ["_law_pool_here", "_law_names", "_law_first"] fS2 dS2) (TCt : Fn K mg "_law_cut" sCut ["_law_lot", "_law_other"] fCt dCt) (TRa : Fn K mg "_law_raised" sRaised ["_law_lot", "_law_row"] fRa dRa)
    (o : LotO P w K mg base C CB CH CLk) (GCt : FnOk P w K mg base CX0 8 fCt dCt ["_law_lot", "_law_other"] (spCut K C)) (GRa : FnOk P w K mg base CX0 8 fRa dRa ["_law_lot", "_law_row"] (spRaised K C)) : FnOk P w K mg base CX0 9 f fd ["_law_script"] (spLaw K) := by
  have c := o.c
  have GP : FnOk P w K mg base CX0 1 fPo dP ["_law_script"] (spPool K) := ok_pool TP.F B
  have GT : FnOk P w K mg base CX0 1 fTa dT ["_law_pool_here", "_law_size"] spTake := ok_take TT.F B
  have GB : FnOk P w K mg base CX0 2 fB dB ["_law_pool_here"] (spBase 12) := ok_base TB.F B TT
  have GNm : FnOk P w K mg base CX0 2 fNa dN ["_law_pool_here", "_law_base_here", "_law_k"] spName := ok_name TN.F B TT
  have GL : FnOk P w K mg base CX0 3 fL dL ["_law_lot", "_law_rows"] (spIsLot K C) := ok_isLot TL.F B c hI hB hS TI
  have GM : FnOk P w K mg base CX0 1 fMe dMe ["_law_rows"] (spMerged K) := ok_merged TM.F
  have GCo : FnOk P w K mg base CX0 1 fCo dCo ["_law_rows", "_law_spot"] (spCount K) := ok_count TC.F
  have GD : FnOk P w K mg base CX0 2 fDr dDr ["_law_pool_here", "_law_names", "_law_most"] spDrawn := ok_drawn TD.F B TT
  have GLs : FnOk P w K mg base CX0 2 fLs dLs ["_law_rows", "_law_others"] (spLess K) := ok_less TLs.F TC
  have GS2 : FnOk P w K mg base CX0 3 fS2 dS2 ["_law_pool_here", "_law_names", "_law_first"] spSecond := ok_second TS2.F B TT TD TM
  obtain ⟨fn, fdn, e0, ee, M, GN, bN, bN1, re0, hE0⟩ := c.ini
  obtain ⟨fAd, fdAd, cAdd, GAdd, bAdd⟩ := o.add
  obtain ⟨fSu, fdSu, cSub, GSub, bSub⟩ := o.sub
  obtain ⟨fIA, fdIA, cIA, GIA, bIA⟩ := o.iadd
  obtain ⟨fIS, fdIS, cIS, GIS, bIS⟩ := o.isub
  obtain ⟨fMu, fRm, dMu, dRm, mC, GMu, bMu, GRm, bRm⟩ := o.mul
  refine F.ok scLaw (fun vs H Q E h => ?_) (fun cdv A outer s H vs Q E hr h => ?_)
  · obtain ⟨a, ns, rfl, _⟩ := h
    rfl
  · obtain ⟨scr, script, rfl, hS', hlen, k⟩ := h
    have r1 : Room 1 _ := hr.mono (by decide)
    have r2 : Room 2 _ := hr.mono (by decide)
    have r3 : Room 3 _ := hr.mono (by decide)
    have r5 : Room 5 _ := hr.mono (by decide)
    have r6 : Room 6 _ := hr.mono (by decide)
    have r7 : Room 7 _ := hr.mono (by decide)
    refine ⟨_, pss_cons (ps_set (i := 1) scLaw.nd rfl (Or.inr rfl) (pe_call GP r1 rfl TP.g TP.F.kp TP.b .nil pass0 (pa_cons (pv 0) pa_nil)))
      (pss_cons (ps_set (i := 2) scLaw.nd rfl (Or.inr rfl) (pe_call GB r2 rfl TB.g TB.F.kp TB.b .nil pass0 (pa_cons (pv 1) pa_nil)))
      (pss_cons (ps_setLc (i := 3) (own := [("_law_k", 15)]) (g := gName 15) (tt := tYes) rfl scLaw.nd rfl rfl (sw_true rfl rfl rfl (by decide +kernel)) (pi_range1 rfl B.range (pa_cons (pe_op op_add pe_int (pe_call GT r1 rfl TT.g TT.F.kp TT.b .nil pass0 (pa_cons (pv 1) (pa_cons pe_int pa_nil)))) pa_nil)) (blkOk_by (N := nLaw) (sc := defScope sLaw) (by decide +kernel)) (fun _ _ _ _ _ => pg_name (i := 15) scLaw.nd rfl (Or.inl rfl)) (fun _ _ _ _ _ => pts_nil) (fun _ _ _ _ _ => pe_call GNm r2 rfl TN.g TN.F.kp TN.b .nil pass0 (pa_cons (pv 1) (pa_cons (pv 2) (pa_cons (pv 15) pa_nil)))))
      (pss_cons (ps_set (i := 4) scLaw.nd rfl (Or.inl rfl) (pe_call GM r1 rfl TM.g TM.F.kp TM.b .nil pass0 (pa_cons (pe_call GD r2 rfl TD.g TD.F.kp TD.b .nil pass0 (pa_cons (pv 1) (pa_cons (pv 3) (pa_cons pe_int pa_nil)))) pa_nil)))
      (pss_cons (ps_set (i := 5) scLaw.nd rfl (Or.inl rfl) (pe_call GS2 r3 rfl TS2.g TS2.F.kp TS2.b .nil pass0 (pa_cons (pv 1) (pa_cons (pv 3) (pa_cons (pv 4) pa_nil)))))
      (pss_cons (ps_set (i := 6) scLaw.nd rfl (Or.inl rfl) (pe_make (E := fun _ _ _ => False) M GN r5 (by rfl) c.g bN .nil passF (pa_cons (pv 4) pa_nil)))
      (pss_cons (ps_set (i := 7) scLaw.nd rfl (Or.inl rfl) (pe_make (E := fun _ _ _ => False) M GN r5 (by rfl) c.g bN .nil passF (pa_cons (pv 4) pa_nil)))
      (pss_cons (ps_set (i := 8) scLaw.nd rfl (Or.inl rfl) (pe_make (E := fun _ _ _ => False) M GN r5 (by rfl) c.g bN .nil passF (pa_cons (pv 5) pa_nil)))
      (pss_cons (ps_set (i := 9) scLaw.nd rfl (Or.inl rfl) (pv 7))
      (C8.pss_cut (ps_set (i := 10) scLaw.nd rfl (Or.inl rfl) (pe_call GLs r2 rfl TLs.g TLs.F.kp TLs.b .nil pass0 (pa_cons (pv 4) (pa_cons (pv 5) pa_nil))))
      (C8.pss_cut (ps_set (i := 11) scLaw.nd rfl (Or.inl rfl) (pe_unl (pe_call GCt hr rfl TCt.g TCt.F.kp TCt.b .nil pass0 (pa_cons (pv 7) (pa_cons (pv 8) pa_nil)))))
      (C8.pss_cut (ps_if (pt_val (pe_callB call_isi (by rfl) hI (by decide +kernel) (pa_cons (pv 10) (pa_cons (pe_bltn (v := .ty "tuple") (by rfl) hT (by decide +kernel) rfl) pa_nil)))) (pss_cons (ps_if (PW.pt (pw_or (pt_cmpR (op_neS hr.units) (pv 11) (pv 10) (nomark _)) (pw_or1 (pt_not (pt_val (pe_call GL r3 rfl TL.g TL.F.kp TL.b .nil pass0 (pa_cons (pv 7) (pa_cons (pv 4) pa_nil)))))))) (pss_one (ps_ret pe_bl)) pss_nil) (pss_one (ps_set (i := 10) scLaw.nd rfl (Or.inl rfl) (pv 4)))) (pss_one (ps_if (pt_cmpR op_notN (pv 11) pe_non (nomark _)) (pss_one (ps_ret pe_bl)) pss_nil)))
      (pss_cons (ps_if (PW.pt (pw_or (pt_not (pt_val (pe_call GL r3 rfl TL.g TL.F.kp TL.b .nil pass0 (pa_cons (pv 7) (pa_cons (pv 10) pa_nil))))) (pw_or (pt_not (pt_val (pe_call GL r3 rfl TL.g TL.F.kp TL.b .nil pass0 (pa_cons (pv 9) (pa_cons (pv 10) pa_nil))))) (pw_or1 (pt_not (pt_val (pe_call GL r3 rfl TL.g TL.F.kp TL.b .nil pass0 (pa_cons (pv 8) (pa_cons (pv 5) pa_nil))))))))) (pss_one (ps_ret pe_bl)) pss_nil)
      (pss_cons (ps_augO (i := 7) scLaw.nd rfl (Or.inl rfl) (pv 8) (op_iownS (op := .Add) (E := fun _ _ _ _ => False) o.sf cIA GIA r7 bIA (at_all pass0)))
      (pss_cons (ps_set (i := 12) scLaw.nd rfl (Or.inl rfl) (pe_call GM r1 rfl TM.g TM.F.kp TM.b .nil pass0 (pa_cons (pe_op op_cat (pv 10) (pv 5)) pa_nil)))
      (pss_cons (ps_if (PW.pt (pw_or (pt_not (pt_val (pe_call GL r3 rfl TL.g TL.F.kp TL.b .nil pass0 (pa_cons (pv 7) (pa_cons (pv 12) pa_nil))))) (pw_or (pt_not (pt_val (pe_call GL r3 rfl TL.g TL.F.kp TL.b .nil pass0 (pa_cons (pv 9) (pa_cons (pv 12) pa_nil))))) (pw_or1 (pt_not (pt_val (pe_call GL r3 rfl TL.g TL.F.kp TL.b .nil pass0 (pa_cons (pv 8) (pa_cons (pv 5) pa_nil))))))))) (pss_one (ps_ret pe_bl)) pss_nil)
      (pss_cons (ps_augO (i := 7) scLaw.nd rfl (Or.inl rfl) (pv 8) (op_iownS (op := .Sub) (E := fun _ _ _ _ => False) o.sf cIS GIS r7 bIS (at_all passF)))
      (pss_cons (ps_if (PW.pt (pw_or (pt_not (pt_val (pe_call GL r3 rfl TL.g TL.F.kp TL.b .nil pass0 (pa_cons (pv 7) (pa_cons (pv 10) pa_nil))))) (pw_or (pt_not (pt_val (pe_call GL r3 rfl TL.g TL.F.kp TL.b .nil pass0 (pa_cons (pv 9) (pa_cons (pv 10) pa_nil))))) (pw_or1 (pt_not (pt_val (pe_call GL r3 rfl TL.g TL.F.kp TL.b .nil pass0 (pa_cons (pv 8) (pa_cons (pv 5) pa_nil))))))))) (pss_one (ps_ret pe_bl)) pss_nil)
      (pss_cons (ps_augO (i := 7) scLaw.nd rfl (Or.inl rfl) (pe_make0 (E := fun _ _ _ => False) M GN r5 (by rfl) c.g bN1 (.cons re0 .nil) passF) (op_iownS (op := .Add) (E := fun _ _ _ _ => False) o.sf cIA GIA r7 bIA (at_all pass0)))
      (pss_cons (ps_if (pt_not (pt_val (pe_call GL r3 rfl TL.g TL.F.kp TL.b .nil pass0 (pa_cons (pv 9) (pa_cons (pv 10) pa_nil))))) (pss_one (ps_ret pe_bl)) pss_nil)
      (pss_cons (ps_augO (i := 7) scLaw.nd rfl (Or.inl rfl) (pe_make (E := fun _ _ _ => False) M GN r5 (by rfl) c.g bN .nil passF (pa_cons (pv 10) pa_nil)) (op_iownS (op := .Sub) (E := fun _ _ _ _ => False) o.sf cIS GIS r7 bIS (at_all passF)))
      (pss_cons (ps_if (PW.pt (pw_or (pt_not (pt_val (pe_call GL r3 rfl TL.g TL.F.kp TL.b .nil pass0 (pa_cons (pv 7) (pa_cons (pe_lst pa_nil) pa_nil))))) (pw_or1 (pt_not (pt_val (pe_call GL r3 rfl TL.g TL.F.kp TL.b .nil pass0 (pa_cons (pv 9) (pa_cons (pe_lst pa_nil) pa_nil)))))))) (pss_one (ps_ret pe_bl)) pss_nil)
      (pss_cons (ps_augO (i := 7) scLaw.nd rfl (Or.inl rfl) (pv 8) (op_iownS (op := .Add) (E := fun _ _ _ _ => False) o.sf cIA GIA r7 bIA (at_all pass0)))
      (pss_cons (ps_augO (i := 7) scLaw.nd rfl (Or.inl rfl) (pe_make (E := fun _ _ _ => False) M GN r5 (by rfl) c.g bN .nil passF (pa_cons (pv 4) pa_nil)) (op_iownS (op := .Add) (E := fun _ _ _ _ => False) o.sf cIA GIA r7 bIA (at_all pass0)))
      (pss_cons (ps_if (pt_not (pt_val (pe_call GL r3 rfl TL.g TL.F.kp TL.b .nil pass0 (pa_cons (pv 9) (pa_cons (pe_call GM r1 rfl TM.g TM.F.kp TM.b .nil pass0 (pa_cons (pe_op op_cat (pv 5) (pv 4)) pa_nil)) pa_nil))))) (pss_one (ps_ret pe_bl)) pss_nil)
      (pss_cons (ps_set (i := 13) scLaw.nd rfl (Or.inl rfl) (pe_tup (pa_cons (pe_ix ix_list (pv 3) pe_int (fun _ _ => rfl)) (pa_cons (pe_ix ix_list (pv 3) pe_int (fun _ _ => rfl)) (pa_cons pe_int pa_nil)))))
      (pss_cons (ps_set (i := 10) scLaw.nd rfl (Or.inl rfl) (pe_op op_add (pe_call GCo r1 rfl TC.g TC.F.kp TC.b .nil pass0 (pa_cons (pv 4) (pa_cons (pe_slice sl_tup (pv 13) po_none (po_some pe_int)) pa_nil))) pe_int))
      (pss_cons (ps_for PassesOwn.never rfl (pi_list (pe_lst (pa_cons (pe_op (op_ownO (op := .Add) (E := fun _ _ _ => False) o.sf cAdd GAdd r6 bAdd pass0) (pv 6) (pe_make0 (E := fun _ _ _ => False) M GN r5 (by rfl) c.g bN1 (.cons re0 .nil) passF)) (pa_cons (pe_op (op_ownO (op := .Sub) (E := fun _ _ _ => False) o.sf cSub GSub r6 bSub passF) (pv 6) (pe_make0 (E := fun _ _ _ => False) M GN r5 (by rfl) c.g bN1 (.cons re0 .nil) passF)) (pa_cons (pe_opS (op_mulS (E := fun _ _ _ _ => False) mC GMu r6 bMu (at_all passF)) (pv 6) pe_int) (pa_cons (pe_opS (op_rmulS (E := fun _ _ _ _ => False) mC GRm r7 bRm (at_all passF)) pe_int (pv 6)) (pa_cons (pe_op (op_ownO (op := .Add) (E := fun _ _ _ => False) o.sf cAdd GAdd r6 bAdd pass0) (pe_make0 (E := fun _ _ _ => False) M GN r5 (by rfl) c.g bN1 (.cons re0 .nil) passF) (pv 6)) pa_nil))))))) (pg_name (i := 14) scLaw.nd rfl (Or.inl rfl)) (pss_one (ps_if (pt_cmpR op_ne (pe_call GRa hr rfl TRa.g TRa.F.kp TRa.b .nil pass0 (pa_cons (pv 14) (pa_cons (pv 13) pa_nil))) (pv 10) (nomark _)) (pss_one (ps_ret pe_bl)) pss_nil)))
      (pss_one (ps_ret (pe_and (pe_call GL r3 rfl TL.g TL.F.kp TL.b .nil pass0 (pa_cons (pv 8) (pa_cons (pv 5) pa_nil))) (pe_one (pe_call GL r3 rfl TL.g TL.F.kp TL.b .nil pass0 (pa_cons (pv 6) (pa_cons (pv 4) pa_nil)))))))))))))))))))))))))))))))))), ?_⟩
    refine ⟨_, rfl, scr, script, rfl, hS', hlen, fun p cc H1 _ _ _ P1 => ?_⟩
    refine ⟨_, rfl, p, cc, rfl, P1, fun b H2 hb hsb _ P2 => ?_⟩
    clear P1
    -- the names
    refine ⟨_, rfl, p, cc, 4, rfl, P2, by decide, by decide, fun v H3 v0 v1 g3 P3 => ⟨_, _, rfl, rfl, _, rfl, by omega, by omega, fun D hD => ?_⟩⟩
    obtain ⟨nDp, nDc⟩ := P3.ne hD
    refine lc_range (lo := 0) (n := (2 + v).toNat) (fun i H' => Gro p H3 H' ∧ Pool H' p cc ∧ ∃ ys : List Str, H' D = some (.lst (ys.map V.str)) ∧ ys.length = i ∧ ∀ z ∈ ys, z.length ≤ 100)
      ⟨.new hD, P3.new hD, [], upd_same, rfl, fun z h => nomatch h⟩ ?_ ?_
    · rintro i H' hi ⟨g6, P6, ys, hys, hyl, hyt⟩
      refine ⟨rfl, _, rfl, _, rfl, _, rfl, p, cc, b, i, by rw [show (0 : Int) + (i : Int) = (i : Int) by omega]; rfl, P6, by omega, hsb, by omega, fun z H7 hz g7 P7 => ?_⟩
      refine ⟨ys.map V.str, g7 D _ hys nDp, small500 (by rw [List.length_map]; omega), fun bb o e ne => ?_, P7.off nDp nDc, ys ++ [z], by rw [upd_same, List.map_append]; rfl, by rw [List.length_append, hyl]; rfl, fun z' hz' => ?_⟩
      · rw [upd_ne (ne_of_none e hD)]
        exact g7 _ _ (g6 _ _ e ne) ne
      · rcases List.mem_append.mp hz' with q | q
        · exact hyt z' q
        · rw [List.mem_singleton.mp q]
          have := hz.1
          omega
    rintro H4 ⟨_, P4, ns, hns, hnl, hnt⟩
    have nl2 : 2 ≤ ns.length ∧ ns.length ≤ 5 := by omega
    clear P2 P3 g3 hD hnl v0 v1
    -- the rows
    refine ⟨_, rfl, _, rfl, p, cc, D, 8, ns, rfl, P4, hns, nDp, by omega, by omega, hnt, by decide, fun l0 ls0 rs0 H5 g5 P5 nl0 nlp0 nlc0 el0 tl0 rl0 ok0 => ?_⟩
    have hns5 := g5 _ _ hns nDp
    clear P4 hns g5
    refine ⟨l0, rs0, rfl, ⟨_, SqL.of el0, tl0⟩, by omega, fun l ls H6 s6 nl el tl => ?_⟩
    obtain ⟨nlp, nlc⟩ := P5.ne nl
    have nDl : D ≠ l := ne_of_none hns5 nl
    have P6 : Pool H6 p cc := P5.keep (fun o e => s6 _ _ e) fun o e => s6 _ _ e
    have hns6 := s6 _ _ hns5
    have cp := cap_pos
    have ndF := mergeR_nd rs0
    have lF := mergeR_len rs0
    have okF : Okr (8 * cap) (mergeR rs0) := (mergeR_ok ok0 (by omega)).mono (Int.mul_le_mul_of_nonneg_right (by omega) (by omega))
    generalize mergeR rs0 = rs at tl ndF lF okF
    clear s6 nl P5 hns5 el0 tl0 ok0 nl0
    have lx6 := tl.len
    refine ⟨_, rfl, _, rfl, _, rfl, p, cc, D, l, ns, ls, rs, rfl, P6, hns6, nDp, by omega, by omega, hnt, el, tl, nlp, by omega, ndF, okF, fun m ms qs H7 g7 P7 nm nmp nmc em tm ndS okS lS => ?_⟩
    have hns7 := g7 _ _ hns6 nDp
    have el7 := g7 _ _ el nlp
    have tl7 : TripAt H7 ls rs := tl.keep fun t ws e => gro_tup g7 P6 e
    have lm7 := tm.len
    clear P6 hns6 el tl g7 nm P7
    have gF := okF.good
    have gS := okS.good
    -- the lots
    refine ⟨_, rfl, fun x0 dx0 nx0 ndx0 nex0 => lot_new c.h (rows := rs) rfl ⟨ls, tl7, .inl (SqL.of el7)⟩ (by omega) gF nx0 ndx0 nex0 fun d0 zs H8 s8 nd0 h0 => ?_⟩
    rw [mergeR_id ndF] at h0
    refine ⟨_, rfl, fun x dx nx ndx nex => lot_new c.h (rows := rs) rfl ⟨ls, tl7.same s8, .inl (SqL.of (s8 _ _ el7))⟩ (by omega) gF nx ndx nex fun d xs H9 s9 nd h1 => ?_⟩
    rw [mergeR_id ndF] at h1
    have s79 := s8.trans s9
    refine ⟨_, rfl, fun x2 dx2 nx2 ndx2 nex2 => lot_new c.h (rows := qs) rfl ⟨ms, tm.same s79, .inl (SqL.of (s79 _ _ em))⟩ (by omega) gS nx2 ndx2 nex2 fun d2 ys H10 s10 nd2 h2 => ?_⟩
    rw [mergeR_id ndS] at h2
    have s710 := s79.trans s10
    obtain ⟨dz0, iz0⟩ := h0.ins
    obtain ⟨dz1, iz1⟩ := h1.ins
    have n0 : x0 ≠ x := ne_of_none iz0 nx
    have n2 : x2 ≠ x := (ne_of_none iz1 nx2).symm
    have LA : LawM H10 C D l m x d x2 d2 x0 d0 ns ls ms xs ys zs rs rs qs := ⟨s710 _ _ hns7, s710 _ _ el7, tl7.same s710, s710 _ _ em, tm.same s710, h1.keep s10, h2, (h0.keep s9).keep s10⟩
    have ndd : d ≠ d2 := ne_of_none h1.dict nd2
    clear s8 s9 s79 s10 s710 h0 h1 h2 iz0 iz1 nx0 ndx0 nex0 nx ndx nex nx2 ndx2 nex2 nd0 nd nd2 hns7 el7 tl7 em tm
    have lfl : ∀ {H : Hp} {x d d0 : Addr} {xs zs : List V} {O : List R3}, LawM H C D l m x d x2 d2 x0 d0 ns ls ms xs ys zs O rs qs → ListT K H l rs := fun h => ⟨ls, SqL.of h.f, h.ft⟩
    have lsl : ∀ {H : Hp} {x d d0 : Addr} {xs zs : List V} {O : List R3}, LawM H C D l m x d x2 d2 x0 d0 ns ls ms xs ys zs O rs qs → ListT K H m qs := fun h => ⟨ms, SqL.of h.s, h.st⟩
    -- what is due
    refine ⟨_, rfl, ?_⟩
    refine ⟨fun σ H => LawM H C D l m x d x2 d2 x0 d0 ns ls ms xs ys zs rs rs qs ∧ ∃ dq, ((∃ p', lackR rs qs = some p' ∧ H dq = some (.tup [.str "lacking", .str p'.1, .str p'.2])) ∨ (lackR rs qs = none ∧ ∃ ws, H dq = some (.lst ws) ∧ TripAt H ws (lessR rs qs))) ∧ σ = [some (.ref scr), some (.ref p), some (.str b), some (.ref D), some (.ref l), some (.ref m), some (.ref x0), some (.ref x), some (.ref x2), some (.ref x), some (.ref dq), none, none, none, none, none], ?_, ?_⟩
    · refine ⟨_, rfl, _, rfl, l, m, rs, qs, rfl, lfl LA, lsl LA, by omega, fun p' hp q H11 s11 eq => ?_, fun hn q ws H11 s11 nq eq tq => ?_⟩
      · exact ⟨LA.keep s11, q, .inl ⟨p', hp, eq⟩, rfl⟩
      · exact ⟨LA.keep s11, q, .inr ⟨hn, ws, eq, tq⟩, rfl⟩
    clear LA
    rintro σ H11 ⟨LB, dq, hdq, rfl⟩
    -- cut
    refine ⟨fun σ H => ∃ d xs O, d ≠ d2 ∧ LawM H C D l m x d x2 d2 x0 d0 ns ls ms xs ys zs O rs qs ∧ ((∃ p' tq, lackR rs qs = some p' ∧ O = rs ∧ H dq = some (.tup [.str "lacking", .str p'.1, .str p'.2]) ∧ H tq = some (.tup [.str "lacking", .str p'.1, .str p'.2]) ∧ σ = [some (.ref scr), some (.ref p), some (.str b), some (.ref D), some (.ref l), some (.ref m), some (.ref x0), some (.ref x), some (.ref x2), some (.ref x), some (.ref dq), some (.ref tq), none, none, none, none]) ∨
      (lackR rs qs = none ∧ O = lessR rs qs ∧ (∃ ws, H dq = some (.lst ws) ∧ TripAt H ws (lessR rs qs)) ∧ σ = [some (.ref scr), some (.ref p), some (.str b), some (.ref D), some (.ref l), some (.ref m), some (.ref x0), some (.ref x), some (.ref x2), some (.ref x), some (.ref dq), some .non, none, none, none, none])), ?_, ?_⟩
    · refine ⟨d2, _, LB.two.dict, True.intro, _, rfl, _, rfl, x, x2, d, d2, xs, ys, rs, qs, rfl, LB.one, LB.two, by omega, by omega, okS.txt, fun hn d' zs' H12 g12 nd h' => .inr ?_, fun od p' hp q1 H12 s12 eq1 => .inl ?_⟩
      · obtain ⟨dxa, ia⟩ := LB.one.ins
        rcases hdq with ⟨p', hp, _⟩ | ⟨_, ws, ed, td⟩
        · rw [hn] at hp
          cases hp
        · exact ⟨d', zs', lessR rs qs, (ne_of_none LB.two.dict nd).symm, LB.moved g12 n2 n0 h', .inr ⟨hn, rfl, ⟨ws, gro_ins g12 ia ed (fun _ _ _ z => nomatch z), td.groI g12 ia⟩, rfl⟩⟩
      · have e2 := s12 _ _ upd_same
        have sU : Same H11 (upd H12 d2 (.dT (rD qs ys))) := same_unlock LB.two.dict fun q o e n => s12 _ _ (by rw [upd_ne n]; exact e)
        have eq1 : upd H12 d2 (.dT (rD qs ys)) q1 = some (.tup [.str "lacking", .str p'.1, .str p'.2]) := by rw [upd_ne (ne_of eq1 e2 (fun z => nomatch z))]; exact eq1
        refine ⟨od, e2, d, xs, rs, ndd, LB.keep sU, .inl ⟨p', q1, hp, rfl, ?_, eq1, rfl⟩⟩
        rcases hdq with ⟨p'', hp', ed⟩ | ⟨hn, _⟩
        · rw [hp] at hp'
          cases hp'
          exact sU _ _ ed
        · rw [hn] at hp
          cases hp
    clear LB hdq
    rintro σ H12 ⟨d, xs, O, ndd, LB, hO⟩
    -- told
    refine ⟨fun σ H => ∃ dl tv dws O, LawM H C D l m x d x2 d2 x0 d0 ns ls ms xs ys zs O rs qs ∧ H dl = some (.lst dws) ∧ TripAt H dws O ∧ (keysR O).Nodup ∧ (∀ r ∈ O, 1 ≤ r.2) ∧ TxtR O ∧ O.length ≤ 8 ∧ σ = [some (.ref scr), some (.ref p), some (.str b), some (.ref D), some (.ref l), some (.ref m), some (.ref x0), some (.ref x), some (.ref x2), some (.ref x), some (.ref dl), some tv, none, none, none, none], ?_, ?_⟩
    · rcases hO with ⟨p', tq, hp, rfl, ed, et, rfl⟩ | ⟨hn, rfl, ⟨ws, ed, td⟩, rfl⟩
      · refine ⟨_, rfl, _, _, _, _, true, rfl, .ty _, .base (.tup ed), kit_ty (by decide +kernel), true, rfl, yes rfl ?_⟩
        refine ⟨_, rfl, _, rfl, .tuple [.str "lacking", .str p'.1, .str p'.2], .tup (SqT.of et) (.cons (.str _) (.cons (.str _) (.cons (.str _) .nil))), .tup (SqT.of ed) (.cons (.str _) (.cons (.str _) (.cons (.str _) .nil))), by simp [PyData.plain, PyData.plainAll], by simp [PyData.depth, PyData.depthAll], _, rfl, no rfl ?_⟩
        refine ⟨_, rfl, _, rfl, x, d, l, xs, O, rfl, LB.one, lfl LB, by omega, fun H13 s13 => ⟨true, rfl, no rfl ?_⟩⟩
        have LC := LB.keep s13
        exact ⟨_, rfl, l, _, ls, O, LC, LC.f, LC.ft, ndF, gF, okF.txt, by omega, rfl⟩
      · refine ⟨_, rfl, _, _, _, _, false, rfl, .ty _, .base (.lst ed), kit_ty (by decide +kernel), false, rfl, no rfl ?_⟩
        refine ⟨_, rfl, rfl, _, rfl, no rfl ⟨dq, _, ws, lessR rs qs, LB, ed, td, lessR_nd ndF, lessR_good rs qs, fun r hr => ?_, Nat.le_trans (lessR_len rs qs) (by omega), rfl⟩⟩
        obtain ⟨q, hq, e⟩ := List.mem_map.mp (List.mem_filter.mp hr).1
        rw [← e]
        exact okF.txt q hq
    clear LB hO
    rintro σ H13 ⟨dl, tv, dws, O, LC, ed, td, ndO, gO, txO, lO, rfl⟩
    have lMO : (mergeR (O ++ qs)).length ≤ 20 := Nat.le_trans (mergeR_len _) (by rw [List.length_append]; omega)
    refine ⟨_, rfl, _, rfl, x, d, dl, xs, O, rfl, LC.one, ⟨dws, SqL.of ed, td⟩, by omega, fun Ha0 sHa0 => ⟨true, rfl, no rfl ?_⟩⟩
    have LE0 := LC.keep sHa0
    have ed := sHa0 _ _ ed
    have td := td.same sHa0
    refine ⟨_, rfl, _, rfl, x, d, dl, xs, O, rfl, LE0.one, ⟨dws, SqL.of ed, td⟩, by omega, fun Ha1 sHa1 => ⟨true, rfl, no rfl ?_⟩⟩
    have LE1 := LE0.keep sHa1
    have ed := sHa1 _ _ ed
    have td := td.same sHa1
    refine ⟨_, rfl, _, rfl, x2, d2, m, ys, qs, rfl, LE1.two, (lsl LE1), by omega, fun Ha2 sHa2 => ⟨true, rfl, no rfl ?_⟩⟩
    have LE2 := LE1.keep sHa2
    have ed := sHa2 _ _ ed
    have td := td.same sHa2
    obtain ⟨dxa, ia⟩ := LE2.one.ins
    obtain ⟨dxb, ib⟩ := LE2.two.ins
    refine ⟨_, rfl, _, rfl, x, x2, dxa, dxb, _, _, rfl, rfl, ia, ib, x, x2, d, d2, xs, ys, O, qs, rfl, LE2.one, LE2.two, ndd, by omega, by omega, gO, gS, fun e1 w1 Hb gb nb h' => ⟨_, rfl, ?_⟩⟩
    have nd1 : e1 ≠ d2 := (ne_of_none LE2.two.dict nb).symm
    have LF := LE2.moved gb n2 n0 h'
    have ed := gro_ins gb ia ed (fun _ _ _ z => nomatch z)
    have td := td.groI gb ia
    refine ⟨_, rfl, _, rfl, dl, m, dws, ms, rfl, rfl, ed, LF.s, Nat.le_of_lt (small500 (by have := td.len; omega)), fun lc hlc => ?_⟩
    refine ⟨lc, O ++ qs, rfl, ⟨_, SqL.of upd_same, (td.app LF.st).same (same_new hlc)⟩, by rw [List.length_append]; omega, fun tt yt Hc sc nt et tq => ?_⟩
    have sc := (same_new (o := .lst (dws ++ ms)) hlc).trans sc
    have LG := LF.keep sc
    have ed := sc _ _ ed
    have td := td.same sc
    refine ⟨_, rfl, _, rfl, x, e1, tt, w1, mergeR (O ++ qs), rfl, LG.one, ⟨yt, SqL.of et, tq⟩, by omega, fun Hd0 sHd0 => ⟨true, rfl, no rfl ?_⟩⟩
    have LI0 := LG.keep sHd0
    have ed := sHd0 _ _ ed
    have et := sHd0 _ _ et
    have td := td.same sHd0
    have tq := tq.same sHd0
    refine ⟨_, rfl, _, rfl, x, e1, tt, w1, mergeR (O ++ qs), rfl, LI0.one, ⟨yt, SqL.of et, tq⟩, by omega, fun Hd1 sHd1 => ⟨true, rfl, no rfl ?_⟩⟩
    have LI1 := LI0.keep sHd1
    have ed := sHd1 _ _ ed
    have et := sHd1 _ _ et
    have td := td.same sHd1
    have tq := tq.same sHd1
    refine ⟨_, rfl, _, rfl, x2, d2, m, ys, qs, rfl, LI1.two, (lsl LI1), by omega, fun Hd2 sHd2 => ⟨true, rfl, no rfl ?_⟩⟩
    have LI2 := LI1.keep sHd2
    have ed := sHd2 _ _ ed
    have et := sHd2 _ _ et
    have td := td.same sHd2
    have tq := tq.same sHd2
    obtain ⟨dxa, ia⟩ := LI2.one.ins
    obtain ⟨dxb, ib⟩ := LI2.two.ins
    refine ⟨_, rfl, _, rfl, x, x2, dxa, dxb, _, _, rfl, rfl, ia, ib, x, x2, e1, d2, w1, ys, mergeR (O ++ qs), qs, rfl, LI2.one, LI2.two, by omega, by omega, okS.txt, fun _ e2 w2 He ge ne h2' => ⟨_, rfl, ?_⟩, fun od p' hp => by rw [lack_merge ndO ndS gO] at hp; cases hp⟩
    rw [less_merge ndO ndS gO] at h2'
    have LJ := LI2.moved ge n2 n0 h2'
    have ed := gro_ins ge ia ed (fun _ _ _ z => nomatch z)
    have td := td.groI ge ia
    refine ⟨_, rfl, _, rfl, x, e2, dl, w2, O, rfl, LJ.one, ⟨dws, SqL.of ed, td⟩, by omega, fun Hf0 sHf0 => ⟨true, rfl, no rfl ?_⟩⟩
    have LK0 := LJ.keep sHf0
    have ed := sHf0 _ _ ed
    have td := td.same sHf0
    refine ⟨_, rfl, _, rfl, x, e2, dl, w2, O, rfl, LK0.one, ⟨dws, SqL.of ed, td⟩, by omega, fun Hf1 sHf1 => ⟨true, rfl, no rfl ?_⟩⟩
    have LK1 := LK0.keep sHf1
    have ed := sHf1 _ _ ed
    have td := td.same sHf1
    refine ⟨_, rfl, _, rfl, x2, d2, m, ys, qs, rfl, LK1.two, (lsl LK1), by omega, fun Hf2 sHf2 => ⟨true, rfl, no rfl ?_⟩⟩
    have LK2 := LK1.keep sHf2
    have ed := sHf2 _ _ ed
    have td := td.same sHf2
    -- none more
    refine ⟨_, rfl, fun x3 dx3 nx3 ndx3 nex3 => lot_new c.h (rows := []) rfl ⟨[], True.intro, .inr (hE0 _)⟩ (Nat.zero_le _) (fun r h => nomatch h) nx3 ndx3 nex3 fun d3 xs3 Hg sg nd3 h3 => ?_⟩
    have h3 : LotAt Hg C x3 d3 xs3 [] := h3
    have nde : e2 ≠ d3 := ne_of_none LK2.one.dict nd3
    have LL := LK2.keep sg
    have ed := sg _ _ ed
    have td := td.same sg
    obtain ⟨dxa, ia⟩ := LL.one.ins
    obtain ⟨dxc, ic⟩ := h3.ins
    refine ⟨x, x3, dxa, dxc, _, _, rfl, rfl, ia, ic, x, x3, e2, d3, w2, xs3, O, [], rfl, LL.one, h3, nde, by omega, Nat.zero_le _, gO, (fun r h => nomatch h), fun e4 w4 Hh gh nh h4 => ⟨_, rfl, ?_⟩⟩
    rw [List.append_nil, mergeR_id ndO] at h4
    have LN := LL.moved gh n2 n0 h4
    have ed := gro_ins gh ia ed (fun _ _ _ z => nomatch z)
    have td := td.groI gh ia
    refine ⟨_, rfl, _, rfl, x, e4, dl, w4, O, rfl, LN.one, ⟨dws, SqL.of ed, td⟩, by omega, fun Hi si => ⟨true, rfl, no rfl ?_⟩⟩
    have LO := LN.keep si
    have ed := si _ _ ed
    have td := td.same si
    -- all of it less
    refine ⟨_, rfl, _, rfl, fun x3 dx3 nx3 ndx3 nex3 => lot_new c.h (rows := O) rfl ⟨dws, td, .inl (SqL.of ed)⟩ (by omega) gO nx3 ndx3 nex3 fun d3 xs3 Hj sj nd3 h3 => ?_⟩
    rw [mergeR_id ndO] at h3
    have LP := LO.keep sj
    obtain ⟨dxa, ia⟩ := LP.one.ins
    obtain ⟨dxc, ic⟩ := h3.ins
    refine ⟨x, x3, dxa, dxc, _, _, rfl, rfl, ia, ic, x, x3, e4, d3, w4, xs3, O, O, rfl, LP.one, h3, by omega, by omega, txO, fun _ e5 w5 Hk gk nk h5 => ⟨_, rfl, ?_⟩, fun od p' hp => by rw [lack_self ndO] at hp; cases hp⟩
    rw [less_self ndO] at h5
    have LQ := LP.moved gk n2 n0 h5
    refine ⟨_, rfl, (by show 0 ≤ sizeLine; omega), fun Le hLe => ⟨x, e5, Le, w5, [], rfl, LQ.one.keep (same_new hLe), ⟨[], SqL.of upd_same, True.intro⟩, Nat.zero_le _, fun Hl sl => ⟨true, rfl, no rfl ?_⟩⟩⟩
    have LR := (LQ.keep (same_new hLe)).keep sl
    refine ⟨_, rfl, (by show 0 ≤ sizeLine; omega), fun Le2 hLe2 => ⟨x, e5, Le2, w5, [], rfl, LR.one.keep (same_new hLe2), ⟨[], SqL.of upd_same, True.intro⟩, Nat.zero_le _, fun Hm sm => ⟨true, rfl, no rfl ?_⟩⟩⟩
    have LS := (LR.keep (same_new hLe2)).keep sm
    -- two, and the first again
    obtain ⟨dxa, ia⟩ := LS.one.ins
    obtain ⟨dxb, ib⟩ := LS.two.ins
    refine ⟨_, rfl, _, rfl, x, x2, dxa, dxb, _, _, rfl, rfl, ia, ib, x, x2, e5, d2, w5, ys, [], qs, rfl, LS.one, LS.two, ?_, Nat.zero_le _, by omega, (fun r h => nomatch h), gS, fun e6 w6 Hn gn nn h6 => ⟨_, rfl, ?_⟩⟩
    · exact (ne_of_none LP.two.dict nk).symm
    rw [List.nil_append, mergeR_id ndS] at h6
    have LT := LS.moved gn n2 n0 h6
    refine ⟨_, rfl, _, rfl, fun x3 dx3 nx3 ndx3 nex3 => lot_new c.h (rows := rs) rfl ⟨ls, LT.ft, .inl (SqL.of LT.f)⟩ (by omega) gF nx3 ndx3 nex3 fun d3 xs3 Ho so nd3 h3 => ?_⟩
    rw [mergeR_id ndF] at h3
    have nde2 : e6 ≠ d3 := ne_of_none LT.one.dict nd3
    have LU := LT.keep so
    obtain ⟨dxa, ia⟩ := LU.one.ins
    obtain ⟨dxc, ic⟩ := h3.ins
    refine ⟨x, x3, dxa, dxc, _, _, rfl, rfl, ia, ic, x, x3, e6, d3, w6, xs3, qs, rs, rfl, LU.one, h3, nde2, by omega, by omega, gS, gF, fun e7 w7 Hp gp np h7 => ⟨_, rfl, ?_⟩⟩
    have LV := LU.moved gp n2 n0 h7
    have lM2 : (mergeR (qs ++ rs)).length ≤ 20 := Nat.le_trans (mergeR_len _) (by rw [List.length_append]; omega)
    refine ⟨_, rfl, _, rfl, _, rfl, m, l, ms, ls, rfl, rfl, LV.s, LV.f, Nat.le_of_lt (small500 (by have := LV.ft.len; have := LV.st.len; omega)), fun lc2 hlc2 => ?_⟩
    refine ⟨lc2, qs ++ rs, rfl, ⟨_, SqL.of upd_same, (LV.st.app LV.ft).same (same_new hlc2)⟩, by rw [List.length_append]; omega, fun tt2 yt2 Hq sq nt2 et2 tq2 => ?_⟩
    have sq := (same_new (o := .lst (ms ++ ls)) hlc2).trans sq
    have LW := LV.keep sq
    refine ⟨x, e7, tt2, w7, mergeR (qs ++ rs), rfl, LW.one, ⟨yt2, SqL.of et2, tq2⟩, by omega, fun Hr sr => ⟨true, rfl, no rfl ?_⟩⟩
    have LX := LW.keep sr
    clear LC LF LG LJ LL LN LO LP LQ LR LS LT LU LV LW h' h2' h3 h4 h5 h6 h7 ia ib ic ed td et tq et2 tq2
    -- a row
    obtain ⟨y0, hy0⟩ : ∃ y, ns[0]? = some y := ⟨_, List.getElem?_eq_getElem (by omega)⟩
    obtain ⟨y1, hy1⟩ : ∃ y, ns[1]? = some y := ⟨_, List.getElem?_eq_getElem (by omega)⟩
    have at0 : atI (ns.map V.str) 0 = some (.str y0) := at_c (j := 0) (by rw [List.getElem?_map, hy0]; rfl) rfl
    have at1 : atI (ns.map V.str) 1 = some (.str y1) := at_c (j := 1) (by rw [List.getElem?_map, hy1]; rfl) rfl
    refine ⟨_, rfl, D, _, 0, _, rfl, rfl, SqL.of LX.n, at0, _, rfl, D, _, 1, _, rfl, rfl, SqL.of LX.n, at1, (by show 3 ≤ sizeLine; decide), fun t ht => ?_⟩
    have LY := LX.keep (same_new (o := .tup [.str y0, .str y1, .int 5]) ht)
    have et : upd Hr t (.tup [.str y0, .str y1, .int 5]) t = some (.tup (tV ((y0, y1), 5))) := upd_same
    generalize upd Hr t (.tup [.str y0, .str y1, .int 5]) = J0 at LY et
    clear LX ht
    refine ⟨_, rfl, _, rfl, _, rfl, t, _, rfl, SqT.of et, ncut2 _ _ _, fun p1 hp1 => ?_⟩
    have s1 := same_new (o := .tup (cutV (tV ((y0, y1), 5)) none (some 2))) hp1
    refine ⟨l, p1, rs, (y0, y1), rfl, (lfl LY).keep s1, by rw [upd_same]; rfl, fun J1 s2 => ⟨_, _, rfl, rfl, ?_⟩⟩
    have s2 := s1.trans s2
    have LZ := LY.keep s2
    have et := s2 _ _ et
    clear LY s1 s2 hp1
    -- five lots
    refine ⟨_, rfl, fun x3 dx3 nx3 ndx3 nex3 => lot_new c.h (rows := []) rfl ⟨[], True.intro, .inr (hE0 _)⟩ (Nat.zero_le _) (fun r h => nomatch h) nx3 ndx3 nex3 fun d3 xs3 Ga1 sa1 nd3 h3 => ?_⟩
    have h3 : LotAt Ga1 C x3 d3 xs3 [] := h3
    have L1 := LZ.keep sa1
    have nde : d0 ≠ d3 := ne_of_none LZ.bes.dict nd3
    obtain ⟨i0, ei0⟩ := L1.bes.ins
    obtain ⟨i3, ei3⟩ := h3.ins
    refine ⟨x0, x3, i0, i3, _, _, rfl, rfl, ei0, ei3, x0, x3, d0, d3, zs, xs3, rs, [], rfl, L1.bes, h3, nde, by omega, Nat.zero_le _, gF, (fun r h => nomatch h), fun c1 f1 v1 Gb1 sb1 nc1 nf1 hc1 => ⟨_, rfl, ?_⟩⟩
    rw [List.append_nil, mergeR_id ndF] at hc1
    have L2 := L1.keep sb1
    have et := (sa1.trans sb1) _ _ et
    have q01 : c1 ≠ x0 := (ne_of_none ei0 nc1).symm
    have q21 : c1 ≠ x2 := by obtain ⟨i, e⟩ := L1.two.ins; exact (ne_of_none e nc1).symm
    clear L1 LZ h3 ei0 ei3 sa1 sb1 nc1 nf1 nx3 ndx3 nex3 nd3 nde
    -- the second of them
    refine ⟨_, rfl, fun x3 dx3 nx3 ndx3 nex3 => lot_new c.h (rows := []) rfl ⟨[], True.intro, .inr (hE0 _)⟩ (Nat.zero_le _) (fun r h => nomatch h) nx3 ndx3 nex3 fun d3 xs3 Ga2 sa2 nd3 h3 => ?_⟩
    have h3 : LotAt Ga2 C x3 d3 xs3 [] := h3
    have L3 := L2.keep sa2
    have hc1 := hc1.keep sa2
    obtain ⟨i0, ei0⟩ := L3.bes.ins
    obtain ⟨i3, ei3⟩ := h3.ins
    refine ⟨x0, x3, i0, i3, _, _, rfl, rfl, ei0, ei3, x0, x3, d0, d3, zs, xs3, rs, [], rfl, L3.bes, h3, by omega, Nat.zero_le _, (fun r h => nomatch h), fun _ c2 f2 v2 Gb2 sb2 nc2 nf2 hc2 => ⟨_, rfl, ?_⟩, fun od p' hp => nomatch hp⟩
    rw [less_nil gF] at hc2
    have L4 := L3.keep sb2
    have et := (sa2.trans sb2) _ _ et
    have q02 : c2 ≠ x0 := (ne_of_none ei0 nc2).symm
    have q22 : c2 ≠ x2 := by obtain ⟨i, e⟩ := L3.two.ins; exact (ne_of_none e nc2).symm
    have q12 : c2 ≠ c1 := by obtain ⟨i, e⟩ := hc1.ins; exact (ne_of_none e nc2).symm
    have hc1 := hc1.keep sb2
    clear L2 L3 h3 ei0 ei3 sa2 sb2 nc2 nf2 nx3 ndx3 nex3 nd3
    have bd : ∀ r ∈ rs, r.2.natAbs < 2 ^ 400 := fun r hr => Nat.lt_trans (cap_nb (okF r hr).1 (by have := (okF r hr).2.1; omega)) (by decide)
    have one400 : (1 : Int).natAbs < 2 ^ 400 := by decide
    obtain ⟨i0, ei0⟩ := L4.bes.ins
    refine ⟨_, rfl, x0, 1, i0, _, rfl, rfl, ei0, x0, d0, 1, zs, rs, rfl, L4.bes, by omega, gF, bd, one400, fun _ c3 f3 v3 Gb3 sb3 nc3 nf3 hc3 => ⟨_, rfl, ?_⟩, fun z => absurd z (by decide)⟩
    rw [mul_one1] at hc3
    have L5 := L4.keep sb3
    have et := sb3 _ _ et
    have q03 : c3 ≠ x0 := (ne_of_none ei0 nc3).symm
    have q23 : c3 ≠ x2 := by obtain ⟨i, e⟩ := L4.two.ins; exact (ne_of_none e nc3).symm
    have q13 : c3 ≠ c1 := by obtain ⟨i, e⟩ := hc1.ins; exact (ne_of_none e nc3).symm
    have q33 : c3 ≠ c2 := by obtain ⟨i, e⟩ := hc2.ins; exact (ne_of_none e nc3).symm
    have hc1 := hc1.keep sb3
    have hc2 := hc2.keep sb3
    clear L4 ei0 sb3 nc3 nf3
    obtain ⟨i0, ei0⟩ := L5.bes.ins
    refine ⟨_, rfl, x0, 1, i0, _, rfl, rfl, ei0, x0, d0, 1, zs, rs, rfl, L5.bes, by omega, gF, bd, one400, fun _ c4 f4 v4 Gb4 sb4 nc4 nf4 hc4 => ⟨_, rfl, ?_⟩, fun z => absurd z (by decide)⟩
    rw [mul_one1] at hc4
    have L6 := L5.keep sb4
    have et := sb4 _ _ et
    have q04 : c4 ≠ x0 := (ne_of_none ei0 nc4).symm
    have q24 : c4 ≠ x2 := by obtain ⟨i, e⟩ := L5.two.ins; exact (ne_of_none e nc4).symm
    have q14 : c4 ≠ c1 := by obtain ⟨i, e⟩ := hc1.ins; exact (ne_of_none e nc4).symm
    have q34 : c4 ≠ c2 := by obtain ⟨i, e⟩ := hc2.ins; exact (ne_of_none e nc4).symm
    have q44 : c4 ≠ c3 := by obtain ⟨i, e⟩ := hc3.ins; exact (ne_of_none e nc4).symm
    have hc1 := hc1.keep sb4
    have hc2 := hc2.keep sb4
    have hc3 := hc3.keep sb4
    clear L5 ei0 sb4 nc4 nf4
    refine fun x3 dx3 nx3 ndx3 nex3 => lot_new c.h (rows := []) rfl ⟨[], True.intro, .inr (hE0 _)⟩ (Nat.zero_le _) (fun r h => nomatch h) nx3 ndx3 nex3 fun d3 xs3 Ga5 sa5 nd3 h3 => ?_
    have h3 : LotAt Ga5 C x3 d3 xs3 [] := h3
    have L7 := L6.keep sa5
    have nde : d3 ≠ d0 := (ne_of_none L6.bes.dict nd3).symm
    have hc1 := hc1.keep sa5
    have hc2 := hc2.keep sa5
    have hc3 := hc3.keep sa5
    have hc4 := hc4.keep sa5
    obtain ⟨i0, ei0⟩ := L7.bes.ins
    obtain ⟨i3, ei3⟩ := h3.ins
    refine ⟨_, rfl, x3, x0, i3, i0, _, _, rfl, rfl, ei3, ei0, x3, x0, d3, d0, xs3, zs, [], rs, rfl, h3, L7.bes, nde, Nat.zero_le _, by omega, (fun r h => nomatch h), gF, fun c5 f5 v5 Gb5 sb5 nc5 nf5 hc5 => ⟨_, rfl, ?_⟩⟩
    rw [List.nil_append, mergeR_id ndF] at hc5
    have L8 := L7.keep sb5
    have et := (sa5.trans sb5) _ _ et
    have q05 : c5 ≠ x0 := (ne_of_none ei0 nc5).symm
    have q25 : c5 ≠ x2 := by obtain ⟨i, e⟩ := L7.two.ins; exact (ne_of_none e nc5).symm
    have q15 : c5 ≠ c1 := by obtain ⟨i, e⟩ := hc1.ins; exact (ne_of_none e nc5).symm
    have q35 : c5 ≠ c2 := by obtain ⟨i, e⟩ := hc2.ins; exact (ne_of_none e nc5).symm
    have q45 : c5 ≠ c3 := by obtain ⟨i, e⟩ := hc3.ins; exact (ne_of_none e nc5).symm
    have q55 : c5 ≠ c4 := by obtain ⟨i, e⟩ := hc4.ins; exact (ne_of_none e nc5).symm
    have hc1 := hc1.keep sb5
    have hc2 := hc2.keep sb5
    have hc3 := hc3.keep sb5
    have hc4 := hc4.keep sb5
    clear L6 L7 ei0 ei3 sa5 sb5 nc5 nf5 h3 nx3 ndx3 nex3 nd3 nde
    refine ⟨(by show 5 ≤ sizeLine; decide), fun LL hLL => ?_⟩
    have sL := same_new (o := .lst [.ref c1, .ref c2, .ref c3, .ref c4, .ref c5]) hLL
    have L9 := L8.keep sL
    have et := sL _ _ et
    have eL : upd Gb5 LL (.lst [.ref c1, .ref c2, .ref c3, .ref c4, .ref c5]) LL = some (.lst ([c1, c2, c3, c4, c5].map V.ref)) := upd_same
    have hAs : ∀ c ∈ [c1, c2, c3, c4, c5], ∃ e v, LotAt (upd Gb5 LL (.lst [.ref c1, .ref c2, .ref c3, .ref c4, .ref c5])) C c e v rs := fun c hc => by
      simp only [List.mem_cons, List.not_mem_nil, or_false] at hc
      rcases hc with rfl | rfl | rfl | rfl | rfl
      · exact ⟨_, _, hc1.keep sL⟩
      · exact ⟨_, _, hc2.keep sL⟩
      · exact ⟨_, _, hc3.keep sL⟩
      · exact ⟨_, _, hc4.keep sL⟩
      · exact ⟨_, _, hc5.keep sL⟩
    have nAs : [c1, c2, c3, c4, c5].Nodup := by
      simp only [List.nodup_cons, List.mem_cons, List.not_mem_nil, or_false, not_or, List.nodup_nil, and_true, not_false_eq_true]
      exact ⟨⟨q12.symm, q13.symm, q14.symm, q15.symm⟩, ⟨q33.symm, q34.symm, q35.symm⟩, ⟨q44.symm, q45.symm⟩, q55.symm⟩
    have oAs : ∀ c ∈ [c1, c2, c3, c4, c5], c ≠ x0 ∧ c ≠ x2 := fun c hc => by
      simp only [List.mem_cons, List.not_mem_nil, or_false] at hc
      rcases hc with rfl | rfl | rfl | rfl | rfl
      · exact ⟨q01, q21⟩
      · exact ⟨q02, q22⟩
      · exact ⟨q03, q23⟩
      · exact ⟨q04, q24⟩
      · exact ⟨q05, q25⟩
    generalize upd Gb5 LL (.lst [.ref c1, .ref c2, .ref c3, .ref c4, .ref c5]) = J2 at L9 et eL hAs
    generalize [c1, c2, c3, c4, c5] = As at eL hAs nAs oAs
    clear L8 hc1 hc2 hc3 hc4 hc5 sL hLL
    refine ⟨LL, rfl, ⟨_, SqL.of eL⟩, for_list (K := K) (a := LL) (xs := As.map V.ref) (fun i σ H' => H' LL = some (.lst (As.map V.ref)) ∧ (H' l = some (.lst ls) ∧ TripAt H' ls rs) ∧ (H' m = some (.lst ms) ∧ TripAt H' ms qs) ∧ LotAt H' C x2 d2 ys qs ∧ LotAt H' C x0 d0 zs rs ∧ H' t = some (.tup (tV ((y0, y1), 5))) ∧ (∀ j c, i ≤ j → As[j]? = some c → ∃ e v, LotAt H' C c e v rs) ∧
        ∃ v14 : Option V, σ = [some (.ref scr), some (.ref p), some (.str b), some (.ref D), some (.ref l), some (.ref m), some (.ref x0), some (.ref x), some (.ref x2), some (.ref x), some (.int (cntR rs (y0, y1) + 5)), some tv, some (.ref tt), some (.ref t), v14, none])
      ⟨eL, ⟨L9.f, L9.ft⟩, ⟨L9.s, L9.st⟩, L9.two, L9.bes, et, fun j c _ hj => hAs c (List.mem_of_getElem? hj), _, rfl⟩ (fun i σ H' _ h => SqL.of h.1) ?_ ?_⟩
    · rintro i y σ H' hi ⟨a1, ⟨a2, a3⟩, ⟨a4, a5⟩, a6, a7, a8, a9, v14, rfl⟩
      obtain ⟨ci, hci, ey⟩ : ∃ ci, As[i]? = some ci ∧ y = V.ref ci := by
        rw [List.getElem?_map] at hi
        cases h : As[i]? with
        | none =>
          rw [h] at hi
          exact nomatch (show (none : Option V) = some y from hi)
        | some q =>
          rw [h] at hi
          exact ⟨q, rfl, (Option.some.inj (show some (V.ref q) = some y from hi)).symm⟩
      subst ey
      obtain ⟨e, v, hl⟩ := a9 i ci (Nat.le_refl _) hci
      obtain ⟨w0, w2⟩ := oAs ci (List.mem_of_getElem? hci)
      obtain ⟨dci, ici⟩ := hl.ins
      refine ⟨_, rfl, _, rfl, ci, t, e, v, rs, ((y0, y1), 5), rfl, hl, by omega, gF, a8, (by show (1 : Int) ≤ 5; decide), fun J3 g3 => ⟨_, rfl, rfl, _, rfl, no ?_ ⟨gro_ins g3 ici a1 (fun _ _ _ z => nomatch z), ⟨gro_ins g3 ici a2 (fun _ _ _ z => nomatch z), a3.groI g3 ici⟩, ⟨gro_ins g3 ici a4 (fun _ _ _ z => nomatch z), a5.groI g3 ici⟩, a6.groI g3 ici w2.symm, a7.groI g3 ici w0.symm, gro_ins g3 ici a8 (fun _ _ _ z => nomatch z), fun j cj hij hcj => ?_, _, rfl⟩⟩⟩
      · rw [cnt_raise (r := ((y0, y1), 5)) ndF, decide_eq_true rfl]
        rfl
      · obtain ⟨ej, vj, hlj⟩ := a9 j cj (by omega) hcj
        exact ⟨ej, vj, hlj.groI g3 ici (fun z => by
          have := (List.getElem?_inj (List.getElem?_eq_some_iff.mp hcj).1 nAs).mp (hcj.trans (show some cj = As[i]? by rw [hci, z]))
          omega)⟩
    · rintro σ H' ⟨a1, ⟨a2, a3⟩, ⟨a4, a5⟩, a6, a7, a8, a9, v14, rfl⟩
      exact ⟨_, rfl, _, rfl, x2, d2, m, ys, qs, rfl, a6, ⟨ms, SqL.of a4, a5⟩, by omega, fun J3 s3 => ⟨_, rfl, yes rfl ⟨_, rfl, _, rfl, x0, d0, l, zs, rs, rfl, a7.keep s3, ⟨ls, SqL.of (s3 _ _ a2), a3.same s3⟩, by omega, fun J4 s4 => k _⟩⟩⟩
end
end Yd
namespace Yd
open PySem L2
/-- which errors «except S» names -/
theorem exm_is {K : PySem.W.Frag} {S : Addr} {cls : Value} {b : Bool} (h1 : PySem.W.subIn K (.ref S) (.type "BaseException") = some true) (h2 : PySem.W.isClsIn K S = true) (h3 : PySem.W.typeIn K (.ref S) = some (.type "type")) (h4 : PySem.W.subIn K cls (.ref S) = some b) : PySem.W.exmOne K cls (.ref S) = some b := by
  have a1 : (PySem.W.subIn K (.ref S) (.type "BaseException") == some true) = true := by rw [h1]; rfl
  have h5 : (PySem.W.clsIn K S).isSome = true := h2
  have a2 : ((PySem.W.clsIn K S).isSome && PySem.W.typeIn K (.ref S) == some (.type "type")) = true := by rw [h5, h3]; rfl
  unfold PySem.W.exmOne
  rw [if_pos a1]
  exact (if_pos a2).trans h4
end Yd
namespace Yd
open PySem L2
/-! ### isinstance, of an own class -/
theorem kit_is {K : PySem.W.Frag} {C D : Addr} {b : Bool} (h1 : PySem.W.isClsIn K D = true) (h2 : PySem.W.typeIn K (.ref D) = some (.type "type")) (h3 : PySem.W.subIn K (.ref C) (.ref D) = some b) (h4 : C = D → b = true) : PySem.W.kitOne K (.ref C) (.ref D) = some b := by
  have h5 : (PySem.W.clsIn K D).isSome = true := h1
  have a2 : ((PySem.W.clsIn K D).isSome && PySem.W.typeIn K (.ref D) == some (.type "type")) = true := by rw [h5, h2]; rfl
  unfold PySem.W.kitOne
  split
  · rename_i q
    have q' : C = D := by
      first
        | exact Value.ref.inj (eq_of_beq q)
        | simpa using q
    rw [h4 q']
  · exact (if_pos a2).trans h3
end Yd
namespace Yd
open PySem L2
/-! ### what the top has written -/
theorem all_mk {P : Program} {w : World} {K : PySem.W.Frag} {h : Heap} {mg : Str → Option Value} {fa : Addr} (X : K.In h) (G : h.Ns mainGlobals mg) (hfa : mg "law" = some (.ref fa))
    {EB fB ccB cdaB : Addr} {nmB qB : Str} {NB : Addr} {bsB bmB : List Value} {snB : List Str} {subB : List Value} {abB : Bool} {colB : Option Bool} {ddB : Option Addr} {m0B m1B m2B m3B m5B : Option Value} {odB anB : Option Addr} {slB : Array (Option Value)} {ocB kVB dcB pmB ctB : Value} {cclB : Value} {cddB : Option Addr} {vsB : Array Value} {ccsB : Array (Option Value)} {fileB : Str} {tfB : Nat} {clB : Value} {cldB : Option Addr} {cslB : Array (Option Value)} {cdDB : ClassData} {EK fK ccK cdaK : Addr} {nmK qK : Str} {NK : Addr} {bsK bmK : List Value} {snK : List Str} {subK : List Value} {abK : Bool} {colK : Option Bool} {ddK : Option Addr} {m0K m1K m2K m3K m5K : Option Value} {odK anK : Option Addr} {slK : Array (Option Value)} {ocK kVK dcK pmK ctK : Value} {cclK : Value} {cddK : Option Addr} {vsK : Array Value} {ccsK : Array (Option Value)} {fileK : Str} {tfK : Nat} {clK : Value} {cldK : Option Addr} {cslK : Array (Option Value)} {cdDK : ClassData} {CH : Addr} {CL : Addr} {fHI TDHI edHI : Addr} {odHI anHI : Option Addr} {slHI : Array (Option Value)} {ocHI kVHI dcHI pmHI cdHI ctHI : Value} {oTHI oEHI : Obj} {nTHI nEHI : Nat} {fLI TDLI edLI : Addr} {odLI anLI : Option Addr} {slLI : Array (Option Value)} {ocLI kVLI dcLI pmLI cdLI ctLI : Value} {oTLI oELI : Obj} {nTLI nELI : Nat} {fHt : Addr} {odHt anHt : Option Addr} {slHt : Array (Option Value)} {ocHt kVHt dcHt pmHt cdHt ctHt : Value} {faup : Addr} {odaup anaup : Option Addr} {slaup : Array (Option Value)} {ocaup kVaup dcaup pmaup cdaup ctaup : Value} {fLt : Addr} {odLt anLt : Option Addr} {slLt : Array (Option Value)} {ocLt kVLt dcLt pmLt cdLt ctLt : Value} {fLl : Addr} {odLl anLl : Option Addr} {slLl : Array (Option Value)} {ocLl kVLl dcLl pmLl cdLl ctLl : Value} {fLk : Addr} {odLk anLk : Option Addr} {slLk : Array (Option Value)} {ocLk kVLk dcLk pmLk cdLk ctLk : Value} {fLg : Addr} {odLg anLg : Option Addr} {slLg : Array (Option Value)} {ocLg kVLg dcLg pmLg cdLg ctLg : Value} {fLa : Addr} {odLa anLa : Option Addr} {slLa : Array (Option Value)} {ocLa kVLa dcLa pmLa cdLa ctLa : Value} {fLu : Addr} {odLu anLu : Option Addr} {slLu : Array (Option Value)} {ocLu kVLu dcLu pmLu cdLu ctLu : Value} {fLm : Addr} {odLm anLm : Option Addr} {slLm : Array (Option Value)} {ocLm kVLm dcLm pmLm cdLm ctLm : Value} {fLr : Addr} {odLr anLr : Option Addr} {slLr : Array (Option Value)} {ocLr kVLr dcLr pmLr cdLr ctLr : Value} {fIa : Addr} {odIa anIa : Option Addr} {slIa : Array (Option Value)} {ocIa kVIa dcIa pmIa cdIa ctIa : Value} {fIs : Addr} {odIs anIs : Option Addr} {slIs : Array (Option Value)} {ocIs kVIs dcIs pmIs cdIs ctIs : Value} {fLs : Addr} {odLs anLs : Option Addr} {slLs : Array (Option Value)} {ocLs kVLs dcLs pmLs cdLs ctLs : Value} {pT pO : Addr} {rT rO : List Value} {fLT : Addr} {odLT anLT : Option Addr} {slLT : Array (Option Value)} {ocLT kVLT dcLT pmLT cdLT ctLT : Value} {fLO : Addr} {odLO anLO : Option Addr} {slLO : Array (Option Value)} {ocLO kVLO dcLO pmLO cdLO ctLO : Value} {fpool : Addr} {odpool anpool : Option Addr} {slpool : Array (Option Value)} {ocpool kVpool dcpool pmpool cdpool ctpool : Value} {ftake : Addr} {odtake antake : Option Addr} {sltake : Array (Option Value)} {octake kVtake dctake pmtake cdtake cttake : Value} {fbase : Addr} {odbase anbase : Option Addr} {slbase : Array (Option Value)} {ocbase kVbase dcbase pmbase cdbase ctbase : Value} {fname : Addr} {odname anname : Option Addr} {slname : Array (Option Value)} {ocname kVname dcname pmname cdname ctname : Value} {fisi : Addr} {odisi anisi : Option Addr} {slisi : Array (Option Value)} {ocisi kVisi dcisi pmisi cdisi ctisi : Value} {fmer : Addr} {odmer anmer : Option Addr} {slmer : Array (Option Value)} {ocmer kVmer dcmer pmmer cdmer ctmer : Value} {fisl : Addr} {odisl anisl : Option Addr} {slisl : Array (Option Value)} {ocisl kVisl dcisl pmisl cdisl ctisl : Value} {fcou : Addr} {odcou ancou : Option Addr} {slcou : Array (Option Value)} {occou kVcou dccou pmcou cdcou ctcou : Value} {fdrw : Addr} {oddrw andrw : Option Addr} {sldrw : Array (Option Value)} {ocdrw kVdrw dcdrw pmdrw cddrw ctdrw : Value} {fles : Addr} {odles anles : Option Addr} {slles : Array (Option Value)} {ocles kVles dcles pmles cdles ctles : Value} {fsec : Addr} {odsec ansec : Option Addr} {slsec : Array (Option Value)} {ocsec kVsec dcsec pmsec cdsec ctsec : Value} {fcut : Addr} {odcut ancut : Option Addr} {slcut : Array (Option Value)} {occut kVcut dccut pmcut cdcut ctcut : Value} {frai : Addr} {odrai anrai : Option Addr} {slrai : Array (Option Value)} {ocrai kVrai dcrai pmrai cdrai ctrai : Value} {flaw : Addr} {odlaw anlaw : Option Addr} {sllaw : Array (Option Value)} {oclaw kVlaw dclaw pmlaw cdlaw ctlaw : Value}
    (z0 : PySem.W.nsIn K mainGlobals "len" = some none)
    (z1 : PySem.W.nsIn K mainGlobals "int" = some none)
    (z2 : PySem.W.nsIn K mainGlobals "range" = some none)
    (z3 : PySem.W.nsIn K mainGlobals "tuple" = some none)
    (z4 : PySem.W.nsIn K mainGlobals "list" = some none)
    (z5 : PySem.W.nsIn K mainGlobals "isinstance" = some none)
    (z6 : PySem.W.nsIn K mainGlobals "iter" = some none)
    (z7 : PySem.W.nsIn K mainGlobals "bool" = some none)
    (z8 : PySem.W.nsIn K mainGlobals "sum" = some none)
    (aB : PySem.W.nsIn K mainGlobals "BadCount" = some (some (.ref EB)))
    (xB : K.lookup EB = some (excClassObj nmB qB EB NB bsB bmB true snB subB abB colB ddB m0B m1B m2B m3B m5B "ValueError.__new__"))
    (rvB : HandSPX.refsVE bmB = true)
    (saB : PySem.W.findIn K (.ref EB) "__setattr__" = some (some (.builtin "object.__setattr__")))
    (gaB : PySem.W.findIn K (.ref EB) "__getattribute__" = some (some (.builtin "BaseException.__getattribute__")))
    (ggB : PySem.W.findIn K (.ref EB) "__getattr__" = some none)
    (n0B : PySem.W.findIn K (.ref EB) "count" = some none)
    (eB : PySem.W.subIn K (.ref EB) (.type "BaseException") = some true)
    (tB : PySem.W.typeIn K (.ref EB) = some (.type "type"))
    (kCB : PySem.W.keepIn K (.ref EB) = true)
    (hCB : PySem.W.hasDictIn K EB = true)
    (iCB : PySem.W.isClsIn K EB = true)
    (sCB : PySem.W.subIn K (.ref EB) (.ref EB) = some true)
    (aiB : PySem.W.findIn K (.ref EB) "__init__" = some (some (.ref fB)))
    (tiB : PySem.W.typeIn K (.ref fB) = some (.type "function"))
    (lB : K.lookup fB = some ⟨ocB, odB, .func (PySem.W.fnX "__init__" "BadCount.__init__" (defArgs sBadCountInit) (defBody sBadCountInit) (defScope sBadCountInit) [("__class__", ccB)] .none kVB dcB pmB anB (.ref cdaB) ctB), slB⟩)
    (cB : PySem.W.codeIn K (.ref cdaB) "BadCount.__init__" = true)
    (lcB : K.lookup cdaB = some ⟨cclB, cddB, .fields vsB, ccsB⟩)
    (hvB : vsB[2]? = some (.str fileB tfB))
    (hfB : (P.main.file == fileB) = true)
    (ceB : K.lookup ccB = some ⟨clB, cldB, .cell (some (.ref EB)), cslB⟩)
    (cdB : PySem.W.clsIn K EB = some cdDB)
    (ovB : PySem.W.ks_superIn K EB EB "__init__" = some (some (.builtin "ValueError.__init__")))
    (svB : PySem.W.subIn K (.ref EB) (.type "ValueError") = some true)
    (mrB : PySem.W.mroIn K EB (.ref EB) = some true)
    (z9 : PySem.W.nsIn K mainGlobals "super" = some none)
    (top : (P.main.scope.names.lookup ("super" : Str)).isSome = false)
    (any : PySem.W.nsIn K cStatics "thirdparty.any" = some none)
    (aK : PySem.W.nsIn K mainGlobals "Lacking" = some (some (.ref EK)))
    (xK : K.lookup EK = some (excClassObj nmK qK EK NK bsK bmK true snK subK abK colK ddK m0K m1K m2K m3K m5K "ValueError.__new__"))
    (rvK : HandSPX.refsVE bmK = true)
    (saK : PySem.W.findIn K (.ref EK) "__setattr__" = some (some (.builtin "object.__setattr__")))
    (gaK : PySem.W.findIn K (.ref EK) "__getattribute__" = some (some (.builtin "BaseException.__getattribute__")))
    (ggK : PySem.W.findIn K (.ref EK) "__getattr__" = some none)
    (n0K : PySem.W.findIn K (.ref EK) "kind" = some none)
    (n1K : PySem.W.findIn K (.ref EK) "standing" = some none)
    (eK : PySem.W.subIn K (.ref EK) (.type "BaseException") = some true)
    (tK : PySem.W.typeIn K (.ref EK) = some (.type "type"))
    (kCK : PySem.W.keepIn K (.ref EK) = true)
    (hCK : PySem.W.hasDictIn K EK = true)
    (iCK : PySem.W.isClsIn K EK = true)
    (sCK : PySem.W.subIn K (.ref EK) (.ref EK) = some true)
    (aiK : PySem.W.findIn K (.ref EK) "__init__" = some (some (.ref fK)))
    (tiK : PySem.W.typeIn K (.ref fK) = some (.type "function"))
    (lK : K.lookup fK = some ⟨ocK, odK, .func (PySem.W.fnX "__init__" "Lacking.__init__" (defArgs sLackingInit) (defBody sLackingInit) (defScope sLackingInit) [("__class__", ccK)] .none kVK dcK pmK anK (.ref cdaK) ctK), slK⟩)
    (cK : PySem.W.codeIn K (.ref cdaK) "Lacking.__init__" = true)
    (lcK : K.lookup cdaK = some ⟨cclK, cddK, .fields vsK, ccsK⟩)
    (hvK : vsK[2]? = some (.str fileK tfK))
    (hfK : (P.main.file == fileK) = true)
    (ceK : K.lookup ccK = some ⟨clK, cldK, .cell (some (.ref EK)), cslK⟩)
    (cdK : PySem.W.clsIn K EK = some cdDK)
    (ovK : PySem.W.ks_superIn K EK EK "__init__" = some (some (.builtin "ValueError.__init__")))
    (svK : PySem.W.subIn K (.ref EK) (.type "ValueError") = some true)
    (mrK : PySem.W.mroIn K EK (.ref EK) = some true)
    (aCH : PySem.W.nsIn K mainGlobals "Hold" = some (some (.ref CH)))
    (pgCH : PySem.W.plainGet K CH Str.empty = true)
    (hdCH : PySem.W.hasDictIn K CH = true)
    (poCH : PySem.W.plainOver K CH = true)
    (saCH : PySem.W.findIn K (.ref CH) "__setattr__" = some (some (.builtin "object.__setattr__")))
    (mkCH : PySem.W.makesIn K CH = true)
    (kcCH : PySem.W.keepIn K (.ref CH) = true)
    (aCL : PySem.W.nsIn K mainGlobals "Lot" = some (some (.ref CL)))
    (pgCL : PySem.W.plainGet K CL Str.empty = true)
    (hdCL : PySem.W.hasDictIn K CL = true)
    (poCL : PySem.W.plainOver K CL = true)
    (saCL : PySem.W.findIn K (.ref CL) "__setattr__" = some (some (.builtin "object.__setattr__")))
    (mkCL : PySem.W.makesIn K CL = true)
    (kcCL : PySem.W.keepIn K (.ref CL) = true)
    (lHI : K.lookup fHI = some ⟨ocHI, odHI, .func (PySem.W.fnOf "__init__" "Hold.__init__" (defArgs sHoldInit) (defBody sHoldInit) (defScope sHoldInit) (.ref TDHI) kVHI dcHI pmHI anHI cdHI ctHI), slHI⟩)
    (cHI : PySem.W.codeIn K cdHI "Hold.__init__" = true)
    (kHI : PySem.W.keepIn K (.ref fHI) = true)
    (iHI : PySem.W.isFn K (.ref fHI) = true)
    (lTHI : K.lookup TDHI = some oTHI)
    (dTHI : oTHI.data = .seq [Value.ref edHI].toArray nTHI)
    (lEHI : K.lookup edHI = some oEHI)
    (cEHI : oEHI.cls = .type "tuple")
    (dEHI : oEHI.data = .seq #[] nEHI)
    (lLI : K.lookup fLI = some ⟨ocLI, odLI, .func (PySem.W.fnOf "__init__" "Lot.__init__" (defArgs sLotInit) (defBody sLotInit) (defScope sLotInit) (.ref TDLI) kVLI dcLI pmLI anLI cdLI ctLI), slLI⟩)
    (cLI : PySem.W.codeIn K cdLI "Lot.__init__" = true)
    (kLI : PySem.W.keepIn K (.ref fLI) = true)
    (iLI : PySem.W.isFn K (.ref fLI) = true)
    (lTLI : K.lookup TDLI = some oTLI)
    (dTLI : oTLI.data = .seq [Value.ref edLI].toArray nTLI)
    (lELI : K.lookup edLI = some oELI)
    (cELI : oELI.cls = .type "tuple")
    (dELI : oELI.data = .seq #[] nELI)
    (lHt : K.lookup fHt = some ⟨ocHt, odHt, .func (PySem.W.fnOf "__iter__" "Hold.__iter__" (defArgs sHoldIter) (defBody sHoldIter) (defScope sHoldIter) .none kVHt dcHt pmHt anHt cdHt ctHt), slHt⟩)
    (cHt : PySem.W.codeIn K cdHt "Hold.__iter__" = true)
    (kHt : PySem.W.keepIn K (.ref fHt) = true)
    (iHt : PySem.W.isFn K (.ref fHt) = true)
    (o_Ht : PySem.W.findIn K (.ref CH) "__iter__" = some (some (.ref fHt)))
    (laup : K.lookup faup = some ⟨ocaup, odaup, .func (PySem.W.fnOf "added_up" "added_up" (defArgs sAddedUp) (defBody sAddedUp) (defScope sAddedUp) .none kVaup dcaup pmaup anaup cdaup ctaup), slaup⟩)
    (caup : PySem.W.codeIn K cdaup "added_up" = true)
    (kaup : PySem.W.keepIn K (.ref faup) = true)
    (aaup : PySem.W.nsIn K mainGlobals "added_up" = some (some (.ref faup)))
    (lLt : K.lookup fLt = some ⟨ocLt, odLt, .func (PySem.W.fnOf "__iter__" "Lot.__iter__" (defArgs sLotIter) (defBody sLotIter) (defScope sLotIter) .none kVLt dcLt pmLt anLt cdLt ctLt), slLt⟩)
    (cLt : PySem.W.codeIn K cdLt "Lot.__iter__" = true)
    (kLt : PySem.W.keepIn K (.ref fLt) = true)
    (iLt : PySem.W.isFn K (.ref fLt) = true)
    (o_Lt : PySem.W.findIn K (.ref CL) "__iter__" = some (some (.ref fLt)))
    (lLl : K.lookup fLl = some ⟨ocLl, odLl, .func (PySem.W.fnOf "__len__" "Lot.__len__" (defArgs sLotLen) (defBody sLotLen) (defScope sLotLen) .none kVLl dcLl pmLl anLl cdLl ctLl), slLl⟩)
    (cLl : PySem.W.codeIn K cdLl "Lot.__len__" = true)
    (kLl : PySem.W.keepIn K (.ref fLl) = true)
    (iLl : PySem.W.isFn K (.ref fLl) = true)
    (o_Ll : PySem.W.findIn K (.ref CL) "__len__" = some (some (.ref fLl)))
    (lLk : K.lookup fLk = some ⟨ocLk, odLk, .func (PySem.W.fnOf "__contains__" "Lot.__contains__" (defArgs sLotIn) (defBody sLotIn) (defScope sLotIn) .none kVLk dcLk pmLk anLk cdLk ctLk), slLk⟩)
    (cLk : PySem.W.codeIn K cdLk "Lot.__contains__" = true)
    (kLk : PySem.W.keepIn K (.ref fLk) = true)
    (iLk : PySem.W.isFn K (.ref fLk) = true)
    (o_Lk : PySem.W.findIn K (.ref CL) "__contains__" = some (some (.ref fLk)))
    (lLg : K.lookup fLg = some ⟨ocLg, odLg, .func (PySem.W.fnOf "__getitem__" "Lot.__getitem__" (defArgs sLotGet) (defBody sLotGet) (defScope sLotGet) .none kVLg dcLg pmLg anLg cdLg ctLg), slLg⟩)
    (cLg : PySem.W.codeIn K cdLg "Lot.__getitem__" = true)
    (kLg : PySem.W.keepIn K (.ref fLg) = true)
    (iLg : PySem.W.isFn K (.ref fLg) = true)
    (o_Lg : PySem.W.findIn K (.ref CL) "__getitem__" = some (some (.ref fLg)))
    (lLa : K.lookup fLa = some ⟨ocLa, odLa, .func (PySem.W.fnOf "__add__" "Lot.__add__" (defArgs sLotAdd) (defBody sLotAdd) (defScope sLotAdd) .none kVLa dcLa pmLa anLa cdLa ctLa), slLa⟩)
    (cLa : PySem.W.codeIn K cdLa "Lot.__add__" = true)
    (kLa : PySem.W.keepIn K (.ref fLa) = true)
    (iLa : PySem.W.isFn K (.ref fLa) = true)
    (o_La : PySem.W.findIn K (.ref CL) "__add__" = some (some (.ref fLa)))
    (lLu : K.lookup fLu = some ⟨ocLu, odLu, .func (PySem.W.fnOf "__sub__" "Lot.__sub__" (defArgs sLotSub) (defBody sLotSub) (defScope sLotSub) .none kVLu dcLu pmLu anLu cdLu ctLu), slLu⟩)
    (cLu : PySem.W.codeIn K cdLu "Lot.__sub__" = true)
    (kLu : PySem.W.keepIn K (.ref fLu) = true)
    (iLu : PySem.W.isFn K (.ref fLu) = true)
    (o_Lu : PySem.W.findIn K (.ref CL) "__sub__" = some (some (.ref fLu)))
    (lLm : K.lookup fLm = some ⟨ocLm, odLm, .func (PySem.W.fnOf "__mul__" "Lot.__mul__" (defArgs sLotMul) (defBody sLotMul) (defScope sLotMul) .none kVLm dcLm pmLm anLm cdLm ctLm), slLm⟩)
    (cLm : PySem.W.codeIn K cdLm "Lot.__mul__" = true)
    (kLm : PySem.W.keepIn K (.ref fLm) = true)
    (iLm : PySem.W.isFn K (.ref fLm) = true)
    (o_Lm : PySem.W.findIn K (.ref CL) "__mul__" = some (some (.ref fLm)))
    (lLr : K.lookup fLr = some ⟨ocLr, odLr, .func (PySem.W.fnOf "__rmul__" "Lot.__rmul__" (defArgs sLotRmul) (defBody sLotRmul) (defScope sLotRmul) .none kVLr dcLr pmLr anLr cdLr ctLr), slLr⟩)
    (cLr : PySem.W.codeIn K cdLr "Lot.__rmul__" = true)
    (kLr : PySem.W.keepIn K (.ref fLr) = true)
    (iLr : PySem.W.isFn K (.ref fLr) = true)
    (o_Lr : PySem.W.findIn K (.ref CL) "__rmul__" = some (some (.ref fLr)))
    (lIa : K.lookup fIa = some ⟨ocIa, odIa, .func (PySem.W.fnOf "__iadd__" "Lot.__iadd__" (defArgs sLotIadd) (defBody sLotIadd) (defScope sLotIadd) .none kVIa dcIa pmIa anIa cdIa ctIa), slIa⟩)
    (cIa : PySem.W.codeIn K cdIa "Lot.__iadd__" = true)
    (kIa : PySem.W.keepIn K (.ref fIa) = true)
    (iIa : PySem.W.isFn K (.ref fIa) = true)
    (o_Ia : PySem.W.findIn K (.ref CL) "__iadd__" = some (some (.ref fIa)))
    (lIs : K.lookup fIs = some ⟨ocIs, odIs, .func (PySem.W.fnOf "__isub__" "Lot.__isub__" (defArgs sLotIsub) (defBody sLotIsub) (defScope sLotIsub) .none kVIs dcIs pmIs anIs cdIs ctIs), slIs⟩)
    (cIs : PySem.W.codeIn K cdIs "Lot.__isub__" = true)
    (kIs : PySem.W.keepIn K (.ref fIs) = true)
    (iIs : PySem.W.isFn K (.ref fIs) = true)
    (o_Is : PySem.W.findIn K (.ref CL) "__isub__" = some (some (.ref fIs)))
    (nqCL : PySem.W.noSeq K CL = true)
    (fiLg : PySem.W.fnIn K fLg = true)
    (lLs : K.lookup fLs = some ⟨ocLs, odLs, .func (PySem.W.fnOf "spots" "Lot.spots" (defArgs sLotSpots) (defBody sLotSpots) (defScope sLotSpots) .none kVLs dcLs pmLs anLs cdLs ctLs), slLs⟩)
    (cLs : PySem.W.codeIn K cdLs "Lot.spots" = true)
    (kLs : PySem.W.keepIn K (.ref fLs) = true)
    (iLs : PySem.W.isFn K (.ref fLs) = true)
    (m_CL_Ls : PySem.W.findIn K (.ref CL) "spots" = some (some (.ref fLs)))
    (lLT : K.lookup fLT = some ⟨ocLT, odLT, .func (PySem.W.fnOf "total" "Lot.total" (defArgs sLotTotal) (defBody sLotTotal) (defScope sLotTotal) .none kVLT dcLT pmLT anLT cdLT ctLT), slLT⟩)
    (cLT : PySem.W.codeIn K cdLT "Lot.total" = true)
    (kLT : PySem.W.keepIn K (.ref fLT) = true)
    (iLT : PySem.W.isFn K (.ref fLT) = true)
    (atT : PySem.W.findIn K (.ref CL) "total" = some (some (.ref pT)))
    (geT : PySem.W.specialIn K (.ref pT) "__get__" = some (some (.builtin "property.__get__")))
    (tkT : PySem.W.takesIn K (.ref pT) = some true)
    (rcT : PySem.W.recIn K pT "property" = some (.ref fLT :: rT))
    (lLO : K.lookup fLO = some ⟨ocLO, odLO, .func (PySem.W.fnOf "one" "Lot.one" (defArgs sLotOne) (defBody sLotOne) (defScope sLotOne) .none kVLO dcLO pmLO anLO cdLO ctLO), slLO⟩)
    (cLO : PySem.W.codeIn K cdLO "Lot.one" = true)
    (kLO : PySem.W.keepIn K (.ref fLO) = true)
    (iLO : PySem.W.isFn K (.ref fLO) = true)
    (rdCL : PySem.W.readsIn K CL (.type "type") = true)
    (gtCL : PySem.W.specialIn K (.ref CL) "__getattribute__" = some (some (.builtin "type.__getattribute__")))
    (atO : PySem.W.findCls K (.ref CL) (.type "type") "one" = some (.get (.builtin "classmethod.__get__") (.ref pO) .none (.ref CL)))
    (rcO : PySem.W.recIn K pO "classmethod" = some (.ref fLO :: rO))
    (fiO : PySem.W.fnIn K fLO = true)
    (nSp : PySem.W.findIn K (.ref CH) "_spots" = some none)
    (nRo : PySem.W.findIn K (.ref CL) "_rows" = some none)
    (inCH : PySem.W.findIn K (.ref CH) "__init__" = some (some (.ref fHI)))
    (inCL : PySem.W.findIn K (.ref CL) "__init__" = some (some (.ref fLI)))
    (cn : PySem.W.specialIn K (.builtin "object.__class__") "__get__" = some (some (.builtin "getset_descriptor.__get__")))
    (ct : PySem.W.takesIn K (.builtin "object.__class__") = some true)
    (caCH : PySem.W.findIn K (.ref CH) "__class__" = some (some (.builtin "object.__class__")))
    (cmCH : PySem.W.mroIn K CH (.type "object") = some true)
    (icCH : PySem.W.isClsIn K CH = true)
    (tyCH : PySem.W.typeIn K (.ref CH) = some (.type "type"))
    (suCH : PySem.W.subIn K (.ref CH) (.ref CH) = some true)
    (caCL : PySem.W.findIn K (.ref CL) "__class__" = some (some (.builtin "object.__class__")))
    (cmCL : PySem.W.mroIn K CL (.type "object") = some true)
    (icCL : PySem.W.isClsIn K CL = true)
    (tyCL : PySem.W.typeIn K (.ref CL) = some (.type "type"))
    (suCL : PySem.W.subIn K (.ref CL) (.ref CL) = some true)
    (suI : PySem.W.subIn K (.type "int") (.ref CL) = some false)
    (suJ : PySem.W.subIn K (.ref CL) (.type "int") = some false)
    (sfCL : PySem.W.selfFirst K CL = true)
    (lpool : K.lookup fpool = some ⟨ocpool, odpool, .func (PySem.W.fnOf "_law_pool" "_law_pool" (defArgs sPool) (defBody sPool) (defScope sPool) .none kVpool dcpool pmpool anpool cdpool ctpool), slpool⟩)
    (cpool : PySem.W.codeIn K cdpool "_law_pool" = true)
    (kpool : PySem.W.keepIn K (.ref fpool) = true)
    (apool : PySem.W.nsIn K mainGlobals "_law_pool" = some (some (.ref fpool)))
    (ltake : K.lookup ftake = some ⟨octake, odtake, .func (PySem.W.fnOf "_law_take" "_law_take" (defArgs sTake) (defBody sTake) (defScope sTake) .none kVtake dctake pmtake antake cdtake cttake), sltake⟩)
    (ctake : PySem.W.codeIn K cdtake "_law_take" = true)
    (ktake : PySem.W.keepIn K (.ref ftake) = true)
    (atake : PySem.W.nsIn K mainGlobals "_law_take" = some (some (.ref ftake)))
    (lbase : K.lookup fbase = some ⟨ocbase, odbase, .func (PySem.W.fnOf "_law_base" "_law_base" (defArgs sBase) (defBody sBase) (defScope sBase) .none kVbase dcbase pmbase anbase cdbase ctbase), slbase⟩)
    (cbase : PySem.W.codeIn K cdbase "_law_base" = true)
    (kbase : PySem.W.keepIn K (.ref fbase) = true)
    (abase : PySem.W.nsIn K mainGlobals "_law_base" = some (some (.ref fbase)))
    (lname : K.lookup fname = some ⟨ocname, odname, .func (PySem.W.fnOf "_law_name" "_law_name" (defArgs sName) (defBody sName) (defScope sName) .none kVname dcname pmname anname cdname ctname), slname⟩)
    (cname : PySem.W.codeIn K cdname "_law_name" = true)
    (kname : PySem.W.keepIn K (.ref fname) = true)
    (aname : PySem.W.nsIn K mainGlobals "_law_name" = some (some (.ref fname)))
    (lisi : K.lookup fisi = some ⟨ocisi, odisi, .func (PySem.W.fnOf "_law_is_int" "_law_is_int" (defArgs sIsInt) (defBody sIsInt) (defScope sIsInt) .none kVisi dcisi pmisi anisi cdisi ctisi), slisi⟩)
    (cisi : PySem.W.codeIn K cdisi "_law_is_int" = true)
    (kisi : PySem.W.keepIn K (.ref fisi) = true)
    (aisi : PySem.W.nsIn K mainGlobals "_law_is_int" = some (some (.ref fisi)))
    (lmer : K.lookup fmer = some ⟨ocmer, odmer, .func (PySem.W.fnOf "_law_merged" "_law_merged" (defArgs sMerged) (defBody sMerged) (defScope sMerged) .none kVmer dcmer pmmer anmer cdmer ctmer), slmer⟩)
    (cmer : PySem.W.codeIn K cdmer "_law_merged" = true)
    (kmer : PySem.W.keepIn K (.ref fmer) = true)
    (amer : PySem.W.nsIn K mainGlobals "_law_merged" = some (some (.ref fmer)))
    (lisl : K.lookup fisl = some ⟨ocisl, odisl, .func (PySem.W.fnOf "_law_is_lot" "_law_is_lot" (defArgs sIsLot) (defBody sIsLot) (defScope sIsLot) .none kVisl dcisl pmisl anisl cdisl ctisl), slisl⟩)
    (cisl : PySem.W.codeIn K cdisl "_law_is_lot" = true)
    (kisl : PySem.W.keepIn K (.ref fisl) = true)
    (aisl : PySem.W.nsIn K mainGlobals "_law_is_lot" = some (some (.ref fisl)))
    (lcou : K.lookup fcou = some ⟨occou, odcou, .func (PySem.W.fnOf "_law_count" "_law_count" (defArgs sCount) (defBody sCount) (defScope sCount) .none kVcou dccou pmcou ancou cdcou ctcou), slcou⟩)
    (ccou : PySem.W.codeIn K cdcou "_law_count" = true)
    (kcou : PySem.W.keepIn K (.ref fcou) = true)
    (acou : PySem.W.nsIn K mainGlobals "_law_count" = some (some (.ref fcou)))
    (ldrw : K.lookup fdrw = some ⟨ocdrw, oddrw, .func (PySem.W.fnOf "_law_drawn_rows" "_law_drawn_rows" (defArgs sDrawnRows) (defBody sDrawnRows) (defScope sDrawnRows) .none kVdrw dcdrw pmdrw andrw cddrw ctdrw), sldrw⟩)
    (cdrw : PySem.W.codeIn K cddrw "_law_drawn_rows" = true)
    (kdrw : PySem.W.keepIn K (.ref fdrw) = true)
    (adrw : PySem.W.nsIn K mainGlobals "_law_drawn_rows" = some (some (.ref fdrw)))
    (lles : K.lookup fles = some ⟨ocles, odles, .func (PySem.W.fnOf "_law_less" "_law_less" (defArgs sLess) (defBody sLess) (defScope sLess) .none kVles dcles pmles anles cdles ctles), slles⟩)
    (cles : PySem.W.codeIn K cdles "_law_less" = true)
    (kles : PySem.W.keepIn K (.ref fles) = true)
    (ales : PySem.W.nsIn K mainGlobals "_law_less" = some (some (.ref fles)))
    (lsec : K.lookup fsec = some ⟨ocsec, odsec, .func (PySem.W.fnOf "_law_second" "_law_second" (defArgs sSecond) (defBody sSecond) (defScope sSecond) .none kVsec dcsec pmsec ansec cdsec ctsec), slsec⟩)
    (csec : PySem.W.codeIn K cdsec "_law_second" = true)
    (ksec : PySem.W.keepIn K (.ref fsec) = true)
    (asec : PySem.W.nsIn K mainGlobals "_law_second" = some (some (.ref fsec)))
    (lcut : K.lookup fcut = some ⟨occut, odcut, .func (PySem.W.fnOf "_law_cut" "_law_cut" (defArgs sCut) (defBody sCut) (defScope sCut) .none kVcut dccut pmcut ancut cdcut ctcut), slcut⟩)
    (ccut : PySem.W.codeIn K cdcut "_law_cut" = true)
    (kcut : PySem.W.keepIn K (.ref fcut) = true)
    (acut : PySem.W.nsIn K mainGlobals "_law_cut" = some (some (.ref fcut)))
    (lrai : K.lookup frai = some ⟨ocrai, odrai, .func (PySem.W.fnOf "_law_raised" "_law_raised" (defArgs sRaised) (defBody sRaised) (defScope sRaised) .none kVrai dcrai pmrai anrai cdrai ctrai), slrai⟩)
    (crai : PySem.W.codeIn K cdrai "_law_raised" = true)
    (krai : PySem.W.keepIn K (.ref frai) = true)
    (arai : PySem.W.nsIn K mainGlobals "_law_raised" = some (some (.ref frai)))
    (llaw : K.lookup flaw = some ⟨oclaw, odlaw, .func (PySem.W.fnOf "law" "law" (defArgs sLaw) (defBody sLaw) (defScope sLaw) .none kVlaw dclaw pmlaw anlaw cdlaw ctlaw), sllaw⟩)
    (claw : PySem.W.codeIn K cdlaw "law" = true)
    (klaw : PySem.W.keepIn K (.ref flaw) = true)
    (alaw : PySem.W.nsIn K mainGlobals "law" = some (some (.ref flaw))) :
    ∃ fd : FuncData, (∀ (s : Shared) (v : Value), BindsTo s fd ⟨[v], []⟩ [("_law_script", v)]) ∧ ∀ base : Heap, K.In base → base.Ns mainGlobals mg → FnOk P w K mg base CX0 9 fa fd ["_law_script"] (spLaw K) := by
  have e := hfa.symm.trans (PySem.W.mg_of X G alaw)
  cases e
  have oB : OexC K EB := ⟨⟨_, _, _, _, _, _, _, _, _, _, _, _, _, _, _, xB, rvB⟩, saB, eB, tB, kCB⟩
  have FB : SupFn P K mg "__init__" "BadCount.__init__" sBadCountInit fB EB ccB _ := ⟨⟨_, _, _, _, _, _, _, _, _, _, _, _, _, _, _, rfl, lB, cB, lcB, hvB, hfB⟩, ⟨_, _, _, ceB⟩, ⟨_, cdB⟩, (PySem.W.mg_none_of X G z9), top, any⟩
  have sB : SupC K EB EB := ⟨oB, ovB, svB, mrB⟩
  have bB : ∀ K : PySem.W.Frag, Binds K (PySem.W.fnX "__init__" "BadCount.__init__" (defArgs sBadCountInit) (defBody sBadCountInit) (defScope sBadCountInit) [("__class__", ccB)] .none kVB dcB pmB anB (.ref cdaB) ctB) ["self", "count"] [] := fun _ s us _ hl => match us, hl with | [_, _], _ => .of_eq rfl
  have OB : ∀ base : Heap, ErrOk P w K mg base "BadCount" EB 1 okBadCount fsBadCount := fun base => ⟨(PySem.W.mg_of X G aB), oB, ⟨_, _, _, aiB, tiB, ok_BadCountInit FB sB n0B, bB K⟩⟩
  have TB : CatchC K EB := ⟨⟨gaB, ggB, eB, hCB⟩, exm_is eB iCB tB sCB⟩
  have oK : OexC K EK := ⟨⟨_, _, _, _, _, _, _, _, _, _, _, _, _, _, _, xK, rvK⟩, saK, eK, tK, kCK⟩
  have FK : SupFn P K mg "__init__" "Lacking.__init__" sLackingInit fK EK ccK _ := ⟨⟨_, _, _, _, _, _, _, _, _, _, _, _, _, _, _, rfl, lK, cK, lcK, hvK, hfK⟩, ⟨_, _, _, ceK⟩, ⟨_, cdK⟩, (PySem.W.mg_none_of X G z9), top, any⟩
  have sK : SupC K EK EK := ⟨oK, ovK, svK, mrK⟩
  have bK : ∀ K : PySem.W.Frag, Binds K (PySem.W.fnX "__init__" "Lacking.__init__" (defArgs sLackingInit) (defBody sLackingInit) (defScope sLackingInit) [("__class__", ccK)] .none kVK dcK pmK anK (.ref cdaK) ctK) ["self", "kind", "standing"] [] := fun _ s us _ hl => match us, hl with | [_, _, _], _ => .of_eq rfl
  have OK : ∀ base : Heap, ErrOk P w K mg base "Lacking" EK 2 okLacking fsLacking := fun base => ⟨(PySem.W.mg_of X G aK), oK, ⟨_, _, _, aiK, tiK, ok_LackingInit FK sK n0K n1K, bK K⟩⟩
  have TK : CatchC K EK := ⟨⟨gaK, ggK, eK, hCK⟩, exm_is eK iCK tK sCK⟩
  have clCH : Cls K CH := ⟨pgCH, hdCH, poCH, saCH⟩
  have gCH : mg "Hold" = some (.ref CH) := (PySem.W.mg_of X G aCH)
  have clCL : Cls K CL := ⟨pgCL, hdCL, poCL, saCL⟩
  have gCL : mg "Lot" = some (.ref CL) := (PySem.W.mg_of X G aCL)
  have FHI : FunD K "__init__" "Hold.__init__" (defArgs sHoldInit) (defBody sHoldInit) (defScope sHoldInit) [V.ref edHI] [] fHI _ := ⟨⟨_, _, _, _, _, _, _, _, _, _, rfl, lHI, cHI, .inr ⟨List.cons_ne_nil _ _, _, _, _, _, rfl, lTHI, dTHI, .cons rfl .nil⟩, .inl rfl⟩, kHI⟩
  obtain ⟨dsHI, vsHI, bHI⟩ := FHI.binds1 (ps := ["self", "rows"]) 2 1 (List.cons_ne_nil _ _) rfl (fun _ _ _ _ _ _ _ us its h1 h2 => match us, its, h1, h2 with | [_, _], [_], _, _ => ⟨_, rfl, rfl⟩)
  cases vsHI
  obtain ⟨esHI, wsHI, qHI⟩ := FHI.binds1 (ps := ["self", "rows"]) 1 0 (List.cons_ne_nil _ _) rfl (fun _ _ _ _ _ _ _ us its h1 h2 => match us, its, h1, h2 with | [_], [_], _, _ => ⟨_, rfl, rfl⟩)
  obtain ⟨eeHI, rfl, reHI⟩ := vals1 wsHI
  have hEHI : ∀ H, SqT K H edHI [] := fun H => .inr ⟨_, #[], _, lEHI, cEHI, dEHI, Nat.zero_le _, .nil⟩
  have FLI : FunD K "__init__" "Lot.__init__" (defArgs sLotInit) (defBody sLotInit) (defScope sLotInit) [V.ref edLI] [] fLI _ := ⟨⟨_, _, _, _, _, _, _, _, _, _, rfl, lLI, cLI, .inr ⟨List.cons_ne_nil _ _, _, _, _, _, rfl, lTLI, dTLI, .cons rfl .nil⟩, .inl rfl⟩, kLI⟩
  obtain ⟨dsLI, vsLI, bLI⟩ := FLI.binds1 (ps := ["self", "rows"]) 2 1 (List.cons_ne_nil _ _) rfl (fun _ _ _ _ _ _ _ us its h1 h2 => match us, its, h1, h2 with | [_, _], [_], _, _ => ⟨_, rfl, rfl⟩)
  cases vsLI
  obtain ⟨esLI, wsLI, qLI⟩ := FLI.binds1 (ps := ["self", "rows"]) 1 0 (List.cons_ne_nil _ _) rfl (fun _ _ _ _ _ _ _ us its h1 h2 => match us, its, h1, h2 with | [_], [_], _, _ => ⟨_, rfl, rfl⟩)
  obtain ⟨eeLI, rfl, reLI⟩ := vals1 wsLI
  have hELI : ∀ H, SqT K H edLI [] := fun H => .inr ⟨_, #[], _, lELI, cELI, dELI, Nat.zero_le _, .nil⟩
  have FHt := fun_mk (st := sHoldIter) lHt cHt kHt
  have bHt := FHt.binds (ps := ["self"]) fun _ _ _ _ _ _ us hl => match us, hl with | [_], _ => rfl
  have Faup := fun_mk (st := sAddedUp) laup caup kaup
  have baup := Faup.binds (ps := ["rows"]) fun _ _ _ _ _ _ us hl => match us, hl with | [_], _ => rfl
  have FLt := fun_mk (st := sLotIter) lLt cLt kLt
  have bLt := FLt.binds (ps := ["self"]) fun _ _ _ _ _ _ us hl => match us, hl with | [_], _ => rfl
  have FLl := fun_mk (st := sLotLen) lLl cLl kLl
  have bLl := FLl.binds (ps := ["self"]) fun _ _ _ _ _ _ us hl => match us, hl with | [_], _ => rfl
  have FLk := fun_mk (st := sLotIn) lLk cLk kLk
  have bLk := FLk.binds (ps := ["self", "x"]) fun _ _ _ _ _ _ us hl => match us, hl with | [_, _], _ => rfl
  have FLg := fun_mk (st := sLotGet) lLg cLg kLg
  have bLg := FLg.binds (ps := ["self", "at"]) fun _ _ _ _ _ _ us hl => match us, hl with | [_, _], _ => rfl
  have FLa := fun_mk (st := sLotAdd) lLa cLa kLa
  have bLa := FLa.binds (ps := ["self", "other"]) fun _ _ _ _ _ _ us hl => match us, hl with | [_, _], _ => rfl
  have FLu := fun_mk (st := sLotSub) lLu cLu kLu
  have bLu := FLu.binds (ps := ["self", "other"]) fun _ _ _ _ _ _ us hl => match us, hl with | [_, _], _ => rfl
  have FLm := fun_mk (st := sLotMul) lLm cLm kLm
  have bLm := FLm.binds (ps := ["self", "other"]) fun _ _ _ _ _ _ us hl => match us, hl with | [_, _], _ => rfl
  have FLr := fun_mk (st := sLotRmul) lLr cLr kLr
  have bLr := FLr.binds (ps := ["self", "other"]) fun _ _ _ _ _ _ us hl => match us, hl with | [_, _], _ => rfl
  have FIa := fun_mk (st := sLotIadd) lIa cIa kIa
  have bIa := FIa.binds (ps := ["self", "other"]) fun _ _ _ _ _ _ us hl => match us, hl with | [_, _], _ => rfl
  have FIs := fun_mk (st := sLotIsub) lIs cIs kIs
  have bIs := FIs.binds (ps := ["self", "other"]) fun _ _ _ _ _ _ us hl => match us, hl with | [_, _], _ => rfl
  have FLs := fun_mk (st := sLotSpots) lLs cLs kLs
  have bLs := FLs.binds (ps := ["self"]) fun _ _ _ _ _ _ us hl => match us, hl with | [_], _ => rfl
  have FLT := fun_mk (st := sLotTotal) lLT cLT kLT
  have bLT := FLT.binds (ps := ["self"]) fun _ _ _ _ _ _ us hl => match us, hl with | [_], _ => rfl
  have FLO := fun_mk (st := sLotOne) lLO cLO kLO
  have bLO := FLO.binds (ps := ["cls", "kind", "standing"]) fun _ _ _ _ _ _ us hl => match us, hl with | [_, _, _], _ => rfl
  have mmCH : Mk K CH fHI := ⟨mkCH, inCH, iHI, kcCH⟩
  have mmCL : Mk K CL fLI := ⟨mkCL, inCL, iLI, kcCL⟩
  have Fpool := fun_mk (st := sPool) lpool cpool kpool
  have bpool := Fpool.binds (ps := ["_law_script"]) fun _ _ _ _ _ _ us hl => match us, hl with | [_], _ => rfl
  have Qpool : Fn K mg "_law_pool" sPool ["_law_script"] fpool _ := ⟨Fpool, (PySem.W.mg_of X G apool), bpool⟩
  have Ftake := fun_mk (st := sTake) ltake ctake ktake
  have btake := Ftake.binds (ps := ["_law_pool_here", "_law_size"]) fun _ _ _ _ _ _ us hl => match us, hl with | [_, _], _ => rfl
  have Qtake : Fn K mg "_law_take" sTake ["_law_pool_here", "_law_size"] ftake _ := ⟨Ftake, (PySem.W.mg_of X G atake), btake⟩
  have Fbase := fun_mk (st := sBase) lbase cbase kbase
  have bbase := Fbase.binds (ps := ["_law_pool_here"]) fun _ _ _ _ _ _ us hl => match us, hl with | [_], _ => rfl
  have Qbase : Fn K mg "_law_base" sBase ["_law_pool_here"] fbase _ := ⟨Fbase, (PySem.W.mg_of X G abase), bbase⟩
  have Fname := fun_mk (st := sName) lname cname kname
  have bname := Fname.binds (ps := ["_law_pool_here", "_law_base_here", "_law_k"]) fun _ _ _ _ _ _ us hl => match us, hl with | [_, _, _], _ => rfl
  have Qname : Fn K mg "_law_name" sName ["_law_pool_here", "_law_base_here", "_law_k"] fname _ := ⟨Fname, (PySem.W.mg_of X G aname), bname⟩
  have Fisi := fun_mk (st := sIsInt) lisi cisi kisi
  have bisi := Fisi.binds (ps := ["_law_actual"]) fun _ _ _ _ _ _ us hl => match us, hl with | [_], _ => rfl
  have Qisi : Fn K mg "_law_is_int" sIsInt ["_law_actual"] fisi _ := ⟨Fisi, (PySem.W.mg_of X G aisi), bisi⟩
  have Fmer := fun_mk (st := sMerged) lmer cmer kmer
  have bmer := Fmer.binds (ps := ["_law_rows"]) fun _ _ _ _ _ _ us hl => match us, hl with | [_], _ => rfl
  have Qmer : Fn K mg "_law_merged" sMerged ["_law_rows"] fmer _ := ⟨Fmer, (PySem.W.mg_of X G amer), bmer⟩
  have Fisl := fun_mk (st := sIsLot) lisl cisl kisl
  have bisl := Fisl.binds (ps := ["_law_lot", "_law_rows"]) fun _ _ _ _ _ _ us hl => match us, hl with | [_, _], _ => rfl
  have Qisl : Fn K mg "_law_is_lot" sIsLot ["_law_lot", "_law_rows"] fisl _ := ⟨Fisl, (PySem.W.mg_of X G aisl), bisl⟩
  have Fcou := fun_mk (st := sCount) lcou ccou kcou
  have bcou := Fcou.binds (ps := ["_law_rows", "_law_spot"]) fun _ _ _ _ _ _ us hl => match us, hl with | [_, _], _ => rfl
  have Qcou : Fn K mg "_law_count" sCount ["_law_rows", "_law_spot"] fcou _ := ⟨Fcou, (PySem.W.mg_of X G acou), bcou⟩
  have Fdrw := fun_mk (st := sDrawnRows) ldrw cdrw kdrw
  have bdrw := Fdrw.binds (ps := ["_law_pool_here", "_law_names", "_law_most"]) fun _ _ _ _ _ _ us hl => match us, hl with | [_, _, _], _ => rfl
  have Qdrw : Fn K mg "_law_drawn_rows" sDrawnRows ["_law_pool_here", "_law_names", "_law_most"] fdrw _ := ⟨Fdrw, (PySem.W.mg_of X G adrw), bdrw⟩
  have Fles := fun_mk (st := sLess) lles cles kles
  have bles := Fles.binds (ps := ["_law_rows", "_law_others"]) fun _ _ _ _ _ _ us hl => match us, hl with | [_, _], _ => rfl
  have Qles : Fn K mg "_law_less" sLess ["_law_rows", "_law_others"] fles _ := ⟨Fles, (PySem.W.mg_of X G ales), bles⟩
  have Fsec := fun_mk (st := sSecond) lsec csec ksec
  have bsec := Fsec.binds (ps := ["_law_pool_here", "_law_names", "_law_first"]) fun _ _ _ _ _ _ us hl => match us, hl with | [_, _, _], _ => rfl
  have Qsec : Fn K mg "_law_second" sSecond ["_law_pool_here", "_law_names", "_law_first"] fsec _ := ⟨Fsec, (PySem.W.mg_of X G asec), bsec⟩
  have Fcut := fun_mk (st := sCut) lcut ccut kcut
  have bcut := Fcut.binds (ps := ["_law_lot", "_law_other"]) fun _ _ _ _ _ _ us hl => match us, hl with | [_, _], _ => rfl
  have Qcut : Fn K mg "_law_cut" sCut ["_law_lot", "_law_other"] fcut _ := ⟨Fcut, (PySem.W.mg_of X G acut), bcut⟩
  have Frai := fun_mk (st := sRaised) lrai crai krai
  have brai := Frai.binds (ps := ["_law_lot", "_law_row"]) fun _ _ _ _ _ _ us hl => match us, hl with | [_, _], _ => rfl
  have Qrai : Fn K mg "_law_raised" sRaised ["_law_lot", "_law_row"] frai _ := ⟨Frai, (PySem.W.mg_of X G arai), brai⟩
  have Flaw := fun_mk (st := sLaw) llaw claw klaw
  have blaw := Flaw.binds (ps := ["_law_script"]) fun _ _ _ _ _ _ us hl => match us, hl with | [_], _ => rfl
  exact ⟨PySem.W.fnOf "law" "law" (defArgs sLaw) (defBody sLaw) (defScope sLaw) .none kVlaw dclaw pmlaw anlaw cdlaw ctlaw, fun s v => .of_eq rfl, fun base _ _ => by
    have hc : HCls K CH := ⟨clCH, nSp⟩
    have lc : LCls K CL := ⟨clCL, nRo⟩
    have hH : HoldL P w K mg base CH := ⟨hc, gCH, caCH, cn, ct, cmCH, kit_is icCH tyCH suCH (fun _ => rfl), ⟨_, _, ⟨o_Ht, iHt⟩, ok_hIter FHt (PySem.W.mg_none_of X G z6), bHt⟩⟩
    have GI := ok_lInit (P := P) (w := w) (base := base) FLI (ok_added Faup (OB base)) (PySem.W.mg_of X G aaup) kaup baup
    have lC : LotC P w K mg base CL EB CH := ⟨lc, gCL, caCL, cn, ct, cmCL, kit_is icCL tyCL suCL (fun _ => rfl), hH, ⟨_, _, _, _, ⟨o_Lt, iLt⟩, ⟨o_Ll, iLl⟩, ok_lIter FLt (PySem.W.mg_none_of X G z6), bLt, ok_lLen FLl (PySem.W.mg_none_of X G z0), bLl⟩,
      ⟨_, _, ⟨o_Lk, iLk⟩, ok_lIn FLk, bLk⟩, ⟨_, _, ⟨o_Lg, iLg, fiLg, nqCL⟩, ok_lGet FLg, bLg⟩, ⟨_, _, _, ⟨atT, geT, tkT, ⟨_, rcT⟩⟩, ok_lTot FLT (PySem.W.mg_none_of X G z8), bLT⟩,
      ⟨_, _, ⟨m_CL_Ls, iLs, kLs⟩, ok_lSpots FLs (PySem.W.mg_none_of X G z4) hc gCH mmCH (ok_hInit FHI) bHI, bLs⟩, ⟨_, _, _, _, ⟨rdCL, gtCL⟩, ⟨atO, ⟨_, rcO⟩, fiO⟩, ok_lOne FLO lc mmCL GI bLI, bLO⟩, ⟨_, _, _, _, mmCL, GI, bLI, qLI, reLI, hELI⟩⟩
    have GSu := ok_lSub FLu lC (OK base) (PySem.W.mg_none_of X G z5)
    have GAd := ok_lAdd FLa lC (PySem.W.mg_none_of X G z5)
    have mC : MulC K CL fLm fLr := ⟨sfCL, ⟨o_Lm, iLm⟩, ⟨o_Lr, iLr⟩, suI, suJ⟩
    have GMu := ok_lMul FLm lC (OB base) (PySem.W.mg_none_of X G z5) (PySem.W.mg_none_of X G z1)
    have GRm := ok_lRmul FLr mC GMu bLm
    have GIa := ok_lIadd FIa lc sfCL ⟨o_La, iLa⟩ GAd bLa
    have GIs := ok_lIsub FIs lc sfCL ⟨o_Lu, iLu⟩ GSu bLu
    have lO : LotO P w K mg base CL EB CH EK := ⟨lC, sfCL, ⟨_, _, ⟨o_La, iLa⟩, GAd, bLa⟩, ⟨_, _, ⟨o_Lu, iLu⟩, GSu, bLu⟩, ⟨_, _, ⟨o_Ia, iIa⟩, GIa, bIa⟩, ⟨_, _, ⟨o_Is, iIs⟩, GIs, bIs⟩, ⟨_, _, _, _, mC, GMu, bLm, GRm, bLr⟩⟩
    exact ok_law Flaw ⟨(PySem.W.mg_none_of X G z0), (PySem.W.mg_none_of X G z1), (PySem.W.mg_none_of X G z2)⟩ (PySem.W.mg_none_of X G z3) (PySem.W.mg_none_of X G z5) (PySem.W.mg_none_of X G z7) (PySem.W.mg_none_of X G z8) Qpool Qtake Qbase Qname Qisi Qisl Qcou Qmer Qdrw Qles Qsec Qcut Qrai lO (ok_cut Fcut sfCL ⟨o_Is, iIs⟩ GIs bIs (OK base).g TK n0K n1K) (ok_raised Frai lC sfCL ⟨o_Ia, iIa⟩ GIa bIa)⟩
theorem walk {l : PySem.W.OpenLaw} {q : Program} {loose : List Str} {XP : (Str → Option Value) → Heap → Prop} {YP : World → Heap → Prop} {d : DefRec} {K : Params → PySem.W.Frag} (hn : l.most = some 63) (hdf : d.params.defaults = [])
    (hY : ∀ (w : World) (h : Heap), YP w h → (K w.params).In h)
    (F : ∀ (w : World) (mg : Str → Option Value) (fa : Addr) (h : Heap), (K w.params).In h → h.Ns mainGlobals mg → mg d.name = some (.ref fa) →
      ∃ fd : FuncData, (∀ (s : Shared) (u : Value), BindsTo s fd ⟨[u], []⟩ [("_law_script", u)]) ∧ ∀ base : Heap, (K w.params).In base → base.Ns mainGlobals mg → FnOk l.prog w (K w.params) mg base CX0 9 fa fd ["_law_script"] (spLaw (K w.params))) :
    PySem.W.WalkO q loose XP YP l.row.toRowW d [] (fun f vs => PySem.call f vs) :=
  L2.walk_of (n := 63) (k := 9) (x := "_law_script") (CX := fun _ => CX0) (sp := fun w => spLaw (K w.params)) hn (by decide) hdf ⟨rfl, by decide, by decide⟩ hY F (fun _ _ a ns hl _ hS => ⟨a, ns, rfl, hS, hl, fun _ => rfl⟩) fun _ _ _ _ _ z => z
end Yd
--END
open PySem PySem.W PyProof.Rows
set_option maxRecDepth 100000 in
set_option maxHeartbeats 0 in
theorem PySem.Challenge.cw_soundyard_k04_lots_in_place_holds : PySem.Challenge.rw_soundyard_k04_lots_in_place.Holds := by
  w_on; o_law; k_head; (case hw => w_witness2)
  k_fill
  refine Yd.walk (l := PySem.Challenge.rw_soundyard_k04_lots_in_place) rfl rfl (fun w h Y => PySem.W.kIn_of Y) ?F
  case F =>
    intro w mg fa h KX G hmg
    refine' Yd.all_mk KX G hmg ?z0 ?z1 ?z2 ?z3 ?z4 ?z5 ?z6 ?z7 ?z8 ?aB ?xB ?rvB ?saB ?gaB ?ggB ?n0B ?eB ?tB ?kCB ?hCB ?iCB ?sCB ?aiB ?tiB ?lB ?cB ?lcB ?hvB ?hfB ?ceB ?cdB ?ovB ?svB ?mrB ?z9 ?top ?any ?aK ?xK ?rvK ?saK ?gaK ?ggK ?n0K ?n1K ?eK ?tK ?kCK ?hCK ?iCK ?sCK ?aiK ?tiK ?lK ?cK ?lcK ?hvK ?hfK ?ceK ?cdK ?ovK ?svK ?mrK ?aCH ?pgCH ?hdCH ?poCH ?saCH ?mkCH ?kcCH ?aCL ?pgCL ?hdCL ?poCL ?saCL ?mkCL ?kcCL ?lHI ?cHI ?kHI ?iHI ?lTHI ?dTHI ?lEHI ?cEHI ?dEHI ?lLI ?cLI ?kLI ?iLI ?lTLI ?dTLI ?lELI ?cELI ?dELI ?lHt ?cHt ?kHt ?iHt ?o_Ht ?laup ?caup ?kaup ?aaup ?lLt ?cLt ?kLt ?iLt ?o_Lt ?lLl ?cLl ?kLl ?iLl ?o_Ll ?lLk ?cLk ?kLk ?iLk ?o_Lk ?lLg ?cLg ?kLg ?iLg ?o_Lg ?lLa ?cLa ?kLa ?iLa ?o_La ?lLu ?cLu ?kLu ?iLu ?o_Lu ?lLm ?cLm ?kLm ?iLm ?o_Lm ?lLr ?cLr ?kLr ?iLr ?o_Lr ?lIa ?cIa ?kIa ?iIa ?o_Ia ?lIs ?cIs ?kIs ?iIs ?o_Is ?nqCL ?fiLg ?lLs ?cLs ?kLs ?iLs ?m_CL_Ls ?lLT ?cLT ?kLT ?iLT ?atT ?geT ?tkT ?rcT ?lLO ?cLO ?kLO ?iLO ?rdCL ?gtCL ?atO ?rcO ?fiO ?nSp ?nRo ?inCH ?inCL ?cn ?ct ?caCH ?cmCH ?icCH ?tyCH ?suCH ?caCL ?cmCL ?icCL ?tyCL ?suCL ?suI ?suJ ?sfCL ?lpool ?cpool ?kpool ?apool ?ltake ?ctake ?ktake ?atake ?lbase ?cbase ?kbase ?abase ?lname ?cname ?kname ?aname ?lisi ?cisi ?kisi ?aisi ?lmer ?cmer ?kmer ?amer ?lisl ?cisl ?kisl ?aisl ?lcou ?ccou ?kcou ?acou ?ldrw ?cdrw ?kdrw ?adrw ?lles ?cles ?kles ?ales ?lsec ?csec ?ksec ?asec ?lcut ?ccut ?kcut ?acut ?lrai ?crai ?krai ?arai ?llaw ?claw ?klaw ?alaw
    (case z0 => k_is)
    (case z1 => k_is)
    (case z2 => k_is)
    (case z3 => k_is)
    (case z4 => k_is)
    (case z5 => k_is)
    (case z6 => k_is)
    (case z7 => k_is)
    (case z8 => k_is)
    (case aB => k_is)
    (case z9 => k_is)
    (case aK => k_is)
    (case aCH => k_is)
    (case aCL => k_is)
    (case aaup => k_is)
    (case apool => k_is)
    (case atake => k_is)
    (case abase => k_is)
    (case aname => k_is)
    (case aisi => k_is)
    (case amer => k_is)
    (case aisl => k_is)
    (case acou => k_is)
    (case adrw => k_is)
    (case ales => k_is)
    (case asec => k_is)
    (case acut => k_is)
    (case arai => k_is)
    (case alaw => k_is)
    (case saB => k_is)
    (case gaB => k_is)
    (case ggB => k_is)
    (case n0B => k_is)
    (case aiB => k_is)
    (case saK => k_is)
    (case gaK => k_is)
    (case ggK => k_is)
    (case n0K => k_is)
    (case n1K => k_is)
    (case aiK => k_is)
    (case saCH => k_is)
    (case saCL => k_is)
    (case o_Ht => k_is)
    (case o_Lt => k_is)
    (case o_Ll => k_is)
    (case o_Lk => k_is)
    (case o_Lg => k_is)
    (case o_La => k_is)
    (case o_Lu => k_is)
    (case o_Lm => k_is)
    (case o_Lr => k_is)
    (case o_Ia => k_is)
    (case o_Is => k_is)
    (case m_CL_Ls => k_is)
    (case atT => k_is)
    (case rcT => k_is)
    (case atO => k_is)
    (case rcO => k_is)
    (case nSp => k_is)
    (case nRo => k_is)
    (case inCH => k_is)
    (case inCL => k_is)
    (case caCH => k_is)
    (case caCL => k_is)
    (case xB => k_is)
    (case rvB => decide +kernel)
    (case eB => k_is)
    (case tB => k_is)
    (case kCB => k_is)
    (case hCB => k_is)
    (case iCB => k_is)
    (case sCB => first | rfl | k_is)
    (case tiB => k_is)
    (case lB => k_is)
    (case cB => k_is)
    (case lcB => k_is)
    (case hvB => exact rfl)
    (case hfB => first | exact rfl | decide +kernel)
    (case ceB => k_is)
    (case cdB => k_is)
    (case ovB => first | ks_is | k_is)
    (case svB => k_is)
    (case mrB => k_is)
    (case top => first | exact rfl | decide +kernel)
    (case any => k_is)
    (case xK => k_is)
    (case rvK => decide +kernel)
    (case eK => k_is)
    (case tK => k_is)
    (case kCK => k_is)
    (case hCK => k_is)
    (case iCK => k_is)
    (case sCK => first | rfl | k_is)
    (case tiK => k_is)
    (case lK => k_is)
    (case cK => k_is)
    (case lcK => k_is)
    (case hvK => exact rfl)
    (case hfK => first | exact rfl | decide +kernel)
    (case ceK => k_is)
    (case cdK => k_is)
    (case ovK => first | ks_is | k_is)
    (case svK => k_is)
    (case mrK => k_is)
    (case pgCH => k_is)
    (case hdCH => k_is)
    (case poCH => k_is)
    (case mkCH => k_is)
    (case kcCH => k_is)
    (case pgCL => k_is)
    (case hdCL => k_is)
    (case poCL => k_is)
    (case mkCL => k_is)
    (case kcCL => k_is)
    (case lHI => k_is)
    (case cHI => k_is)
    (case kHI => k_is)
    (case iHI => k_is)
    (case lTHI => k_is)
    (case dTHI => exact rfl)
    (case lEHI => k_is)
    (case cEHI => exact rfl)
    (case dEHI => exact rfl)
    (case lLI => k_is)
    (case cLI => k_is)
    (case kLI => k_is)
    (case iLI => k_is)
    (case lTLI => k_is)
    (case dTLI => exact rfl)
    (case lELI => k_is)
    (case cELI => exact rfl)
    (case dELI => exact rfl)
    (case lHt => k_is)
    (case cHt => k_is)
    (case kHt => k_is)
    (case iHt => k_is)
    (case laup => k_is)
    (case caup => k_is)
    (case kaup => k_is)
    (case lLt => k_is)
    (case cLt => k_is)
    (case kLt => k_is)
    (case iLt => k_is)
    (case lLl => k_is)
    (case cLl => k_is)
    (case kLl => k_is)
    (case iLl => k_is)
    (case lLk => k_is)
    (case cLk => k_is)
    (case kLk => k_is)
    (case iLk => k_is)
    (case lLg => k_is)
    (case cLg => k_is)
    (case kLg => k_is)
    (case iLg => k_is)
    (case lLa => k_is)
    (case cLa => k_is)
    (case kLa => k_is)
    (case iLa => k_is)
    (case lLu => k_is)
    (case cLu => k_is)
    (case kLu => k_is)
    (case iLu => k_is)
    (case lLm => k_is)
    (case cLm => k_is)
    (case kLm => k_is)
    (case iLm => k_is)
    (case lLr => k_is)
    (case cLr => k_is)
    (case kLr => k_is)
    (case iLr => k_is)
    (case lIa => k_is)
    (case cIa => k_is)
    (case kIa => k_is)
    (case iIa => k_is)
    (case lIs => k_is)
    (case cIs => k_is)
    (case kIs => k_is)
    (case iIs => k_is)
    (case nqCL => first | k_is | rfl)
    (case fiLg => first | k_is | rfl)
    (case lLs => k_is)
    (case cLs => k_is)
    (case kLs => k_is)
    (case iLs => k_is)
    (case lLT => k_is)
    (case cLT => k_is)
    (case kLT => k_is)
    (case iLT => k_is)
    (case geT => first | k_is | rfl)
    (case tkT => first | k_is | rfl)
    (case lLO => k_is)
    (case cLO => k_is)
    (case kLO => k_is)
    (case iLO => k_is)
    (case rdCL => k_is)
    (case gtCL => k_is)
    (case fiO => first | k_is | rfl)
    (case cn => first | k_is | rfl)
    (case ct => first | k_is | rfl)
    (case cmCH => k_is)
    (case icCH => k_is)
    (case tyCH => k_is)
    (case suCH => first | rfl | k_is)
    (case cmCL => k_is)
    (case icCL => k_is)
    (case tyCL => k_is)
    (case suCL => first | rfl | k_is)
    (case suI => first | k_is | rfl)
    (case suJ => first | k_is | rfl)
    (case sfCL => first | k_is | rfl)
    (case lpool => k_is)
    (case cpool => k_is)
    (case kpool => k_is)
    (case ltake => k_is)
    (case ctake => k_is)
    (case ktake => k_is)
    (case lbase => k_is)
    (case cbase => k_is)
    (case kbase => k_is)
    (case lname => k_is)
    (case cname => k_is)
    (case kname => k_is)
    (case lisi => k_is)
    (case cisi => k_is)
    (case kisi => k_is)
    (case lmer => k_is)
    (case cmer => k_is)
    (case kmer => k_is)
    (case lisl => k_is)
    (case cisl => k_is)
    (case kisl => k_is)
    (case lcou => k_is)
    (case ccou => k_is)
    (case kcou => k_is)
    (case ldrw => k_is)
    (case cdrw => k_is)
    (case kdrw => k_is)
    (case lles => k_is)
    (case cles => k_is)
    (case kles => k_is)
    (case lsec => k_is)
    (case csec => k_is)
    (case ksec => k_is)
    (case lcut => k_is)
    (case ccut => k_is)
    (case kcut => k_is)
    (case lrai => k_is)
    (case crai => k_is)
    (case krai => k_is)
    (case llaw => k_is)
    (case claw => k_is)
    (case klaw => k_is)
