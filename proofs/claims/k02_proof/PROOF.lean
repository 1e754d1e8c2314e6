import PyProof.Rows.All
import Wide.All
import OpenK.AllK
import Wide.FinOn
import HandS.ForMost
import HandS.IsInst
import HandS.Wide
import HandS.Codes
import HandS.NoneIn
import PySem.Challenge.RW_keptways_k02_pairs_and_integers_judged
set_option Elab.async false
set_option linter.all false
set_option maxRecDepth 100000
namespace KP
open PySem PySem.Spec PyProof.Rows L2
def topS (i : Nat) : Stmt := PySem.Challenge.pw_keptways_k02_pairs_and_integers_judged.main.body.getD i (.Pass ⟨0, 0, 0, 0⟩)
abbrev sIsInt : Stmt := topS 3
abbrev sIsWord : Stmt := topS 4
abbrev sIsPair : Stmt := topS 5
abbrev sDice : Stmt := topS 7
abbrev sRoll : Stmt := topS 8
abbrev sPick : Stmt := topS 9
abbrev sSome : Stmt := topS 10
abbrev sRow : Stmt := topS 11
abbrev sLaw : Stmt := topS 12
theorem scDice : FnScope ["script", "spot", "cell", "great", "blend"] ["script", "spot"] (defScope sDice) := ⟨rfl, rfl, rfl, by decide +kernel, rfl, by decide +kernel, by decide +kernel⟩
theorem scRoll : FnScope ["dice", "total", "found", "one", "two"] ["dice", "total"] (defScope sRoll) := ⟨rfl, rfl, rfl, by decide +kernel, rfl, by decide +kernel, by decide +kernel⟩
theorem scPick : FnScope ["dice", "items"] ["dice", "items"] (defScope sPick) := ⟨rfl, rfl, rfl, by decide +kernel, rfl, by decide +kernel, by decide +kernel⟩
theorem scSome : FnScope ["dice", "items", "size", "left", "turn"] ["dice", "items", "size"] (defScope sSome) := ⟨rfl, rfl, rfl, by decide +kernel, rfl, by decide +kernel, by decide +kernel⟩
/-! ### heaps -/
theorem same_upd {H : Hp} {p : Addr} {o : HO} (h : H p = none) : Same H (upd H p o) := fun b x e => by
  rw [upd_ne (ne_of_none e h)]
  exact e
/-- the dice at d are three whole numbers -/
def DiceAt (H : Hp) (d : Addr) : Prop := ∃ x y z : Int, H d = some (.lst [.int x, .int y, .int z])
/-- all that was tracked stands, but for the dice at d, which are dice still -/
structure Sd (d : Addr) (H H' : Hp) : Prop where
  keep : ∀ b o, b ≠ d → H b = some o → H' b = some o
  dice : DiceAt H' d
theorem Sd.trans {d : Addr} {H H1 H2 : Hp} (a : Sd d H H1) (b : Sd d H1 H2) : Sd d H H2 := ⟨fun c o hc h => b.keep c o hc (a.keep c o hc h), b.dice⟩
theorem Sd.of_same {d : Addr} {H H1 : Hp} (a : Same H H1) (h : DiceAt H d) : Sd d H H1 := ⟨fun c o _ h => a c o h, by
  obtain ⟨x, y, z, h⟩ := h
  exact ⟨x, y, z, a _ _ h⟩⟩
theorem Sd.then_same {d : Addr} {H H1 H2 : Hp} (a : Sd d H H1) (b : Same H1 H2) : Sd d H H2 := a.trans (.of_same b a.dice)
theorem Sd.refl {d : Addr} {H : Hp} (h : DiceAt H d) : Sd d H H := .of_same (Same.refl H) h
theorem Sd.free {d : Addr} {H H' : Hp} (e : Sd d H H') {l : Addr} (h : H' l = none) : H l = none := by
  cases q : H l with
  | none => rfl
  | some o =>
    by_cases hl : l = d
    · subst hl
      obtain ⟨x, y, z, e⟩ := e.dice
      rw [e] at h
      cases h
    · rw [e.keep l o hl q] at h
      cases h
theorem DiceAt.ne {H : Hp} {d p : Addr} (h : DiceAt H d) (n : H p = none) : d ≠ p := by
  obtain ⟨x, y, z, h⟩ := h
  exact ne_of_none h n
theorem sd_put {d : Addr} {H : Hp} (x y z : Int) : Sd d H (upd H d (.lst [.int x, .int y, .int z])) := ⟨fun b o hb h => by
  rw [upd_ne hb]
  exact h, ⟨x, y, z, upd_same⟩⟩
theorem sd_new {d p : Addr} {H : Hp} {o : HO} (h : DiceAt H d) (n : H p = none) : Sd d H (upd H p o) := .of_same (same_upd n) h
section
variable {X : Cx}
/-! ### rules that the layer has not -/
theorem op_powB : OpR X (binaryOp .Pow) (rI (fun i j => 0 ≤ j ∧ (Builtin.Int.intBits i : Int) * j ≤ 2 ^ 27) fun i j => .int (i ^ j.toNat)) := opI fun _ _ _ _ _ _ _ hc q => pow_int hc.1 hc.2 q
/-- the same rules with the written part named, as a comprehension's block wants them -/
theorem call_len_seqK {K : PySem.W.Frag} (hK : X.K = K) : CallR X (.builtin "len") (fun xs H Q => ∃ p ys, xs = [.ref p] ∧ (SqL K H p ys ∨ SqT K H p ys) ∧ Q (.int ys.length) H) := by
  subst hK
  exact call_len_seq
theorem ix_listK {K : PySem.W.Frag} (hK : X.K = K) : IxR X (rIxL K) := by
  subst hK
  exact ix_list
theorem pe_bmK {K : PySem.W.Frag} {T name id : String} {r : V → List V → Hp → VK → Prop} {o e : Expr} {es : List Expr} {to : TE} {t : TA} {apos cpos : Pos} (hK : X.K = K) (pa : PlainAttrs T) (slot : Slot T name id) (hty : typeOf (.builtin id) = pure (.type "method_descriptor")) (hm : MtR X id r) (ho : PE X o to) (ha : PA X (e :: es) t)
    (hbase : attributeBase o name X.env (eval o X.env) = eval o X.env := by rfl)
    (hfew : ((backTo cpos (starEach (e :: es) X.env)).all (fun x => !x.1) && (backToKw cpos (keywordEach [] X.env)).all (fun x => x.1.isSome)
      && decide ((e :: es).length + ([] : List Keyword).length + (if ([] : List Keyword).isEmpty then 0 else 1) < 30)) = true := by rfl)
    (hline : (apos.endLine == cpos.line) = true := by rfl) (hs : starEach (e :: es) X.env = (false, eval e X.env) :: starEach es X.env := by rfl) (hplain : (backTo cpos (starEach es X.env)).any (·.1) = false := by rfl) :
    PE X (.Call (.Attribute o name apos) (e :: es) [] cpos) (tBM K T r to t) := by
  subst hK
  exact pe_bm pa slot hty hm ho ha hbase hfew hline hs hplain
theorem call_repr_bl : CallR X (.builtin "repr") (fun xs H Q => ∃ b, xs = [.bl b] ∧ Q (.str (if b then "True" else "False")) H) := by
  intro pins s σ H xs us Q I r h
  obtain ⟨b, rfl, q⟩ := h
  obtain ⟨u, rfl, rx⟩ := vals1 r
  cases (show u = Value.bool b from rx)
  exact PySem.P.repr_of_bool ⟨.str _, H, I.tok _, ⟨_, rfl⟩, q⟩
end
section
variable {P : Program} {w : World} {K : PySem.W.Frag} {mg : Str → Option Value} {base : Heap}
/-! ### dice -/
def spDice (K : PySem.W.Frag) : Sp := fun vs H Q _ => ∃ (a : Addr) (ns : List Int) (k : Int), vs = [.ref a, .int k] ∧ SqL K H a (ns.map V.int) ∧ ns.length ≤ 63 ∧ 0 ≤ k ∧
  ∀ D x y z, H D = none → Q (.ref D) (upd H D (.lst [.int x, .int y, .int z]))
theorem hP : (0 : Int) < 2305843009213693661 := by decide
theorem big_ok : (Builtin.Int.intBits ((10 : Int) ^ (60 : Int).toNat) : Int) * 10 ≤ 2 ^ 27 := by decide +kernel
theorem big_ne : ((10 : Int) ^ (60 : Int).toNat) ^ (10 : Int).toNat ≠ 0 := by decide +kernel
theorem ok_dice {f : Addr} {fd : FuncData} {k : Nat} (F : Fun K "_law_dice" "_law_dice" sDice f fd) (ml : mg "len" = none) (mi : mg "int" = none) (ma : mg "abs" = none) (mm : mg "max" = none) :
    FnOk P w K mg base CX0 (k + 1) f fd ["script", "spot"] (spDice K) := by
  refine F.ok scDice (fun vs H Q E h => ?_) (fun cdv A outer s H vs Q E hr h => ?_)
  · obtain ⟨a, ns, k, rfl, _⟩ := h
    rfl
  · obtain ⟨a, ns, k, rfl, hS, hlen, hk, q⟩ := h
    refine ⟨_, pss_cons (ps_set (i := 2) scDice.nd rfl (.inl rfl) (pe_op op_add (pe_op op_mul pe_int (pv 1)) pe_int))
      (C8.pss_cut (ps_if (pt_cmpR op_lt (pv 1) (pe_callB call_len_seq (by rfl) ml PySem.boot_len (pa_cons (pv 0) pa_nil)) (nomark _))
        (pss_one (ps_set (i := 2) scDice.nd rfl (.inl rfl) (pe_ix ix_list (pv 0) (pv 1) (fun _ _ => rfl)))) pss_nil)
      (pss_cons (ps_set (i := 3) scDice.nd rfl (.inl rfl) (pe_op op_modN (pe_callTy call_int1 (by rfl) mi (by decide +kernel) (pa_cons (pe_callB call_abs (by rfl) ma (by decide +kernel) (pa_cons (pv 2) pa_nil)) pa_nil))
          (pe_op op_powB (pe_op op_pow pe_int pe_int) pe_int)))
      (pss_cons (ps_set (i := 4) scDice.nd rfl (.inl rfl) (pe_op op_add (pe_op op_add (pe_op op_add
          (pe_op op_mul (pe_op op_mod (pe_callTy call_int1 (by rfl) mi (by decide +kernel) (pa_cons (pv 3) pa_nil)) pe_int) pe_int)
          (pe_op op_mul pe_int (pv 1))) (pe_op op_mul pe_int (pe_callTy call_int1 (by rfl) mi (by decide +kernel) (pa_cons (pe_cmpR op_lt (pv 2) pe_int (nomark _)) pa_nil)))) pe_int))
      (pss_one (ps_ret (pe_lst (pa_cons (pe_callB (call_max2 rfl) (by rfl) mm (by decide +kernel) (pa_cons pe_int (pa_cons (pe_op op_sub (pv 3) (pe_op op_pow pe_int pe_int)) pa_nil)))
          (pa_cons (pe_op op_mod (pe_callTy call_int1 (by rfl) mi (by decide +kernel) (pa_cons (pv 4) pa_nil)) pe_int) (pa_cons pe_int pa_nil)))))))))
      , ?_⟩
    refine ⟨.int k, rfl, 67, k, rfl, rfl, .inl (by decide), _, 23, rfl, rfl, ?_⟩
    refine ⟨fun σ' H' => ∃ c : Int, σ' = [some (.ref a), some (.int k), some (.int c), none, none] ∧ H' = H, ?_, ?_⟩
    · refine ⟨.int k, rfl, .ref a, rfl, a, ns.map V.int, rfl, .inl hS, _, _, rfl, rfl, _, rfl, ite2 (fun e => ?_) (fun e => ?_)⟩
      · have hk2 : k < ((ns.map V.int).length : Int) := of_decide_eq_true e
        obtain ⟨j, rfl⟩ : ∃ j : Nat, k = (j : Int) := ⟨k.toNat, by omega⟩
        have hj : j < ns.length := by
          rw [List.length_map] at hk2
          omega
        have hg : (ns.map V.int)[j]? = some (.int ns[j]) := by
          rw [List.getElem?_map, List.getElem?_eq_getElem hj]
          rfl
        exact ⟨.ref a, rfl, .int (j : Int), rfl, a, _, (j : Int), .int ns[j], rfl, rfl, hS, atI_nat hg, ns[j], rfl, rfl⟩
      · exact ⟨_, rfl, rfl⟩
    · rintro σ' H' ⟨c, rfl, rfl⟩
      refine ⟨.int c, rfl, c, rfl, .inl ⟨_, rfl, 10, 60, rfl, rfl, ⟨by decide, by decide, by decide⟩, _, 10, rfl, rfl, ⟨by decide, big_ok⟩, _, _, rfl, rfl, big_ne, ?_⟩⟩
      dsimp only
      generalize Int.fmod _ _ = g
      refine ⟨.int g, rfl, .inl ⟨g, rfl, g, 2305843009213693661, rfl, rfl, hP, _, 1000409, rfl, rfl, .inl ⟨by omega, by omega⟩, ?_⟩⟩
      refine ⟨.int k, rfl, 8081, k, rfl, rfl, .inl (by decide), _, _, rfl, rfl, ?_⟩
      refine ⟨.int c, rfl, _, _, rfl, rfl, .inr ⟨_, rfl, 53, _, rfl, rfl, .inl (by decide), _, _, rfl, rfl, _, 29, rfl, rfl, ?_⟩⟩
      dsimp only
      generalize ((g % 2305843009213693661 * 1000409 + 8081 * k + 53 * _ + 29 : Int)) = b
      refine ⟨.int g, rfl, 10, 18, rfl, rfl, ⟨by decide, by decide, by decide⟩, g, _, rfl, rfl, 0, _, rfl, ?_⟩
      refine ⟨.int b, rfl, .inl ⟨b, rfl, b, _, rfl, rfl, hP, ?_⟩⟩
      exact ⟨by show 3 ≤ sizeLine; decide, fun D hD => q D _ _ _ hD⟩
/-- one roll: a number below total; the dice are dice still, all else is as it was -/
def spRoll : Sp := fun vs H Q _ => ∃ (d : Addr) (n : Int), vs = [.ref d, .int n] ∧ DiceAt H d ∧ 0 < n ∧ n < 1073741824 ∧
  ∀ (r : Int) x y z, 0 ≤ r → r < n → Q (.int r) (upd H d (.lst [.int x, .int y, .int z]))
theorem ok_roll {f : Addr} {fd : FuncData} {k : Nat} (F : Fun K "_law_roll" "_law_roll" sRoll f fd) (mi : mg "int" = none) :
    FnOk P w K mg base CX0 (k + 1) f fd ["dice", "total"] spRoll := by
  refine F.ok scRoll (fun vs H Q E h => ?_) (fun cdv A outer s H vs Q E hr h => ?_)
  · obtain ⟨d, n, rfl, _⟩ := h
    rfl
  · obtain ⟨d, n, rfl, ⟨x, y, z, hd⟩, h0, hn, q⟩ := h
    refine ⟨_, pss_cons (ps_if (pt_cmpR op_gt (pe_ix ix_list (pv 0) pe_int (fun _ _ => rfl)) pe_int (nomark _))
        (pss_cons (ps_set (i := 2) scRoll.nd rfl (.inl rfl) (pe_op op_modN (pe_callTy call_int1 (by rfl) mi (by decide +kernel) (pa_cons (pe_ix ix_list (pv 0) pe_int (fun _ _ => rfl)) pa_nil)) (pv 1)))
        (pss_cons (ps_asg (pe_op op_fdivN (pe_ix ix_list (pv 0) pe_int (fun _ _ => rfl)) (pv 1)) (pg_sub (pv 0) pe_int set_list))
        (pss_one (ps_ret (pv 2))))) pss_nil)
      (pss_cons (ps_asg (pe_op op_add (pe_ix ix_list (pv 0) pe_int (fun _ _ => rfl)) pe_int) (pg_sub (pv 0) pe_int set_list))
      (pss_cons (ps_set (i := 3) scRoll.nd rfl (.inl rfl) (pe_op op_mod (pe_callTy call_int1 (by rfl) mi (by decide +kernel) (pa_cons (pe_op op_add (pe_ix ix_list (pv 0) pe_int (fun _ _ => rfl)) (pe_op op_mul pe_int (pe_ix ix_list (pv 0) pe_int (fun _ _ => rfl)))) pa_nil)) pe_int))
      (pss_cons (ps_set (i := 4) scRoll.nd rfl (.inl rfl) (pe_op op_add (pe_op op_mul (pe_op op_mod (pe_callTy call_int1 (by rfl) mi (by decide +kernel) (pa_cons (pe_op op_mul (pv 3) (pv 3)) pa_nil)) pe_int) (pv 3)) (pe_op op_mul pe_int (pe_ix ix_list (pv 0) pe_int (fun _ _ => rfl)))))
      (pss_cons (ps_set (i := 4) scRoll.nd rfl (.inl rfl) (pe_op op_mod (pe_callTy call_int1 (by rfl) mi (by decide +kernel) (pa_cons (pv 4) pa_nil)) pe_int))
      (pss_one (ps_ret (pe_op op_modN (pe_callTy call_int1 (by rfl) mi (by decide +kernel) (pa_cons (pe_op op_fdiv (pv 4) pe_int) pa_nil)) (pv 1)))))))), ?_⟩
    have hL : SqL K H d [.int x, .int y, .int z] := .inl (.inl hd)
    have hne : n ≠ 0 := by omega
    refine ⟨.ref d, rfl, d, _, 0, .int x, rfl, rfl, hL, rfl, x, 0, rfl, rfl, _, rfl, ite2 (fun e => ?_) (fun e => ?_)⟩
    · have hb : n ≠ 0 ∧ n.natAbs < 1073741824 := ⟨hne, by omega⟩
      refine ⟨.ref d, rfl, d, _, 0, .int x, rfl, rfl, hL, rfl, .inl ⟨x, rfl, .int n, rfl, x, n, rfl, rfl, hne, ?_⟩⟩
      refine ⟨.ref d, rfl, d, _, 0, .int x, rfl, rfl, hL, rfl, .int n, rfl, x, n, rfl, rfl, hb, ?_⟩
      refine ⟨.ref d, rfl, d, _, 0, 0, rfl, rfl, hd, rfl, _, rfl, ?_⟩
      exact q _ _ y z (Int.fmod_nonneg_of_pos _ h0) (Int.fmod_lt_of_pos _ h0)
    · refine ⟨.ref d, rfl, d, _, 2, .int z, rfl, rfl, hL, rfl, z, 1, rfl, rfl, ?_⟩
      refine ⟨.ref d, rfl, d, _, 2, 2, rfl, rfl, hd, rfl, ?_⟩
      have hL2 : SqL K (upd H d (.lst [.int x, .int y, .int (z + 1)])) d [.int x, .int y, .int (z + 1)] := .inl (.inl upd_same)
      refine ⟨.ref d, rfl, d, _, 1, .int y, rfl, rfl, hL2, rfl, .ref d, rfl, d, _, 2, .int (z + 1), rfl, rfl, hL2, rfl, 998244319, _, rfl, rfl, .inl (by decide), y, _, rfl, rfl, .inl ⟨_, rfl, _, _, rfl, rfl, (by show (0 : Int) < 2305843009213693951; decide), ?_⟩⟩
      dsimp only
      have a0 : 0 ≤ (y + 998244319 * (z + 1)) % 2305843009213693951 := Int.emod_nonneg _ (by decide)
      have a1 : (y + 998244319 * (z + 1)) % 2305843009213693951 < 2305843009213693951 := Int.emod_lt_of_pos _ (by decide)
      generalize (y + 998244319 * (z + 1)) % 2305843009213693951 = o at a0 a1 ⊢
      refine ⟨.int o, rfl, .int o, rfl, o, o, rfl, rfl, .inl ⟨by omega, by omega⟩, .inl ⟨_, rfl, _, _, rfl, rfl, (by show (0 : Int) < 2305843009213693907; decide), ?_⟩⟩
      refine ⟨.int o, rfl, _, o, rfl, rfl, .inl ⟨by omega, by omega⟩, .ref d, rfl, d, _, 2, .int (z + 1), rfl, rfl, hL2, rfl, 9421, _, rfl, rfl, .inl (by decide), _, _, rfl, rfl, ?_⟩
      dsimp only
      generalize (o * o % 2305843009213693907 * o + 9421 * (z + 1)) = t
      refine ⟨.int t, rfl, .inl ⟨t, rfl, t, _, rfl, rfl, hP, ?_⟩⟩
      dsimp only
      generalize t % 2305843009213693661 = t2
      refine ⟨.int t2, rfl, t2, 8192, rfl, rfl, ⟨by decide, by decide⟩, .inl ⟨_, rfl, .int n, rfl, _, n, rfl, rfl, hne, ?_⟩⟩
      exact q _ x y (z + 1) (Int.fmod_nonneg_of_pos _ h0) (Int.fmod_lt_of_pos _ h0)
/-- one of the items -/
def spPick : Sp := fun vs H Q _ => ∃ (d p : Addr) (xs : List V), vs = [.ref d, .ref p] ∧ DiceAt H d ∧ H p = some (.lst xs) ∧ p ≠ d ∧ 0 < xs.length ∧ xs.length < 1073741824 ∧
  ∀ v H', v ∈ xs → Sd d H H' → Q v H'
theorem ok_pick {f g : Addr} {fd gd : FuncData} {k : Nat} (F : Fun K "_law_pick" "_law_pick" sPick f fd) (G : FnOk P w K mg base CX0 k g gd ["dice", "total"] spRoll) (gk : PySem.W.keepIn K (.ref g) = true) (gb : Binds K gd ["dice", "total"] []) (mg1 : mg "_law_roll" = some (.ref g)) (ml : mg "len" = none) :
    FnOk P w K mg base CX0 (k + 1) f fd ["dice", "items"] spPick := by
  refine F.ok scPick (fun vs H Q E h => ?_) (fun cdv A outer s H vs Q E hr h => ?_)
  · obtain ⟨d, p, xs, rfl, _⟩ := h
    rfl
  · obtain ⟨d, p, xs, rfl, hd, hp, hne, h0, h1, q⟩ := h
    refine ⟨_, pss_one (ps_ret (pe_ix ix_list (pv 1) (pe_call G hr (by rfl) mg1 gk gb .nil pass0 (pa_cons (pv 0) (pa_cons (pe_callB call_len_seq (by rfl) ml PySem.boot_len (pa_cons (pv 1) pa_nil)) pa_nil))) (fun _ _ => rfl))), ?_⟩
    refine ⟨.ref p, rfl, .ref d, rfl, .ref p, rfl, p, xs, rfl, .inl (.inl (.inl hp)), d, _, rfl, hd, by omega, by omega, fun r x y z r0 r1 => ?_⟩
    obtain ⟨j, rfl⟩ : ∃ j : Nat, r = (j : Int) := ⟨r.toNat, by omega⟩
    have hj : j < xs.length := by omega
    refine ⟨p, xs, (j : Int), xs[j], rfl, rfl, .inl (.inl ?_), atI_nat (List.getElem?_eq_getElem hj), q _ _ (List.getElem_mem hj) (sd_put x y z)⟩
    rw [upd_ne hne]
    exact hp
end
section
variable {P : Program} {w : World} {K : PySem.W.Frag} {mg : Str → Option Value} {base : Heap}
/-- so many of the items, drawn one behind the other: what is drawn and what is left are the items in another order -/
def spSome (K : PySem.W.Frag) : Sp := fun vs H Q _ => ∃ (d p : Addr) (m : Int) (xs : List V), vs = [.ref d, .ref p, .int m] ∧ DiceAt H d ∧ SqL K H p xs ∧ 0 ≤ m ∧ m < 1000000 ∧ xs.length < 1000000 ∧
  ∀ D ys rest H', (ys ++ rest).Perm xs → ys.length = min m.toNat xs.length → H D = none → H' D = some (.lst ys) → Sd d H H' → Q (.ref D) H'
theorem erase_perm {α : Type} : ∀ (xs : List α) (j : Nat) (h : j < xs.length), (xs[j] :: xs.eraseIdx j).Perm xs
  | [], j, h => by simp at h
  | x :: r, 0, h => List.Perm.refl _
  | x :: r, j + 1, h => by
    have ih := erase_perm r j (by simpa using h)
    show (r[j]'(by simpa using h) :: x :: r.eraseIdx j).Perm (x :: r)
    exact (List.Perm.swap _ _ _).trans (ih.cons x)
theorem ok_some {f g : Addr} {fd gd : FuncData} {k : Nat} (F : Fun K "_law_some" "_law_some" sSome f fd) (G : FnOk P w K mg base CX0 k g gd ["dice", "total"] spRoll) (gk : PySem.W.keepIn K (.ref g) = true) (gb : Binds K gd ["dice", "total"] []) (mg1 : mg "_law_roll" = some (.ref g)) (ml : mg "len" = none) (mL : mg "list" = none) (mR : mg "range" = none) (mM : mg "min" = none) :
    FnOk P w K mg base CX0 (k + 1) f fd ["dice", "items", "size"] (spSome K) := by
  refine F.ok scSome (fun vs H Q E h => ?_) (fun cdv A outer s H vs Q E hr h => ?_)
  · obtain ⟨d, p, m, xs, rfl, _⟩ := h
    rfl
  · obtain ⟨d, p, m, xs, rfl, hd, hp, m0, m1, hx, q⟩ := h
    refine ⟨_, pss_cons (ps_set (i := 3) scSome.nd rfl (.inr rfl) (pe_callTy call_list_of (by rfl) mL (by decide +kernel) (pa_cons (pv 1) pa_nil)))
      (pss_one (ps_ret (pe_lc (own := [("turn", 4)]) (g := gName 4) (tt := tYes) rfl scSome.nd (pi_range1 (by rfl) mR (pa_cons (pe_callB (call_min2 rfl) (by rfl) mM (by decide +kernel) (pa_cons (pv 2) (pa_cons (pe_callB call_len_seq (by rfl) ml PySem.boot_len (pa_cons (pv 3) pa_nil)) pa_nil))) pa_nil))
        (blkOk_by (N := ["dice", "items", "size", "left", "turn"]) (sc := defScope sSome) (by decide +kernel)) (fun _ _ _ _ _ => pg_name (i := 4) scSome.nd rfl (Or.inl rfl)) (fun _ _ _ _ _ => pts_nil)
        (fun _ _ _ _ _ => pe_bmK (K := K) rfl PySem.F.plainAttrs_list PySem.F.slot_list_pop PySem.F.type_list_pop mt_popAt (pv 3)
          (pa_cons (pe_call G hr (by rfl) mg1 gk gb .nil pass0 (pa_cons (pv 0) (pa_cons (pe_callB (call_len_seqK (K := K) rfl) (by rfl) ml PySem.boot_len (pa_cons (pv 3) pa_nil)) pa_nil))) pa_nil))))), ?_⟩
    refine ⟨.ref p, rfl, p, xs, rfl, .inl hp, fun l nl => ?_⟩
    have hl : (upd H l (.lst xs)) l = some (.lst xs) := upd_same
    have dl : d ≠ l := hd.ne nl
    refine ⟨.int m, rfl, .ref l, rfl, l, xs, rfl, .inl (.inl (.inl hl)), m, _, rfl, ?_⟩
    obtain ⟨c, hc, c0, c1⟩ : ∃ c : Nat, (if ((xs.length : Int) < m) then (xs.length : Int) else m) = (c : Int) ∧ c = min m.toNat xs.length ∧ c ≤ 1000000 := by
      by_cases hh : (xs.length : Int) < m
      · rw [if_pos hh]
        exact ⟨xs.length, rfl, by omega, by omega⟩
      · rw [if_neg hh]
        exact ⟨m.toNat, by omega, by omega, by omega⟩
    refine ⟨(c : Int), congrArg (fun z => [V.int z]) hc, by omega, by omega, fun D nD => ?_⟩
    have lD : l ≠ D := ne_of_none hl nD
    have nD0 : H D = none := (same_upd nl).free nD
    have dD : d ≠ D := hd.ne nD0
    refine lc_range (lo := 0) (n := (c : Int).toNat) (fun i H' => ∃ ys rest, H' D = some (.lst ys) ∧ H' l = some (.lst rest) ∧ (ys ++ rest).Perm xs ∧ ys.length = i ∧ Sd d H H')
      ⟨[], xs, upd_same, by rw [upd_ne lD]; exact hl, List.Perm.refl _, rfl, (sd_new hd nl).then_same (same_upd nD)⟩ (fun i H' hi hP => ?_) (fun H' hP => ?_)
    · obtain ⟨ys, rest, eD, el, pm, hy, sd⟩ := hP
      have hi : i < c := hi
      have hlen : ys.length + rest.length = xs.length := by
        rw [← List.length_append]
        exact pm.length_eq
      have hr0 : 0 < rest.length := by omega
      refine ⟨rfl, ?_⟩
      refine ⟨.ref l, rfl, .inl ⟨rfl, _, .inl (.inl el)⟩, .ref d, rfl, .ref l, rfl, l, rest, rfl, .inl (.inl (.inl el)), d, _, rfl, sd.dice, by omega, by omega, fun r x y z r0 r1 => ?_⟩
      obtain ⟨j, rfl⟩ : ∃ j : Nat, r = (j : Int) := ⟨r.toNat, by omega⟩
      have hj : j < rest.length := by omega
      have el2 : (upd H' d (.lst [.int x, .int y, .int z])) l = some (.lst rest) := by
        rw [upd_ne dl.symm]
        exact el
      have sq : seqIndex? (j : Int) rest.length = some j := (ixN_seq (by
        unfold ixN
        rw [if_pos (by omega), if_pos (by omega)]
        rfl)).1
      refine ⟨l, rest, (j : Int), j, rest[j], rfl, rfl, el2, by omega, by omega, sq, List.getElem?_eq_getElem hj, ?_⟩
      refine ⟨ys, ?_, by have e : sizeLine = 16777216 := by decide
                         omega, ys ++ [rest[j]], rest.eraseIdx j, upd_same, ?_, ?_, ?_, ?_⟩
      · rw [upd_ne lD.symm, upd_ne dD.symm]
        exact eD
      · rw [upd_ne lD, upd_same]
      · rw [List.append_assoc]
        exact ((erase_perm rest j hj).append_left ys).trans pm
      · rw [List.length_append, hy]
        rfl
      · refine ⟨fun b o hb e => ?_, x, y, z, ?_⟩
        · rw [upd_ne (ne_of_none e nD0), upd_ne (ne_of_none e nl), upd_ne hb]
          exact sd.keep b o hb e
        · rw [upd_ne dD, upd_ne dl, upd_same]
    · obtain ⟨ys, rest, eD, el, pm, hy, sd⟩ := hP
      exact q D ys rest H' pm (by rw [hy]; exact c0) nD0 eD sd
end
/-! ### words -/
theorem lc_str {z : Str} {g : TG} {tt : TT} {te : TE} {vs : List Nat} {σ : L2.St} {H1 : Hp} {D : Addr} {Qd : Hp → Prop} (Pv : Nat → Hp → Prop) (h0 : Pv 0 (upd H1 D (.lst [])))
    (hs : ∀ i c H, z.cps[i]? = some c → Pv i H → g (.str ⟨#[c]⟩) (wipe σ vs) H fun σ2 H2 => wipe σ2 vs = wipe σ vs ∧ tt σ2 H2 fun b H3 =>
      if b = true then te σ2 H3 fun y H4 => ∃ acc, H4 D = some (.lst acc) ∧ acc.length < sizeLine ∧ Pv (i + 1) (upd H4 D (.lst (acc ++ [y]))) else Pv (i + 1) H3) (hd : ∀ H, Pv z.cps.size H → Qd H) :
    ∃ W : Nat → Nat → Hp → Prop, (∃ m, W 0 m (upd H1 D (.lst []))) ∧ ∀ i m H, W i m H →
      ((Its z).stop i H ∧ Qd H) ∨ ((Its z).go i H ∧ ∃ Nx : Hp → Prop, (∀ H', Nx H' → ∃ m', m' < m ∧ W (i + 1) m' H') ∧ ∀ x H', (Its z).yld i H x H' → g x (wipe σ vs) H' fun σ2 H2 => wipe σ2 vs = wipe σ vs ∧ tt σ2 H2 fun b H3 =>
        if b = true then te σ2 H3 fun y H4 => ∃ acc, H4 D = some (.lst acc) ∧ acc.length < sizeLine ∧ Nx (upd H4 D (.lst (acc ++ [y]))) else Nx H3) := by
  refine ⟨fun i m H => m = z.cps.size - i ∧ i ≤ z.cps.size ∧ Pv i H, ⟨z.cps.size, by simp, Nat.zero_le _, h0⟩, ?_⟩
  rintro i m H ⟨rfl, hi, p⟩
  by_cases hlt : i < z.cps.size
  · refine .inr ⟨hlt, Pv (i + 1), fun H' p' => ⟨z.cps.size - (i + 1), by omega, rfl, hlt, p'⟩, fun x H' y => ?_⟩
    obtain ⟨e, c, hc, y⟩ := y
    subst e y
    exact hs i c _ hc p
  · have e : i = z.cps.size := by omega
    subst e
    exact .inl ⟨Nat.le_refl _, hd H p⟩
def letters : Str := "abcdefghijklmnopqrstuvwxyz"
def isLet (c : Nat) : Bool := decide (c ∈ letters.cps.toList)
def isStr : V → Bool
  | .str _ => true
  | _ => false
/-- one to eight small letters -/
def wordS (z : Str) : Bool := (decide (1 ≤ z.length) && decide (z.length ≤ 8)) && z.cps.toList.all isLet
def wordB : V → Bool
  | .str z => wordS z
  | _ => false
/-- a value of which it is known whether it is a text; a text is not too long, its signs are plain -/
structure Tv (K : PySem.W.Frag) (H : Hp) (v : V) : Prop where
  ty : ∃ t, TyX K H v t ∧ PySem.W.kitOne K t (.type "str") = some (isStr v)
  len : ∀ z, v = .str z → z.length ≤ 1000 ∧ ∀ c ∈ z.cps.toList, c < 128
theorem take_map {α β : Type} (f : α → β) (xs : List α) (i : Nat) (x : α) (h : xs[i]? = some x) : (xs.take i).map f ++ [f x] = (xs.take (i + 1)).map f := by
  rw [List.take_add_one, h, List.map_append]
  rfl
theorem take_filter_t {α : Type} (p : α → Bool) (xs : List α) (i : Nat) (x : α) (h : xs[i]? = some x) (hp : p x = true) : (xs.take i).filter p ++ [x] = (xs.take (i + 1)).filter p := by
  rw [List.take_add_one, h, List.filter_append]
  simp [hp]
theorem take_filter_f {α : Type} (p : α → Bool) (xs : List α) (i : Nat) (x : α) (h : xs[i]? = some x) (hp : p x = false) : (xs.take i).filter p = (xs.take (i + 1)).filter p := by
  rw [List.take_add_one, h, List.filter_append]
  simp [hp]
def sign1 (c : Nat) : Str := ⟨#[c]⟩
theorem lay_signs : ∀ cs : List Nat, (∀ c ∈ cs, c < 128) → PyData.canLayAll0 (cs.map fun c => .str (sign1 c)) = true
  | [], _ => rfl
  | c :: cs, h => by
    have h1 : c < 1114112 := Nat.lt_trans (h c (List.mem_cons_self ..)) (by decide)
    have e : PyData.canLay0 (.str (sign1 c)) = true := by
      show PyData.strOk (sign1 c) = true
      simp [PyData.strOk, sign1, h1]
    show (PyData.canLay0 (.str (sign1 c)) && PyData.canLayAll0 (cs.map fun c => .str (sign1 c))) = true
    rw [e, lay_signs cs fun x hx => h x (List.mem_cons_of_mem _ hx)]
    rfl
theorem depth_signs : ∀ cs : List Nat, PyData.depthAll (cs.map fun c => .str (sign1 c)) = 0
  | [] => rfl
  | c :: cs => by
    show max (PyData.depth (.str (sign1 c))) (PyData.depthAll (cs.map fun c => .str (sign1 c))) = 0
    rw [depth_signs cs]
    rfl
theorem shaped_signs {cs : List Nat} (h : ∀ c ∈ cs, c < 128) : SeqAt.shaped (.list (cs.map fun c => .str (sign1 c))) = true := by
  unfold SeqAt.shaped
  rw [Bool.and_eq_true]
  refine ⟨lay_signs cs h, decide_eq_true ?_⟩
  show PyData.depthAll (cs.map fun c => .str (sign1 c)) + 1 ≤ 64
  rw [depth_signs cs]
  decide
theorem dp_signs {K : PySem.W.Frag} {H : Hp} : ∀ cs : List Nat, DpAll K H (cs.map fun c => V.str (sign1 c)) (cs.map fun c => .str (sign1 c))
  | [] => .nil
  | _ :: cs => .cons (.str _) (dp_signs cs)
theorem eqv_signs_nil (cs : List Nat) : PyData.eqv (.list (cs.map fun c => .str (sign1 c))) (.list []) = cs.isEmpty := by
  cases cs with
  | nil => rfl
  | cons c cs => rfl
theorem filter_isEmpty (xs : List Nat) : (xs.filter fun c => !isLet c).isEmpty = xs.all isLet := by
  induction xs with
  | nil => rfl
  | cons x r ih =>
    cases h : isLet x with
    | true => simp [h, ← ih]
    | false => simp [h]
def spWord (K : PySem.W.Frag) : Sp := fun vs H Q _ => ∃ v, vs = [v] ∧ Tv K H v ∧ ∀ H', Same H H' → Q (.bl (wordB v)) H'
theorem not_str {v : V} (h : isStr v = false) : wordB v = false := by
  cases v <;> first | rfl | cases h
theorem is_str {v : V} (h : isStr v = true) : ∃ z, v = .str z := by
  cases v <;> first | exact ⟨_, rfl⟩ | cases h
section
variable {P : Program} {w : World} {K : PySem.W.Frag} {mg : Str → Option Value} {base : Heap}
theorem scWord : FnScope ["value", "sign"] ["value"] (defScope sIsWord) := ⟨rfl, rfl, rfl, by decide +kernel, rfl, by decide +kernel, by decide +kernel⟩
theorem ok_word {f : Addr} {fd : FuncData} {k : Nat} {t1 t2 : Tok} (F : Fun K "is_word" "is_word" sIsWord f fd) (ml : mg "len" = none) (mi : mg "isinstance" = none) (ms : mg "str" = none) (mA : mg "all" = none)
    (mM : mg "MAX_LETTERS" = some (.int 8 t1)) (mL : mg "_LETTERS" = some (.str letters t2)) :
    FnOk P w K mg base CX0 (k + 1) f fd ["value"] (spWord K) := by
  refine F.ok scWord (fun vs H Q E h => ?_) (fun cdv A outer s H vs Q E hr h => ?_)
  · obtain ⟨v, rfl, _⟩ := h
    rfl
  · obtain ⟨v, rfl, ⟨⟨t, ty, hk⟩, hz⟩, q⟩ := h
    refine ⟨_, pss_one (ps_ret (pe_and (pe_callB call_isi (by rfl) mi (by decide +kernel) (pa_cons (pv 0) (pa_cons (pe_bltn (v := .ty "str") (by rfl) ms (by decide +kernel) rfl) pa_nil)))
      (pe_and (pe_chain op_le op_le pe_int (pe_callB call_len_str (by rfl) ml PySem.boot_len (pa_cons (pv 0) pa_nil)) (pe_glob (v := .int 8) rfl mM ⟨_, rfl⟩))
      (pe_one (pe_callB (cr_all rfl) (by rfl) mA (by decide +kernel) (pa_cons (pe_lc (own := [("sign", 1)]) (g := gName 1) (tt := tYes) rfl scWord.nd (pi_str (pv 0))
        (blkOk_by (N := ["value", "sign"]) (sc := defScope sIsWord) (by decide +kernel)) (fun _ _ _ _ _ => pg_name (i := 1) scWord.nd rfl (Or.inl rfl)) (fun _ _ _ _ _ => pts_nil)
        (fun _ _ _ _ _ => pe_cmpR op_in_sign (pv 1) (pe_glob (v := .str letters) rfl mL ⟨_, rfl⟩) rfl)) pa_nil)))))), ?_⟩
    refine ⟨v, rfl, v, .ty "str", t, .type "str", isStr v, rfl, .ty "str", ty, hk, isStr v, rfl, ite2 (fun e => ?_) (fun e => ?_)⟩
    · obtain ⟨z, rfl⟩ := is_str e
      obtain ⟨hz1, hz2⟩ := hz z rfl
      have hs : z.length ≤ sizeLine := Nat.le_of_lt (small1000 hz1)
      refine ⟨.str z, rfl, z, rfl, hs, 1, _, rfl, rfl, _, rfl, ite2 (fun e1 => ?_) (fun e1 => ?_)⟩
      · refine ⟨_, 8, rfl, rfl, _, rfl, ite2 (fun e2 => ?_) (fun e2 => ?_)⟩
        · refine ⟨.str z, rfl, z, rfl, fun D nD => lc_str (fun i H' => H' D = some (.lst ((z.cps.toList.take i).map fun c => V.bl (isLet c))) ∧ Same H H') ⟨upd_same, same_upd nD⟩ (fun i c H' hc hP => ?_) (fun H' hP => ?_)⟩
          · obtain ⟨eD, sm⟩ := hP
            refine ⟨rfl, .str ⟨#[c]⟩, rfl, c, letters, rfl, rfl, _, eD, ?_, ?_, ?_⟩
            · rw [List.length_map, List.length_take]
              exact Nat.lt_of_le_of_lt (Nat.min_le_right _ _) (small1000 hz1)
            · rw [upd_same, ← take_map (fun c => V.bl (isLet c)) _ i c (by rw [Array.getElem?_toList]; exact hc)]
              rfl
            · intro b o hb
              rw [upd_ne (ne_of_none hb nD)]
              exact sm b o hb
          · obtain ⟨eD, sm⟩ := hP
            have ea : z.cps.toList.take z.cps.size = z.cps.toList := List.take_of_length_le (Nat.le_of_eq (Array.length_toList))
            rw [ea] at eD
            refine ⟨D, z.cps.toList.map isLet, rfl, .inl (.inl ?_), ?_⟩
            · rw [List.map_map]
              exact eD
            · have ew : (z.cps.toList.map isLet).all id = wordB (.str z) := by
                have h1 : (1 : Int) ≤ z.length := of_decide_eq_true e1
                have h2 : (z.length : Int) ≤ 8 := of_decide_eq_true e2
                show _ = wordS z
                unfold wordS
                rw [decide_eq_true (show 1 ≤ z.length by omega), decide_eq_true (show z.length ≤ 8 by omega), List.all_map]
                rfl
              rw [ew]
              exact q H' sm
        · have h2 : ¬ (z.length : Int) ≤ 8 := fun h => e2 (decide_eq_true h)
          have ew : wordB (.str z) = false := by
            show wordS z = false
            unfold wordS
            rw [decide_eq_false (show ¬ z.length ≤ 8 by omega), Bool.and_false, Bool.false_and]
          rw [ew] at q
          exact q H (Same.refl H)
      · have h1 : ¬ (1 : Int) ≤ z.length := fun h => e1 (decide_eq_true h)
        have ew : wordB (.str z) = false := by
          show wordS z = false
          unfold wordS
          rw [decide_eq_false (show ¬ 1 ≤ z.length by omega), Bool.false_and, Bool.false_and]
        rw [ew] at q
        exact ⟨false, rfl, iteF (q H (Same.refl H))⟩
    · have ev := not_str (Bool.eq_false_iff.mpr e)
      rw [ev] at q
      exact q H (Same.refl H)
end
/-! ### what is drawn -/
section
variable {X : Cx}
theorem vals_of : ∀ {xs : List V} {us : List Value}, xs.length = us.length → (∀ (j : Nat) x u, xs[j]? = some x → us[j]? = some u → RelV x u) → Vals xs us
  | [], [], _, _ => .nil
  | [], _ :: _, h, _ => by simp at h
  | _ :: _, [], h, _ => by simp at h
  | x :: xs, u :: us, h, g => .cons (g 0 x u rfl rfl) (vals_of (by simpa using h) fun j a b ha hb => g (j + 1) a b (by simpa using ha) (by simpa using hb))
def signV (z : Str) : List V := z.cps.toList.map fun c => V.str (sign1 c)
theorem call_list_strV (hc : X.calm = true) : CallR X (.type "list") (fun xs H Q => ∃ z : Str, xs = [.str z] ∧ z.length ≤ sizeLine ∧ ∀ l, H l = none → Q (.ref l) (upd H l (.lst (signV z)))) := by
  intro pins s σ H xs us Q I r h
  obtain ⟨z, rfl, hz, q⟩ := h
  obtain ⟨u, rfl, t, rfl⟩ := vals1 r
  refine call_list_str (I.ok.hd hc) z t (fun h' tk acc' c' kp e its => ?_) hz
  refine ⟨.ref s.heap.objs.size, _, I.laid (a := s.heap.objs.size) (o := .lst (signV z)) (t' := tk) kp (Nat.le_refl _) (show ObjOk X.prog X.w _ h' _ (.lst (signV z)) from ⟨?_, acc'.toList, c', ?_, by simpa using e⟩), rfl, q _ (I.hok.fresh (Nat.le_refl _))⟩
  · unfold signV
    rw [List.length_map, Array.length_toList]
    exact hz
  · refine vals_of ?_ fun j x u hx hu => ?_
    · unfold signV
      rw [List.length_map, Array.length_toList, Array.length_toList]
      exact its.1.symm
    · obtain ⟨c, t2, hc2, e2⟩ := its.2 j u (by simpa using hu)
      unfold signV at hx
      rw [List.getElem?_map, Array.getElem?_toList, hc2] at hx
      cases hx
      exact ⟨t2, e2⟩
theorem pe_joinK {K : PySem.W.Frag} {o e : Expr} {to : TE} {te : TE} {apos pos : Pos} (hK : X.K = K) (ho : PE X o to) (he : PE X e te) (hs : starEach [e] X.env = [(false, eval e X.env)] := by rfl) (hbase : attributeBase o "join" X.env (eval o X.env) = eval o X.env := by rfl) (hline : (apos.endLine == pos.line) = true := by rfl) :
    PE X (.Call (.Attribute o "join" apos) [e] [] pos) (tM1 (fun x xs H Q => ∃ a p, ∃ ys : List Str, x = .str a ∧ xs = [.ref p] ∧ (SqL K H p (ys.map V.str) ∨ SqT K H p (ys.map V.str)) ∧
      (ys.map (·.length)).sum + ys.length * a.length ≤ 16777216 ∧ Q (.str (Txt.join a ys)) H) to te) := by
  subst hK
  exact pe_join ho he hs hbase hline
end
open TL in
theorem joinL_flat : ∀ ps : List (List Nat), joinL [] ps = ps.flatten
  | [] => rfl
  | [p] => by simp [joinL]
  | p :: q :: r => by
    show p ++ ([] ++ joinL [] (q :: r)) = _
    rw [joinL_flat (q :: r)]
    rfl
open TL in
theorem join_cps {a : Str} (ha : a.cps.toList = []) (ys : List Str) : (Txt.join a ys).cps.toList = (ys.map fun y => y.cps.toList).flatten := by
  rw [join_eq]
  show tl _ = _
  rw [tl_join, show tl a = [] from ha, joinL_flat]
theorem add_cps (x y : Str) : (x ++ y).cps.toList = x.cps.toList ++ y.cps.toList := TL.tl_append x y
theorem len_cps (z : Str) : z.length = z.cps.toList.length := by
  rw [Array.length_toList]
  rfl
/-- a drawn value -/
def okStr (z : Str) : Prop := z.length ≤ 1000 ∧ ∀ c ∈ z.cps.toList, c < 128
instance okStr_dec (z : Str) : Decidable (okStr z) := inferInstanceAs (Decidable (z.length ≤ 1000 ∧ ∀ c ∈ z.cps.toList, c < 128))
inductive Dv (H : Hp) : V → Prop where
  | non : Dv H .non
  | bl (b : Bool) : Dv H (.bl b)
  | int (i : Int) : Dv H (.int i)
  | str {z : Str} (h : okStr z) : Dv H (.str z)
  | lst {a : Addr} {xs : List V} (e : H a = some (.lst xs)) : Dv H (.ref a)
  | tup {a : Addr} {xs : List V} (e : H a = some (.tup xs)) : Dv H (.ref a)
  | dK {a : Addr} {kvs : List (Key × V)} (e : H a = some (.dK kvs)) : Dv H (.ref a)
theorem Dv.keep {d : Addr} {H H' : Hp} {v : V} (s : Sd d H H') (h : Dv H v) : Dv H' v := by
  have at_d : Dv H' (.ref d) := by
    obtain ⟨x, y, z, e⟩ := s.dice
    exact .lst e
  cases h with
  | non => exact .non
  | bl b => exact .bl b
  | int i => exact .int i
  | str h => exact .str h
  | @lst a xs e =>
    by_cases ha : a = d
    · rw [ha]; exact at_d
    · exact .lst (s.keep _ _ ha e)
  | @tup a xs e =>
    by_cases ha : a = d
    · rw [ha]; exact at_d
    · exact .tup (s.keep _ _ ha e)
  | @dK a xs e =>
    by_cases ha : a = d
    · rw [ha]; exact at_d
    · exact .dK (s.keep _ _ ha e)
theorem Dv.same {H H' : Hp} {v : V} (s : Same H H') (h : Dv H v) : Dv H' v := by
  cases h with
  | non => exact .non
  | bl b => exact .bl b
  | int i => exact .int i
  | str h => exact .str h
  | lst e => exact .lst (s _ _ e)
  | tup e => exact .tup (s _ _ e)
  | dK e => exact .dK (s _ _ e)
theorem kb_bool : kitB "bool" "str" = some false := by decide +kernel
theorem kb_int : kitB "int" "str" = some false := by decide +kernel
theorem kb_str : kitB "str" "str" = some true := by decide +kernel
theorem kb_list : kitB "list" "str" = some false := by decide +kernel
theorem kb_tuple : kitB "tuple" "str" = some false := by decide +kernel
theorem kb_dict : kitB "dict" "str" = some false := by decide +kernel
theorem kb_none : kitB "NoneType" "str" = some false := by decide +kernel
theorem Dv.tv {K : PySem.W.Frag} {H : Hp} {v : V} (h : Dv H v) : Tv K H v := by
  cases h with
  | non => exact ⟨⟨_, .base .non, kit_ty kb_none⟩, fun z e => nomatch e⟩
  | bl b => exact ⟨⟨_, .base (.bl b), kit_ty kb_bool⟩, fun z e => nomatch e⟩
  | int i => exact ⟨⟨_, .base (.int i), kit_ty kb_int⟩, fun z e => nomatch e⟩
  | str h => exact ⟨⟨_, .base (.str _), kit_ty kb_str⟩, fun z e => by cases e; exact h⟩
  | lst e => exact ⟨⟨_, .base (.lst e), kit_ty kb_list⟩, fun z e => nomatch e⟩
  | tup e => exact ⟨⟨_, .base (.tup e), kit_ty kb_tuple⟩, fun z e => nomatch e⟩
  | dK e => exact ⟨⟨_, .base (.dK e), kit_ty kb_dict⟩, fun z e => nomatch e⟩
/-! ### defs that show data: what they promise where nothing is being shown around them -/
structure FnG (P : Program) (w : World) (K : PySem.W.Frag) (mg : Str → Option Value) (base : Heap)
    (CX : CXT) (k : Nat) (f : Addr) (fd : FuncData) (ps : List Str) (sp : Sp) : Prop where
  len : ∀ {vs H Q E}, sp vs H Q E → vs.length = ps.length
  run : ∀ {A outer s H args us vs Q E}, A.guards = some [] → Room k A → Env0 P w K mg base A outer s H →
    BindsTo s fd args (ps.zip us) → Vals vs us → sp vs H Q E → codeAny (model P w) A (.call (.ref f) args) (CR CX outer P w H s Q E) s
section
variable {P : Program} {w : World} {K : PySem.W.Frag} {mg : Str → Option Value} {base : Heap}
theorem Fun.okG {x qual : Str} {st : Stmt} {f : Addr} {fd : FuncData} {N ps : List Str} {k : Nat} {sp : Sp}
    (F : Fun K x qual st f fd) (S : FnScope N ps (defScope st)) (len : ∀ vs H Q E, sp vs H Q E → vs.length = ps.length)
    (body : ∀ (cdv : Value) (A : Around) (outer : List Env) (s : Shared) (H : Hp) (vs : List V) (Q : VK) (E : XK), A.guards = some [] →
      Room k (A.deeper (envOfC qual (defScope st) s.heap.objs.size f cdv)) → sp vs H Q E →
      ∃ t, PSs (cxOf CX0 P w K mg base N qual (defScope st) f cdv A outer s H E).nox (defBody st) t ∧ t ⟨fun _ H' => Q .non H', Q, fun _ _ => False, fun _ _ => False⟩ (L2.start N vs) H) :
    FnG P w K mg base CX0 (k + 1) f fd ps sp := by
  obtain ⟨oc, od, kV, doc, pm, an, cdv, ct, osl, rfl, lk, hcd⟩ := F.ex
  constructor
  · intro vs H Q E h
    exact len vs H Q E h
  · intro A outer s H args us vs Q E hg hr e0 hb r hsp
    have hn := len vs H Q E hsp
    have inK : K.In s.heap := e0.mod.kin.keeps fun b o e => (e0.bs b o e).1
    have noL : s.heap.NoLimit := e0.mod.nolimit.keeps fun b o e => (e0.bs b o e).1
    refine codeAny_call_function hr.depth (inK _ _ lk) rfl S.co S.gen rfl (PySem.W.codeRec_of inK hcd) (hb _ _ _ _ ?_)
    refine wpAny_newFunctionEnv_cells S.kind (fun y hy => ?_) fun env he s1 x => ?_
    · obtain ⟨n, v⟩ := y
      rcases S.par n (List.of_mem_zip hy).1 with q | q
      exact .inl q
      exact .inr ⟨q, PySem.W.cellsFrom_some _ _ _ (.inl q)⟩
    · subst he
      refine ⟨noL.keeps x.toInCall.keep, codeAny_func ?_⟩
      obtain ⟨t, ht0, hq⟩ := body cdv A outer s H vs Q E hg (hr.deeper _) hsp
      have ht := ht0.nox
      have I0 := inv_start (CX := CX0) (E := E) S hr.hd e0 hn r x
      refine wpAny_mono (ht.run [] s1 _ H _ I0 hq) (fun fl s' hs => ?_) fun e s' hs => hs
      cases fl with
      | ret u =>
        obtain ⟨v, σ', H', J, rv, q⟩ := hs
        exact ⟨v, H', J.os, J.bare, J.base, J.hok, rv, q⟩
      | next =>
        obtain ⟨σ', H', J, q⟩ := hs
        exact ⟨V.non, H', J.os, J.bare, J.base, J.hok, rfl, q⟩
      | brk =>
        obtain ⟨_, _, _, q⟩ := hs
        exact q.elim
      | cont =>
        obtain ⟨_, _, _, q⟩ := hs
        exact q.elim
end
section
variable {X : Cx}
/-- repr of a list or tuple of data, where nothing is being shown -/
theorem call_reprD {K : PySem.W.Frag} (hK : X.K = K) (hg : X.A.guards = some []) (hu : X.A.units + 66 < cLine) : CallR X (.builtin "repr") (fun xs H Q => ∃ a d, xs = [.ref a] ∧ Dp K H (.ref a) d ∧
    d.showable = true ∧ d.hasDict = false ∧ d.depth ≤ 64 ∧ d.shown.length ≤ sizeLine ∧ Q (.str d.shown) H) := by
  subst hK
  intro pins s σ H xs us Q I r h
  obtain ⟨a, d, rfl, hd, h1, h2, h3, h4, q⟩ := h
  obtain ⟨u, rfl, rx⟩ := vals1 r
  cases (show u = Value.ref a from rx)
  obtain ⟨as, rd⟩ := Dp.reads I d _ _ hd rfl
  refine repr_of_reads' rd h1 (fun e => by rw [h2] at e; cases e) hg (by omega) (fun _ _ e => e) (fun h' u tk hk => ⟨.str d.shown, H, I.kept hk, ⟨u, rfl⟩, q⟩) h4
end
/-! ### a law's end over such a promise -/
theorem script_heap {P : Program} {w : World} {K : PySem.W.Frag} {h : Heap} {a : Addr} {vs : List Value} {ns : List Int} (KX : K.In h)
    (ha : h.get? a = some { cls := .type "list", data := .seq vs.toArray }) (hi : IntsAre vs ns) (hl : ns.length ≤ sizeLine) :
    ∃ H : Hp, Only H ∧ SqL K H a (ns.map V.int) ∧ HOk P w H h ∧ ∀ b, H b ≠ none → b = a ∧ K.lookup a = none := by
  have rv := vals_ints hi
  have hlen : vs.length = ns.length := hi.length
  by_cases hk : K.lookup a = none
  · refine ⟨fun b => if b = a then some (.frz { cls := .type "list", data := .seq vs.toArray } (.lst (ns.map V.int))) else none, fun b => ?_, .inl (.inr ⟨_, if_pos rfl⟩), fun b u z => ?_, fun b z => ⟨?_, hk⟩⟩
    · by_cases e : b = a
      · exact .inr ⟨_, _, if_pos e⟩
      · exact .inl (if_neg e)
    · by_cases e : b = a
      · subst e
        cases (if_pos rfl).symm.trans z
        exact ⟨ha, by rw [List.length_map]; exact hl, vs, _, rv, ha⟩
      · cases (if_neg e).symm.trans z
    · by_cases e : b = a
      · exact e
      · exact absurd (if_neg e) z
  · obtain ⟨o, hk⟩ := Option.ne_none_iff_exists'.mp hk
    have e := (KX a o hk).symm.trans ha
    cases e
    refine ⟨fun _ => none, fun _ => .inl rfl, .inr ⟨_, vs.toArray, _, hk, rfl, rfl, rfl, ?_, by simpa using rv⟩, fun b u z => ?_, fun b z => absurd rfl z⟩
    · rw [List.size_toArray, hlen]
      exact hl
    · cases (show (none : Option HO) = some u from z)
theorem law_runG {P : Program} {w : World} {K : PySem.W.Frag} {mg mb : Str → Option Value} {k : Nat} {fa a : Addr} {fd : FuncData} {x : Str} {sp : Sp} {s₁ : Shared} {vs : List Value} {ns : List Int}
    (KX : K.In s₁.heap) (g1 : s₁.heap.Ns mainGlobals mg) (g2 : s₁.heap.Ns builtinsNs mb) (g3 : ∀ x : Str, x ≠ "__name__" → mb x = bootBuiltins x) (g4 : s₁.heap.NoLimit) (g5 : s₁.gens = #[])
    (ha : s₁.heap.get? a = some { cls := .type "list", data := .seq vs.toArray }) (hi : IntsAre vs ns) (hl : ns.length ≤ sizeLine) (hr : Room k callerA)
    (F : ∀ base : Heap, K.In base → base.Ns mainGlobals mg → FnG P w K mg base CX0 k fa fd [x] sp) (hbind : ∀ (s : Shared) (u : Value), BindsTo s fd ⟨[u], []⟩ [(x, u)])
    (hsp : ∀ H : Hp, Only H → SqL K H a (ns.map V.int) → sp [.ref a] H (fun v _ => v = .bl true) E0) :
    codeAny (model P w) callerA (.call (.ref fa) ⟨[.ref a], []⟩) (fun r s' => r = .ok (.ret (.bool true)) ∧ OldK s₁.heap s'.heap ∧ s'.os = s₁.os ∧ AllBare s'.gens) s₁ := by
  obtain ⟨H, hO, hS, hok, hA⟩ := script_heap (P := P) (w := w) KX ha hi hl
  have free : ∀ {b : Addr} {o : Obj}, s₁.heap.get? b = some o → (b = a → K.lookup a ≠ none) → (hidT s₁.heap H).get? b = some o := fun {b o} e h => hidT_get e (by
    cases q : H b with
    | none => rfl
    | some u =>
      obtain ⟨z1, z2⟩ := hA b (by rw [q]; exact nofun)
      exact absurd z2 (h z1))
  have dicts : ∀ {b : Addr} {m : Str → Option Value}, s₁.heap.Ns b m → (hidT s₁.heap H).Ns b m := fun {b m} ⟨o, es, ep, e, dt, r⟩ => ⟨o, es, ep, free e (fun z => by
    subst z
    cases ha.symm.trans e
    cases dt), dt, r⟩
  have inB : K.In (hidT s₁.heap H) := fun b o e => free (KX b o e) (fun z => by
    subst z
    rw [e]
    exact nofun)
  obtain ⟨mc, l1, l2⟩ := g4
  have e0 : Env0 P w K mg (hidT s₁.heap H) callerA [] s₁ H :=
    ⟨rfl, ⟨inB, dicts g1, ⟨mb, dicts g2, g3⟩, ⟨mc, dicts l1, l2⟩⟩, fun b o e => of_hidT e, Nat.le_of_eq (hidT_size _ _), trivial, fun b hb => (nomatch hb), hok, .of_eq g5⟩
  refine codeAny_mono ((F _ inB (dicts g1)).run (us := [.ref a]) (vs := [.ref a]) rfl hr e0 (hbind s₁ (.ref a)) (.cons rfl .nil) (hsp H hO hS)) fun r s' h => ?_
  match r, h with
  | .ok (.ret u), h =>
    obtain ⟨v, H', os, bare, un, hok', rv, q⟩ := h
    subst q
    cases (show u = Value.bool true from rv)
    refine ⟨rfl, OldK.of_keep fun b o e => ?_, os, bare⟩
    rcases hO b with z | ⟨ob, xs, z⟩
    · exact un.keep b o e z (fun m => nomatch m) (fun m => nomatch m)
    · obtain ⟨e1, _⟩ := hok b _ z
      obtain ⟨e2, _⟩ := hok' b _ (un.frzs b ob _ z)
      cases e.symm.trans e1
      exact e2
theorem walk_ofG {l : PySem.W.OpenLaw} {n k : Nat} {q : Program} {loose : List Str} {XP : (Str → Option Value) → Heap → Prop} {YP : World → Heap → Prop} {d : DefRec} {K : Params → PySem.W.Frag} {sp : World → Sp} {x : Str}
    (hn : l.most = some n) (hn2 : n ≤ sizeLine) (hdf : d.params.defaults = []) (hr : Room k callerA) (hY : ∀ (w : World) (h : Heap), YP w h → (K w.params).In h)
    (F : ∀ (w : World) (mg : Str → Option Value) (fa : Addr) (h : Heap), (K w.params).In h → h.Ns mainGlobals mg → mg d.name = some (.ref fa) →
      ∃ fd : FuncData, (∀ (s : Shared) (u : Value), BindsTo s fd ⟨[u], []⟩ [(x, u)]) ∧
        ∀ base : Heap, (K w.params).In base → base.Ns mainGlobals mg → FnG l.prog w (K w.params) mg base CX0 k fa fd [x] (sp w))
    (hsp : ∀ (w : World) (H : Hp) (a : Addr) (ns : List Int), ns.length ≤ n → Only H → SqL (K w.params) H a (ns.map V.int) → sp w [.ref a] H (fun v _ => v = .bl true) E0) :
    PySem.W.WalkO q loose XP YP l.row.toRowW d [] (fun f vs => PySem.call f vs) :=
  Att.attach_call hn hdf fun w s₀ s₁ mg mb fa o pm cd doc a vs ns G Y ho hd hcd hmg hobj hints hlen hg => by
    obtain ⟨fd, hb, hF⟩ := F w mg fa _ (hY w _ Y) G.T.g hmg
    exact law_runG (hY w _ Y) G.T.g G.T.b G.T.builtins G.T.nolimit hg hobj hints (Nat.le_trans hlen hn2) hr hF hb fun H hO hS => hsp w H a ns hlen hO hS
/-! ### integers and pairs -/
def topInt : Int := 10 ^ (60 : Int).toNat
def intB : V → Bool
  | .int i => decide ((if i < 0 then -i else i) < topInt)
  | _ => false
def ltB : V → V → Bool
  | .str x, .str y => decide (x.cps.toList < y.cps.toList)
  | _, _ => false
/-- a value that is no tuple -/
inductive Nt (H : Hp) : V → Prop where
  | non : Nt H .non
  | bl (b : Bool) : Nt H (.bl b)
  | int (i : Int) : Nt H (.int i)
  | str (z : Str) : Nt H (.str z)
  | lst {a : Addr} {xs : List V} (e : H a = some (.lst xs)) : Nt H (.ref a)
  | dK {a : Addr} {kvs : List (Key × V)} (e : H a = some (.dK kvs)) : Nt H (.ref a)
inductive PairV (H : Hp) : V → Bool → Prop where
  | no {v : V} (h : Nt H v) : PairV H v false
  | len {t : Addr} {xs : List V} (e : H t = some (.tup xs)) (h : xs.length ≠ 2) : PairV H (.ref t) false
  | two {t : Addr} {x y : V} {b : Bool} (e : H t = some (.tup [x, y])) (dx : Dv H x) (dy : Dv H y) (h : (wordB x && (wordB y && ltB x y)) = b) : PairV H (.ref t) b
/-- but for the list at L, which is a list still, all stands -/
structure Kl (L : Addr) (H H' : Hp) : Prop where
  keep : ∀ b o, b ≠ L → H b = some o → H' b = some o
  one : ∃ xs, H L = some (.lst xs)
  two : ∃ xs, H' L = some (.lst xs)
theorem Kl.ne {L t : Addr} {H H' : Hp} {xs : List V} (k : Kl L H H') (e : H t = some (.tup xs)) : t ≠ L := fun z => by
  obtain ⟨ys, h⟩ := k.one
  rw [z, h] at e
  cases e
theorem Kl.of_sd {d : Addr} {H H' : Hp} (h : DiceAt H d) (s : Sd d H H') : Kl d H H' := by
  obtain ⟨x, y, z, e⟩ := h
  obtain ⟨x', y', z', e'⟩ := s.dice
  exact ⟨s.keep, ⟨_, e⟩, ⟨_, e'⟩⟩
theorem Kl.of_same {L : Addr} {H H' : Hp} (e : ∃ xs, H L = some (.lst xs)) (s : Same H H') : Kl L H H' := by
  obtain ⟨xs, h⟩ := e
  exact ⟨fun b o _ q => s b o q, ⟨_, h⟩, ⟨_, s _ _ h⟩⟩
theorem Kl.trans {L : Addr} {H H1 H2 : Hp} (a : Kl L H H1) (b : Kl L H1 H2) : Kl L H H2 := ⟨fun c o hc h => b.keep c o hc (a.keep c o hc h), a.one, b.two⟩
theorem Dv.kl {L : Addr} {H H' : Hp} {v : V} (k : Kl L H H') (h : Dv H v) : Dv H' v := by
  have at_L : Dv H' (.ref L) := by
    obtain ⟨xs, e⟩ := k.two
    exact .lst e
  cases h with
  | non => exact .non
  | bl b => exact .bl b
  | int i => exact .int i
  | str h => exact .str h
  | @lst a xs e =>
    by_cases ha : a = L
    · rw [ha]; exact at_L
    · exact .lst (k.keep _ _ ha e)
  | @tup a xs e => exact .tup (k.keep _ _ (k.ne e) e)
  | @dK a xs e =>
    by_cases ha : a = L
    · rw [ha]; exact at_L
    · exact .dK (k.keep _ _ ha e)
theorem Nt.kl {L : Addr} {H H' : Hp} {v : V} (k : Kl L H H') (h : Nt H v) : Nt H' v := by
  have at_L : Nt H' (.ref L) := by
    obtain ⟨xs, e⟩ := k.two
    exact .lst e
  cases h with
  | non => exact .non
  | bl b => exact .bl b
  | int i => exact .int i
  | str z => exact .str z
  | @lst a xs e =>
    by_cases ha : a = L
    · rw [ha]; exact at_L
    · exact .lst (k.keep _ _ ha e)
  | @dK a xs e =>
    by_cases ha : a = L
    · rw [ha]; exact at_L
    · exact .dK (k.keep _ _ ha e)
theorem Nt.same {H H' : Hp} {v : V} (s : Same H H') (h : Nt H v) : Nt H' v := by
  cases h with
  | non => exact .non
  | bl b => exact .bl b
  | int i => exact .int i
  | str z => exact .str z
  | lst e => exact .lst (s _ _ e)
  | dK e => exact .dK (s _ _ e)
theorem PairV.kl {L : Addr} {H H' : Hp} {v : V} {b : Bool} (k : Kl L H H') (h : PairV H v b) : PairV H' v b := by
  cases h with
  | no h => exact .no (h.kl k)
  | len e h => exact .len (k.keep _ _ (k.ne e) e) h
  | two e dx dy h => exact .two (k.keep _ _ (k.ne e) e) (dx.kl k) (dy.kl k) h
theorem PairV.same {H H' : Hp} {v : V} {b : Bool} (s : Same H H') (h : PairV H v b) : PairV H' v b := by
  cases h with
  | no h => exact .no (h.same s)
  | len e h => exact .len (s _ _ e) h
  | two e dx dy h => exact .two (s _ _ e) (dx.same s) (dy.same s) h
theorem Nt.ty {K : PySem.W.Frag} {H : Hp} {v : V} (h : Nt H v) : ∃ t, TyX K H v t ∧ PySem.W.kitOne K t (.type "tuple") = some false := by
  cases h with
  | non => exact ⟨_, .base .non, kit_ty (by decide +kernel)⟩
  | bl b => exact ⟨_, .base (.bl b), kit_ty (by decide +kernel)⟩
  | int i => exact ⟨_, .base (.int i), kit_ty (by decide +kernel)⟩
  | str z => exact ⟨_, .base (.str z), kit_ty (by decide +kernel)⟩
  | lst e => exact ⟨_, .base (.lst e), kit_ty (by decide +kernel)⟩
  | dK e => exact ⟨_, .base (.dK e), kit_ty (by decide +kernel)⟩
def isIntV : V → Bool
  | .int _ => true
  | .bl _ => true
  | _ => false
def isBlV : V → Bool
  | .bl _ => true
  | _ => false
theorem ki1 : kitB "bool" "int" = some true := by decide +kernel
theorem ki2 : kitB "int" "int" = some true := by decide +kernel
theorem ki3 : kitB "str" "int" = some false := by decide +kernel
theorem ki4 : kitB "list" "int" = some false := by decide +kernel
theorem ki5 : kitB "tuple" "int" = some false := by decide +kernel
theorem ki6 : kitB "dict" "int" = some false := by decide +kernel
theorem ki7 : kitB "NoneType" "int" = some false := by decide +kernel
theorem kl1 : kitB "bool" "bool" = some true := by decide +kernel
theorem kl2 : kitB "int" "bool" = some false := by decide +kernel
theorem Dv.tyInt {K : PySem.W.Frag} {H : Hp} {v : V} (h : Dv H v) : ∃ t, TyX K H v t ∧ PySem.W.kitOne K t (.type "int") = some (isIntV v) := by
  cases h with
  | non => exact ⟨_, .base .non, kit_ty ki7⟩
  | bl b => exact ⟨_, .base (.bl b), kit_ty ki1⟩
  | int i => exact ⟨_, .base (.int i), kit_ty ki2⟩
  | str h => exact ⟨_, .base (.str _), kit_ty ki3⟩
  | lst e => exact ⟨_, .base (.lst e), kit_ty ki4⟩
  | tup e => exact ⟨_, .base (.tup e), kit_ty ki5⟩
  | dK e => exact ⟨_, .base (.dK e), kit_ty ki6⟩
theorem scInt : FnScope ["value"] ["value"] (defScope sIsInt) := ⟨rfl, rfl, rfl, by decide +kernel, rfl, by decide +kernel, by decide +kernel⟩
theorem scPair : FnScope ["value"] ["value"] (defScope sIsPair) := ⟨rfl, rfl, rfl, by decide +kernel, rfl, by decide +kernel, by decide +kernel⟩
def spInt : Sp := fun vs H Q _ => ∃ v, vs = [v] ∧ Dv H v ∧ Q (.bl (intB v)) H
def spPair : Sp := fun vs H Q _ => ∃ v b, vs = [v] ∧ PairV H v b ∧ ∀ H', Same H H' → Q (.bl b) H'
section
variable {P : Program} {w : World} {K : PySem.W.Frag} {mg : Str → Option Value} {base : Heap}
theorem ok_int {f : Addr} {fd : FuncData} {k : Nat} (F : Fun K "is_integer" "is_integer" sIsInt f fd) (mi : mg "isinstance" = none) (mn : mg "int" = none) (mb : mg "bool" = none) (ma : mg "abs" = none) :
    FnOk P w K mg base CX0 (k + 1) f fd ["value"] spInt := by
  refine F.ok scInt (fun vs H Q E h => ?_) (fun cdv A outer s H vs Q E hr h => ?_)
  · obtain ⟨v, rfl, _⟩ := h
    rfl
  · obtain ⟨v, rfl, dv, q⟩ := h
    refine ⟨_, pss_one (ps_ret (pe_and (pe_callB call_isi (by rfl) mi (by decide +kernel) (pa_cons (pv 0) (pa_cons (pe_bltn (v := .ty "int") (by rfl) mn (by decide +kernel) rfl) pa_nil)))
      (pe_and (pe_not (pe_callB call_isi (by rfl) mi (by decide +kernel) (pa_cons (pv 0) (pa_cons (pe_bltn (v := .ty "bool") (by rfl) mb (by decide +kernel) rfl) pa_nil))))
      (pe_one (pe_cmpR op_lt (pe_callB call_abs (by rfl) ma (by decide +kernel) (pa_cons (pv 0) pa_nil)) (pe_op op_pow pe_int pe_int) (nomark _)))))), ?_⟩
    obtain ⟨t, ty, hk⟩ := dv.tyInt (K := K)
    refine ⟨v, rfl, v, .ty "int", t, .type "int", _, rfl, .ty "int", ty, hk, _, rfl, ite2 (fun e => ?_) (fun e => ?_)⟩
    · cases v with
      | bl b =>
        refine ⟨.bl b, rfl, .bl b, .ty "bool", .type "bool", .type "bool", true, rfl, .ty "bool", .base (.bl b), kit_ty kl1, true, rfl, false, rfl, iteF q⟩
      | int i =>
        refine ⟨.int i, rfl, .int i, .ty "bool", .type "int", .type "bool", false, rfl, .ty "bool", .base (.int i), kit_ty kl2, false, rfl, true, rfl, iteT ?_⟩
        exact ⟨.int i, rfl, i, rfl, 10, 60, rfl, rfl, ⟨by decide, by decide, by decide⟩, _, _, rfl, rfl, q⟩
      | _ => cases e
    · cases v with
      | bl b => exact absurd rfl e
      | int i => exact absurd rfl e
      | _ => exact q
theorem ok_pair {f g : Addr} {fd gd : FuncData} {k : Nat} (F : Fun K "is_pair" "is_pair" sIsPair f fd)
    (G : FnOk P w K mg base CX0 k g gd ["value"] (spWord K)) (gk : PySem.W.keepIn K (.ref g) = true) (gb : Binds K gd ["value"] []) (mgW : mg "is_word" = some (.ref g))
    (ml : mg "len" = none) (mi : mg "isinstance" = none) (mt : mg "tuple" = none) :
    FnOk P w K mg base CX0 (k + 1) f fd ["value"] spPair := by
  refine F.ok scPair (fun vs H Q E h => ?_) (fun cdv A outer s H vs Q E hr h => ?_)
  · obtain ⟨v, b, rfl, _⟩ := h
    rfl
  · obtain ⟨v, b, rfl, pr, q⟩ := h
    refine ⟨_, pss_one (ps_ret (pe_and (pe_callB call_isi (by rfl) mi (by decide +kernel) (pa_cons (pv 0) (pa_cons (pe_bltn (v := .ty "tuple") (by rfl) mt (by decide +kernel) rfl) pa_nil)))
      (pe_and (pe_cmpR op_eq (pe_callB call_len_seq (by rfl) ml PySem.boot_len (pa_cons (pv 0) pa_nil)) pe_int (nomark _))
      (pe_and (pe_call G hr (by rfl) mgW gk gb .nil pass0 (pa_cons (pe_ix ix_tup (pv 0) pe_int (fun _ _ => rfl)) pa_nil))
      (pe_and (pe_call G hr (by rfl) mgW gk gb .nil pass0 (pa_cons (pe_ix ix_tup (pv 0) pe_int (fun _ _ => rfl)) pa_nil))
      (pe_one (pe_cmpR op_lt_str (pe_ix ix_tup (pv 0) pe_int (fun _ _ => rfl)) (pe_ix ix_tup (pv 0) pe_int (fun _ _ => rfl)) (nomark _)))))))), ?_⟩
    cases pr with
    | no nt =>
      obtain ⟨t, ty, hk⟩ := nt.ty (K := K)
      exact ⟨v, rfl, v, .ty "tuple", t, .type "tuple", _, rfl, .ty "tuple", ty, hk, false, rfl, iteF (q H (Same.refl H))⟩
    | @len t xs e hx =>
      refine ⟨.ref t, rfl, .ref t, .ty "tuple", _, .type "tuple", true, rfl, .ty "tuple", .base (.tup e), kit_ty (by decide +kernel), true, rfl, iteT ?_⟩
      refine ⟨.ref t, rfl, t, xs, rfl, .inr (.inl (.inl e)), rfl, _, rfl, ite2 (fun e2 => ?_) (fun e2 => q H (Same.refl H))⟩
      have e3 := V.int.inj (of_decide_eq_true e2)
      omega
    | @two t x y b e dx dy hb =>
      refine ⟨.ref t, rfl, .ref t, .ty "tuple", _, .type "tuple", true, rfl, .ty "tuple", .base (.tup e), kit_ty (by decide +kernel), true, rfl, iteT ?_⟩
      refine ⟨.ref t, rfl, t, [x, y], rfl, .inr (.inl (.inl e)), rfl, true, rfl, iteT ?_⟩
      refine ⟨.ref t, rfl, t, [x, y], 0, x, rfl, rfl, .inl (.inl e), rfl, x, rfl, dx.tv, fun H1 s1 => ⟨_, rfl, ite2 (fun e1 => ?_) (fun e1 => ?_)⟩⟩
      · refine ⟨.ref t, rfl, t, [x, y], 1, y, rfl, rfl, .inl (.inl (s1 _ _ e)), rfl, y, rfl, (dy.same s1).tv, fun H2 s2 => ⟨_, rfl, ite2 (fun e2 => ?_) (fun e2 => ?_)⟩⟩
        · obtain ⟨zx, rfl⟩ : ∃ z, x = .str z := by cases x <;> first | exact ⟨_, rfl⟩ | cases e1
          obtain ⟨zy, rfl⟩ : ∃ z, y = .str z := by cases y <;> first | exact ⟨_, rfl⟩ | cases e2
          have s12 := s1.trans s2
          refine ⟨.ref t, rfl, t, [.str zx, .str zy], 0, .str zx, rfl, rfl, .inl (.inl (s12 _ _ e)), rfl, .ref t, rfl, t, [.str zx, .str zy], 1, .str zy, rfl, rfl, .inl (.inl (s12 _ _ e)), rfl, zx, zy, rfl, rfl, ?_⟩
          have eb : decide (zx.cps.toList < zy.cps.toList) = b := by
            rw [← hb, e1, e2]
            rfl
          rw [eb]
          exact q H2 s12
        · rw [Bool.eq_false_iff.mpr e2, Bool.false_and, Bool.and_false] at hb
          rw [hb]
          exact q H2 (s1.trans s2)
      · rw [Bool.eq_false_iff.mpr e1, Bool.false_and] at hb
        rw [hb]
        exact q H1 s1
end
/-! ### a row that is drawn -/
structure Row3 (H : Hp) (x : V) : Prop where
  ex : ∃ t v b1 b2, x = .ref t ∧ H t = some (.tup [v, .bl b1, .bl b2]) ∧ Dv H v ∧ intB v = b1 ∧ PairV H v b2
theorem Row3.same {H H' : Hp} {x : V} (s : Same H H') (h : Row3 H x) : Row3 H' x := by
  obtain ⟨t, v, b1, b2, e, et, dv, ei, p⟩ := h.ex
  exact ⟨t, v, b1, b2, e, s _ _ et, dv.same s, ei, p.same s⟩
theorem Row3.kl {L : Addr} {H H' : Hp} {x : V} (k : Kl L H H') (h : Row3 H x) : Row3 H' x := by
  obtain ⟨t, v, b1, b2, e, et, dv, ei, p⟩ := h.ex
  exact ⟨t, v, b1, b2, e, k.keep _ _ (k.ne et) et, dv.kl k, ei, p.kl k⟩
/-- a value that is neither a good integer nor a pair -/
structure Odd (H : Hp) (x : V) : Prop where
  dv : Dv H x
  it : intB x = false
  pr : PairV H x false
theorem Odd.same {H H' : Hp} {x : V} (s : Same H H') (h : Odd H x) : Odd H' x := ⟨h.dv.same s, h.it, h.pr.same s⟩
theorem Odd.kl {L : Addr} {H H' : Hp} {x : V} (k : Kl L H H') (h : Odd H x) : Odd H' x := ⟨h.dv.kl k, h.it, h.pr.kl k⟩
theorem Odd.nt {H : Hp} {x : V} (d : Dv H x) (n : Nt H x) (i : intB x = false) : Odd H x := ⟨d, i, .no n⟩
theorem Odd.two {H : Hp} {t : Addr} {x y : V} (e : H t = some (.tup [x, y])) (dx : Dv H x) (dy : Dv H y) (h : (wordB x && (wordB y && ltB x y)) = false) : Odd H (.ref t) := ⟨.tup e, rfl, .two e dx dy h⟩
theorem Odd.len {H : Hp} {t : Addr} {xs : List V} (e : H t = some (.tup xs)) (h : xs.length ≠ 2) : Odd H (.ref t) := ⟨.tup e, rfl, .len e h⟩
theorem two_f1 {x y : V} (h : wordB x = false) : (wordB x && (wordB y && ltB x y)) = false := by rw [h]; rfl
theorem two_f2 {x y : V} (h : wordB y = false) : (wordB x && (wordB y && ltB x y)) = false := by rw [h, Bool.false_and, Bool.and_false]
def names9 : List Str := ["a", "ab", "b", "dock", "z", "zz", "zzzzzzzz", "m", "ma"]
theorem names9_ok : ∀ z ∈ names9, wordS z = true ∧ z.length ≤ 8 ∧ ∀ c ∈ z.cps.toList, c < 128 := by decide +kernel
def sizes4 : List Int := [10 ^ (59 : Int).toNat, 10 ^ (60 : Int).toNat - 1, 200, 10 ^ (18 : Int).toNat]
theorem sizes4_ok : ∀ i ∈ sizes4, 0 < i ∧ i < topInt := by decide +kernel
theorem topInt_pos : (1000 : Int) < topInt := by decide +kernel
theorem topInt_eq : (10 : Int) ^ (60 : Int).toNat = topInt := rfl
theorem lt_irr (x : List Nat) : ¬ x < x := List.lt_irrefl x
theorem scRow : FnScope ["dice", "size", "small", "one", "other", "some", "odd"] ["dice"] (defScope sRow) := ⟨rfl, rfl, rfl, by decide +kernel, rfl, by decide +kernel, by decide +kernel⟩
def spRow : Sp := fun vs H Q _ => ∃ d, vs = [.ref d] ∧ DiceAt H d ∧ ∀ x H', Sd d H H' → Row3 H' x → Q x H'
section
variable {P : Program} {w : World} {K : PySem.W.Frag} {mg : Str → Option Value} {base : Heap}
theorem ok_row {f g g2 g3 : Addr} {fd gd gd2 gd3 : FuncData} {k : Nat} (F : Fun K "_law_row" "_law_row" sRow f fd)
    (G : FnOk P w K mg base CX0 (k + 1) g gd ["dice", "total"] spRoll) (gk : PySem.W.keepIn K (.ref g) = true) (gb : Binds K gd ["dice", "total"] []) (mg1 : mg "_law_roll" = some (.ref g))
    (G2 : FnOk P w K mg base CX0 (k + 1) g2 gd2 ["dice", "items"] spPick) (gk2 : PySem.W.keepIn K (.ref g2) = true) (gb2 : Binds K gd2 ["dice", "items"] []) (mg2 : mg "_law_pick" = some (.ref g2))
    (G3 : FnOk P w K mg base CX0 (k + 1) g3 gd3 ["dice", "items", "size"] (spSome K)) (gk3 : PySem.W.keepIn K (.ref g3) = true) (gb3 : Binds K gd3 ["dice", "items", "size"] []) (mg3 : mg "_law_some" = some (.ref g3)) :
    FnOk P w K mg base CX0 (k + 2) f fd ["dice"] spRow := by
  refine F.ok scRow (fun vs H Q E h => ?_) (fun cdv A outer s H vs Q E hr h => ?_)
  · obtain ⟨d, rfl, _⟩ := h
    rfl
  · obtain ⟨d, rfl, hd, q⟩ := h
    refine ⟨_, pss_cons (ps_par (i := 1) (j := 2) rfl scRow.nd rfl rfl (by decide) rfl rfl (pa_cons (pe_call G2 hr (by rfl) mg2 gk2 gb2 .nil pass0 (pa_cons (pv 0) (pa_cons (pe_lst (pa_cons (pe_op op_pow pe_int pe_int) (pa_cons (pe_op op_sub (pe_op op_pow pe_int pe_int) pe_int) (pa_cons pe_int (pa_cons (pe_op op_pow pe_int pe_int) pa_nil))))) pa_nil)))
          (pa_cons (pe_call G hr (by rfl) mg1 gk gb .nil pass0 (pa_cons (pv 0) (pa_cons pe_int pa_nil))) pa_nil)) (by rfl))
      (pss_cons (ps_asg (pe_call G3 hr (by rfl) mg3 gk3 gb3 .nil pass0 (pa_cons (pv 0) (pa_cons (pe_lst (pa_cons pe_str (pa_cons pe_str (pa_cons pe_str (pa_cons pe_str (pa_cons pe_str (pa_cons pe_str (pa_cons pe_str (pa_cons pe_str (pa_cons pe_str pa_nil)))))))))) (pa_cons pe_int pa_nil))))
          (pg_unl rfl (pgs_cons (pg_name (i := 3) scRow.nd rfl (.inl rfl)) (pgs_cons (pg_name (i := 4) scRow.nd rfl (.inl rfl)) pgs_nil))))
      (C8.pss_cut (ps_set (i := 5) scRow.nd rfl (.inl rfl) (pe_lst (pa_cons (pe_tup (pa_cons (pv 1) (pa_cons pe_bl (pa_cons pe_bl pa_nil)))) (pa_cons (pe_tup (pa_cons (pe_un un_neg (pv 1)) (pa_cons pe_bl (pa_cons pe_bl pa_nil))))
          (pa_cons (pe_tup (pa_cons (pe_op op_add (pe_op op_pow pe_int pe_int) (pv 2)) (pa_cons pe_bl (pa_cons pe_bl pa_nil)))) (pa_cons (pe_tup (pa_cons (pv 2) (pa_cons pe_bl (pa_cons pe_bl pa_nil)))) pa_nil))))))
      (C8.pss_cut (ps_set (i := 5) scRow.nd rfl (.inl rfl) (pe_op op_cat (pv 5) (pe_lst (pa_cons (pe_tup (pa_cons (pe_op op_sub (pe_un un_neg (pe_op op_pow pe_int pe_int)) (pv 2)) (pa_cons pe_bl (pa_cons pe_bl pa_nil))))
          (pa_cons (pe_tup (pa_cons (pe_cmpR op_eq (pe_op op_mod (pv 2) pe_int) pe_int (nomark _)) (pa_cons pe_bl (pa_cons pe_bl pa_nil)))) (pa_cons (pe_tup (pa_cons (pe_tup (pa_cons (pv 3) (pa_cons (pv 3) pa_nil))) (pa_cons pe_bl (pa_cons pe_bl pa_nil)))) pa_nil))))))
      (C8.pss_cut (ps_set (i := 5) scRow.nd rfl (.inl rfl) (pe_op op_cat (pv 5) (pe_op op_rep (pe_lst (pa_cons (pe_tup (pa_cons (pe_tup (pa_cons (pv 3) (pa_cons (pv 4) pa_nil))) (pa_cons pe_bl (pa_cons (pe_cmpR op_lt_str (pv 3) (pv 4) (nomark _)) pa_nil))))
          (pa_cons (pe_tup (pa_cons (pe_tup (pa_cons (pv 4) (pa_cons (pv 3) pa_nil))) (pa_cons pe_bl (pa_cons (pe_cmpR op_lt_str (pv 4) (pv 3) (nomark _)) pa_nil)))) pa_nil))) pe_int)))
      (C8.pss_cut (ps_for PassesOwn.never rfl (pi_list (pe_lst (pa_cons pe_non (pa_cons pe_str (pa_cons pe_str (pa_cons (pe_tup (pa_cons pe_int pa_nil)) (pa_cons (pe_lst pa_nil) (pa_cons pe_dnewK (pa_cons (pe_tup pa_nil) (pa_cons (pe_tup (pa_cons (pv 3) pa_nil)) (pa_cons (pe_tup (pa_cons (pv 3) (pa_cons (pv 4) (pa_cons pe_str pa_nil))))
          (pa_cons (pe_lst (pa_cons (pv 3) (pa_cons (pv 4) pa_nil))) (pa_cons (pe_tup (pa_cons (pv 3) (pa_cons pe_int pa_nil))) (pa_cons (pe_tup (pa_cons pe_int (pa_cons pe_int pa_nil))) (pa_cons (pe_tup (pa_cons pe_str (pa_cons pe_str pa_nil))) pa_nil)))))))))))))))
          (pg_name (i := 6) scRow.nd rfl (.inl rfl))
          (pss_one (ps_expr (pe_bm PySem.F.plainAttrs_list PySem.F.slot_list_append PySem.F.type_list_append mt_append (pv 5) (pa_cons (pe_tup (pa_cons (pv 6) (pa_cons pe_bl (pa_cons pe_bl pa_nil)))) pa_nil)))))
      (C8.pss_cut (ps_for PassesOwn.never rfl (pi_list (pe_lst (pa_cons (pe_tup (pa_cons pe_str (pa_cons pe_str pa_nil))) (pa_cons (pe_tup (pa_cons pe_str (pa_cons pe_str pa_nil))) (pa_cons (pe_tup (pa_cons pe_str (pa_cons pe_str pa_nil))) (pa_cons (pe_op op_add_str (pv 3) (pv 4)) (pa_cons (pe_tup (pa_cons (pe_tup (pa_cons (pv 3) (pa_cons (pv 4) pa_nil))) pa_nil))
          (pa_cons (pe_tup (pa_cons pe_non (pa_cons (pv 3) pa_nil))) (pa_cons (pe_tup (pa_cons (pv 3) (pa_cons pe_non pa_nil))) pa_nil)))))))))
          (pg_name (i := 6) scRow.nd rfl (.inl rfl))
          (pss_one (ps_expr (pe_bm PySem.F.plainAttrs_list PySem.F.slot_list_append PySem.F.type_list_append mt_append (pv 5) (pa_cons (pe_tup (pa_cons (pv 6) (pa_cons pe_bl (pa_cons pe_bl pa_nil)))) pa_nil)))))
      (pss_one (ps_ret (pe_call G2 hr (by rfl) mg2 gk2 gb2 .nil pass0 (pa_cons (pv 0) (pa_cons (pv 5) pa_nil))))))))))), ?_⟩
    have sl : ∀ n : Nat, n ≤ 1000 → n ≤ sizeLine := fun n hn => Nat.le_of_lt (small1000 hn)
    refine ⟨.ref d, rfl, 10, 59, rfl, rfl, ⟨by decide, by decide, by decide⟩, 10, 60, rfl, rfl, ⟨by decide, by decide, by decide⟩, _, 1, rfl, rfl, 10, 18, rfl, rfl, ⟨by decide, by decide, by decide⟩, sl 4 (by decide), fun M nM => ?_⟩
    refine ⟨d, M, _, rfl, (sd_new hd nM).dice, upd_same, (hd.ne nM).symm, by decide, by decide, fun v H1 hv s1 => ?_⟩
    have sd1 : Sd d H H1 := (sd_new hd nM).trans s1
    obtain ⟨i, hi, rfl⟩ : ∃ i, i ∈ sizes4 ∧ v = V.int i := by
      obtain ⟨i, hi, e⟩ := List.mem_map.mp (show v ∈ sizes4.map V.int from hv)
      exact ⟨i, hi, e.symm⟩
    obtain ⟨hi1, hi2⟩ := sizes4_ok i hi
    refine ⟨.ref d, rfl, d, 100, rfl, s1.dice, by decide, by decide, fun r x y z r0 r1 => ⟨_, _, rfl, ?_⟩⟩
    have sd2 : Sd d H (upd H1 d (.lst [.int x, .int y, .int z])) := sd1.trans (sd_put x y z)
    generalize upd H1 d (.lst [.int x, .int y, .int z]) = H2 at sd2 ⊢
    refine ⟨.ref d, rfl, sl 9 (by decide), fun N nN => ⟨d, N, 2, _, rfl, (sd_new sd2.dice nN).dice, .inl (.inl upd_same), by decide, by decide, by decide, fun D ys rest H3 pm hl nD eD s3 => ?_⟩⟩
    have sd3 : Sd d H H3 := (sd2.trans (sd_new sd2.dice nN)).trans s3
    have hys : ∀ y ∈ ys, ∃ z, y = V.str z ∧ wordS z = true ∧ z.length ≤ 8 ∧ ∀ c ∈ z.cps.toList, c < 128 := fun y hy => by
      have hm : y ∈ names9.map V.str := pm.subset (List.mem_append_left _ hy)
      obtain ⟨z, hz, e⟩ := List.mem_map.mp hm
      exact ⟨z, e.symm, names9_ok z hz⟩
    obtain ⟨y1, y2, rfl⟩ : ∃ y1 y2, ys = [y1, y2] := by
      match ys, hl with
      | [y1, y2], _ => exact ⟨y1, y2, rfl⟩
    obtain ⟨za, rfl, wa, la, ca⟩ := hys y1 (by simp)
    obtain ⟨zb, rfl, wb, lb, cb⟩ := hys y2 (by simp)
    have oka : okStr za := ⟨by omega, ca⟩
    have okb : okStr zb := ⟨by omega, cb⟩
    refine ⟨D, _, rfl, .inl (.inl eD), rfl, _, _, rfl, _, _, rfl, rfl, ?_⟩
    -- the rows so far
    refine ⟨fun σ' H' => ∃ L rows, σ' = [some (.ref d), some (.int i), some (.int r), some (.str za), some (.str zb), some (.ref L), none] ∧ H' L = some (.lst rows) ∧ (∀ x ∈ rows, Row3 H' x) ∧ rows.length = 4 ∧ H L = none ∧ Sd d H H', ?_, ?_⟩
    · refine ⟨.int i, rfl, sl 3 (by decide), fun t1 n1 => ⟨.int i, rfl, i, rfl, sl 3 (by decide), fun t2 n2 => ⟨10, 60, rfl, rfl, ⟨by decide, by decide, by decide⟩, .int r, rfl, _, r, rfl, rfl, sl 3 (by decide), fun t3 n3 => ⟨.int r, rfl, sl 3 (by decide), fun t4 n4 => ⟨sl 4 (by decide), fun L nL => ?_⟩⟩⟩⟩⟩
      have m4 := same_upd (o := .lst [.ref t1, .ref t2, .ref t3, .ref t4]) nL
      have m3 := (same_upd n4).trans m4
      have m2 := (same_upd n3).trans m3
      have m1 := (same_upd n2).trans m2
      have m0 := (same_upd n1).trans m1
      refine ⟨L, _, rfl, upd_same, ?_, rfl, ?_, sd3.then_same m0⟩
      · intro x hx
        simp only [List.mem_cons, List.not_mem_nil, or_false] at hx
        rcases hx with rfl | rfl | rfl | rfl
        · refine ⟨t1, _, _, _, rfl, m1 _ _ upd_same, .int _, ?_, .no (.int _)⟩
          show decide ((if i < 0 then -i else i) < topInt) = true
          rw [if_neg (by omega)]
          exact decide_eq_true hi2
        · refine ⟨t2, _, _, _, rfl, m2 _ _ upd_same, .int _, ?_, .no (.int _)⟩
          show decide ((if -i < 0 then -(-i) else -i) < topInt) = true
          rw [if_pos (by omega)]
          exact decide_eq_true (by omega)
        · refine ⟨t3, _, _, _, rfl, m3 _ _ upd_same, .int _, ?_, .no (.int _)⟩
          show decide ((if topInt + r < 0 then -(topInt + r) else topInt + r) < topInt) = false
          have := topInt_pos
          rw [if_neg (by omega)]
          exact decide_eq_false (by omega)
        · refine ⟨t4, _, _, _, rfl, m4 _ _ upd_same, .int _, ?_, .no (.int _)⟩
          show decide ((if r < 0 then -r else r) < topInt) = true
          have := topInt_pos
          rw [if_neg (by omega)]
          exact decide_eq_true (by omega)
      · exact (sd3.then_same (((same_upd n1).trans (same_upd n2)).trans ((same_upd n3).trans (same_upd n4)))).free nL
    rintro σ4 H4 ⟨L4, rows4, rfl, eL4, row4, len4, Ld4, sd4⟩
    refine ⟨fun σ' H' => ∃ L rows, σ' = [some (.ref d), some (.int i), some (.int r), some (.str za), some (.str zb), some (.ref L), none] ∧ H' L = some (.lst rows) ∧ (∀ x ∈ rows, Row3 H' x) ∧ rows.length = 7 ∧ H L = none ∧ Sd d H H', ?_, ?_⟩
    · refine ⟨.ref L4, rfl, 10, 60, rfl, rfl, ⟨by decide, by decide, by decide⟩, _, rfl, .int r, rfl, _, r, rfl, rfl, sl 3 (by decide), fun t1 n1 => ⟨.int r, rfl, r, 2, rfl, rfl, (by show (0 : Int) < 2; decide), rfl, sl 3 (by decide), fun t2 n2 => ⟨.str za, rfl, .str za, rfl, sl 2 (by decide), fun t3 n3 => ⟨sl 3 (by decide), fun t4 n4 => ⟨sl 3 (by decide), fun L2 nL2 => ?_⟩⟩⟩⟩⟩
      have q4 := same_upd (o := .lst [.ref t1, .ref t2, .ref t4]) nL2
      have q0 := (same_upd n1).trans ((same_upd n2).trans ((same_upd n3).trans ((same_upd n4).trans q4)))
      refine ⟨L4, L2, rows4, _, rfl, rfl, q0 _ _ eL4, upd_same, (by rw [len4]; exact sl 7 (by decide)), fun p np => ?_⟩
      have m4 := q4.trans (same_upd (o := .lst (rows4 ++ [.ref t1, .ref t2, .ref t4])) np)
      have m3 := (same_upd n4).trans m4
      have m2 := (same_upd n3).trans m3
      have m1 := (same_upd n2).trans m2
      have m0 := (same_upd n1).trans m1
      refine ⟨p, _, rfl, upd_same, ?_, (by rw [List.length_append, len4]; rfl), ((sd4.then_same q0).free np), sd4.then_same m0⟩
      intro x hx
      rcases List.mem_append.mp hx with hx | hx
      · exact (row4 x hx).same m0
      simp only [List.mem_cons, List.not_mem_nil, or_false] at hx
      rcases hx with rfl | rfl | rfl
      · refine ⟨t1, _, _, _, rfl, m1 _ _ upd_same, .int _, ?_, .no (.int _)⟩
        show decide ((if -topInt - r < 0 then -(-topInt - r) else -topInt - r) < topInt) = false
        have := topInt_pos
        rw [if_pos (by omega)]
        exact decide_eq_false (by omega)
      · exact ⟨t2, _, _, _, rfl, m2 _ _ upd_same, .bl _, rfl, .no (.bl _)⟩
      · refine ⟨t4, _, _, _, rfl, m4 _ _ upd_same, .tup (m3 _ _ upd_same), rfl, .two (m3 _ _ upd_same) (.str oka) (.str oka) ?_⟩
        show (wordS za && (wordS za && decide (za.cps.toList < za.cps.toList))) = false
        rw [decide_eq_false (lt_irr _), Bool.and_false, Bool.and_false]
    rintro σ5 H5 ⟨L5, rows5, rfl, eL5, row5, len5, Ld5, sd5⟩
    refine ⟨fun σ' H' => ∃ L rows o, σ' = [some (.ref d), some (.int i), some (.int r), some (.str za), some (.str zb), some (.ref L), o] ∧ H' L = some (.lst rows) ∧ (∀ x ∈ rows, Row3 H' x) ∧ rows.length = 15 ∧ H L = none ∧ Sd d H H', ?_, ?_⟩
    · refine ⟨.ref L5, rfl, .str za, rfl, .str zb, rfl, sl 2 (by decide), fun t1 n1 => ⟨.str za, rfl, .str zb, rfl, za, zb, rfl, rfl, sl 3 (by decide), fun t2 n2 => ⟨.str zb, rfl, .str za, rfl, sl 2 (by decide), fun t3 n3 => ⟨.str zb, rfl, .str za, rfl, zb, za, rfl, rfl, sl 3 (by decide), fun t4 n4 => ⟨sl 2 (by decide), fun L2 nL2 => ?_⟩⟩⟩⟩⟩
      refine ⟨L2, 4, _, rfl, rfl, upd_same, by decide, by decide, sl 8 (by decide), fun L3 nL3 => ?_⟩
      have q4 := (same_upd (o := .lst [.ref t2, .ref t4]) nL2).trans (same_upd (o := .lst (List.replicate (4 : Int).toNat [.ref t2, .ref t4]).flatten) nL3)
      have q0 := (same_upd n1).trans ((same_upd n2).trans ((same_upd n3).trans ((same_upd n4).trans q4)))
      refine ⟨L5, L3, rows5, _, rfl, rfl, q0 _ _ eL5, upd_same, (by rw [len5]; exact sl 15 (by decide)), fun p np => ?_⟩
      have m4 := q4.trans (same_upd (o := .lst (rows5 ++ (List.replicate (4 : Int).toNat [.ref t2, .ref t4]).flatten)) np)
      have m3 := (same_upd n4).trans m4
      have m2 := (same_upd n3).trans m3
      have m1 := (same_upd n2).trans m2
      have m0 := (same_upd n1).trans m1
      refine ⟨p, _, none, rfl, upd_same, ?_, (by rw [List.length_append, len5]; rfl), ((sd5.then_same q0).free np), sd5.then_same m0⟩
      intro x hx
      rcases List.mem_append.mp hx with hx | hx
      · exact (row5 x hx).same m0
      obtain ⟨l, hl, hx⟩ := List.mem_flatten.mp hx
      obtain ⟨_, rfl⟩ := List.mem_replicate.mp hl
      simp only [List.mem_cons, List.not_mem_nil, or_false] at hx
      rcases hx with rfl | rfl
      · refine ⟨t2, _, _, _, rfl, m2 _ _ upd_same, .tup (m1 _ _ upd_same), rfl, .two (m1 _ _ upd_same) (.str oka) (.str okb) ?_⟩
        show (wordS za && (wordS zb && decide (za.cps.toList < zb.cps.toList))) = _
        rw [wa, wb, Bool.true_and, Bool.true_and]
      · refine ⟨t4, _, _, _, rfl, m4 _ _ upd_same, .tup (m3 _ _ upd_same), rfl, .two (m3 _ _ upd_same) (.str okb) (.str oka) ?_⟩
        show (wordS zb && (wordS za && decide (zb.cps.toList < za.cps.toList))) = _
        rw [wa, wb, Bool.true_and, Bool.true_and]
    rintro σ6 H6 ⟨L, rows6, o6, rfl, eL6, row6, len6, Ln, sd6⟩
    have Ld : L ≠ d := (hd.ne Ln).symm
    -- one turn of the loops behind
    have turn : ∀ (H0 H' : Hp) (rows : List V) (x : V) (t : Addr), H' L = some (.lst rows) → (∀ y ∈ rows, Row3 H' y) → Kl L H0 H' → Sd d H H' → Odd H0 x → H' t = none →
        (upd (upd H' t (.tup [x, .bl false, .bl false])) L (.lst (rows ++ [.ref t]))) L = some (.lst (rows ++ [.ref t])) ∧
        (∀ y ∈ rows ++ [V.ref t], Row3 (upd (upd H' t (.tup [x, .bl false, .bl false])) L (.lst (rows ++ [.ref t]))) y) ∧
        Kl L H0 (upd (upd H' t (.tup [x, .bl false, .bl false])) L (.lst (rows ++ [.ref t]))) ∧ Sd d H (upd (upd H' t (.tup [x, .bl false, .bl false])) L (.lst (rows ++ [.ref t]))) := by
      intro H0 H' rows x t eL hr kl sd od nt
      have tL : t ≠ L := (ne_of_none eL nt).symm
      have k1 : Kl L H' (upd (upd H' t (.tup [x, .bl false, .bl false])) L (.lst (rows ++ [.ref t]))) := ⟨fun b o hb e => by
        rw [upd_ne hb, upd_ne (ne_of_none e nt)]
        exact e, ⟨_, eL⟩, ⟨_, upd_same⟩⟩
      refine ⟨upd_same, fun y hy => ?_, kl.trans k1, ?_⟩
      · rcases List.mem_append.mp hy with h | h
        · exact (hr y h).kl k1
        · rw [List.mem_singleton.mp h]
          have od1 := (od.kl kl).kl k1
          exact ⟨t, x, false, false, rfl, by rw [upd_ne tL, upd_same], od1.dv, od1.it, od1.pr⟩
      · obtain ⟨a1, a2, a3, ea⟩ := sd.dice
        refine ⟨fun b o hb e => ?_, a1, a2, a3, ?_⟩
        · have e2 := sd.keep b o hb e
          by_cases hbL : b = L
          · subst hbL
            rw [Ln] at e
            cases e
          · exact k1.keep b o hbL e2
        · exact k1.keep d _ Ld.symm ea
    -- a list of odd things, gone through
    have loop : ∀ (P : Addr) (items : List V) (H0 : Hp) (n : Nat) (rows : List V) (o : Option V), H0 P = some (.lst items) → (∀ x ∈ items, Odd H0 x) → P ≠ L → H0 L = some (.lst rows) → (∀ y ∈ rows, Row3 H0 y) → rows.length = n → n + items.length ≤ 900 → Sd d H H0 →
        ∃ W : Nat → L2.St → Hp → Prop, W 0 [some (.ref d), some (.int i), some (.int r), some (.str za), some (.str zb), some (.ref L), o] H0 ∧
          (∀ j σ H', W j σ H' → SqL K H' P items) ∧
          (∀ j x σ H', items[j]? = some x → W j σ H' → ∃ rows o, σ = [some (.ref d), some (.int i), some (.int r), some (.str za), some (.str zb), some (.ref L), o] ∧ H' L = some (.lst rows) ∧ rows.length ≤ 900 ∧
            ∀ t, H' t = none → W (j + 1) [some (.ref d), some (.int i), some (.int r), some (.str za), some (.str zb), some (.ref L), some x] (upd (upd H' t (.tup [x, .bl false, .bl false])) L (.lst (rows ++ [.ref t])))) ∧
          (∀ σ H', W items.length σ H' → ∃ rows o, σ = [some (.ref d), some (.int i), some (.int r), some (.str za), some (.str zb), some (.ref L), o] ∧ H' L = some (.lst rows) ∧ (∀ x ∈ rows, Row3 H' x) ∧ rows.length = n + items.length ∧ H L = none ∧ Sd d H H') := by
      intro P items H0 n rows o eP ho hPL eL hrow hn hmax sd
      refine ⟨fun j σ H' => j ≤ items.length ∧ ∃ rows o, σ = [some (.ref d), some (.int i), some (.int r), some (.str za), some (.str zb), some (.ref L), o] ∧ H' L = some (.lst rows) ∧ (∀ x ∈ rows, Row3 H' x) ∧ rows.length = n + j ∧ Kl L H0 H' ∧ Sd d H H',
        ⟨Nat.zero_le _, rows, o, rfl, eL, hrow, hn, ⟨fun b o _ e => e, ⟨_, eL⟩, ⟨_, eL⟩⟩, sd⟩, fun j σ H' h => ?_, fun j x σ H' hx h => ?_, fun σ H' h => ?_⟩
      · obtain ⟨_, _, _, _, _, _, _, kl, _⟩ := h
        exact .inl (.inl (kl.keep _ _ hPL eP))
      · obtain ⟨hj, rows, o, e, eL, hr, hl, kl, sd⟩ := h
        have hj2 : j < items.length := (List.getElem?_eq_some_iff.mp hx).1
        refine ⟨rows, o, e, eL, by omega, fun t nt => ?_⟩
        obtain ⟨c1, c2, c3, c4⟩ := turn H0 H' rows x t eL hr kl sd (ho x (List.mem_of_getElem? hx)) nt
        exact ⟨hj2, rows ++ [V.ref t], some x, rfl, c1, c2, by rw [List.length_append, hl]; rfl, c3, c4⟩
      · obtain ⟨hj, rows, o, e, eL, hr, hl, kl, sd⟩ := h
        exact ⟨rows, o, e, eL, hr, hl, Ln, sd⟩
    refine ⟨fun σ' H' => ∃ rows o, σ' = [some (.ref d), some (.int i), some (.int r), some (.str za), some (.str zb), some (.ref L), o] ∧ H' L = some (.lst rows) ∧ (∀ x ∈ rows, Row3 H' x) ∧ rows.length = 15 + 13 ∧ H L = none ∧ Sd d H H', ?_, ?_⟩
    · refine ⟨sl 1 (by decide), fun t1 n1 => ⟨sl 0 (by decide), fun t2 n2 => fun t3 n3 => ⟨sl 0 (by decide), fun t4 n4 => ⟨.str za, rfl, sl 1 (by decide), fun t5 n5 => ⟨.str za, rfl, .str zb, rfl, sl 3 (by decide), fun t6 n6 =>
        ⟨.str za, rfl, .str zb, rfl, sl 2 (by decide), fun t7 n7 => ⟨.str za, rfl, sl 2 (by decide), fun t8 n8 => ⟨sl 2 (by decide), fun t9 n9 => ⟨sl 2 (by decide), fun t10 n10 => ⟨sl 13 (by decide), fun p np => ?_⟩⟩⟩⟩⟩⟩⟩⟩⟩⟩
      have mp := same_upd (o := .lst [.non, .str "1", .str "", .ref t1, .ref t2, .ref t3, .ref t4, .ref t5, .ref t6, .ref t7, .ref t8, .ref t9, .ref t10]) np
      have m9 := (same_upd n10).trans mp
      have m8 := (same_upd n9).trans m9
      have m7 := (same_upd n8).trans m8
      have m6 := (same_upd n7).trans m7
      have m5 := (same_upd n6).trans m6
      have m4 := (same_upd n5).trans m5
      have m3 := (same_upd n4).trans m4
      have m2 := (same_upd n3).trans m3
      have m1 := (same_upd n2).trans m2
      have m0 := (same_upd n1).trans m1
      have q9 := (same_upd n1).trans ((same_upd n2).trans ((same_upd n3).trans ((same_upd n4).trans ((same_upd n5).trans ((same_upd n6).trans ((same_upd n7).trans ((same_upd n8).trans ((same_upd n9).trans (same_upd (o := .tup [.str "A", .str "b"]) n10)))))))))
      have pL : p ≠ L := (ne_of_none (q9 _ _ eL6) np).symm
      obtain ⟨W, w0, w1, w2, w3⟩ := loop p _ _ 15 rows6 o6 upd_same (fun x hx => by
        simp only [List.mem_cons, List.not_mem_nil, or_false] at hx
        rcases hx with rfl | rfl | rfl | rfl | rfl | rfl | rfl | rfl | rfl | rfl | rfl | rfl | rfl
        · exact .nt .non .non rfl
        · exact .nt (.str (by decide +kernel)) (.str _) rfl
        · exact .nt (.str (by decide +kernel)) (.str _) rfl
        · exact .len (m1 _ _ upd_same) (by simp)
        · exact .nt (.lst (m2 _ _ upd_same)) (.lst (m2 _ _ upd_same)) rfl
        · exact .nt (.dK (m3 _ _ upd_same)) (.dK (m3 _ _ upd_same)) rfl
        · exact .len (m4 _ _ upd_same) (by simp)
        · exact .len (m5 _ _ upd_same) (by simp)
        · exact .len (m6 _ _ upd_same) (by simp)
        · exact .nt (.lst (m7 _ _ upd_same)) (.lst (m7 _ _ upd_same)) rfl
        · exact .two (m8 _ _ upd_same) (.str oka) (.int _) (two_f2 rfl)
        · exact .two (m9 _ _ upd_same) (.int _) (.int _) (two_f1 rfl)
        · exact .two (mp _ _ upd_same) (.str (by decide +kernel)) (.str (by decide +kernel)) (two_f1 (by decide +kernel))) pL (m0 _ _ eL6) (fun y hy => (row6 y hy).same m0) len6 (show 15 + 13 ≤ 900 by decide) (sd6.then_same m0)
      refine ⟨p, rfl, ⟨_, .inl (.inl upd_same)⟩, for_list (K := K) (a := p) (xs := [.non, .str "1", .str "", .ref t1, .ref t2, .ref t3, .ref t4, .ref t5, .ref t6, .ref t7, .ref t8, .ref t9, .ref t10]) W w0 (fun j σ H' _ h => w1 j σ H' h) (fun j x σ H' hx h => ?_) w3⟩
      obtain ⟨rows, o, rfl, eL, hl, nx⟩ := w2 j x σ H' hx h
      refine ⟨.ref L, rfl, .inl ⟨rfl, _, .inl (.inl eL)⟩, x, rfl, sl 3 (by decide), fun t nt => ⟨L, _, _, rfl, rfl, ?_, small1000 (by omega), nx t nt⟩⟩
      rw [upd_ne (ne_of_none eL nt)]
      exact eL
    rintro σ7 H7 ⟨rows7, o7, rfl, eL7, row7, len7, _, sd7⟩
    refine ⟨fun σ' H' => ∃ rows o, σ' = [some (.ref d), some (.int i), some (.int r), some (.str za), some (.str zb), some (.ref L), o] ∧ H' L = some (.lst rows) ∧ (∀ x ∈ rows, Row3 H' x) ∧ rows.length = 28 + 7 ∧ H L = none ∧ Sd d H H', ?_, ?_⟩
    · refine ⟨sl 2 (by decide), fun t1 n1 => ⟨sl 2 (by decide), fun t2 n2 => ⟨sl 2 (by decide), fun t3 n3 => ⟨.str za, rfl, .str zb, rfl, za, zb, rfl, rfl, sl _ (by omega), .str za, rfl, .str zb, rfl, sl 2 (by decide), fun t4 n4 => ⟨sl 1 (by decide), fun t5 n5 =>
        ⟨.str za, rfl, sl 2 (by decide), fun t6 n6 => ⟨.str za, rfl, sl 2 (by decide), fun t7 n7 => ⟨sl 7 (by decide), fun p np => ?_⟩⟩⟩⟩⟩⟩⟩⟩
      have mp := same_upd (o := .lst [.ref t1, .ref t2, .ref t3, .str (za ++ zb), .ref t5, .ref t6, .ref t7]) np
      have m6 := (same_upd n7).trans mp
      have m5 := (same_upd n6).trans m6
      have m4 := (same_upd n5).trans m5
      have m3 := (same_upd n4).trans m4
      have m2 := (same_upd n3).trans m3
      have m1 := (same_upd n2).trans m2
      have m0 := (same_upd n1).trans m1
      have q9 := (same_upd n1).trans ((same_upd n2).trans ((same_upd n3).trans ((same_upd n4).trans ((same_upd n5).trans ((same_upd n6).trans (same_upd (o := .tup [.str za, .non]) n7))))))
      have pL : p ≠ L := (ne_of_none (q9 _ _ eL7) np).symm
      have okab : okStr (za ++ zb) := by
        refine ⟨?_, fun c hc => ?_⟩
        · rw [len_cps, add_cps, List.length_append, ← len_cps, ← len_cps]
          omega
        · rw [add_cps] at hc
          rcases List.mem_append.mp hc with h | h
          · exact ca c h
          · exact cb c h
      obtain ⟨W, w0, w1, w2, w3⟩ := loop p _ _ 28 rows7 o7 upd_same (fun x hx => by
        simp only [List.mem_cons, List.not_mem_nil, or_false] at hx
        rcases hx with rfl | rfl | rfl | rfl | rfl | rfl | rfl
        · exact .two (m1 _ _ upd_same) (.str (by decide +kernel)) (.str (by decide +kernel)) (two_f1 (by decide +kernel))
        · exact .two (m2 _ _ upd_same) (.str (by decide +kernel)) (.str (by decide +kernel)) (two_f2 (by decide +kernel))
        · exact .two (m3 _ _ upd_same) (.str (by decide +kernel)) (.str (by decide +kernel)) (two_f1 (by decide +kernel))
        · exact .nt (.str okab) (.str _) rfl
        · exact .len (m5 _ _ upd_same) (by simp)
        · exact .two (m6 _ _ upd_same) .non (.str oka) (two_f1 rfl)
        · exact .two (mp _ _ upd_same) (.str oka) .non (two_f2 rfl)) pL (m0 _ _ eL7) (fun y hy => (row7 y hy).same m0) len7 (show 28 + 7 ≤ 900 by decide) (sd7.then_same m0)
      refine ⟨p, rfl, ⟨_, .inl (.inl upd_same)⟩, for_list (K := K) (a := p) (xs := [.ref t1, .ref t2, .ref t3, .str (za ++ zb), .ref t5, .ref t6, .ref t7]) W w0 (fun j σ H' _ h => w1 j σ H' h) (fun j x σ H' hx h => ?_) w3⟩
      obtain ⟨rows, o, rfl, eL, hl, nx⟩ := w2 j x σ H' hx h
      refine ⟨.ref L, rfl, .inl ⟨rfl, _, .inl (.inl eL)⟩, x, rfl, sl 3 (by decide), fun t nt => ⟨L, _, _, rfl, rfl, ?_, small1000 (by omega), nx t nt⟩⟩
      rw [upd_ne (ne_of_none eL nt)]
      exact eL
    rintro σ8 H8 ⟨rows8, o8, rfl, eL8, row8, len8, _, sd8⟩
    refine ⟨.ref d, rfl, .ref L, rfl, d, L, rows8, rfl, sd8.dice, eL8, Ld, by omega, by omega, fun v H9 hv s9 => ?_⟩
    exact q v H9 (sd8.trans s9) ((row8 v hv).kl (.of_sd sd8.dice s9))
end
/-! ### the law -/
theorem room66 {k : Nat} {A : Around} (r : Room k A) : A.units + 66 < cLine := by
  have := r.un
  omega
theorem scLaw : FnScope ["script", "spot", "dice", "turn", "value", "is_number", "fits"] ["script"] (defScope sLaw) := ⟨rfl, rfl, rfl, by decide +kernel, rfl, by decide +kernel, by decide +kernel⟩
def spLaw (K : PySem.W.Frag) : Sp := fun vs H Q _ => ∃ (a : Addr) (ns : List Int), vs = [.ref a] ∧ SqL K H a (ns.map V.int) ∧ ns.length ≤ 63 ∧ ∀ H', Q (.bl true) H'
theorem shown2 : ∀ a b : Bool, (PyData.list [.bool a, .bool b]).showable = true ∧ (PyData.list [.bool a, .bool b]).hasDict = false ∧ (PyData.list [.bool a, .bool b]).depth ≤ 64 ∧ (PyData.list [.bool a, .bool b]).shown.length ≤ sizeLine := by decide +kernel
theorem is4 : intB (.int (10 ^ (60 : Int).toNat - 1)) = true ∧ intB (.int (10 ^ (60 : Int).toNat)) = false ∧ intB (.int (-(10 ^ (60 : Int).toNat))) = false := by decide +kernel
theorem is_ab : (wordB (.str "a") && (wordB (.str "b") && ltB (.str "a") (.str "b"))) = true := by decide +kernel
theorem is_ba : (wordB (.str "b") && (wordB (.str "a") && ltB (.str "b") (.str "a"))) = false := by decide +kernel
theorem is_aa : (wordB (.str "a") && (wordB (.str "a") && ltB (.str "a") (.str "a"))) = false := by decide +kernel
section
variable {P : Program} {w : World} {K : PySem.W.Frag} {mg : Str → Option Value} {base : Heap}
theorem ok_law {f g1 g2 g3 g4 : Addr} {fd gd1 gd2 gd3 gd4 : FuncData} {k : Nat} (F : Fun K "law" "law" sLaw f fd)
    (G1 : FnOk P w K mg base CX0 (k + 2) g1 gd1 ["script", "spot"] (spDice K)) (gk1 : PySem.W.keepIn K (.ref g1) = true) (gb1 : Binds K gd1 ["script", "spot"] []) (mg1 : mg "_law_dice" = some (.ref g1))
    (G2 : FnOk P w K mg base CX0 (k + 2) g2 gd2 ["dice"] spRow) (gk2 : PySem.W.keepIn K (.ref g2) = true) (gb2 : Binds K gd2 ["dice"] []) (mg2 : mg "_law_row" = some (.ref g2))
    (G3 : FnOk P w K mg base CX0 (k + 2) g3 gd3 ["value"] spInt) (gk3 : PySem.W.keepIn K (.ref g3) = true) (gb3 : Binds K gd3 ["value"] []) (mg3 : mg "is_integer" = some (.ref g3))
    (G4 : FnOk P w K mg base CX0 (k + 2) g4 gd4 ["value"] spPair) (gk4 : PySem.W.keepIn K (.ref g4) = true) (gb4 : Binds K gd4 ["value"] []) (mg4 : mg "is_pair" = some (.ref g4))
    (ml : mg "len" = none) (mR : mg "range" = none) (mm : mg "min" = none) (mM : mg "max" = none) (mr : mg "repr" = none) :
    FnG P w K mg base CX0 (k + 3) f fd ["script"] (spLaw K) := by
  refine Fun.okG F scLaw (fun vs H Q E h => ?_) (fun cdv A outer s H vs Q E hg hr h => ?_)
  · obtain ⟨a, ns, rfl, _⟩ := h
    rfl
  · obtain ⟨a, ns, rfl, hS, hlen, q⟩ := h
    refine ⟨_, pss_cons (ps_for PassesOwn.never rfl (pi_range1 (by rfl) mR (pa_cons (pe_callB (call_max2 rfl) (by rfl) mM (by decide +kernel) (pa_cons pe_int (pa_cons (pe_callB (call_min2 rfl) (by rfl) mm (by decide +kernel) (pa_cons pe_int (pa_cons (pe_callB call_len_seq (by rfl) ml PySem.boot_len (pa_cons (pv 0) pa_nil)) pa_nil))) pa_nil))) pa_nil))
        (pg_name (i := 1) scLaw.nd rfl (.inl rfl))
        (pss_cons (ps_set (i := 2) scLaw.nd rfl (.inl rfl) (pe_call G1 hr (by rfl) mg1 gk1 gb1 .nil pass0 (pa_cons (pv 0) (pa_cons (pv 1) pa_nil))))
        (pss_one (ps_for PassesOwn.never rfl (pi_range1 (by rfl) mR (pa_cons pe_int pa_nil)) (pg_name (i := 3) scLaw.nd rfl (.inl rfl))
          (pss_cons (ps_asg (pe_call G2 hr (by rfl) mg2 gk2 gb2 .nil pass0 (pa_cons (pv 2) pa_nil)) (pg_tup rfl (pgs_cons (pg_name (i := 4) scLaw.nd rfl (.inl rfl)) (pgs_cons (pg_name (i := 5) scLaw.nd rfl (.inl rfl)) (pgs_cons (pg_name (i := 6) scLaw.nd rfl (.inl rfl)) pgs_nil)))))
          (pss_one (ps_if (pt_cmpR op_ne (pe_callB (call_reprD (K := K) rfl hg (room66 hr)) (by rfl) mr (by decide +kernel) (pa_cons (pe_lst (pa_cons (pe_call G3 hr (by rfl) mg3 gk3 gb3 .nil pass0 (pa_cons (pv 4) pa_nil)) (pa_cons (pe_call G4 hr (by rfl) mg4 gk4 gb4 .nil pass0 (pa_cons (pv 4) pa_nil)) pa_nil))) pa_nil))
              (pe_callB (call_reprD (K := K) rfl hg (room66 hr)) (by rfl) mr (by decide +kernel) (pa_cons (pe_lst (pa_cons (pv 5) (pa_cons (pv 6) pa_nil))) pa_nil)) (nomark _))
            (pss_one (ps_ret pe_bl)) pss_nil)))))))
      (pss_cons (ps_if (pt_cmpR (op_neD hr.units) (pe_lst (pa_cons (pe_call G3 hr (by rfl) mg3 gk3 gb3 .nil pass0 (pa_cons (pe_op op_sub (pe_op op_pow pe_int pe_int) pe_int) pa_nil)) (pa_cons (pe_call G3 hr (by rfl) mg3 gk3 gb3 .nil pass0 (pa_cons (pe_op op_pow pe_int pe_int) pa_nil))
            (pa_cons (pe_call G3 hr (by rfl) mg3 gk3 gb3 .nil pass0 (pa_cons (pe_un un_neg (pe_op op_pow pe_int pe_int)) pa_nil)) (pa_cons (pe_call G3 hr (by rfl) mg3 gk3 gb3 .nil pass0 (pa_cons pe_bl pa_nil)) pa_nil)))))
          (pe_op op_cat (pe_lst (pa_cons pe_bl pa_nil)) (pe_op op_rep (pe_lst (pa_cons pe_bl pa_nil)) pe_int)) (nomark _)) (pss_one (ps_ret pe_bl)) pss_nil)
      (pss_one (ps_ret (pe_cmpR (op_eqD hr.units) (pe_lst (pa_cons (pe_call G4 hr (by rfl) mg4 gk4 gb4 .nil pass0 (pa_cons (pe_tup (pa_cons pe_str (pa_cons pe_str pa_nil))) pa_nil)) (pa_cons (pe_call G4 hr (by rfl) mg4 gk4 gb4 .nil pass0 (pa_cons (pe_tup (pa_cons pe_str (pa_cons pe_str pa_nil))) pa_nil))
          (pa_cons (pe_call G4 hr (by rfl) mg4 gk4 gb4 .nil pass0 (pa_cons (pe_tup (pa_cons pe_str (pa_cons pe_str pa_nil))) pa_nil)) pa_nil)))) (pe_lst (pa_cons pe_bl (pa_cons pe_bl (pa_cons pe_bl pa_nil)))) (nomark _))))), ?_⟩
    have sl : ∀ n : Nat, n ≤ 1000 → n ≤ sizeLine := fun n hn => Nat.le_of_lt (small1000 hn)
    refine ⟨.ref a, rfl, a, _, rfl, .inl hS, 8, _, rfl, 1, _, rfl, ?_⟩
    rw [List.length_map]
    obtain ⟨c, hc, c1⟩ : ∃ c : Nat, (if (if (ns.length : Int) < 8 then (ns.length : Int) else 8) > 1 then (if (ns.length : Int) < 8 then (ns.length : Int) else 8) else 1) = (c : Int) ∧ c ≤ 8 := by
      refine ⟨(if (if (ns.length : Int) < 8 then (ns.length : Int) else 8) > 1 then (if (ns.length : Int) < 8 then (ns.length : Int) else 8) else 1).toNat, ?_, ?_⟩ <;> split <;> split <;> omega
    refine ⟨(c : Int), congrArg (fun z => [V.int z]) hc, by omega, by omega, for_range (lo := 0) (n := (c : Int).toNat) (fun i σ H' => ∃ y1 y2 y3 y4 y5 y6, σ = [some (.ref a), y1, y2, y3, y4, y5, y6] ∧ Same H H')
      ⟨none, none, none, none, none, none, rfl, Same.refl H⟩ (fun i σ H' hi hP => ?_) (fun σ H' hP => ?_)⟩
    · obtain ⟨y1, y2, y3, y4, y5, y6, rfl, sm⟩ := hP
      refine ⟨.ref a, rfl, .int (0 + (i : Int)), rfl, a, ns, _, rfl, sm.seq hS, hlen, by omega, fun D x y z nD => ?_⟩
      have hd0 : DiceAt (upd H' D (.lst [.int x, .int y, .int z])) D := ⟨x, y, z, upd_same⟩
      have sm0 : Same H' (upd H' D (.lst [.int x, .int y, .int z])) := same_upd nD
      generalize upd H' D (.lst [.int x, .int y, .int z]) = Hd at hd0 sm0 ⊢
      refine ⟨30, rfl, by decide, by decide, for_range (lo := 0) (n := 30) (fun j σ H'' => ∃ y3 y4 y5 y6, σ = [some (.ref a), some (.int (0 + (i : Int))), some (.ref D), y3, y4, y5, y6] ∧ Sd D Hd H'')
        ⟨y3, y4, y5, y6, rfl, Sd.refl hd0⟩ (fun j σ H'' hj hP => ?_) (fun σ H'' hP => ?_)⟩
      · obtain ⟨y3, y4, y5, y6, rfl, sd⟩ := hP
        refine ⟨.ref D, rfl, D, rfl, sd.dice, fun x H3 s3 row => ?_⟩
        obtain ⟨t, v, b1, b2, rfl, et, dv, ei, pr⟩ := row.ex
        refine ⟨t, _, rfl, .inl (.inl et), rfl, v, _, rfl, .bl b1, _, rfl, .bl b2, _, rfl, rfl, ?_⟩
        obtain ⟨sh1, sh2, sh3, sh4⟩ := shown2 b1 b2
        refine ⟨v, rfl, v, rfl, dv, v, rfl, v, b2, rfl, pr, fun H4 s4 => ⟨sl 2 (by decide), fun p np => ?_⟩⟩
        rw [ei]
        refine ⟨p, .list [.bool b1, .bool b2], rfl, .lst (.inl (.inl upd_same)) (.cons (.bl _) (.cons (.bl _) .nil)), sh1, sh2, sh3, sh4, ?_⟩
        refine ⟨.bl b1, rfl, .bl b2, rfl, sl 2 (by decide), fun p2 np2 => ⟨p2, .list [.bool b1, .bool b2], rfl, .lst (.inl (.inl upd_same)) (.cons (.bl _) (.cons (.bl _) .nil)), sh1, sh2, sh3, sh4, ?_⟩⟩
        refine ⟨rfl, _, rfl, iteNS rfl ?_⟩
        exact ⟨_, _, _, _, rfl, ((((sd.trans s3).then_same s4).then_same (same_upd np)).then_same (same_upd np2))⟩
      · obtain ⟨y3, y4, y5, y6, rfl, sd⟩ := hP
        refine ⟨_, _, y3, y4, y5, y6, rfl, sm.trans fun b o e => ?_⟩
        exact sd.keep b o (ne_of_none e nD) (sm0 b o e)
    · obtain ⟨y1, y2, y3, y4, y5, y6, rfl, sm⟩ := hP
      refine ⟨10, 60, rfl, rfl, ⟨by decide, by decide, by decide⟩, _, 1, rfl, rfl, _, rfl, .int _, 10, 60, rfl, rfl, ⟨by decide, by decide, by decide⟩, _, rfl, .int _, 10, 60, rfl, rfl, ⟨by decide, by decide, by decide⟩, _, rfl, _, rfl, .int _, _, rfl, .bl _, sl 4 (by decide), fun p np => ?_⟩
      refine ⟨sl 1 (by decide), fun p2 np2 => ⟨sl 1 (by decide), fun p3 np3 => ⟨p3, 3, _, rfl, rfl, upd_same, by decide, by decide, sl 3 (by decide), fun p4 np4 => ?_⟩⟩⟩
      have e2 := ((same_upd (o := .lst [.bl false]) np3).trans (same_upd (o := .lst (List.replicate (3 : Int).toNat [.bl false]).flatten) np4)) _ _ (upd_same (a := p2) (o := .lst [.bl true]))
      refine ⟨p2, p4, _, _, rfl, rfl, e2, upd_same, sl 4 (by decide), fun p5 np5 => ?_⟩
      refine ⟨.list [.bool true, .bool false, .bool false, .bool false], .list [.bool true, .bool false, .bool false, .bool false], ?_, ?_, by decide, by decide, false, rfl, iteF ?_⟩
      · have ep : (upd (upd (upd (upd H' p (.lst [.bl (intB (.int (10 ^ (60 : Int).toNat - 1))), .bl (intB (.int (10 ^ (60 : Int).toNat))), .bl (intB (.int (-(10 ^ (60 : Int).toNat)))), .bl (intB (.bl true))])) p2 (.lst [.bl true])) p3 (.lst [.bl false])) p4 (.lst (List.replicate (3 : Int).toNat [.bl false]).flatten)) p = _ :=
          ((same_upd (o := .lst [.bl true]) np2).trans ((same_upd (o := .lst [.bl false]) np3).trans (same_upd (o := .lst (List.replicate (3 : Int).toNat [.bl false]).flatten) np4))) _ _ upd_same
        rw [is4.1, is4.2.1, is4.2.2] at ep
        refine .lst (.inl (.inl ((same_upd np5) _ _ ep))) (.cons (.bl _) (.cons (.bl _) (.cons (.bl _) (.cons (.bl _) .nil))))
      · exact .lst (.inl (.inl upd_same)) (.cons (.bl _) (.cons (.bl _) (.cons (.bl _) (.cons (.bl _) .nil))))
      · refine ⟨sl 2 (by decide), fun t1 n1 => ⟨.ref t1, true, rfl, .two upd_same (.str (by decide +kernel)) (.str (by decide +kernel)) is_ab, fun K1 s1 => ⟨sl 2 (by decide), fun t2 n2 => ⟨.ref t2, false, rfl, .two upd_same (.str (by decide +kernel)) (.str (by decide +kernel)) is_ba, fun K2 s2 =>
          ⟨sl 2 (by decide), fun t3 n3 => ⟨.ref t3, false, rfl, .two upd_same (.str (by decide +kernel)) (.str (by decide +kernel)) is_aa, fun K3 s3 => ⟨sl 3 (by decide), fun r1 nr1 => ⟨sl 3 (by decide), fun r2 nr2 => ?_⟩⟩⟩⟩⟩⟩⟩⟩
        refine ⟨.list [.bool true, .bool false, .bool false], .list [.bool true, .bool false, .bool false], .lst (.inl (.inl ((same_upd nr2) _ _ upd_same))) (.cons (.bl _) (.cons (.bl _) (.cons (.bl _) .nil))), .lst (.inl (.inl upd_same)) (.cons (.bl _) (.cons (.bl _) (.cons (.bl _) .nil))), by decide, by decide, ?_⟩
        exact q _
end
/-! ### what the top has written -/
theorem all_mk {l : PySem.W.OpenLaw} {w : World} {K : PySem.W.Frag} {h : Heap} {mg : Str → Option Value} {fa f0 f1 f2 f3 f4 f5 f6 f7 f8 : Addr} (X : K.In h) (G : h.Ns mainGlobals mg) (hfa : mg "law" = some (.ref fa))
    {t1 t2 : Tok} {od0 an0 od1 an1 od2 an2 od3 an3 od4 an4 od5 an5 od6 an6 od7 an7 od8 an8 : Option Addr} {sl0 sl1 sl2 sl3 sl4 sl5 sl6 sl7 sl8 : Array (Option Value)} {oc0 kV0 dc0 pm0 cd0 ct0 oc1 kV1 dc1 pm1 cd1 ct1 oc2 kV2 dc2 pm2 cd2 ct2 oc3 kV3 dc3 pm3 cd3 ct3 oc4 kV4 dc4 pm4 cd4 ct4 oc5 kV5 dc5 pm5 cd5 ct5 oc6 kV6 dc6 pm6 cd6 ct6 oc7 kV7 dc7 pm7 cd7 ct7 oc8 kV8 dc8 pm8 cd8 ct8 : Value}
    (a0 : PySem.W.nsIn K mainGlobals "is_word" = some (some (.ref f0))) (l0 : K.lookup f0 = some ⟨oc0, od0, .func (PySem.W.fnOf "is_word" "is_word" (defArgs sIsWord) (defBody sIsWord) (defScope sIsWord) .none kV0 dc0 pm0 an0 cd0 ct0), sl0⟩) (c0 : PySem.W.codeIn K cd0 "is_word" = true) (k0 : PySem.W.keepIn K (.ref f0) = true)
    (a1 : PySem.W.nsIn K mainGlobals "is_integer" = some (some (.ref f1))) (l1 : K.lookup f1 = some ⟨oc1, od1, .func (PySem.W.fnOf "is_integer" "is_integer" (defArgs sIsInt) (defBody sIsInt) (defScope sIsInt) .none kV1 dc1 pm1 an1 cd1 ct1), sl1⟩) (c1 : PySem.W.codeIn K cd1 "is_integer" = true) (k1 : PySem.W.keepIn K (.ref f1) = true)
    (a2 : PySem.W.nsIn K mainGlobals "is_pair" = some (some (.ref f2))) (l2 : K.lookup f2 = some ⟨oc2, od2, .func (PySem.W.fnOf "is_pair" "is_pair" (defArgs sIsPair) (defBody sIsPair) (defScope sIsPair) .none kV2 dc2 pm2 an2 cd2 ct2), sl2⟩) (c2 : PySem.W.codeIn K cd2 "is_pair" = true) (k2 : PySem.W.keepIn K (.ref f2) = true)
    (a3 : PySem.W.nsIn K mainGlobals "_law_dice" = some (some (.ref f3))) (l3 : K.lookup f3 = some ⟨oc3, od3, .func (PySem.W.fnOf "_law_dice" "_law_dice" (defArgs sDice) (defBody sDice) (defScope sDice) .none kV3 dc3 pm3 an3 cd3 ct3), sl3⟩) (c3 : PySem.W.codeIn K cd3 "_law_dice" = true) (k3 : PySem.W.keepIn K (.ref f3) = true)
    (a4 : PySem.W.nsIn K mainGlobals "_law_roll" = some (some (.ref f4))) (l4 : K.lookup f4 = some ⟨oc4, od4, .func (PySem.W.fnOf "_law_roll" "_law_roll" (defArgs sRoll) (defBody sRoll) (defScope sRoll) .none kV4 dc4 pm4 an4 cd4 ct4), sl4⟩) (c4 : PySem.W.codeIn K cd4 "_law_roll" = true) (k4 : PySem.W.keepIn K (.ref f4) = true)
    (a5 : PySem.W.nsIn K mainGlobals "_law_pick" = some (some (.ref f5))) (l5 : K.lookup f5 = some ⟨oc5, od5, .func (PySem.W.fnOf "_law_pick" "_law_pick" (defArgs sPick) (defBody sPick) (defScope sPick) .none kV5 dc5 pm5 an5 cd5 ct5), sl5⟩) (c5 : PySem.W.codeIn K cd5 "_law_pick" = true) (k5 : PySem.W.keepIn K (.ref f5) = true)
    (a6 : PySem.W.nsIn K mainGlobals "_law_some" = some (some (.ref f6))) (l6 : K.lookup f6 = some ⟨oc6, od6, .func (PySem.W.fnOf "_law_some" "_law_some" (defArgs sSome) (defBody sSome) (defScope sSome) .none kV6 dc6 pm6 an6 cd6 ct6), sl6⟩) (c6 : PySem.W.codeIn K cd6 "_law_some" = true) (k6 : PySem.W.keepIn K (.ref f6) = true)
    (a7 : PySem.W.nsIn K mainGlobals "_law_row" = some (some (.ref f7))) (l7 : K.lookup f7 = some ⟨oc7, od7, .func (PySem.W.fnOf "_law_row" "_law_row" (defArgs sRow) (defBody sRow) (defScope sRow) .none kV7 dc7 pm7 an7 cd7 ct7), sl7⟩) (c7 : PySem.W.codeIn K cd7 "_law_row" = true) (k7 : PySem.W.keepIn K (.ref f7) = true)
    (a8 : PySem.W.nsIn K mainGlobals "law" = some (some (.ref f8))) (l8 : K.lookup f8 = some ⟨oc8, od8, .func (PySem.W.fnOf "law" "law" (defArgs sLaw) (defBody sLaw) (defScope sLaw) .none kV8 dc8 pm8 an8 cd8 ct8), sl8⟩) (c8 : PySem.W.codeIn K cd8 "law" = true) (k8 : PySem.W.keepIn K (.ref f8) = true)
    (z0 : PySem.W.nsIn K mainGlobals "len" = some none) (z1 : PySem.W.nsIn K mainGlobals "int" = some none) (z2 : PySem.W.nsIn K mainGlobals "abs" = some none) (z3 : PySem.W.nsIn K mainGlobals "max" = some none) (z4 : PySem.W.nsIn K mainGlobals "min" = some none) (z5 : PySem.W.nsIn K mainGlobals "list" = some none) (z6 : PySem.W.nsIn K mainGlobals "range" = some none) (z7 : PySem.W.nsIn K mainGlobals "isinstance" = some none) (z8 : PySem.W.nsIn K mainGlobals "str" = some none) (z9 : PySem.W.nsIn K mainGlobals "all" = some none) (z10 : PySem.W.nsIn K mainGlobals "repr" = some none) (z11 : PySem.W.nsIn K mainGlobals "bool" = some none) (z12 : PySem.W.nsIn K mainGlobals "tuple" = some none)
    (v0 : PySem.W.nsIn K mainGlobals "MAX_LETTERS" = some (some (.int 8 t1)))
    (v1 : PySem.W.nsIn K mainGlobals "_LETTERS" = some (some (.str letters t2)))
    : ∃ fd : FuncData, (∀ (s : Shared) (v : Value), BindsTo s fd ⟨[v], []⟩ [("script", v)]) ∧ ∀ base : Heap, K.In base → base.Ns mainGlobals mg → FnG l.prog w K mg base CX0 4 fa fd ["script"] (spLaw K) := by
  have e := hfa.symm.trans (PySem.W.mg_of X G a8)
  cases e
  have F0 := fun_mk (st := sIsWord) l0 c0 k0
  have F1 := fun_mk (st := sIsInt) l1 c1 k1
  have F2 := fun_mk (st := sIsPair) l2 c2 k2
  have F3 := fun_mk (st := sDice) l3 c3 k3
  have F4 := fun_mk (st := sRoll) l4 c4 k4
  have F5 := fun_mk (st := sPick) l5 c5 k5
  have F6 := fun_mk (st := sSome) l6 c6 k6
  have F7 := fun_mk (st := sRow) l7 c7 k7
  have F8 := fun_mk (st := sLaw) l8 c8 k8
  have b0 := F0.binds (ps := ["value"]) fun _ _ _ _ _ _ us hl => match us, hl with | [_], _ => rfl
  have b1 := F1.binds (ps := ["value"]) fun _ _ _ _ _ _ us hl => match us, hl with | [_], _ => rfl
  have b2 := F2.binds (ps := ["value"]) fun _ _ _ _ _ _ us hl => match us, hl with | [_], _ => rfl
  have b3 := F3.binds (ps := ["script", "spot"]) fun _ _ _ _ _ _ us hl => match us, hl with | [_, _], _ => rfl
  have b4 := F4.binds (ps := ["dice", "total"]) fun _ _ _ _ _ _ us hl => match us, hl with | [_, _], _ => rfl
  have b5 := F5.binds (ps := ["dice", "items"]) fun _ _ _ _ _ _ us hl => match us, hl with | [_, _], _ => rfl
  have b6 := F6.binds (ps := ["dice", "items", "size"]) fun _ _ _ _ _ _ us hl => match us, hl with | [_, _, _], _ => rfl
  have b7 := F7.binds (ps := ["dice"]) fun _ _ _ _ _ _ us hl => match us, hl with | [_], _ => rfl
  have m0 := PySem.W.mg_of X G a0
  have m1 := PySem.W.mg_of X G a1
  have m2 := PySem.W.mg_of X G a2
  have m3 := PySem.W.mg_of X G a3
  have m4 := PySem.W.mg_of X G a4
  have m5 := PySem.W.mg_of X G a5
  have m6 := PySem.W.mg_of X G a6
  have m7 := PySem.W.mg_of X G a7
  have n_len := PySem.W.mg_none_of X G z0
  have n_int := PySem.W.mg_none_of X G z1
  have n_abs := PySem.W.mg_none_of X G z2
  have n_max := PySem.W.mg_none_of X G z3
  have n_min := PySem.W.mg_none_of X G z4
  have n_list := PySem.W.mg_none_of X G z5
  have n_range := PySem.W.mg_none_of X G z6
  have n_isinstance := PySem.W.mg_none_of X G z7
  have n_str := PySem.W.mg_none_of X G z8
  have n_all := PySem.W.mg_none_of X G z9
  have n_repr := PySem.W.mg_none_of X G z10
  have n_bool := PySem.W.mg_none_of X G z11
  have n_tuple := PySem.W.mg_none_of X G z12
  have gM := PySem.W.mg_of X G v0
  have gL := PySem.W.mg_of X G v1
  refine ⟨PySem.W.fnOf "law" "law" (defArgs sLaw) (defBody sLaw) (defScope sLaw) .none kV8 dc8 pm8 an8 cd8 ct8, fun s v => .of_eq rfl, fun base _ _ => ?_⟩
  have GW : ∀ k, FnOk l.prog w K mg base CX0 (k + 1) f0 _ ["value"] (spWord K) := fun k => ok_word F0 n_len n_isinstance n_str n_all gM gL
  have GI : ∀ k, FnOk l.prog w K mg base CX0 (k + 1) f1 _ ["value"] spInt := fun k => ok_int F1 n_isinstance n_int n_bool n_abs
  have GQ : ∀ k, FnOk l.prog w K mg base CX0 (k + 2) f2 _ ["value"] spPair := fun k => ok_pair F2 (GW k) F0.kp b0 m0 n_len n_isinstance n_tuple
  have GD : ∀ k, FnOk l.prog w K mg base CX0 (k + 1) f3 _ ["script", "spot"] (spDice K) := fun k => ok_dice F3 n_len n_int n_abs n_max
  have GR : ∀ k, FnOk l.prog w K mg base CX0 (k + 1) f4 _ ["dice", "total"] spRoll := fun k => ok_roll F4 n_int
  have GP : ∀ k, FnOk l.prog w K mg base CX0 (k + 2) f5 _ ["dice", "items"] spPick := fun k => ok_pick (k := k + 1) F5 (GR k) F4.kp b4 m4 n_len
  have GS : ∀ k, FnOk l.prog w K mg base CX0 (k + 2) f6 _ ["dice", "items", "size"] (spSome K) := fun k => ok_some (k := k + 1) F6 (GR k) F4.kp b4 m4 n_len n_list n_range n_min
  have GV : FnOk l.prog w K mg base CX0 3 f7 _ ["dice"] spRow := ok_row (k := 1) F7 (GR 1) F4.kp b4 m4 (GP 0) F5.kp b5 m5 (GS 0) F6.kp b6 m6
  exact ok_law (k := 1) F8 (GD 2) F3.kp b3 m3 GV F7.kp b7 m7 (GI 2) F1.kp b1 m1 (GQ 1) F2.kp b2 m2 n_len n_range n_min n_max n_repr
end KP
open PySem PySem.W PyProof.Rows
set_option maxHeartbeats 0 in
theorem PySem.Challenge.cw_keptways_k02_pairs_and_integers_judged_holds : PySem.Challenge.rw_keptways_k02_pairs_and_integers_judged.Holds := by
  w_on; o_law; k_head; (case hw => w_witness2)
  k_fill
  refine KP.walk_ofG (l := PySem.Challenge.rw_keptways_k02_pairs_and_integers_judged) (n := 63) (k := 4) (x := "script") (sp := fun w => KP.spLaw _) rfl (by decide) rfl ⟨rfl, by decide, by decide⟩ (fun w h Y => PySem.W.kIn_of Y) ?F (fun _ _ a ns hl _ hS => ⟨a, ns, rfl, hS, hl, fun _ => rfl⟩)
  case F =>
    intro w mg fa h KX G hmg
    refine' KP.all_mk KX G hmg ?a0 ?l0 ?c0 ?k0 ?a1 ?l1 ?c1 ?k1 ?a2 ?l2 ?c2 ?k2 ?a3 ?l3 ?c3 ?k3 ?a4 ?l4 ?c4 ?k4 ?a5 ?l5 ?c5 ?k5 ?a6 ?l6 ?c6 ?k6 ?a7 ?l7 ?c7 ?k7 ?a8 ?l8 ?c8 ?k8 ?z0 ?z1 ?z2 ?z3 ?z4 ?z5 ?z6 ?z7 ?z8 ?z9 ?z10 ?z11 ?z12 ?v0 ?v1
    (case a0 => k_is); (case l0 => k_is); (case c0 => k_is); (case k0 => k_is); (case a1 => k_is); (case l1 => k_is); (case c1 => k_is); (case k1 => k_is); (case a2 => k_is); (case l2 => k_is); (case c2 => k_is); (case k2 => k_is); (case a3 => k_is); (case l3 => k_is); (case c3 => k_is); (case k3 => k_is); (case a4 => k_is); (case l4 => k_is); (case c4 => k_is); (case k4 => k_is); (case a5 => k_is); (case l5 => k_is); (case c5 => k_is); (case k5 => k_is); (case a6 => k_is); (case l6 => k_is); (case c6 => k_is); (case k6 => k_is); (case a7 => k_is); (case l7 => k_is); (case c7 => k_is); (case k7 => k_is); (case a8 => k_is); (case l8 => k_is); (case c8 => k_is); (case k8 => k_is); (case z0 => k_is); (case z1 => k_is); (case z2 => k_is); (case z3 => k_is); (case z4 => k_is); (case z5 => k_is); (case z6 => k_is); (case z7 => k_is); (case z8 => k_is); (case z9 => k_is); (case z10 => k_is); (case z11 => k_is); (case z12 => k_is); (case v0 => k_is); (case v1 => k_is)
