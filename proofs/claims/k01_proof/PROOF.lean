import PyProof.Rows.All
import Wide.All
import OpenK.AllK
import Wide.FinOn
import HandS.ForMost
import HandS.IsInst
import HandS.Wide
import HandS.Codes
import PySem.Challenge.RW_keptways_k01_words_judged
set_option Elab.async false
set_option linter.all false
set_option maxRecDepth 100000
namespace KP
open PySem PySem.Spec PyProof.Rows L2
def topS (i : Nat) : Stmt := PySem.Challenge.pw_keptways_k01_words_judged.main.body.getD i (.Pass ⟨0, 0, 0, 0⟩)
abbrev sIsWord : Stmt := topS 3
abbrev sDice : Stmt := topS 5
abbrev sRoll : Stmt := topS 6
abbrev sPick : Stmt := topS 7
abbrev sSome : Stmt := topS 8
abbrev sIsWordL : Stmt := topS 9
abbrev sDrawn : Stmt := topS 10
abbrev sLaw : Stmt := topS 11
theorem scDice : FnScope ["script", "spot", "cell", "great", "blend"] ["script", "spot"] (defScope sDice) := ⟨rfl, rfl, rfl, by decide +kernel, rfl, by decide +kernel, by decide +kernel⟩
theorem scRoll : FnScope ["dice", "total", "found", "one", "two"] ["dice", "total"] (defScope sRoll) := ⟨rfl, rfl, rfl, by decide +kernel, rfl, by decide +kernel, by decide +kernel⟩
theorem scPick : FnScope ["dice", "items"] ["dice", "items"] (defScope sPick) := ⟨rfl, rfl, rfl, by decide +kernel, rfl, by decide +kernel, by decide +kernel⟩
theorem scSome : FnScope ["dice", "items", "size", "left", "turn"] ["dice", "items", "size"] (defScope sSome) := ⟨rfl, rfl, rfl, by decide +kernel, rfl, by decide +kernel, by decide +kernel⟩
/-! ### heaps -/
theorem same_upd {H : Hp} {p : Addr} {o : HO} (h : H p = none) : Same H (upd H p o) := fun b x e => by
  rw [upd_ne (ne_of_none e h)]
  exact e
/-- the dice at d are three whole numbers -/
def DiceAt (H : Hp) (d : Addr) : Prop := ∃ x y z : Int, H d = some (.lst [.int x, .int y, .int z])
/-- all that was tracked stands, but for the dice at d, which are dice still -/
structure Sd (d : Addr) (H H' : Hp) : Prop where
  keep : ∀ b o, b ≠ d → H b = some o → H' b = some o
  dice : DiceAt H' d
theorem Sd.trans {d : Addr} {H H1 H2 : Hp} (a : Sd d H H1) (b : Sd d H1 H2) : Sd d H H2 := ⟨fun c o hc h => b.keep c o hc (a.keep c o hc h), b.dice⟩
theorem Sd.of_same {d : Addr} {H H1 : Hp} (a : Same H H1) (h : DiceAt H d) : Sd d H H1 := ⟨fun c o _ h => a c o h, by
  obtain ⟨x, y, z, h⟩ := h
  exact ⟨x, y, z, a _ _ h⟩⟩
theorem Sd.then_same {d : Addr} {H H1 H2 : Hp} (a : Sd d H H1) (b : Same H1 H2) : Sd d H H2 := a.trans (.of_same b a.dice)
theorem Sd.refl {d : Addr} {H : Hp} (h : DiceAt H d) : Sd d H H := .of_same (Same.refl H) h
theorem Sd.free {d : Addr} {H H' : Hp} (e : Sd d H H') {l : Addr} (h : H' l = none) : H l = none := by
  cases q : H l with
  | none => rfl
  | some o =>
    by_cases hl : l = d
    · subst hl
      obtain ⟨x, y, z, e⟩ := e.dice
      rw [e] at h
      cases h
    · rw [e.keep l o hl q] at h
      cases h
theorem DiceAt.ne {H : Hp} {d p : Addr} (h : DiceAt H d) (n : H p = none) : d ≠ p := by
  obtain ⟨x, y, z, h⟩ := h
  exact ne_of_none h n
theorem sd_put {d : Addr} {H : Hp} (x y z : Int) : Sd d H (upd H d (.lst [.int x, .int y, .int z])) := ⟨fun b o hb h => by
  rw [upd_ne hb]
  exact h, ⟨x, y, z, upd_same⟩⟩
theorem sd_new {d p : Addr} {H : Hp} {o : HO} (h : DiceAt H d) (n : H p = none) : Sd d H (upd H p o) := .of_same (same_upd n) h
section
variable {X : Cx}
/-! ### rules that the layer has not -/
theorem op_powB : OpR X (binaryOp .Pow) (rI (fun i j => 0 ≤ j ∧ (Builtin.Int.intBits i : Int) * j ≤ 2 ^ 27) fun i j => .int (i ^ j.toNat)) := opI fun _ _ _ _ _ _ _ hc q => pow_int hc.1 hc.2 q
/-- the same rules with the written part named, as a comprehension's block wants them -/
theorem call_len_seqK {K : PySem.W.Frag} (hK : X.K = K) : CallR X (.builtin "len") (fun xs H Q => ∃ p ys, xs = [.ref p] ∧ (SqL K H p ys ∨ SqT K H p ys) ∧ Q (.int ys.length) H) := by
  subst hK
  exact call_len_seq
theorem ix_listK {K : PySem.W.Frag} (hK : X.K = K) : IxR X (rIxL K) := by
  subst hK
  exact ix_list
theorem pe_bmK {K : PySem.W.Frag} {T name id : String} {r : V → List V → Hp → VK → Prop} {o e : Expr} {es : List Expr} {to : TE} {t : TA} {apos cpos : Pos} (hK : X.K = K) (pa : PlainAttrs T) (slot : Slot T name id) (hty : typeOf (.builtin id) = pure (.type "method_descriptor")) (hm : MtR X id r) (ho : PE X o to) (ha : PA X (e :: es) t)
    (hbase : attributeBase o name X.env (eval o X.env) = eval o X.env := by rfl)
    (hfew : ((backTo cpos (starEach (e :: es) X.env)).all (fun x => !x.1) && (backToKw cpos (keywordEach [] X.env)).all (fun x => x.1.isSome)
      && decide ((e :: es).length + ([] : List Keyword).length + (if ([] : List Keyword).isEmpty then 0 else 1) < 30)) = true := by rfl)
    (hline : (apos.endLine == cpos.line) = true := by rfl) (hs : starEach (e :: es) X.env = (false, eval e X.env) :: starEach es X.env := by rfl) (hplain : (backTo cpos (starEach es X.env)).any (·.1) = false := by rfl) :
    PE X (.Call (.Attribute o name apos) (e :: es) [] cpos) (tBM K T r to t) := by
  subst hK
  exact pe_bm pa slot hty hm ho ha hbase hfew hline hs hplain
theorem call_repr_bl : CallR X (.builtin "repr") (fun xs H Q => ∃ b, xs = [.bl b] ∧ Q (.str (if b then "True" else "False")) H) := by
  intro pins s σ H xs us Q I r h
  obtain ⟨b, rfl, q⟩ := h
  obtain ⟨u, rfl, rx⟩ := vals1 r
  cases (show u = Value.bool b from rx)
  exact PySem.P.repr_of_bool ⟨.str _, H, I.tok _, ⟨_, rfl⟩, q⟩
end
section
variable {P : Program} {w : World} {K : PySem.W.Frag} {mg : Str → Option Value} {base : Heap}
/-! ### dice -/
def spDice (K : PySem.W.Frag) : Sp := fun vs H Q _ => ∃ (a : Addr) (ns : List Int) (k : Int), vs = [.ref a, .int k] ∧ SqL K H a (ns.map V.int) ∧ ns.length ≤ 63 ∧ 0 ≤ k ∧
  ∀ D x y z, H D = none → Q (.ref D) (upd H D (.lst [.int x, .int y, .int z]))
theorem hP : (0 : Int) < 2305843009213693661 := by decide
theorem big_ok : (Builtin.Int.intBits ((10 : Int) ^ (60 : Int).toNat) : Int) * 10 ≤ 2 ^ 27 := by decide +kernel
theorem big_ne : ((10 : Int) ^ (60 : Int).toNat) ^ (10 : Int).toNat ≠ 0 := by decide +kernel
theorem ok_dice {f : Addr} {fd : FuncData} {k : Nat} (F : Fun K "_law_dice" "_law_dice" sDice f fd) (ml : mg "len" = none) (mi : mg "int" = none) (ma : mg "abs" = none) (mm : mg "max" = none) :
    FnOk P w K mg base CX0 (k + 1) f fd ["script", "spot"] (spDice K) := by
  refine F.ok scDice (fun vs H Q E h => ?_) (fun cdv A outer s H vs Q E hr h => ?_)
  · obtain ⟨a, ns, k, rfl, _⟩ := h
    rfl
  · obtain ⟨a, ns, k, rfl, hS, hlen, hk, q⟩ := h
    refine ⟨_, pss_cons (ps_set (i := 2) scDice.nd rfl (.inl rfl) (pe_op op_add (pe_op op_mul pe_int (pv 1)) pe_int))
      (C8.pss_cut (ps_if (pt_cmpR op_lt (pv 1) (pe_callB call_len_seq (by rfl) ml PySem.boot_len (pa_cons (pv 0) pa_nil)) (nomark _))
        (pss_one (ps_set (i := 2) scDice.nd rfl (.inl rfl) (pe_ix ix_list (pv 0) (pv 1) (fun _ _ => rfl)))) pss_nil)
      (pss_cons (ps_set (i := 3) scDice.nd rfl (.inl rfl) (pe_op op_modN (pe_callTy call_int1 (by rfl) mi (by decide +kernel) (pa_cons (pe_callB call_abs (by rfl) ma (by decide +kernel) (pa_cons (pv 2) pa_nil)) pa_nil))
          (pe_op op_powB (pe_op op_pow pe_int pe_int) pe_int)))
      (pss_cons (ps_set (i := 4) scDice.nd rfl (.inl rfl) (pe_op op_add (pe_op op_add (pe_op op_add
          (pe_op op_mul (pe_op op_mod (pe_callTy call_int1 (by rfl) mi (by decide +kernel) (pa_cons (pv 3) pa_nil)) pe_int) pe_int)
          (pe_op op_mul pe_int (pv 1))) (pe_op op_mul pe_int (pe_callTy call_int1 (by rfl) mi (by decide +kernel) (pa_cons (pe_cmpR op_lt (pv 2) pe_int (nomark _)) pa_nil)))) pe_int))
      (pss_one (ps_ret (pe_lst (pa_cons (pe_callB (call_max2 rfl) (by rfl) mm (by decide +kernel) (pa_cons pe_int (pa_cons (pe_op op_sub (pv 3) (pe_op op_pow pe_int pe_int)) pa_nil)))
          (pa_cons (pe_op op_mod (pe_callTy call_int1 (by rfl) mi (by decide +kernel) (pa_cons (pv 4) pa_nil)) pe_int) (pa_cons pe_int pa_nil)))))))))
      , ?_⟩
    refine ⟨.int k, rfl, 67, k, rfl, rfl, .inl (by decide), _, 23, rfl, rfl, ?_⟩
    refine ⟨fun σ' H' => ∃ c : Int, σ' = [some (.ref a), some (.int k), some (.int c), none, none] ∧ H' = H, ?_, ?_⟩
    · refine ⟨.int k, rfl, .ref a, rfl, a, ns.map V.int, rfl, .inl hS, _, _, rfl, rfl, _, rfl, ite2 (fun e => ?_) (fun e => ?_)⟩
      · have hk2 : k < ((ns.map V.int).length : Int) := of_decide_eq_true e
        obtain ⟨j, rfl⟩ : ∃ j : Nat, k = (j : Int) := ⟨k.toNat, by omega⟩
        have hj : j < ns.length := by
          rw [List.length_map] at hk2
          omega
        have hg : (ns.map V.int)[j]? = some (.int ns[j]) := by
          rw [List.getElem?_map, List.getElem?_eq_getElem hj]
          rfl
        exact ⟨.ref a, rfl, .int (j : Int), rfl, a, _, (j : Int), .int ns[j], rfl, rfl, hS, atI_nat hg, ns[j], rfl, rfl⟩
      · exact ⟨_, rfl, rfl⟩
    · rintro σ' H' ⟨c, rfl, rfl⟩
      refine ⟨.int c, rfl, c, rfl, .inl ⟨_, rfl, 10, 60, rfl, rfl, ⟨by decide, by decide, by decide⟩, _, 10, rfl, rfl, ⟨by decide, big_ok⟩, _, _, rfl, rfl, big_ne, ?_⟩⟩
      dsimp only
      generalize Int.fmod _ _ = g
      refine ⟨.int g, rfl, .inl ⟨g, rfl, g, 2305843009213693661, rfl, rfl, hP, _, 1000409, rfl, rfl, .inl ⟨by omega, by omega⟩, ?_⟩⟩
      refine ⟨.int k, rfl, 8081, k, rfl, rfl, .inl (by decide), _, _, rfl, rfl, ?_⟩
      refine ⟨.int c, rfl, _, _, rfl, rfl, .inr ⟨_, rfl, 53, _, rfl, rfl, .inl (by decide), _, _, rfl, rfl, _, 29, rfl, rfl, ?_⟩⟩
      dsimp only
      generalize ((g % 2305843009213693661 * 1000409 + 8081 * k + 53 * _ + 29 : Int)) = b
      refine ⟨.int g, rfl, 10, 18, rfl, rfl, ⟨by decide, by decide, by decide⟩, g, _, rfl, rfl, 0, _, rfl, ?_⟩
      refine ⟨.int b, rfl, .inl ⟨b, rfl, b, _, rfl, rfl, hP, ?_⟩⟩
      exact ⟨by show 3 ≤ sizeLine; decide, fun D hD => q D _ _ _ hD⟩
/-- one roll: a number below total; the dice are dice still, all else is as it was -/
def spRoll : Sp := fun vs H Q _ => ∃ (d : Addr) (n : Int), vs = [.ref d, .int n] ∧ DiceAt H d ∧ 0 < n ∧ n < 1073741824 ∧
  ∀ (r : Int) x y z, 0 ≤ r → r < n → Q (.int r) (upd H d (.lst [.int x, .int y, .int z]))
theorem ok_roll {f : Addr} {fd : FuncData} {k : Nat} (F : Fun K "_law_roll" "_law_roll" sRoll f fd) (mi : mg "int" = none) :
    FnOk P w K mg base CX0 (k + 1) f fd ["dice", "total"] spRoll := by
  refine F.ok scRoll (fun vs H Q E h => ?_) (fun cdv A outer s H vs Q E hr h => ?_)
  · obtain ⟨d, n, rfl, _⟩ := h
    rfl
  · obtain ⟨d, n, rfl, ⟨x, y, z, hd⟩, h0, hn, q⟩ := h
    refine ⟨_, pss_cons (ps_if (pt_cmpR op_gt (pe_ix ix_list (pv 0) pe_int (fun _ _ => rfl)) pe_int (nomark _))
        (pss_cons (ps_set (i := 2) scRoll.nd rfl (.inl rfl) (pe_op op_modN (pe_callTy call_int1 (by rfl) mi (by decide +kernel) (pa_cons (pe_ix ix_list (pv 0) pe_int (fun _ _ => rfl)) pa_nil)) (pv 1)))
        (pss_cons (ps_asg (pe_op op_fdivN (pe_ix ix_list (pv 0) pe_int (fun _ _ => rfl)) (pv 1)) (pg_sub (pv 0) pe_int set_list))
        (pss_one (ps_ret (pv 2))))) pss_nil)
      (pss_cons (ps_asg (pe_op op_add (pe_ix ix_list (pv 0) pe_int (fun _ _ => rfl)) pe_int) (pg_sub (pv 0) pe_int set_list))
      (pss_cons (ps_set (i := 3) scRoll.nd rfl (.inl rfl) (pe_op op_mod (pe_callTy call_int1 (by rfl) mi (by decide +kernel) (pa_cons (pe_op op_add (pe_ix ix_list (pv 0) pe_int (fun _ _ => rfl)) (pe_op op_mul pe_int (pe_ix ix_list (pv 0) pe_int (fun _ _ => rfl)))) pa_nil)) pe_int))
      (pss_cons (ps_set (i := 4) scRoll.nd rfl (.inl rfl) (pe_op op_add (pe_op op_mul (pe_op op_mod (pe_callTy call_int1 (by rfl) mi (by decide +kernel) (pa_cons (pe_op op_mul (pv 3) (pv 3)) pa_nil)) pe_int) (pv 3)) (pe_op op_mul pe_int (pe_ix ix_list (pv 0) pe_int (fun _ _ => rfl)))))
      (pss_cons (ps_set (i := 4) scRoll.nd rfl (.inl rfl) (pe_op op_mod (pe_callTy call_int1 (by rfl) mi (by decide +kernel) (pa_cons (pv 4) pa_nil)) pe_int))
      (pss_one (ps_ret (pe_op op_modN (pe_callTy call_int1 (by rfl) mi (by decide +kernel) (pa_cons (pe_op op_fdiv (pv 4) pe_int) pa_nil)) (pv 1)))))))), ?_⟩
    have hL : SqL K H d [.int x, .int y, .int z] := .inl (.inl hd)
    have hne : n ≠ 0 := by omega
    refine ⟨.ref d, rfl, d, _, 0, .int x, rfl, rfl, hL, rfl, x, 0, rfl, rfl, _, rfl, ite2 (fun e => ?_) (fun e => ?_)⟩
    · have hb : n ≠ 0 ∧ n.natAbs < 1073741824 := ⟨hne, by omega⟩
      refine ⟨.ref d, rfl, d, _, 0, .int x, rfl, rfl, hL, rfl, .inl ⟨x, rfl, .int n, rfl, x, n, rfl, rfl, hne, ?_⟩⟩
      refine ⟨.ref d, rfl, d, _, 0, .int x, rfl, rfl, hL, rfl, .int n, rfl, x, n, rfl, rfl, hb, ?_⟩
      refine ⟨.ref d, rfl, d, _, 0, 0, rfl, rfl, hd, rfl, _, rfl, ?_⟩
      exact q _ _ y z (Int.fmod_nonneg_of_pos _ h0) (Int.fmod_lt_of_pos _ h0)
    · refine ⟨.ref d, rfl, d, _, 2, .int z, rfl, rfl, hL, rfl, z, 1, rfl, rfl, ?_⟩
      refine ⟨.ref d, rfl, d, _, 2, 2, rfl, rfl, hd, rfl, ?_⟩
      have hL2 : SqL K (upd H d (.lst [.int x, .int y, .int (z + 1)])) d [.int x, .int y, .int (z + 1)] := .inl (.inl upd_same)
      refine ⟨.ref d, rfl, d, _, 1, .int y, rfl, rfl, hL2, rfl, .ref d, rfl, d, _, 2, .int (z + 1), rfl, rfl, hL2, rfl, 998244319, _, rfl, rfl, .inl (by decide), y, _, rfl, rfl, .inl ⟨_, rfl, _, _, rfl, rfl, (by show (0 : Int) < 2305843009213693951; decide), ?_⟩⟩
      dsimp only
      have a0 : 0 ≤ (y + 998244319 * (z + 1)) % 2305843009213693951 := Int.emod_nonneg _ (by decide)
      have a1 : (y + 998244319 * (z + 1)) % 2305843009213693951 < 2305843009213693951 := Int.emod_lt_of_pos _ (by decide)
      generalize (y + 998244319 * (z + 1)) % 2305843009213693951 = o at a0 a1 ⊢
      refine ⟨.int o, rfl, .int o, rfl, o, o, rfl, rfl, .inl ⟨by omega, by omega⟩, .inl ⟨_, rfl, _, _, rfl, rfl, (by show (0 : Int) < 2305843009213693907; decide), ?_⟩⟩
      refine ⟨.int o, rfl, _, o, rfl, rfl, .inl ⟨by omega, by omega⟩, .ref d, rfl, d, _, 2, .int (z + 1), rfl, rfl, hL2, rfl, 9421, _, rfl, rfl, .inl (by decide), _, _, rfl, rfl, ?_⟩
      dsimp only
      generalize (o * o % 2305843009213693907 * o + 9421 * (z + 1)) = t
      refine ⟨.int t, rfl, .inl ⟨t, rfl, t, _, rfl, rfl, hP, ?_⟩⟩
      dsimp only
      generalize t % 2305843009213693661 = t2
      refine ⟨.int t2, rfl, t2, 8192, rfl, rfl, ⟨by decide, by decide⟩, .inl ⟨_, rfl, .int n, rfl, _, n, rfl, rfl, hne, ?_⟩⟩
      exact q _ x y (z + 1) (Int.fmod_nonneg_of_pos _ h0) (Int.fmod_lt_of_pos _ h0)
/-- one of the items -/
def spPick : Sp := fun vs H Q _ => ∃ (d p : Addr) (xs : List V), vs = [.ref d, .ref p] ∧ DiceAt H d ∧ H p = some (.lst xs) ∧ p ≠ d ∧ 0 < xs.length ∧ xs.length < 1073741824 ∧
  ∀ v H', v ∈ xs → Sd d H H' → Q v H'
theorem ok_pick {f g : Addr} {fd gd : FuncData} {k : Nat} (F : Fun K "_law_pick" "_law_pick" sPick f fd) (G : FnOk P w K mg base CX0 k g gd ["dice", "total"] spRoll) (gk : PySem.W.keepIn K (.ref g) = true) (gb : Binds K gd ["dice", "total"] []) (mg1 : mg "_law_roll" = some (.ref g)) (ml : mg "len" = none) :
    FnOk P w K mg base CX0 (k + 1) f fd ["dice", "items"] spPick := by
  refine F.ok scPick (fun vs H Q E h => ?_) (fun cdv A outer s H vs Q E hr h => ?_)
  · obtain ⟨d, p, xs, rfl, _⟩ := h
    rfl
  · obtain ⟨d, p, xs, rfl, hd, hp, hne, h0, h1, q⟩ := h
    refine ⟨_, pss_one (ps_ret (pe_ix ix_list (pv 1) (pe_call G hr (by rfl) mg1 gk gb .nil pass0 (pa_cons (pv 0) (pa_cons (pe_callB call_len_seq (by rfl) ml PySem.boot_len (pa_cons (pv 1) pa_nil)) pa_nil))) (fun _ _ => rfl))), ?_⟩
    refine ⟨.ref p, rfl, .ref d, rfl, .ref p, rfl, p, xs, rfl, .inl (.inl (.inl hp)), d, _, rfl, hd, by omega, by omega, fun r x y z r0 r1 => ?_⟩
    obtain ⟨j, rfl⟩ : ∃ j : Nat, r = (j : Int) := ⟨r.toNat, by omega⟩
    have hj : j < xs.length := by omega
    refine ⟨p, xs, (j : Int), xs[j], rfl, rfl, .inl (.inl ?_), atI_nat (List.getElem?_eq_getElem hj), q _ _ (List.getElem_mem hj) (sd_put x y z)⟩
    rw [upd_ne hne]
    exact hp
end
section
variable {P : Program} {w : World} {K : PySem.W.Frag} {mg : Str → Option Value} {base : Heap}
/-- so many of the items, drawn one behind the other: what is drawn and what is left are the items in another order -/
def spSome (K : PySem.W.Frag) : Sp := fun vs H Q _ => ∃ (d p : Addr) (m : Int) (xs : List V), vs = [.ref d, .ref p, .int m] ∧ DiceAt H d ∧ SqL K H p xs ∧ 0 ≤ m ∧ m < 1000000 ∧ xs.length < 1000000 ∧
  ∀ D ys rest H', (ys ++ rest).Perm xs → ys.length = min m.toNat xs.length → H D = none → H' D = some (.lst ys) → Sd d H H' → Q (.ref D) H'
theorem erase_perm {α : Type} : ∀ (xs : List α) (j : Nat) (h : j < xs.length), (xs[j] :: xs.eraseIdx j).Perm xs
  | [], j, h => by simp at h
  | x :: r, 0, h => List.Perm.refl _
  | x :: r, j + 1, h => by
    have ih := erase_perm r j (by simpa using h)
    show (r[j]'(by simpa using h) :: x :: r.eraseIdx j).Perm (x :: r)
    exact (List.Perm.swap _ _ _).trans (ih.cons x)
theorem ok_some {f g : Addr} {fd gd : FuncData} {k : Nat} (F : Fun K "_law_some" "_law_some" sSome f fd) (G : FnOk P w K mg base CX0 k g gd ["dice", "total"] spRoll) (gk : PySem.W.keepIn K (.ref g) = true) (gb : Binds K gd ["dice", "total"] []) (mg1 : mg "_law_roll" = some (.ref g)) (ml : mg "len" = none) (mL : mg "list" = none) (mR : mg "range" = none) (mM : mg "min" = none) :
    FnOk P w K mg base CX0 (k + 1) f fd ["dice", "items", "size"] (spSome K) := by
  refine F.ok scSome (fun vs H Q E h => ?_) (fun cdv A outer s H vs Q E hr h => ?_)
  · obtain ⟨d, p, m, xs, rfl, _⟩ := h
    rfl
  · obtain ⟨d, p, m, xs, rfl, hd, hp, m0, m1, hx, q⟩ := h
    refine ⟨_, pss_cons (ps_set (i := 3) scSome.nd rfl (.inr rfl) (pe_callTy call_list_of (by rfl) mL (by decide +kernel) (pa_cons (pv 1) pa_nil)))
      (pss_one (ps_ret (pe_lc (own := [("turn", 4)]) (g := gName 4) (tt := tYes) rfl scSome.nd (pi_range1 (by rfl) mR (pa_cons (pe_callB (call_min2 rfl) (by rfl) mM (by decide +kernel) (pa_cons (pv 2) (pa_cons (pe_callB call_len_seq (by rfl) ml PySem.boot_len (pa_cons (pv 3) pa_nil)) pa_nil))) pa_nil))
        (blkOk_by (N := ["dice", "items", "size", "left", "turn"]) (sc := defScope sSome) (by decide +kernel)) (fun _ _ _ _ _ => pg_name (i := 4) scSome.nd rfl (Or.inl rfl)) (fun _ _ _ _ _ => pts_nil)
        (fun _ _ _ _ _ => pe_bmK (K := K) rfl PySem.F.plainAttrs_list PySem.F.slot_list_pop PySem.F.type_list_pop mt_popAt (pv 3)
          (pa_cons (pe_call G hr (by rfl) mg1 gk gb .nil pass0 (pa_cons (pv 0) (pa_cons (pe_callB (call_len_seqK (K := K) rfl) (by rfl) ml PySem.boot_len (pa_cons (pv 3) pa_nil)) pa_nil))) pa_nil))))), ?_⟩
    refine ⟨.ref p, rfl, p, xs, rfl, .inl hp, fun l nl => ?_⟩
    have hl : (upd H l (.lst xs)) l = some (.lst xs) := upd_same
    have dl : d ≠ l := hd.ne nl
    refine ⟨.int m, rfl, .ref l, rfl, l, xs, rfl, .inl (.inl (.inl hl)), m, _, rfl, ?_⟩
    obtain ⟨c, hc, c0, c1⟩ : ∃ c : Nat, (if ((xs.length : Int) < m) then (xs.length : Int) else m) = (c : Int) ∧ c = min m.toNat xs.length ∧ c ≤ 1000000 := by
      by_cases hh : (xs.length : Int) < m
      · rw [if_pos hh]
        exact ⟨xs.length, rfl, by omega, by omega⟩
      · rw [if_neg hh]
        exact ⟨m.toNat, by omega, by omega, by omega⟩
    refine ⟨(c : Int), congrArg (fun z => [V.int z]) hc, by omega, by omega, fun D nD => ?_⟩
    have lD : l ≠ D := ne_of_none hl nD
    have nD0 : H D = none := (same_upd nl).free nD
    have dD : d ≠ D := hd.ne nD0
    refine lc_range (lo := 0) (n := (c : Int).toNat) (fun i H' => ∃ ys rest, H' D = some (.lst ys) ∧ H' l = some (.lst rest) ∧ (ys ++ rest).Perm xs ∧ ys.length = i ∧ Sd d H H')
      ⟨[], xs, upd_same, by rw [upd_ne lD]; exact hl, List.Perm.refl _, rfl, (sd_new hd nl).then_same (same_upd nD)⟩ (fun i H' hi hP => ?_) (fun H' hP => ?_)
    · obtain ⟨ys, rest, eD, el, pm, hy, sd⟩ := hP
      have hi : i < c := hi
      have hlen : ys.length + rest.length = xs.length := by
        rw [← List.length_append]
        exact pm.length_eq
      have hr0 : 0 < rest.length := by omega
      refine ⟨rfl, ?_⟩
      refine ⟨.ref l, rfl, .inl ⟨rfl, _, .inl (.inl el)⟩, .ref d, rfl, .ref l, rfl, l, rest, rfl, .inl (.inl (.inl el)), d, _, rfl, sd.dice, by omega, by omega, fun r x y z r0 r1 => ?_⟩
      obtain ⟨j, rfl⟩ : ∃ j : Nat, r = (j : Int) := ⟨r.toNat, by omega⟩
      have hj : j < rest.length := by omega
      have el2 : (upd H' d (.lst [.int x, .int y, .int z])) l = some (.lst rest) := by
        rw [upd_ne dl.symm]
        exact el
      have sq : seqIndex? (j : Int) rest.length = some j := (ixN_seq (by
        unfold ixN
        rw [if_pos (by omega), if_pos (by omega)]
        rfl)).1
      refine ⟨l, rest, (j : Int), j, rest[j], rfl, rfl, el2, by omega, by omega, sq, List.getElem?_eq_getElem hj, ?_⟩
      refine ⟨ys, ?_, by have e : sizeLine = 16777216 := by decide
                         omega, ys ++ [rest[j]], rest.eraseIdx j, upd_same, ?_, ?_, ?_, ?_⟩
      · rw [upd_ne lD.symm, upd_ne dD.symm]
        exact eD
      · rw [upd_ne lD, upd_same]
      · rw [List.append_assoc]
        exact ((erase_perm rest j hj).append_left ys).trans pm
      · rw [List.length_append, hy]
        rfl
      · refine ⟨fun b o hb e => ?_, x, y, z, ?_⟩
        · rw [upd_ne (ne_of_none e nD0), upd_ne (ne_of_none e nl), upd_ne hb]
          exact sd.keep b o hb e
        · rw [upd_ne dD, upd_ne dl, upd_same]
    · obtain ⟨ys, rest, eD, el, pm, hy, sd⟩ := hP
      exact q D ys rest H' pm (by rw [hy]; exact c0) nD0 eD sd
end
/-! ### words -/
theorem lc_str {z : Str} {g : TG} {tt : TT} {te : TE} {vs : List Nat} {σ : L2.St} {H1 : Hp} {D : Addr} {Qd : Hp → Prop} (Pv : Nat → Hp → Prop) (h0 : Pv 0 (upd H1 D (.lst [])))
    (hs : ∀ i c H, z.cps[i]? = some c → Pv i H → g (.str ⟨#[c]⟩) (wipe σ vs) H fun σ2 H2 => wipe σ2 vs = wipe σ vs ∧ tt σ2 H2 fun b H3 =>
      if b = true then te σ2 H3 fun y H4 => ∃ acc, H4 D = some (.lst acc) ∧ acc.length < sizeLine ∧ Pv (i + 1) (upd H4 D (.lst (acc ++ [y]))) else Pv (i + 1) H3) (hd : ∀ H, Pv z.cps.size H → Qd H) :
    ∃ W : Nat → Nat → Hp → Prop, (∃ m, W 0 m (upd H1 D (.lst []))) ∧ ∀ i m H, W i m H →
      ((Its z).stop i H ∧ Qd H) ∨ ((Its z).go i H ∧ ∃ Nx : Hp → Prop, (∀ H', Nx H' → ∃ m', m' < m ∧ W (i + 1) m' H') ∧ ∀ x H', (Its z).yld i H x H' → g x (wipe σ vs) H' fun σ2 H2 => wipe σ2 vs = wipe σ vs ∧ tt σ2 H2 fun b H3 =>
        if b = true then te σ2 H3 fun y H4 => ∃ acc, H4 D = some (.lst acc) ∧ acc.length < sizeLine ∧ Nx (upd H4 D (.lst (acc ++ [y]))) else Nx H3) := by
  refine ⟨fun i m H => m = z.cps.size - i ∧ i ≤ z.cps.size ∧ Pv i H, ⟨z.cps.size, by simp, Nat.zero_le _, h0⟩, ?_⟩
  rintro i m H ⟨rfl, hi, p⟩
  by_cases hlt : i < z.cps.size
  · refine .inr ⟨hlt, Pv (i + 1), fun H' p' => ⟨z.cps.size - (i + 1), by omega, rfl, hlt, p'⟩, fun x H' y => ?_⟩
    obtain ⟨e, c, hc, y⟩ := y
    subst e y
    exact hs i c _ hc p
  · have e : i = z.cps.size := by omega
    subst e
    exact .inl ⟨Nat.le_refl _, hd H p⟩
def letters : Str := "abcdefghijklmnopqrstuvwxyz"
def isLet (c : Nat) : Bool := decide (c ∈ letters.cps.toList)
def isStr : V → Bool
  | .str _ => true
  | _ => false
/-- one to eight small letters -/
def wordS (z : Str) : Bool := (decide (1 ≤ z.length) && decide (z.length ≤ 8)) && z.cps.toList.all isLet
def wordB : V → Bool
  | .str z => wordS z
  | _ => false
/-- a value of which it is known whether it is a text; a text is not too long, its signs are plain -/
structure Tv (K : PySem.W.Frag) (H : Hp) (v : V) : Prop where
  ty : ∃ t, TyX K H v t ∧ PySem.W.kitOne K t (.type "str") = some (isStr v)
  len : ∀ z, v = .str z → z.length ≤ 1000 ∧ ∀ c ∈ z.cps.toList, c < 128
theorem take_map {α β : Type} (f : α → β) (xs : List α) (i : Nat) (x : α) (h : xs[i]? = some x) : (xs.take i).map f ++ [f x] = (xs.take (i + 1)).map f := by
  rw [List.take_add_one, h, List.map_append]
  rfl
theorem take_filter_t {α : Type} (p : α → Bool) (xs : List α) (i : Nat) (x : α) (h : xs[i]? = some x) (hp : p x = true) : (xs.take i).filter p ++ [x] = (xs.take (i + 1)).filter p := by
  rw [List.take_add_one, h, List.filter_append]
  simp [hp]
theorem take_filter_f {α : Type} (p : α → Bool) (xs : List α) (i : Nat) (x : α) (h : xs[i]? = some x) (hp : p x = false) : (xs.take i).filter p = (xs.take (i + 1)).filter p := by
  rw [List.take_add_one, h, List.filter_append]
  simp [hp]
def sign1 (c : Nat) : Str := ⟨#[c]⟩
theorem lay_signs : ∀ cs : List Nat, (∀ c ∈ cs, c < 128) → PyData.canLayAll0 (cs.map fun c => .str (sign1 c)) = true
  | [], _ => rfl
  | c :: cs, h => by
    have h1 : c < 1114112 := Nat.lt_trans (h c (List.mem_cons_self ..)) (by decide)
    have e : PyData.canLay0 (.str (sign1 c)) = true := by
      show PyData.strOk (sign1 c) = true
      simp [PyData.strOk, sign1, h1]
    show (PyData.canLay0 (.str (sign1 c)) && PyData.canLayAll0 (cs.map fun c => .str (sign1 c))) = true
    rw [e, lay_signs cs fun x hx => h x (List.mem_cons_of_mem _ hx)]
    rfl
theorem depth_signs : ∀ cs : List Nat, PyData.depthAll (cs.map fun c => .str (sign1 c)) = 0
  | [] => rfl
  | c :: cs => by
    show max (PyData.depth (.str (sign1 c))) (PyData.depthAll (cs.map fun c => .str (sign1 c))) = 0
    rw [depth_signs cs]
    rfl
theorem shaped_signs {cs : List Nat} (h : ∀ c ∈ cs, c < 128) : SeqAt.shaped (.list (cs.map fun c => .str (sign1 c))) = true := by
  unfold SeqAt.shaped
  rw [Bool.and_eq_true]
  refine ⟨lay_signs cs h, decide_eq_true ?_⟩
  show PyData.depthAll (cs.map fun c => .str (sign1 c)) + 1 ≤ 64
  rw [depth_signs cs]
  decide
theorem dp_signs {K : PySem.W.Frag} {H : Hp} : ∀ cs : List Nat, DpAll K H (cs.map fun c => V.str (sign1 c)) (cs.map fun c => .str (sign1 c))
  | [] => .nil
  | _ :: cs => .cons (.str _) (dp_signs cs)
theorem eqv_signs_nil (cs : List Nat) : PyData.eqv (.list (cs.map fun c => .str (sign1 c))) (.list []) = cs.isEmpty := by
  cases cs with
  | nil => rfl
  | cons c cs => rfl
theorem filter_isEmpty (xs : List Nat) : (xs.filter fun c => !isLet c).isEmpty = xs.all isLet := by
  induction xs with
  | nil => rfl
  | cons x r ih =>
    cases h : isLet x with
    | true => simp [h, ← ih]
    | false => simp [h]
def spWord (K : PySem.W.Frag) : Sp := fun vs H Q _ => ∃ v, vs = [v] ∧ Tv K H v ∧ ∀ H', Same H H' → Q (.bl (wordB v)) H'
theorem not_str {v : V} (h : isStr v = false) : wordB v = false := by
  cases v <;> first | rfl | cases h
theorem is_str {v : V} (h : isStr v = true) : ∃ z, v = .str z := by
  cases v <;> first | exact ⟨_, rfl⟩ | cases h
section
variable {P : Program} {w : World} {K : PySem.W.Frag} {mg : Str → Option Value} {base : Heap}
theorem scWord : FnScope ["value", "sign"] ["value"] (defScope sIsWord) := ⟨rfl, rfl, rfl, by decide +kernel, rfl, by decide +kernel, by decide +kernel⟩
theorem scWordL : FnScope ["value", "one"] ["value"] (defScope sIsWordL) := ⟨rfl, rfl, rfl, by decide +kernel, rfl, by decide +kernel, by decide +kernel⟩
theorem ok_word {f : Addr} {fd : FuncData} {k : Nat} {t1 t2 : Tok} (F : Fun K "is_word" "is_word" sIsWord f fd) (ml : mg "len" = none) (mi : mg "isinstance" = none) (ms : mg "str" = none) (mA : mg "all" = none)
    (mM : mg "MAX_LETTERS" = some (.int 8 t1)) (mL : mg "_LETTERS" = some (.str letters t2)) :
    FnOk P w K mg base CX0 (k + 1) f fd ["value"] (spWord K) := by
  refine F.ok scWord (fun vs H Q E h => ?_) (fun cdv A outer s H vs Q E hr h => ?_)
  · obtain ⟨v, rfl, _⟩ := h
    rfl
  · obtain ⟨v, rfl, ⟨⟨t, ty, hk⟩, hz⟩, q⟩ := h
    refine ⟨_, pss_one (ps_ret (pe_and (pe_callB call_isi (by rfl) mi (by decide +kernel) (pa_cons (pv 0) (pa_cons (pe_bltn (v := .ty "str") (by rfl) ms (by decide +kernel) rfl) pa_nil)))
      (pe_and (pe_chain op_le op_le pe_int (pe_callB call_len_str (by rfl) ml PySem.boot_len (pa_cons (pv 0) pa_nil)) (pe_glob (v := .int 8) rfl mM ⟨_, rfl⟩))
      (pe_one (pe_callB (cr_all rfl) (by rfl) mA (by decide +kernel) (pa_cons (pe_lc (own := [("sign", 1)]) (g := gName 1) (tt := tYes) rfl scWord.nd (pi_str (pv 0))
        (blkOk_by (N := ["value", "sign"]) (sc := defScope sIsWord) (by decide +kernel)) (fun _ _ _ _ _ => pg_name (i := 1) scWord.nd rfl (Or.inl rfl)) (fun _ _ _ _ _ => pts_nil)
        (fun _ _ _ _ _ => pe_cmpR op_in_sign (pv 1) (pe_glob (v := .str letters) rfl mL ⟨_, rfl⟩) rfl)) pa_nil)))))), ?_⟩
    refine ⟨v, rfl, v, .ty "str", t, .type "str", isStr v, rfl, .ty "str", ty, hk, isStr v, rfl, ite2 (fun e => ?_) (fun e => ?_)⟩
    · obtain ⟨z, rfl⟩ := is_str e
      obtain ⟨hz1, hz2⟩ := hz z rfl
      have hs : z.length ≤ sizeLine := Nat.le_of_lt (small1000 hz1)
      refine ⟨.str z, rfl, z, rfl, hs, 1, _, rfl, rfl, _, rfl, ite2 (fun e1 => ?_) (fun e1 => ?_)⟩
      · refine ⟨_, 8, rfl, rfl, _, rfl, ite2 (fun e2 => ?_) (fun e2 => ?_)⟩
        · refine ⟨.str z, rfl, z, rfl, fun D nD => lc_str (fun i H' => H' D = some (.lst ((z.cps.toList.take i).map fun c => V.bl (isLet c))) ∧ Same H H') ⟨upd_same, same_upd nD⟩ (fun i c H' hc hP => ?_) (fun H' hP => ?_)⟩
          · obtain ⟨eD, sm⟩ := hP
            refine ⟨rfl, .str ⟨#[c]⟩, rfl, c, letters, rfl, rfl, _, eD, ?_, ?_, ?_⟩
            · rw [List.length_map, List.length_take]
              exact Nat.lt_of_le_of_lt (Nat.min_le_right _ _) (small1000 hz1)
            · rw [upd_same, ← take_map (fun c => V.bl (isLet c)) _ i c (by rw [Array.getElem?_toList]; exact hc)]
              rfl
            · intro b o hb
              rw [upd_ne (ne_of_none hb nD)]
              exact sm b o hb
          · obtain ⟨eD, sm⟩ := hP
            have ea : z.cps.toList.take z.cps.size = z.cps.toList := List.take_of_length_le (Nat.le_of_eq (Array.length_toList))
            rw [ea] at eD
            refine ⟨D, z.cps.toList.map isLet, rfl, .inl (.inl ?_), ?_⟩
            · rw [List.map_map]
              exact eD
            · have ew : (z.cps.toList.map isLet).all id = wordB (.str z) := by
                have h1 : (1 : Int) ≤ z.length := of_decide_eq_true e1
                have h2 : (z.length : Int) ≤ 8 := of_decide_eq_true e2
                show _ = wordS z
                unfold wordS
                rw [decide_eq_true (show 1 ≤ z.length by omega), decide_eq_true (show z.length ≤ 8 by omega), List.all_map]
                rfl
              rw [ew]
              exact q H' sm
        · have h2 : ¬ (z.length : Int) ≤ 8 := fun h => e2 (decide_eq_true h)
          have ew : wordB (.str z) = false := by
            show wordS z = false
            unfold wordS
            rw [decide_eq_false (show ¬ z.length ≤ 8 by omega), Bool.and_false, Bool.false_and]
          rw [ew] at q
          exact q H (Same.refl H)
      · have h1 : ¬ (1 : Int) ≤ z.length := fun h => e1 (decide_eq_true h)
        have ew : wordB (.str z) = false := by
          show wordS z = false
          unfold wordS
          rw [decide_eq_false (show ¬ 1 ≤ z.length by omega), Bool.false_and, Bool.false_and]
        rw [ew] at q
        exact ⟨false, rfl, iteF (q H (Same.refl H))⟩
    · have ev := not_str (Bool.eq_false_iff.mpr e)
      rw [ev] at q
      exact q H (Same.refl H)
theorem ok_wordL {f : Addr} {fd : FuncData} {k : Nat} (F : Fun K "_law_is_word" "_law_is_word" sIsWordL f fd) (ml : mg "len" = none) (mi : mg "isinstance" = none) (ms : mg "str" = none) :
    FnOk P w K mg base CX0 (k + 1) f fd ["value"] (spWord K) := by
  refine F.ok scWordL (fun vs H Q E h => ?_) (fun cdv A outer s H vs Q E hr h => ?_)
  · obtain ⟨v, rfl, _⟩ := h
    rfl
  · obtain ⟨v, rfl, ⟨⟨t, ty, hk⟩, hz⟩, q⟩ := h
    refine ⟨_, pss_cons (ps_if (PW.pt (pw_or (pt_not (pt_val (pe_callB call_isi (by rfl) mi (by decide +kernel) (pa_cons (pv 0) (pa_cons (pe_bltn (v := .ty "str") (by rfl) ms (by decide +kernel) rfl) pa_nil)))))
        (pw_or1 (pt_not (pt_chain op_lt op_lt pe_int (pe_callB call_len_str (by rfl) ml PySem.boot_len (pa_cons (pv 0) pa_nil)) pe_int)))))
        (pss_one (ps_ret pe_bl)) pss_nil)
      (pss_one (ps_ret (pe_cmpR (op_eqD hr.units) (pe_lc (own := [("one", 1)]) (g := gName 1) rfl scWordL.nd (pi_str (pv 0))
        (blkOk_by (N := ["value", "one"]) (sc := defScope sIsWordL) (by decide +kernel)) (fun _ _ _ _ _ => pg_name (i := 1) scWordL.nd rfl (Or.inl rfl)) (fun _ _ _ _ _ => pts_one (pt_cmpR op_notIn_sign (pv 1) pe_str rfl))
        (fun _ _ _ _ _ => pv 1)) (pe_lst pa_nil) (nomark _)))), ?_⟩
    refine ⟨v, rfl, v, .ty "str", t, .type "str", isStr v, rfl, .ty "str", ty, hk, isStr v, rfl, ite2 (fun e => ?_) (fun e => ?_)⟩
    · have ev := not_str (v := v) (by cases hv : isStr v with
        | false => rfl
        | true => rw [hv] at e; cases e)
      rw [ev] at q
      exact iteT (q H (Same.refl H))
    · have e : isStr v = true := by cases hv : isStr v with
        | true => rfl
        | false => rw [hv] at e; exact absurd rfl e
      obtain ⟨z, rfl⟩ := is_str e
      obtain ⟨hz1, hz2⟩ := hz z rfl
      have hs : z.length ≤ sizeLine := Nat.le_of_lt (small1000 hz1)
      have hbad : ¬ (1 ≤ z.length ∧ z.length ≤ 8) → Q (.bl false) H := fun hb => by
        have ew : wordB (.str z) = false := by
          show wordS z = false
          unfold wordS
          rw [← Bool.decide_and, decide_eq_false hb, Bool.false_and]
        rw [ew] at q
        exact q H (Same.refl H)
      refine ⟨.str z, rfl, z, rfl, hs, 0, _, rfl, rfl, _, rfl, ite2 (fun e1 => ?_) (fun e1 => ?_)⟩
      · refine ⟨_, 9, rfl, rfl, _, rfl, ite2 (fun e2 => ?_) (fun e2 => ?_)⟩
        · have h2 : ¬ (z.length : Int) < 9 := fun h => by
            rw [decide_eq_true h] at e2
            cases e2
          exact hbad (by omega)
        · have h1 : (0 : Int) < z.length := of_decide_eq_true e1
          have h2 : (z.length : Int) < 9 := by
            by_cases h : (z.length : Int) < 9
            · exact h
            · rw [decide_eq_false h] at e2
              exact absurd rfl e2
          refine ⟨.str z, rfl, z, rfl, fun D nD => lc_str (fun i H' => H' D = some (.lst (((z.cps.toList.take i).filter fun c => !isLet c).map fun c => V.str (sign1 c))) ∧ Same H H') ⟨upd_same, same_upd nD⟩ (fun i c H' hc hP => ?_) (fun H' hP => ?_)⟩
          · obtain ⟨eD, sm⟩ := hP
            have hc' : z.cps.toList[i]? = some c := by rw [Array.getElem?_toList]; exact hc
            refine ⟨rfl, .str ⟨#[c]⟩, rfl, c, letters, rfl, rfl, _, rfl, ite2 (fun e3 => ?_) (fun e3 => ?_)⟩
            · refine ⟨.str ⟨#[c]⟩, rfl, _, eD, ?_, ?_, ?_⟩
              · rw [List.length_map]
                refine Nat.lt_of_le_of_lt (List.length_filter_le _ _) ?_
                rw [List.length_take]
                exact Nat.lt_of_le_of_lt (Nat.min_le_right _ _) (small1000 hz1)
              · rw [upd_same, ← take_filter_t (fun c => !isLet c) _ i c hc' e3, List.map_append]
                rfl
              · intro b o hb
                rw [upd_ne (ne_of_none hb nD)]
                exact sm b o hb
            · refine ⟨?_, sm⟩
              rw [eD, take_filter_f (fun c => !isLet c) _ i c hc' (Bool.eq_false_iff.mpr e3)]
          · obtain ⟨eD, sm⟩ := hP
            have ea : z.cps.toList.take z.cps.size = z.cps.toList := List.take_of_length_le (Nat.le_of_eq (Array.length_toList))
            rw [ea] at eD
            refine ⟨Nat.zero_le _, fun L nL => ?_⟩
            have eD2 : (upd H' L (.lst [])) D = some (.lst ((z.cps.toList.filter fun c => !isLet c).map fun c => V.str (sign1 c))) := by
              rw [upd_ne (ne_of_none eD nL)]
              exact eD
            refine ⟨_, .list [], .lst (.inl (.inl eD2)) (dp_signs _), .lst (.inl (.inl upd_same)) .nil, shaped_signs (fun c hc => hz2 c (List.mem_filter.mp hc).1), by decide, ?_⟩
            rw [eqv_signs_nil, filter_isEmpty]
            have ew : z.cps.toList.all isLet = wordB (.str z) := by
              show _ = wordS z
              unfold wordS
              rw [decide_eq_true (show 1 ≤ z.length by omega), decide_eq_true (show z.length ≤ 8 by omega)]
              rfl
            rw [ew]
            exact q _ (sm.trans (same_upd nL))
      · have h1 : ¬ (0 : Int) < z.length := fun h => e1 (decide_eq_true h)
        exact ⟨false, rfl, iteT (hbad (by omega))⟩
end
/-! ### what is drawn -/
section
variable {X : Cx}
theorem vals_of : ∀ {xs : List V} {us : List Value}, xs.length = us.length → (∀ (j : Nat) x u, xs[j]? = some x → us[j]? = some u → RelV x u) → Vals xs us
  | [], [], _, _ => .nil
  | [], _ :: _, h, _ => by simp at h
  | _ :: _, [], h, _ => by simp at h
  | x :: xs, u :: us, h, g => .cons (g 0 x u rfl rfl) (vals_of (by simpa using h) fun j a b ha hb => g (j + 1) a b (by simpa using ha) (by simpa using hb))
def signV (z : Str) : List V := z.cps.toList.map fun c => V.str (sign1 c)
theorem call_list_strV (hc : X.calm = true) : CallR X (.type "list") (fun xs H Q => ∃ z : Str, xs = [.str z] ∧ z.length ≤ sizeLine ∧ ∀ l, H l = none → Q (.ref l) (upd H l (.lst (signV z)))) := by
  intro pins s σ H xs us Q I r h
  obtain ⟨z, rfl, hz, q⟩ := h
  obtain ⟨u, rfl, t, rfl⟩ := vals1 r
  refine call_list_str (I.ok.hd hc) z t (fun h' tk acc' c' kp e its => ?_) hz
  refine ⟨.ref s.heap.objs.size, _, I.laid (a := s.heap.objs.size) (o := .lst (signV z)) (t' := tk) kp (Nat.le_refl _) (show ObjOk X.prog X.w _ h' _ (.lst (signV z)) from ⟨?_, acc'.toList, c', ?_, by simpa using e⟩), rfl, q _ (I.hok.fresh (Nat.le_refl _))⟩
  · unfold signV
    rw [List.length_map, Array.length_toList]
    exact hz
  · refine vals_of ?_ fun j x u hx hu => ?_
    · unfold signV
      rw [List.length_map, Array.length_toList, Array.length_toList]
      exact its.1.symm
    · obtain ⟨c, t2, hc2, e2⟩ := its.2 j u (by simpa using hu)
      unfold signV at hx
      rw [List.getElem?_map, Array.getElem?_toList, hc2] at hx
      cases hx
      exact ⟨t2, e2⟩
theorem pe_joinK {K : PySem.W.Frag} {o e : Expr} {to : TE} {te : TE} {apos pos : Pos} (hK : X.K = K) (ho : PE X o to) (he : PE X e te) (hs : starEach [e] X.env = [(false, eval e X.env)] := by rfl) (hbase : attributeBase o "join" X.env (eval o X.env) = eval o X.env := by rfl) (hline : (apos.endLine == pos.line) = true := by rfl) :
    PE X (.Call (.Attribute o "join" apos) [e] [] pos) (tM1 (fun x xs H Q => ∃ a p, ∃ ys : List Str, x = .str a ∧ xs = [.ref p] ∧ (SqL K H p (ys.map V.str) ∨ SqT K H p (ys.map V.str)) ∧
      (ys.map (·.length)).sum + ys.length * a.length ≤ 16777216 ∧ Q (.str (Txt.join a ys)) H) to te) := by
  subst hK
  exact pe_join ho he hs hbase hline
end
open TL in
theorem joinL_flat : ∀ ps : List (List Nat), joinL [] ps = ps.flatten
  | [] => rfl
  | [p] => by simp [joinL]
  | p :: q :: r => by
    show p ++ ([] ++ joinL [] (q :: r)) = _
    rw [joinL_flat (q :: r)]
    rfl
open TL in
theorem join_cps {a : Str} (ha : a.cps.toList = []) (ys : List Str) : (Txt.join a ys).cps.toList = (ys.map fun y => y.cps.toList).flatten := by
  rw [join_eq]
  show tl _ = _
  rw [tl_join, show tl a = [] from ha, joinL_flat]
theorem add_cps (x y : Str) : (x ++ y).cps.toList = x.cps.toList ++ y.cps.toList := TL.tl_append x y
theorem len_cps (z : Str) : z.length = z.cps.toList.length := by
  rw [Array.length_toList]
  rfl
/-- a drawn value -/
def okStr (z : Str) : Prop := z.length ≤ 1000 ∧ ∀ c ∈ z.cps.toList, c < 128
inductive Dv (H : Hp) : V → Prop where
  | non : Dv H .non
  | bl (b : Bool) : Dv H (.bl b)
  | int (i : Int) : Dv H (.int i)
  | str {z : Str} (h : okStr z) : Dv H (.str z)
  | lst {a : Addr} {xs : List V} (e : H a = some (.lst xs)) : Dv H (.ref a)
  | tup {a : Addr} {xs : List V} (e : H a = some (.tup xs)) : Dv H (.ref a)
  | dK {a : Addr} {kvs : List (Key × V)} (e : H a = some (.dK kvs)) : Dv H (.ref a)
theorem Dv.keep {d : Addr} {H H' : Hp} {v : V} (s : Sd d H H') (h : Dv H v) : Dv H' v := by
  have at_d : Dv H' (.ref d) := by
    obtain ⟨x, y, z, e⟩ := s.dice
    exact .lst e
  cases h with
  | non => exact .non
  | bl b => exact .bl b
  | int i => exact .int i
  | str h => exact .str h
  | @lst a xs e =>
    by_cases ha : a = d
    · rw [ha]; exact at_d
    · exact .lst (s.keep _ _ ha e)
  | @tup a xs e =>
    by_cases ha : a = d
    · rw [ha]; exact at_d
    · exact .tup (s.keep _ _ ha e)
  | @dK a xs e =>
    by_cases ha : a = d
    · rw [ha]; exact at_d
    · exact .dK (s.keep _ _ ha e)
theorem Dv.same {H H' : Hp} {v : V} (s : Same H H') (h : Dv H v) : Dv H' v := by
  cases h with
  | non => exact .non
  | bl b => exact .bl b
  | int i => exact .int i
  | str h => exact .str h
  | lst e => exact .lst (s _ _ e)
  | tup e => exact .tup (s _ _ e)
  | dK e => exact .dK (s _ _ e)
theorem kb_bool : kitB "bool" "str" = some false := by decide +kernel
theorem kb_int : kitB "int" "str" = some false := by decide +kernel
theorem kb_str : kitB "str" "str" = some true := by decide +kernel
theorem kb_list : kitB "list" "str" = some false := by decide +kernel
theorem kb_tuple : kitB "tuple" "str" = some false := by decide +kernel
theorem kb_dict : kitB "dict" "str" = some false := by decide +kernel
theorem kb_none : kitB "NoneType" "str" = some false := by decide +kernel
theorem Dv.tv {K : PySem.W.Frag} {H : Hp} {v : V} (h : Dv H v) : Tv K H v := by
  cases h with
  | non => exact ⟨⟨_, .base .non, kit_ty kb_none⟩, fun z e => nomatch e⟩
  | bl b => exact ⟨⟨_, .base (.bl b), kit_ty kb_bool⟩, fun z e => nomatch e⟩
  | int i => exact ⟨⟨_, .base (.int i), kit_ty kb_int⟩, fun z e => nomatch e⟩
  | str h => exact ⟨⟨_, .base (.str _), kit_ty kb_str⟩, fun z e => by cases e; exact h⟩
  | lst e => exact ⟨⟨_, .base (.lst e), kit_ty kb_list⟩, fun z e => nomatch e⟩
  | tup e => exact ⟨⟨_, .base (.tup e), kit_ty kb_tuple⟩, fun z e => nomatch e⟩
  | dK e => exact ⟨⟨_, .base (.dK e), kit_ty kb_dict⟩, fun z e => nomatch e⟩
def spDrawn : Sp := fun vs H Q _ => ∃ d, vs = [.ref d] ∧ DiceAt H d ∧ ∀ v H', Sd d H H' → Dv H' v → Q v H'
def asgVal (s : Stmt) : Expr := match s with
  | .Assign _ e _ => e
  | _ => .Tuple [] 0 ⟨0, 0, 0, 0⟩
def lcScope (e : Expr) : Scope := match e with
  | .ListComp _ _ sc _ => sc
  | _ => { kind := .function, names := [], isGenerator := false, isCoroutine := false }
abbrev scDrawOuter : Scope := lcScope (asgVal ((defBody sDrawn).getD 1 (.Pass ⟨0, 0, 0, 0⟩)))
theorem scDrawn : FnScope ["dice", "signs", "some", "odd", "draw", "turn"] ["dice"] (defScope sDrawn) := ⟨rfl, rfl, rfl, by decide +kernel, rfl, by decide +kernel, by decide +kernel⟩
section
variable {P : Program} {w : World} {K : PySem.W.Frag} {mg : Str → Option Value} {base : Heap}
def menu1 : List Str := ["", "", "A", " ", "-", "0", "_", ":", "(", ",", "\n"]
theorem menu1_ok : ∀ z ∈ menu1, z.length ≤ 1 ∧ ∀ c ∈ z.cps.toList, c < 128 := by decide +kernel
theorem pre_ok : ∀ c ∈ ("aabcdehklnorstyzz" : Str).cps.toList, c < 128 := by decide +kernel
theorem ok_drawn {f g g2 g3 : Addr} {fd gd gd2 gd3 : FuncData} {k : Nat} (F : Fun K "_law_drawn_value" "_law_drawn_value" sDrawn f fd)
    (G : FnOk P w K mg base CX0 (k + 1) g gd ["dice", "total"] spRoll) (gk : PySem.W.keepIn K (.ref g) = true) (gb : Binds K gd ["dice", "total"] []) (mg1 : mg "_law_roll" = some (.ref g))
    (G2 : FnOk P w K mg base CX0 (k + 1) g2 gd2 ["dice", "items"] spPick) (gk2 : PySem.W.keepIn K (.ref g2) = true) (gb2 : Binds K gd2 ["dice", "items"] []) (mg2 : mg "_law_pick" = some (.ref g2))
    (G3 : FnOk P w K mg base CX0 (k + 1) g3 gd3 ["dice", "items", "size"] (spSome K)) (gk3 : PySem.W.keepIn K (.ref g3) = true) (gb3 : Binds K gd3 ["dice", "items", "size"] []) (mg3 : mg "_law_some" = some (.ref g3))
    (mL : mg "list" = none) (mR : mg "range" = none) :
    FnOk P w K mg base CX0 (k + 2) f fd ["dice"] spDrawn := by
  refine F.ok scDrawn (fun vs H Q E h => ?_) (fun cdv A outer s H vs Q E hr h => ?_)
  · obtain ⟨d, rfl, _⟩ := h
    rfl
  · obtain ⟨d, rfl, hd, q⟩ := h
    refine ⟨_, pss_cons (ps_set (i := 1) scDrawn.nd rfl (.inr rfl) (pe_op op_add_str pe_str (pe_call G2 hr (by rfl) mg2 gk2 gb2 .nil pass0 (pa_cons (pv 0) (pa_cons (pe_lst (pa_cons pe_str (pa_cons pe_str (pa_cons pe_str (pa_cons pe_str (pa_cons pe_str (pa_cons pe_str (pa_cons pe_str (pa_cons pe_str (pa_cons pe_str (pa_cons pe_str (pa_cons pe_str pa_nil)))))))))))) pa_nil)))))
      (pss_cons (ps_setLc (i := 2) (own := [("draw", 4)]) (g := gName 4) (tt := tYes) rfl scDrawn.nd rfl rfl (sw_true rfl rfl rfl (by decide +kernel)) (pi_range1 (by rfl) mR (pa_cons pe_int pa_nil))
        (blkOk_by (N := ["dice", "signs", "some", "odd", "draw", "turn"]) (sc := defScope sDrawn) (by decide +kernel)) (fun _ _ _ _ _ => pg_name (i := 4) scDrawn.nd rfl (Or.inl rfl)) (fun _ _ _ _ _ => pts_nil)
        (fun _ _ _ _ _ => pe_joinK (K := K) rfl pe_str (pe_lc (own := [("turn", 5)]) (g := gName 5) (tt := tYes) rfl scDrawn.nd (pi_range1 (by rfl) mR (pa_cons (pe_call G hr (by rfl) mg1 gk gb .nil pass0 (pa_cons (pv 0) (pa_cons pe_int pa_nil))) pa_nil))
          (blkOk_by (N := ["dice", "signs", "some", "odd", "draw", "turn"]) (sc := relS scDrawOuter (defScope sDrawn)) (by decide +kernel)) (fun _ _ _ _ _ => pg_name (i := 5) scDrawn.nd rfl (Or.inl rfl)) (fun _ _ _ _ _ => pts_nil)
          (fun _ _ _ _ _ => pe_call G2 hr (by rfl) mg2 gk2 gb2 .nil pass0 (pa_cons (pv 0) (pa_cons (pe_callTy (call_list_strV rfl) (by rfl) mL (by decide +kernel) (pa_cons (pv 1) pa_nil)) pa_nil))))))
      (pss_cons (ps_set (i := 3) scDrawn.nd rfl (.inl rfl) (pe_lst (pa_cons pe_non (pa_cons pe_int (pa_cons pe_bl (pa_cons (pe_tup pa_nil) (pa_cons (pe_tup (pa_cons pe_str pa_nil)) (pa_cons (pe_lst (pa_cons pe_str pa_nil)) (pa_cons pe_dnewK (pa_cons (pe_op op_pow pe_int pe_int)
        (pa_cons pe_str (pa_cons pe_str (pa_cons pe_str (pa_cons pe_str (pa_cons pe_str (pa_cons pe_str (pa_cons pe_str pa_nil)))))))))))))))))
      (pss_one (ps_ret (pe_call G2 hr (by rfl) mg2 gk2 gb2 .nil pass0 (pa_cons (pv 0) (pa_cons (pe_op op_cat (pv 2) (pe_call G3 hr (by rfl) mg3 gk3 gb3 .nil pass0 (pa_cons (pv 0) (pa_cons (pv 3) (pa_cons pe_int pa_nil))))) pa_nil))))))), ?_⟩
    have sl : ∀ n : Nat, n ≤ 1000 → n ≤ sizeLine := fun n hn => Nat.le_of_lt (small1000 hn)
    refine ⟨.ref d, rfl, sl 11 (by decide), fun M nM => ⟨d, M, _, rfl, (sd_new hd nM).dice, upd_same, (hd.ne nM).symm, by decide, by decide, fun v H1 hv s1 => ?_⟩⟩
    obtain ⟨z, hz, rfl⟩ : ∃ z, z ∈ menu1 ∧ v = V.str z := by
      obtain ⟨z, hz, e⟩ := List.mem_map.mp (show v ∈ menu1.map V.str from hv)
      exact ⟨z, hz, e.symm⟩
    obtain ⟨hz1, hz2⟩ := menu1_ok z hz
    have sd1 : Sd d H H1 := (sd_new hd nM).trans s1
    refine ⟨_, z, rfl, rfl, ?_, ?_⟩
    · exact sl _ (by show 17 + z.length ≤ 1000; omega)
    generalize hS : (("aabcdehklnorstyzz" : Str) ++ z) = S
    have hS0 : S.cps.toList = ("aabcdehklnorstyzz" : Str).cps.toList ++ z.cps.toList := by rw [← hS, add_cps]
    have hSl : S.length = 17 + z.length := by
      rw [len_cps, hS0, List.length_append, ← len_cps, ← len_cps]
      rfl
    have hS2 : ∀ c ∈ S.cps.toList, c < 128 := fun c hc => by
      rw [hS0] at hc
      rcases List.mem_append.mp hc with h | h
      · exact pre_ok c h
      · exact hz2 c h
    refine ⟨5, rfl, by decide, by decide, fun D nD => lc_range (lo := 0) (n := 5) (fun i H' => ∃ ys : List Str, H' D = some (.lst (ys.map V.str)) ∧ ys.length = i ∧ (∀ z ∈ ys, okStr z) ∧ Sd d H1 H')
      ⟨[], upd_same, rfl, fun z hz => (nomatch hz), sd_new sd1.dice nD⟩ (fun i H' hi hP => ?_) (fun H4 hP => ?_)⟩
    · obtain ⟨ys, eD, hy, hok, sd⟩ := hP
      have hdD : d ≠ D := sd1.dice.ne nD
      refine ⟨rfl, ⟨_, rfl⟩, .ref d, rfl, d, 11, rfl, sd.dice, by decide, by decide, fun r x y z r0 r1 => ⟨r, rfl, by omega, by omega, fun D2 nD2 => ?_⟩⟩
      have sd2 : Sd d H' (upd H' d (.lst [.int x, .int y, .int z])) := sd_put x y z
      generalize upd H' d (.lst [.int x, .int y, .int z]) = H2 at sd2 nD2 ⊢
      have eD2 : H2 D = some (.lst (ys.map V.str)) := sd2.keep _ _ hdD.symm eD
      have hdD2 : d ≠ D2 := sd2.dice.ne nD2
      have hDD2 : D ≠ D2 := ne_of_none eD2 nD2
      refine lc_range (lo := 0) (n := r.toNat) (fun j H'' => ∃ cs : List Nat, H'' D2 = some (.lst (cs.map fun c => V.str (sign1 c))) ∧ cs.length = j ∧ (∀ c ∈ cs, c < 128) ∧ Sd d H2 H'')
        ⟨[], upd_same, rfl, fun z hz => (nomatch hz), sd_new sd2.dice nD2⟩ (fun j H'' hj hP => ?_) (fun H'' hP => ?_)
      · obtain ⟨cs, eC, hc, hcs, sd3⟩ := hP
        refine ⟨rfl, .ref d, rfl, .str S, rfl, S, rfl, sl _ (by omega), fun L nL => ?_⟩
        refine ⟨d, L, signV S, rfl, (sd_new sd3.dice nL).dice, upd_same, (sd3.dice.ne nL).symm, ?_, ?_, fun v H3 hv s3 => ?_⟩
        · unfold signV
          rw [List.length_map, ← len_cps]
          omega
        · unfold signV
          rw [List.length_map, ← len_cps]
          omega
        · obtain ⟨c, hcS, rfl⟩ := List.mem_map.mp hv
          have sdL : Sd d H'' H3 := (sd_new sd3.dice nL).trans s3
          refine ⟨_, sdL.keep _ _ hdD2.symm eC, ?_, cs ++ [c], ?_, ?_, ?_, ?_⟩
          · rw [List.length_map, hc]
            exact small1000 (by omega)
          · rw [upd_same, List.map_append]
            rfl
          · rw [List.length_append, hc]
            rfl
          · intro c' hc'
            rcases List.mem_append.mp hc' with h | h
            · exact hcs c' h
            · rw [List.mem_singleton.mp h]
              exact hS2 c hcS
          · have sdA : Sd d H2 H3 := sd3.trans sdL
            refine ⟨fun b o hb e => ?_, ?_⟩
            · rw [upd_ne (ne_of_none e nD2)]
              exact sdA.keep b o hb e
            · obtain ⟨x, y, z, e⟩ := sdA.dice
              exact ⟨x, y, z, by rw [upd_ne hdD2]; exact e⟩
      · obtain ⟨cs, eC, hc, hcs, sd3⟩ := hP
        have em : (cs.map sign1).map V.str = cs.map fun c => V.str (sign1 c) := by rw [List.map_map]; rfl
        have hjoin : (Txt.join ("" : Str) (cs.map sign1)).cps.toList = cs := by
          rw [join_cps rfl, List.map_map]
          clear em eC hc hcs
          induction cs with
          | nil => rfl
          | cons c r ih => 
            show [c] ++ (List.map _ r).flatten = c :: r
            rw [ih]
            rfl
        refine ⟨"", D2, cs.map sign1, rfl, rfl, .inl (.inl (.inl (by rw [em]; exact eC))), ?_, ?_⟩
        · have : ∀ cs : List Nat, ((cs.map sign1).map (·.length)).sum = cs.length := fun cs => by
            induction cs with
            | nil => rfl
            | cons c r ih =>
              show (sign1 c).length + ((r.map sign1).map (·.length)).sum = r.length + 1
              rw [ih]
              show 1 + r.length = r.length + 1
              omega
          rw [this, List.length_map]
          show cs.length + cs.length * 0 ≤ _
          omega
        · have sdB : Sd d H1 H'' := (sd.trans sd2).trans sd3
          refine ⟨_, sd3.keep _ _ hdD.symm eD2, ?_, ys ++ [Txt.join ("" : Str) (cs.map sign1)], ?_, ?_, ?_, ?_⟩
          · rw [List.length_map, hy]
            exact small1000 (by omega)
          · rw [upd_same, List.map_append]
            rfl
          · rw [List.length_append, hy]
            rfl
          · intro z' hz'
            rcases List.mem_append.mp hz' with h | h
            · exact hok z' h
            · rw [List.mem_singleton.mp h]
              refine ⟨?_, fun c' hc' => ?_⟩
              · rw [len_cps, hjoin]
                omega
              · rw [hjoin] at hc'
                exact hcs c' hc'
          · refine ⟨fun b o hb e => ?_, ?_⟩
            · rw [upd_ne (ne_of_none e nD)]
              exact sdB.keep b o hb e
            · obtain ⟨x, y, z, e⟩ := sdB.dice
              exact ⟨x, y, z, by rw [upd_ne hdD]; exact e⟩
    · obtain ⟨ys, eD, hy, hok, sd4⟩ := hP
      have sdX : Sd d H H4 := sd1.trans sd4
      refine ⟨sl 0 (by decide), fun t1 n1 => ⟨sl 1 (by decide), fun t2 n2 => ⟨sl 1 (by decide), fun t3 n3 => fun t4 n4 => ⟨10, 59, rfl, rfl, ⟨by decide, by decide, by decide⟩, sl 15 (by decide), fun O nO => ?_⟩⟩⟩⟩
      have hodd : ∀ v ∈ [V.non, .int 0, .bl true, .ref t1, .ref t2, .ref t3, .ref t4, .int (10 ^ (59 : Int).toNat), .str "Dock", .str "a b", .str "a1", .str "", .str "abcdefghi", .str "abcdefgh", .str "is"],
          Dv (upd (upd (upd (upd H4 t1 (.tup [])) t2 (.tup [.str "a"])) t3 (.lst [.str "a"])) t4 (.dK [])) v := by
        have m3 := same_upd (o := .dK []) n4
        have m2 := (same_upd (o := .lst [.str "a"]) n3).trans m3
        have m1 := (same_upd (o := .tup [.str "a"]) n2).trans m2
        intro v hv
        simp only [List.mem_cons, List.not_mem_nil, or_false] at hv
        have str : ∀ z : Str, z.length ≤ 1000 ∧ (∀ c ∈ z.cps.toList, c < 128) → Dv (upd (upd (upd (upd H4 t1 (.tup [])) t2 (.tup [.str "a"])) t3 (.lst [.str "a"])) t4 (.dK [])) (.str z) := fun z h => .str h
        rcases hv with rfl | rfl | rfl | rfl | rfl | rfl | rfl | rfl | rfl | rfl | rfl | rfl | rfl | rfl | rfl
        · exact .non
        · exact .int _
        · exact .bl _
        · exact .tup (m1 _ _ upd_same)
        · exact .tup (m2 _ _ upd_same)
        · exact .lst (m3 _ _ upd_same)
        · exact .dK upd_same
        · exact .int _
        · exact str _ (by decide +kernel)
        · exact str _ (by decide +kernel)
        · exact str _ (by decide +kernel)
        · exact str _ (by decide +kernel)
        · exact str _ (by decide +kernel)
        · exact str _ (by decide +kernel)
        · exact str _ (by decide +kernel)
      have smT : Same H4 (upd (upd (upd (upd H4 t1 (.tup [])) t2 (.tup [.str "a"])) t3 (.lst [.str "a"])) t4 (.dK [])) :=
        (((same_upd n1).trans (same_upd n2)).trans (same_upd n3)).trans (same_upd n4)
      have hol : ([V.non, .int 0, .bl true, .ref t1, .ref t2, .ref t3, .ref t4, .int (10 ^ (59 : Int).toNat), .str "Dock", .str "a b", .str "a1", .str "", .str "abcdefghi", .str "abcdefgh", .str "is"] : List V).length = 15 := rfl
      generalize [V.non, .int 0, .bl true, .ref t1, .ref t2, .ref t3, .ref t4, .int (10 ^ (59 : Int).toNat), .str "Dock", .str "a b", .str "a1", .str "", .str "abcdefghi", .str "abcdefgh", .str "is"] = odd at hodd hol ⊢
      generalize (upd (upd (upd (upd H4 t1 (.tup [])) t2 (.tup [.str "a"])) t3 (.lst [.str "a"])) t4 (.dK [])) = HT at hodd smT nO ⊢
      have sdO : Sd d H4 (upd HT O (.lst odd)) := .of_same (smT.trans (same_upd nO)) sd4.dice
      have eDO : (upd HT O (.lst odd)) D = some (.lst (ys.map V.str)) := (smT.trans (same_upd nO)) _ _ eD
      refine ⟨.ref d, rfl, .ref D, rfl, .ref d, rfl, .ref O, rfl, d, O, 3, odd, rfl, sdO.dice, .inl (.inl upd_same), by decide, by decide, by rw [hol]; decide, fun D3 ys3 rest H6 pm hl nD3 eD3 s6 => ?_⟩
      have hdD : d ≠ D := by
        intro e
        obtain ⟨x, y, z, e2⟩ := sd4.dice
        rw [← e, e2] at eD
        cases ys with
        | nil => cases eD
        | cons a b => cases eD
      have eD6 : H6 D = some (.lst (ys.map V.str)) := s6.keep _ _ hdD.symm eDO
      have hl3 : ys3.length = 3 := by
        rw [hl, hol]
        rfl
      refine ⟨D, D3, _, _, rfl, rfl, eD6, eD3, ?_, fun R nR => ?_⟩
      · rw [List.length_map, hy, hl3]
        exact sl _ (by decide)
      have sdR : Sd d H6 (upd H6 R (.lst (ys.map V.str ++ ys3))) := sd_new s6.dice nR
      refine ⟨d, R, _, rfl, sdR.dice, upd_same, (s6.dice.ne nR).symm, ?_, ?_, fun v H7 hv s7 => ?_⟩
      · rw [List.length_append, List.length_map, hy]
        omega
      · rw [List.length_append, List.length_map, hy]
        omega
      · have sd6 : Sd d (upd HT O (.lst odd)) H7 := (s6.trans sdR).trans s7
        refine q v H7 (sdX.trans (sdO.trans sd6)) ?_
        rcases List.mem_append.mp hv with h | h
        · obtain ⟨z, hz, rfl⟩ := List.mem_map.mp h
          exact .str (hok z hz)
        · have hm : v ∈ odd := pm.subset (List.mem_append_left _ h)
          exact ((hodd v hm).same (same_upd nO)).keep sd6
end
theorem scLaw : FnScope ["script", "spot", "dice", "turn", "value", "told", "one"] ["script"] (defScope sLaw) := ⟨rfl, rfl, rfl, by decide +kernel, rfl, by decide +kernel, by decide +kernel⟩
def spLaw (K : PySem.W.Frag) : Sp := fun vs H Q _ => ∃ (a : Addr) (ns : List Int), vs = [.ref a] ∧ SqL K H a (ns.map V.int) ∧ ns.length ≤ 63 ∧ ∀ H', Q (.bl true) H'
def menu2 : List Str := ["dock", "", "abcdefgh", "abcdefghi", "a b", "x0", "X"]
theorem menu2_ok : ∀ z ∈ menu2, z.length ≤ 1000 ∧ ∀ c ∈ z.cps.toList, c < 128 := by decide +kernel
theorem menu2_is : menu2.map wordS = [true, false, true, false, false, false, false] := by decide +kernel
section
variable {P : Program} {w : World} {K : PySem.W.Frag} {mg : Str → Option Value} {base : Heap}
theorem ok_law {f g1 g2 g3 g4 : Addr} {fd gd1 gd2 gd3 gd4 : FuncData} {k : Nat} {t1 : Tok} (F : Fun K "law" "law" sLaw f fd)
    (G1 : FnOk P w K mg base CX0 (k + 2) g1 gd1 ["script", "spot"] (spDice K)) (gk1 : PySem.W.keepIn K (.ref g1) = true) (gb1 : Binds K gd1 ["script", "spot"] []) (mg1 : mg "_law_dice" = some (.ref g1))
    (G2 : FnOk P w K mg base CX0 (k + 2) g2 gd2 ["dice"] spDrawn) (gk2 : PySem.W.keepIn K (.ref g2) = true) (gb2 : Binds K gd2 ["dice"] []) (mg2 : mg "_law_drawn_value" = some (.ref g2))
    (G3 : FnOk P w K mg base CX0 (k + 2) g3 gd3 ["value"] (spWord K)) (gk3 : PySem.W.keepIn K (.ref g3) = true) (gb3 : Binds K gd3 ["value"] []) (mg3 : mg "is_word" = some (.ref g3))
    (G4 : FnOk P w K mg base CX0 (k + 2) g4 gd4 ["value"] (spWord K)) (gk4 : PySem.W.keepIn K (.ref g4) = true) (gb4 : Binds K gd4 ["value"] []) (mg4 : mg "_law_is_word" = some (.ref g4))
    (ml : mg "len" = none) (mR : mg "range" = none) (mm : mg "min" = none) (mM : mg "max" = none) (mr : mg "repr" = none) (mX : mg "MAX_LETTERS" = some (.int 8 t1)) :
    FnOk P w K mg base CX0 (k + 3) f fd ["script"] (spLaw K) := by
  refine F.ok scLaw (fun vs H Q E h => ?_) (fun cdv A outer s H vs Q E hr h => ?_)
  · obtain ⟨a, ns, rfl, _⟩ := h
    rfl
  · obtain ⟨a, ns, rfl, hS, hlen, q⟩ := h
    refine ⟨_, pss_cons (ps_for PassesOwn.never rfl (pi_range1 (by rfl) mR (pa_cons (pe_callB (call_max2 rfl) (by rfl) mM (by decide +kernel) (pa_cons pe_int (pa_cons (pe_callB (call_min2 rfl) (by rfl) mm (by decide +kernel) (pa_cons pe_int (pa_cons (pe_callB call_len_seq (by rfl) ml PySem.boot_len (pa_cons (pv 0) pa_nil)) pa_nil))) pa_nil))) pa_nil))
        (pg_name (i := 1) scLaw.nd rfl (.inl rfl))
        (pss_cons (ps_set (i := 2) scLaw.nd rfl (.inl rfl) (pe_call G1 hr (by rfl) mg1 gk1 gb1 .nil pass0 (pa_cons (pv 0) (pa_cons (pv 1) pa_nil))))
        (pss_one (ps_for PassesOwn.never rfl (pi_range1 (by rfl) mR (pa_cons pe_int pa_nil)) (pg_name (i := 3) scLaw.nd rfl (.inl rfl))
          (pss_cons (ps_set (i := 4) scLaw.nd rfl (.inl rfl) (pe_call G2 hr (by rfl) mg2 gk2 gb2 .nil pass0 (pa_cons (pv 2) pa_nil)))
          (pss_one (ps_if (pt_cmpR op_ne (pe_callB call_repr_bl (by rfl) mr (by decide +kernel) (pa_cons (pe_call G3 hr (by rfl) mg3 gk3 gb3 .nil pass0 (pa_cons (pv 4) pa_nil)) pa_nil))
              (pe_callB call_repr_bl (by rfl) mr (by decide +kernel) (pa_cons (pe_call G4 hr (by rfl) mg4 gk4 gb4 .nil pass0 (pa_cons (pv 4) pa_nil)) pa_nil)) (nomark _))
            (pss_one (ps_ret pe_bl)) pss_nil)))))))
      (pss_cons (ps_setLc (i := 5) (own := [("one", 6)]) (g := gName 6) (tt := tYes) rfl scLaw.nd rfl rfl (sw_true rfl rfl rfl (by decide +kernel)) (pi_list (pe_lst (pa_cons pe_str (pa_cons pe_str (pa_cons pe_str (pa_cons pe_str (pa_cons pe_str (pa_cons pe_str (pa_cons pe_str pa_nil)))))))))
        (blkOk_by (N := ["script", "spot", "dice", "turn", "value", "told", "one"]) (sc := defScope sLaw) (by decide +kernel)) (fun _ _ _ _ _ => pg_name (i := 6) scLaw.nd rfl (Or.inl rfl)) (fun _ _ _ _ _ => pts_nil)
        (fun _ _ _ _ _ => pe_call G3 hr (by rfl) mg3 gk3 gb3 .nil pass0 (pa_cons (pv 6) pa_nil)))
      (pss_one (ps_ret (pe_and (pe_cmpR (op_eqD hr.units) (pv 5) (pe_lst (pa_cons pe_bl (pa_cons pe_bl (pa_cons pe_bl (pa_cons pe_bl (pa_cons pe_bl (pa_cons pe_bl (pa_cons pe_bl pa_nil)))))))) (nomark _))
        (pe_one (pe_cmpR op_eq (pe_glob (v := .int 8) rfl mX ⟨_, rfl⟩) pe_int (nomark _))))))), ?_⟩
    have hu : ∀ (m n : Int), 0 ≤ n → n ≤ 63 → m = n → True := fun _ _ _ _ _ => trivial
    refine ⟨.ref a, rfl, a, _, rfl, .inl hS, 8, _, rfl, 1, _, rfl, ?_⟩
    rw [List.length_map]
    obtain ⟨c, hc, c1⟩ : ∃ c : Nat, (if (if (ns.length : Int) < 8 then (ns.length : Int) else 8) > 1 then (if (ns.length : Int) < 8 then (ns.length : Int) else 8) else 1) = (c : Int) ∧ c ≤ 8 := by
      refine ⟨(if (if (ns.length : Int) < 8 then (ns.length : Int) else 8) > 1 then (if (ns.length : Int) < 8 then (ns.length : Int) else 8) else 1).toNat, ?_, ?_⟩ <;> split <;> split <;> omega
    refine ⟨(c : Int), congrArg (fun z => [V.int z]) hc, by omega, by omega, for_range (lo := 0) (n := (c : Int).toNat) (fun i σ H' => ∃ y1 y2 y3 y4, σ = [some (.ref a), y1, y2, y3, y4, none, none] ∧ Same H H')
      ⟨none, none, none, none, rfl, Same.refl H⟩ (fun i σ H' hi hP => ?_) (fun σ H' hP => ?_)⟩
    · obtain ⟨y1, y2, y3, y4, rfl, sm⟩ := hP
      refine ⟨.ref a, rfl, .int (0 + (i : Int)), rfl, a, ns, _, rfl, sm.seq hS, hlen, by omega, fun D x y z nD => ?_⟩
      have hd0 : DiceAt (upd H' D (.lst [.int x, .int y, .int z])) D := ⟨x, y, z, upd_same⟩
      have sm0 : Same H' (upd H' D (.lst [.int x, .int y, .int z])) := same_upd nD
      generalize upd H' D (.lst [.int x, .int y, .int z]) = Hd at hd0 sm0 ⊢
      refine ⟨30, rfl, by decide, by decide, for_range (lo := 0) (n := 30) (fun j σ H'' => ∃ y3 y4, σ = [some (.ref a), some (.int (0 + (i : Int))), some (.ref D), y3, y4, none, none] ∧ Sd D Hd H'')
        ⟨y3, y4, rfl, Sd.refl hd0⟩ (fun j σ H'' hj hP => ?_) (fun σ H'' hP => ?_)⟩
      · obtain ⟨y3, y4, rfl, sd⟩ := hP
        refine ⟨.ref D, rfl, D, rfl, sd.dice, fun v H3 s3 dv => ⟨v, rfl, v, rfl, dv.tv, fun H4 sm4 => ⟨_, rfl, v, rfl, v, rfl, (dv.same sm4).tv, fun H5 sm5 => ⟨_, rfl, rfl, _, rfl, iteNS rfl ?_⟩⟩⟩⟩
        exact ⟨_, _, rfl, ((sd.trans s3).then_same sm4).then_same sm5⟩
      · obtain ⟨y3, y4, rfl, sd⟩ := hP
        refine ⟨_, _, y3, y4, rfl, sm.trans fun b o e => ?_⟩
        exact sd.keep b o (ne_of_none e nD) (sm0 b o e)
    · obtain ⟨y1, y2, y3, y4, rfl, sm⟩ := hP
      have sl : ∀ n : Nat, n ≤ 1000 → n ≤ sizeLine := fun n hn => Nat.le_of_lt (small1000 hn)
      refine ⟨sl 7 (by decide), fun p np => ⟨p, rfl, ⟨menu2.map V.str, .inl (.inl upd_same)⟩, fun D nD => lc_list (K := K) (a := p) (xs := menu2.map V.str) (fun i H'' => H'' D = some (.lst ((menu2.take i).map fun z => V.bl (wordS z))) ∧ H'' p = some (.lst (menu2.map V.str)))
        ⟨upd_same, by rw [upd_ne (ne_of_none (o := .lst (menu2.map V.str)) upd_same nD)]; exact upd_same⟩ (fun i H'' _ hP => .inl (.inl hP.2)) (fun i x H'' hx hP => ?_) (fun H'' hP => ?_)⟩⟩
      · obtain ⟨eD, ep⟩ := hP
        have hpD : p ≠ D := ne_of_none (o := .lst (menu2.map V.str)) upd_same nD
        obtain ⟨z, hz, rfl⟩ : ∃ z, menu2[i]? = some z ∧ x = V.str z := by
          rw [List.getElem?_map] at hx
          cases hm : menu2[i]? with
          | none => rw [hm] at hx; cases hx
          | some z => rw [hm] at hx; cases hx; exact ⟨z, rfl, rfl⟩
        have hzm : z ∈ menu2 := List.mem_of_getElem? hz
        have dv : Dv H'' (.str z) := .str (menu2_ok z hzm)
        refine ⟨rfl, .str z, rfl, .str z, rfl, dv.tv, fun H3 sm3 => ⟨_, sm3 _ _ eD, ?_, ?_, ?_⟩⟩
        · rw [List.length_map, List.length_take]
          exact Nat.lt_of_le_of_lt (Nat.min_le_right _ _) (small1000 (by decide))
        · rw [upd_same, ← take_map (fun z => V.bl (wordS z)) _ i z hz]
          rfl
        · rw [upd_ne hpD]
          exact sm3 _ _ ep
      · obtain ⟨eD, ep⟩ := hP
        have e7 : (menu2.take (menu2.map V.str).length).map (fun z => V.bl (wordS z)) = (menu2.map wordS).map V.bl := by
          rw [List.length_map, List.take_length, List.map_map]
          rfl
        rw [e7, menu2_is] at eD
        refine ⟨.ref D, rfl, sl 7 (by decide), fun L nL => ⟨.list [.bool true, .bool false, .bool true, .bool false, .bool false, .bool false, .bool false], .list [.bool true, .bool false, .bool true, .bool false, .bool false, .bool false, .bool false], ?_, ?_, by decide, by decide, true, rfl, iteT ⟨rfl, ?_⟩⟩⟩
        · refine .lst (.inl (.inl ?_)) (.cons (.bl _) (.cons (.bl _) (.cons (.bl _) (.cons (.bl _) (.cons (.bl _) (.cons (.bl _) (.cons (.bl _) .nil)))))))
          rw [upd_ne (ne_of_none eD nL)]
          exact eD
        · exact .lst (.inl (.inl upd_same)) (.cons (.bl _) (.cons (.bl _) (.cons (.bl _) (.cons (.bl _) (.cons (.bl _) (.cons (.bl _) (.cons (.bl _) .nil)))))))
        · exact q _
end
/-! ### what the top has written -/
theorem all_mk {l : PySem.W.OpenLaw} {w : World} {K : PySem.W.Frag} {h : Heap} {mg : Str → Option Value} {fa f0 f1 f2 f3 f4 f5 f6 f7 : Addr} (X : K.In h) (G : h.Ns mainGlobals mg) (hfa : mg "law" = some (.ref fa))
    {t1 t2 : Tok} {od0 an0 od1 an1 od2 an2 od3 an3 od4 an4 od5 an5 od6 an6 od7 an7 : Option Addr} {sl0 sl1 sl2 sl3 sl4 sl5 sl6 sl7 : Array (Option Value)} {oc0 kV0 dc0 pm0 cd0 ct0 oc1 kV1 dc1 pm1 cd1 ct1 oc2 kV2 dc2 pm2 cd2 ct2 oc3 kV3 dc3 pm3 cd3 ct3 oc4 kV4 dc4 pm4 cd4 ct4 oc5 kV5 dc5 pm5 cd5 ct5 oc6 kV6 dc6 pm6 cd6 ct6 oc7 kV7 dc7 pm7 cd7 ct7 : Value}
    (a0 : PySem.W.nsIn K mainGlobals "is_word" = some (some (.ref f0))) (l0 : K.lookup f0 = some ⟨oc0, od0, .func (PySem.W.fnOf "is_word" "is_word" (defArgs sIsWord) (defBody sIsWord) (defScope sIsWord) .none kV0 dc0 pm0 an0 cd0 ct0), sl0⟩) (c0 : PySem.W.codeIn K cd0 "is_word" = true) (k0 : PySem.W.keepIn K (.ref f0) = true)
    (a1 : PySem.W.nsIn K mainGlobals "_law_dice" = some (some (.ref f1))) (l1 : K.lookup f1 = some ⟨oc1, od1, .func (PySem.W.fnOf "_law_dice" "_law_dice" (defArgs sDice) (defBody sDice) (defScope sDice) .none kV1 dc1 pm1 an1 cd1 ct1), sl1⟩) (c1 : PySem.W.codeIn K cd1 "_law_dice" = true) (k1 : PySem.W.keepIn K (.ref f1) = true)
    (a2 : PySem.W.nsIn K mainGlobals "_law_roll" = some (some (.ref f2))) (l2 : K.lookup f2 = some ⟨oc2, od2, .func (PySem.W.fnOf "_law_roll" "_law_roll" (defArgs sRoll) (defBody sRoll) (defScope sRoll) .none kV2 dc2 pm2 an2 cd2 ct2), sl2⟩) (c2 : PySem.W.codeIn K cd2 "_law_roll" = true) (k2 : PySem.W.keepIn K (.ref f2) = true)
    (a3 : PySem.W.nsIn K mainGlobals "_law_pick" = some (some (.ref f3))) (l3 : K.lookup f3 = some ⟨oc3, od3, .func (PySem.W.fnOf "_law_pick" "_law_pick" (defArgs sPick) (defBody sPick) (defScope sPick) .none kV3 dc3 pm3 an3 cd3 ct3), sl3⟩) (c3 : PySem.W.codeIn K cd3 "_law_pick" = true) (k3 : PySem.W.keepIn K (.ref f3) = true)
    (a4 : PySem.W.nsIn K mainGlobals "_law_some" = some (some (.ref f4))) (l4 : K.lookup f4 = some ⟨oc4, od4, .func (PySem.W.fnOf "_law_some" "_law_some" (defArgs sSome) (defBody sSome) (defScope sSome) .none kV4 dc4 pm4 an4 cd4 ct4), sl4⟩) (c4 : PySem.W.codeIn K cd4 "_law_some" = true) (k4 : PySem.W.keepIn K (.ref f4) = true)
    (a5 : PySem.W.nsIn K mainGlobals "_law_is_word" = some (some (.ref f5))) (l5 : K.lookup f5 = some ⟨oc5, od5, .func (PySem.W.fnOf "_law_is_word" "_law_is_word" (defArgs sIsWordL) (defBody sIsWordL) (defScope sIsWordL) .none kV5 dc5 pm5 an5 cd5 ct5), sl5⟩) (c5 : PySem.W.codeIn K cd5 "_law_is_word" = true) (k5 : PySem.W.keepIn K (.ref f5) = true)
    (a6 : PySem.W.nsIn K mainGlobals "_law_drawn_value" = some (some (.ref f6))) (l6 : K.lookup f6 = some ⟨oc6, od6, .func (PySem.W.fnOf "_law_drawn_value" "_law_drawn_value" (defArgs sDrawn) (defBody sDrawn) (defScope sDrawn) .none kV6 dc6 pm6 an6 cd6 ct6), sl6⟩) (c6 : PySem.W.codeIn K cd6 "_law_drawn_value" = true) (k6 : PySem.W.keepIn K (.ref f6) = true)
    (a7 : PySem.W.nsIn K mainGlobals "law" = some (some (.ref f7))) (l7 : K.lookup f7 = some ⟨oc7, od7, .func (PySem.W.fnOf "law" "law" (defArgs sLaw) (defBody sLaw) (defScope sLaw) .none kV7 dc7 pm7 an7 cd7 ct7), sl7⟩) (c7 : PySem.W.codeIn K cd7 "law" = true) (k7 : PySem.W.keepIn K (.ref f7) = true)
    (z0 : PySem.W.nsIn K mainGlobals "len" = some none) (z1 : PySem.W.nsIn K mainGlobals "int" = some none) (z2 : PySem.W.nsIn K mainGlobals "abs" = some none) (z3 : PySem.W.nsIn K mainGlobals "max" = some none) (z4 : PySem.W.nsIn K mainGlobals "min" = some none) (z5 : PySem.W.nsIn K mainGlobals "list" = some none) (z6 : PySem.W.nsIn K mainGlobals "range" = some none) (z7 : PySem.W.nsIn K mainGlobals "isinstance" = some none) (z8 : PySem.W.nsIn K mainGlobals "str" = some none) (z9 : PySem.W.nsIn K mainGlobals "all" = some none) (z10 : PySem.W.nsIn K mainGlobals "repr" = some none)
    (v1 : PySem.W.nsIn K mainGlobals "MAX_LETTERS" = some (some (.int 8 t1))) (v2 : PySem.W.nsIn K mainGlobals "_LETTERS" = some (some (.str letters t2))) :
    ∃ fd : FuncData, (∀ (s : Shared) (v : Value), BindsTo s fd ⟨[v], []⟩ [("script", v)]) ∧ ∀ base : Heap, K.In base → base.Ns mainGlobals mg → FnOk l.prog w K mg base CX0 4 fa fd ["script"] (spLaw K) := by
  have e := hfa.symm.trans (PySem.W.mg_of X G a7)
  cases e
  have F0 := fun_mk (st := sIsWord) l0 c0 k0
  have F1 := fun_mk (st := sDice) l1 c1 k1
  have F2 := fun_mk (st := sRoll) l2 c2 k2
  have F3 := fun_mk (st := sPick) l3 c3 k3
  have F4 := fun_mk (st := sSome) l4 c4 k4
  have F5 := fun_mk (st := sIsWordL) l5 c5 k5
  have F6 := fun_mk (st := sDrawn) l6 c6 k6
  have F7 := fun_mk (st := sLaw) l7 c7 k7
  have b0 := F0.binds (ps := ["value"]) fun _ _ _ _ _ _ us hl => match us, hl with | [_], _ => rfl
  have b1 := F1.binds (ps := ["script", "spot"]) fun _ _ _ _ _ _ us hl => match us, hl with | [_, _], _ => rfl
  have b2 := F2.binds (ps := ["dice", "total"]) fun _ _ _ _ _ _ us hl => match us, hl with | [_, _], _ => rfl
  have b3 := F3.binds (ps := ["dice", "items"]) fun _ _ _ _ _ _ us hl => match us, hl with | [_, _], _ => rfl
  have b4 := F4.binds (ps := ["dice", "items", "size"]) fun _ _ _ _ _ _ us hl => match us, hl with | [_, _, _], _ => rfl
  have b5 := F5.binds (ps := ["value"]) fun _ _ _ _ _ _ us hl => match us, hl with | [_], _ => rfl
  have b6 := F6.binds (ps := ["dice"]) fun _ _ _ _ _ _ us hl => match us, hl with | [_], _ => rfl
  have m0 := PySem.W.mg_of X G a0
  have m1 := PySem.W.mg_of X G a1
  have m2 := PySem.W.mg_of X G a2
  have m3 := PySem.W.mg_of X G a3
  have m4 := PySem.W.mg_of X G a4
  have m5 := PySem.W.mg_of X G a5
  have m6 := PySem.W.mg_of X G a6
  have n_len := PySem.W.mg_none_of X G z0
  have n_int := PySem.W.mg_none_of X G z1
  have n_abs := PySem.W.mg_none_of X G z2
  have n_max := PySem.W.mg_none_of X G z3
  have n_min := PySem.W.mg_none_of X G z4
  have n_list := PySem.W.mg_none_of X G z5
  have n_range := PySem.W.mg_none_of X G z6
  have n_isinstance := PySem.W.mg_none_of X G z7
  have n_str := PySem.W.mg_none_of X G z8
  have n_all := PySem.W.mg_none_of X G z9
  have n_repr := PySem.W.mg_none_of X G z10
  have gM := PySem.W.mg_of X G v1
  have gL := PySem.W.mg_of X G v2
  refine ⟨PySem.W.fnOf "law" "law" (defArgs sLaw) (defBody sLaw) (defScope sLaw) .none kV7 dc7 pm7 an7 cd7 ct7, fun s v => .of_eq rfl, fun base _ _ => ?_⟩
  have GW : ∀ k, FnOk l.prog w K mg base CX0 (k + 1) f0 _ ["value"] (spWord K) := fun k => ok_word F0 n_len n_isinstance n_str n_all gM gL
  have GD : ∀ k, FnOk l.prog w K mg base CX0 (k + 1) f1 _ ["script", "spot"] (spDice K) := fun k => ok_dice F1 n_len n_int n_abs n_max
  have GR : ∀ k, FnOk l.prog w K mg base CX0 (k + 1) f2 _ ["dice", "total"] spRoll := fun k => ok_roll F2 n_int
  have GP : ∀ k, FnOk l.prog w K mg base CX0 (k + 2) f3 _ ["dice", "items"] spPick := fun k => ok_pick (k := k + 1) F3 (GR k) F2.kp b2 m2 n_len
  have GS : ∀ k, FnOk l.prog w K mg base CX0 (k + 2) f4 _ ["dice", "items", "size"] (spSome K) := fun k => ok_some (k := k + 1) F4 (GR k) F2.kp b2 m2 n_len n_list n_range n_min
  have GL : ∀ k, FnOk l.prog w K mg base CX0 (k + 1) f5 _ ["value"] (spWord K) := fun k => ok_wordL F5 n_len n_isinstance n_str
  have GV : FnOk l.prog w K mg base CX0 3 f6 _ ["dice"] spDrawn := ok_drawn (k := 1) F6 (GR 1) F2.kp b2 m2 (GP 0) F3.kp b3 m3 (GS 0) F4.kp b4 m4 n_list n_range
  exact ok_law (k := 1) F7 (GD 2) F1.kp b1 m1 GV F6.kp b6 m6 (GW 2) F0.kp b0 m0 (GL 2) F5.kp b5 m5 n_len n_range n_min n_max n_repr gM
end KP
open PySem PySem.W PyProof.Rows
set_option maxHeartbeats 0 in
theorem PySem.Challenge.cw_keptways_k01_words_judged_holds : PySem.Challenge.rw_keptways_k01_words_judged.Holds := by
  w_on; o_law; k_head; (case hw => w_witness2)
  k_fill
  refine L2.walk_of (l := PySem.Challenge.rw_keptways_k01_words_judged) (n := 63) (k := 4) (x := "script") (CX := fun _ => L2.CX0) (sp := fun w => KP.spLaw _) rfl (by decide) rfl ⟨rfl, by decide, by decide⟩ (fun w h Y => PySem.W.kIn_of Y) ?F (fun _ _ a ns hl _ hS => ⟨a, ns, rfl, hS, hl, fun _ => rfl⟩) (fun _ _ _ _ _ h => h)
  case F =>
    intro w mg fa h KX G hmg
    refine' KP.all_mk KX G hmg ?a0 ?l0 ?c0 ?k0 ?a1 ?l1 ?c1 ?k1 ?a2 ?l2 ?c2 ?k2 ?a3 ?l3 ?c3 ?k3 ?a4 ?l4 ?c4 ?k4 ?a5 ?l5 ?c5 ?k5 ?a6 ?l6 ?c6 ?k6 ?a7 ?l7 ?c7 ?k7 ?z0 ?z1 ?z2 ?z3 ?z4 ?z5 ?z6 ?z7 ?z8 ?z9 ?z10 ?v1 ?v2
    (case a0 => k_is); (case l0 => k_is); (case c0 => k_is); (case k0 => k_is); (case a1 => k_is); (case l1 => k_is); (case c1 => k_is); (case k1 => k_is); (case a2 => k_is); (case l2 => k_is); (case c2 => k_is); (case k2 => k_is); (case a3 => k_is); (case l3 => k_is); (case c3 => k_is); (case k3 => k_is); (case a4 => k_is); (case l4 => k_is); (case c4 => k_is); (case k4 => k_is); (case a5 => k_is); (case l5 => k_is); (case c5 => k_is); (case k5 => k_is); (case a6 => k_is); (case l6 => k_is); (case c6 => k_is); (case k6 => k_is); (case a7 => k_is); (case l7 => k_is); (case c7 => k_is); (case k7 => k_is); (case z0 => k_is); (case z1 => k_is); (case z2 => k_is); (case z3 => k_is); (case z4 => k_is); (case z5 => k_is); (case z6 => k_is); (case z7 => k_is); (case z8 => k_is); (case z9 => k_is); (case z10 => k_is); (case v1 => k_is); (case v2 => k_is)
