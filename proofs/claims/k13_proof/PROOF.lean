import PyProof.Rows.All
import Wide.All
import OpenK.AllK
import Wide.FinOn
import HandS.ForMost
import HandS.IsInst
import HandS.Wide
import HandS.Codes
import HandS.NoneIn
import KE.KDictPairs
import KE.KDictKeyed
import HandS.DictTup
import HandS.TupLen
import HandS.Conv
import KE.SortCalls
import KE.KDictDisplayH
import PySem.Challenge.RW_keptways_k13_whole_weakest_and_lifted_lo
import HandS.SetKeys
import HandS.SetFor
import HandS.Walk
import HandS.DictComp
import HandS.Property
import HandS.ClsMeth
import HandS.Star
import HandS.Flow
import HandS.TupAny
import HandS.TupLe
import HandS.Zip
import HandS.FStr
import HandS.MethStar
import HandS.ListItems
import HandS.Defaults
import KE.GoesEnumKw
import HandS.TryOnly
import HandS.Text
import HandS.SortKw
set_option Elab.async false
set_option linter.all false
set_option maxRecDepth 100000
namespace KP
open PySem PySem.Spec PyProof.Rows L2
def topS (i : Nat) : Stmt := PySem.Challenge.pw_keptways_k13_whole_weakest_and_lifted_lo.main.body.getD i (.Pass ⟨0, 0, 0, 0⟩)
abbrev sIsInt : Stmt := topS 11
abbrev sIsWord : Stmt := topS 12
abbrev sIsPair : Stmt := topS 13
abbrev sArePlaces : Stmt := topS 30
abbrev sAreTies : Stmt := topS 31
abbrev sNet : Stmt := topS 38
abbrev sDice : Stmt := topS 45
abbrev sRoll : Stmt := topS 46
abbrev sPick : Stmt := topS 47
abbrev sSome : Stmt := topS 48
abbrev sPairL : Stmt := topS 49
abbrev sPairsL : Stmt := topS 50
abbrev sWith : Stmt := topS 51
abbrev sNetL : Stmt := topS 52
abbrev sKnown : Stmt := topS 53
theorem scDice : FnScope ["script", "spot", "cell", "great", "blend"] ["script", "spot"] (defScope sDice) := ⟨rfl, rfl, rfl, by decide +kernel, rfl, by decide +kernel, by decide +kernel⟩
theorem scRoll : FnScope ["dice", "total", "found", "one", "two"] ["dice", "total"] (defScope sRoll) := ⟨rfl, rfl, rfl, by decide +kernel, rfl, by decide +kernel, by decide +kernel⟩
theorem scPick : FnScope ["dice", "items"] ["dice", "items"] (defScope sPick) := ⟨rfl, rfl, rfl, by decide +kernel, rfl, by decide +kernel, by decide +kernel⟩
theorem scSome : FnScope ["dice", "items", "size", "left", "turn"] ["dice", "items", "size"] (defScope sSome) := ⟨rfl, rfl, rfl, by decide +kernel, rfl, by decide +kernel, by decide +kernel⟩
/-! ### heaps -/
theorem same_upd {H : Hp} {p : Addr} {o : HO} (h : H p = none) : Same H (upd H p o) := fun b x e => by
  rw [upd_ne (ne_of_none e h)]
  exact e
/-- the dice at d are three whole numbers -/
def DiceAt (H : Hp) (d : Addr) : Prop := ∃ x y z : Int, H d = some (.lst [.int x, .int y, .int z])
/-- all that was tracked stands, but for the dice at d, which are dice still -/
structure Sd (d : Addr) (H H' : Hp) : Prop where
  keep : ∀ b o, b ≠ d → H b = some o → H' b = some o
  dice : DiceAt H' d
theorem Sd.trans {d : Addr} {H H1 H2 : Hp} (a : Sd d H H1) (b : Sd d H1 H2) : Sd d H H2 := ⟨fun c o hc h => b.keep c o hc (a.keep c o hc h), b.dice⟩
theorem Sd.of_same {d : Addr} {H H1 : Hp} (a : Same H H1) (h : DiceAt H d) : Sd d H H1 := ⟨fun c o _ h => a c o h, by
  obtain ⟨x, y, z, h⟩ := h
  exact ⟨x, y, z, a _ _ h⟩⟩
theorem Sd.then_same {d : Addr} {H H1 H2 : Hp} (a : Sd d H H1) (b : Same H1 H2) : Sd d H H2 := a.trans (.of_same b a.dice)
theorem Sd.refl {d : Addr} {H : Hp} (h : DiceAt H d) : Sd d H H := .of_same (Same.refl H) h
theorem Sd.free {d : Addr} {H H' : Hp} (e : Sd d H H') {l : Addr} (h : H' l = none) : H l = none := by
  cases q : H l with
  | none => rfl
  | some o =>
    by_cases hl : l = d
    · subst hl
      obtain ⟨x, y, z, e⟩ := e.dice
      rw [e] at h
      cases h
    · rw [e.keep l o hl q] at h
      cases h
theorem DiceAt.ne {H : Hp} {d p : Addr} (h : DiceAt H d) (n : H p = none) : d ≠ p := by
  obtain ⟨x, y, z, h⟩ := h
  exact ne_of_none h n
theorem sd_put {d : Addr} {H : Hp} (x y z : Int) : Sd d H (upd H d (.lst [.int x, .int y, .int z])) := ⟨fun b o hb h => by
  rw [upd_ne hb]
  exact h, ⟨x, y, z, upd_same⟩⟩
theorem sd_new {d p : Addr} {H : Hp} {o : HO} (h : DiceAt H d) (n : H p = none) : Sd d H (upd H p o) := .of_same (same_upd n) h
section
variable {X : Cx}
/-! ### rules that the layer has not -/
theorem op_powB : OpR X (binaryOp .Pow) (rI (fun i j => 0 ≤ j ∧ (Builtin.Int.intBits i : Int) * j ≤ 2 ^ 27) fun i j => .int (i ^ j.toNat)) := opI fun _ _ _ _ _ _ _ hc q => pow_int hc.1 hc.2 q
/-- the same rules with the written part named, as a comprehension's block wants them -/
theorem call_len_seqK {K : PySem.W.Frag} (hK : X.K = K) : CallR X (.builtin "len") (fun xs H Q => ∃ p ys, xs = [.ref p] ∧ (SqL K H p ys ∨ SqT K H p ys) ∧ Q (.int ys.length) H) := by
  subst hK
  exact call_len_seq
theorem ix_listK {K : PySem.W.Frag} (hK : X.K = K) : IxR X (rIxL K) := by
  subst hK
  exact ix_list
theorem pe_bmK {K : PySem.W.Frag} {T name id : String} {r : V → List V → Hp → VK → Prop} {o e : Expr} {es : List Expr} {to : TE} {t : TA} {apos cpos : Pos} (hK : X.K = K) (pa : PlainAttrs T) (slot : Slot T name id) (hty : typeOf (.builtin id) = pure (.type "method_descriptor")) (hm : MtR X id r) (ho : PE X o to) (ha : PA X (e :: es) t)
    (hbase : attributeBase o name X.env (eval o X.env) = eval o X.env := by rfl)
    (hfew : ((backTo cpos (starEach (e :: es) X.env)).all (fun x => !x.1) && (backToKw cpos (keywordEach [] X.env)).all (fun x => x.1.isSome)
      && decide ((e :: es).length + ([] : List Keyword).length + (if ([] : List Keyword).isEmpty then 0 else 1) < 30)) = true := by rfl)
    (hline : (apos.endLine == cpos.line) = true := by rfl) (hs : starEach (e :: es) X.env = (false, eval e X.env) :: starEach es X.env := by rfl) (hplain : (backTo cpos (starEach es X.env)).any (·.1) = false := by rfl) :
    PE X (.Call (.Attribute o name apos) (e :: es) [] cpos) (tBM K T r to t) := by
  subst hK
  exact pe_bm pa slot hty hm ho ha hbase hfew hline hs hplain
theorem call_repr_bl : CallR X (.builtin "repr") (fun xs H Q => ∃ b, xs = [.bl b] ∧ Q (.str (if b then "True" else "False")) H) := by
  intro pins s σ H xs us Q I r h
  obtain ⟨b, rfl, q⟩ := h
  obtain ⟨u, rfl, rx⟩ := vals1 r
  cases (show u = Value.bool b from rx)
  exact PySem.P.repr_of_bool ⟨.str _, H, I.tok _, ⟨_, rfl⟩, q⟩
end
section
variable {P : Program} {w : World} {K : PySem.W.Frag} {mg : Str → Option Value} {base : Heap}
/-! ### dice -/
def spDice (K : PySem.W.Frag) : Sp := fun vs H Q _ => ∃ (a : Addr) (ns : List Int) (k : Int), vs = [.ref a, .int k] ∧ SqL K H a (ns.map V.int) ∧ ns.length ≤ 63 ∧ 0 ≤ k ∧
  ∀ D x y z, H D = none → Q (.ref D) (upd H D (.lst [.int x, .int y, .int z]))
theorem hP : (0 : Int) < 2305843009213693661 := by decide
theorem big_ok : (Builtin.Int.intBits ((10 : Int) ^ (60 : Int).toNat) : Int) * 10 ≤ 2 ^ 27 := by decide +kernel
theorem big_ne : ((10 : Int) ^ (60 : Int).toNat) ^ (10 : Int).toNat ≠ 0 := by decide +kernel
theorem ok_dice {f : Addr} {fd : FuncData} {k : Nat} (F : Fun K "_law_dice" "_law_dice" sDice f fd) (ml : mg "len" = none) (mi : mg "int" = none) (ma : mg "abs" = none) (mm : mg "max" = none) :
    FnOk P w K mg base CX0 (k + 1) f fd ["script", "spot"] (spDice K) := by
  refine F.ok scDice (fun vs H Q E h => ?_) (fun cdv A outer s H vs Q E hr h => ?_)
  · obtain ⟨a, ns, k, rfl, _⟩ := h
    rfl
  · obtain ⟨a, ns, k, rfl, hS, hlen, hk, q⟩ := h
    refine ⟨_, pss_cons (ps_set (i := 2) scDice.nd rfl (.inl rfl) (pe_op op_add (pe_op op_mul pe_int (pv 1)) pe_int))
      (C8.pss_cut (ps_if (pt_cmpR op_lt (pv 1) (pe_callB call_len_seq (by rfl) ml PySem.boot_len (pa_cons (pv 0) pa_nil)) (nomark _))
        (pss_one (ps_set (i := 2) scDice.nd rfl (.inl rfl) (pe_ix ix_list (pv 0) (pv 1) (fun _ _ => rfl)))) pss_nil)
      (pss_cons (ps_set (i := 3) scDice.nd rfl (.inl rfl) (pe_op op_modN (pe_callTy call_int1 (by rfl) mi (by decide +kernel) (pa_cons (pe_callB call_abs (by rfl) ma (by decide +kernel) (pa_cons (pv 2) pa_nil)) pa_nil))
          (pe_op op_powB (pe_op op_pow pe_int pe_int) pe_int)))
      (pss_cons (ps_set (i := 4) scDice.nd rfl (.inl rfl) (pe_op op_add (pe_op op_add (pe_op op_add
          (pe_op op_mul (pe_op op_mod (pe_callTy call_int1 (by rfl) mi (by decide +kernel) (pa_cons (pv 3) pa_nil)) pe_int) pe_int)
          (pe_op op_mul pe_int (pv 1))) (pe_op op_mul pe_int (pe_callTy call_int1 (by rfl) mi (by decide +kernel) (pa_cons (pe_cmpR op_lt (pv 2) pe_int (nomark _)) pa_nil)))) pe_int))
      (pss_one (ps_ret (pe_lst (pa_cons (pe_callB (call_max2 rfl) (by rfl) mm (by decide +kernel) (pa_cons pe_int (pa_cons (pe_op op_sub (pv 3) (pe_op op_pow pe_int pe_int)) pa_nil)))
          (pa_cons (pe_op op_mod (pe_callTy call_int1 (by rfl) mi (by decide +kernel) (pa_cons (pv 4) pa_nil)) pe_int) (pa_cons pe_int pa_nil)))))))))
      , ?_⟩
    refine ⟨.int k, rfl, 67, k, rfl, rfl, .inl (by decide), _, 23, rfl, rfl, ?_⟩
    refine ⟨fun σ' H' => ∃ c : Int, σ' = [some (.ref a), some (.int k), some (.int c), none, none] ∧ H' = H, ?_, ?_⟩
    · refine ⟨.int k, rfl, .ref a, rfl, a, ns.map V.int, rfl, .inl hS, _, _, rfl, rfl, _, rfl, ite2 (fun e => ?_) (fun e => ?_)⟩
      · have hk2 : k < ((ns.map V.int).length : Int) := of_decide_eq_true e
        obtain ⟨j, rfl⟩ : ∃ j : Nat, k = (j : Int) := ⟨k.toNat, by omega⟩
        have hj : j < ns.length := by
          rw [List.length_map] at hk2
          omega
        have hg : (ns.map V.int)[j]? = some (.int ns[j]) := by
          rw [List.getElem?_map, List.getElem?_eq_getElem hj]
          rfl
        exact ⟨.ref a, rfl, .int (j : Int), rfl, a, _, (j : Int), .int ns[j], rfl, rfl, hS, atI_nat hg, ns[j], rfl, rfl⟩
      · exact ⟨_, rfl, rfl⟩
    · rintro σ' H' ⟨c, rfl, rfl⟩
      refine ⟨.int c, rfl, c, rfl, .inl ⟨_, rfl, 10, 60, rfl, rfl, ⟨by decide, by decide, by decide⟩, _, 10, rfl, rfl, ⟨by decide, big_ok⟩, _, _, rfl, rfl, big_ne, ?_⟩⟩
      dsimp only
      generalize Int.fmod _ _ = g
      refine ⟨.int g, rfl, .inl ⟨g, rfl, g, 2305843009213693661, rfl, rfl, hP, _, 1000409, rfl, rfl, .inl ⟨by omega, by omega⟩, ?_⟩⟩
      refine ⟨.int k, rfl, 8081, k, rfl, rfl, .inl (by decide), _, _, rfl, rfl, ?_⟩
      refine ⟨.int c, rfl, _, _, rfl, rfl, .inr ⟨_, rfl, 53, _, rfl, rfl, .inl (by decide), _, _, rfl, rfl, _, 29, rfl, rfl, ?_⟩⟩
      dsimp only
      generalize ((g % 2305843009213693661 * 1000409 + 8081 * k + 53 * _ + 29 : Int)) = b
      refine ⟨.int g, rfl, 10, 18, rfl, rfl, ⟨by decide, by decide, by decide⟩, g, _, rfl, rfl, 0, _, rfl, ?_⟩
      refine ⟨.int b, rfl, .inl ⟨b, rfl, b, _, rfl, rfl, hP, ?_⟩⟩
      exact ⟨by show 3 ≤ sizeLine; decide, fun D hD => q D _ _ _ hD⟩
/-- one roll: a number below total; the dice are dice still, all else is as it was -/
def spRoll : Sp := fun vs H Q _ => ∃ (d : Addr) (n : Int), vs = [.ref d, .int n] ∧ DiceAt H d ∧ 0 < n ∧ n < 1073741824 ∧
  ∀ (r : Int) x y z, 0 ≤ r → r < n → Q (.int r) (upd H d (.lst [.int x, .int y, .int z]))
theorem ok_roll {f : Addr} {fd : FuncData} {k : Nat} (F : Fun K "_law_roll" "_law_roll" sRoll f fd) (mi : mg "int" = none) :
    FnOk P w K mg base CX0 (k + 1) f fd ["dice", "total"] spRoll := by
  refine F.ok scRoll (fun vs H Q E h => ?_) (fun cdv A outer s H vs Q E hr h => ?_)
  · obtain ⟨d, n, rfl, _⟩ := h
    rfl
  · obtain ⟨d, n, rfl, ⟨x, y, z, hd⟩, h0, hn, q⟩ := h
    refine ⟨_, pss_cons (ps_if (pt_cmpR op_gt (pe_ix ix_list (pv 0) pe_int (fun _ _ => rfl)) pe_int (nomark _))
        (pss_cons (ps_set (i := 2) scRoll.nd rfl (.inl rfl) (pe_op op_modN (pe_callTy call_int1 (by rfl) mi (by decide +kernel) (pa_cons (pe_ix ix_list (pv 0) pe_int (fun _ _ => rfl)) pa_nil)) (pv 1)))
        (pss_cons (ps_asg (pe_op op_fdivN (pe_ix ix_list (pv 0) pe_int (fun _ _ => rfl)) (pv 1)) (pg_sub (pv 0) pe_int set_list))
        (pss_one (ps_ret (pv 2))))) pss_nil)
      (pss_cons (ps_asg (pe_op op_add (pe_ix ix_list (pv 0) pe_int (fun _ _ => rfl)) pe_int) (pg_sub (pv 0) pe_int set_list))
      (pss_cons (ps_set (i := 3) scRoll.nd rfl (.inl rfl) (pe_op op_mod (pe_callTy call_int1 (by rfl) mi (by decide +kernel) (pa_cons (pe_op op_add (pe_ix ix_list (pv 0) pe_int (fun _ _ => rfl)) (pe_op op_mul pe_int (pe_ix ix_list (pv 0) pe_int (fun _ _ => rfl)))) pa_nil)) pe_int))
      (pss_cons (ps_set (i := 4) scRoll.nd rfl (.inl rfl) (pe_op op_add (pe_op op_mul (pe_op op_mod (pe_callTy call_int1 (by rfl) mi (by decide +kernel) (pa_cons (pe_op op_mul (pv 3) (pv 3)) pa_nil)) pe_int) (pv 3)) (pe_op op_mul pe_int (pe_ix ix_list (pv 0) pe_int (fun _ _ => rfl)))))
      (pss_cons (ps_set (i := 4) scRoll.nd rfl (.inl rfl) (pe_op op_mod (pe_callTy call_int1 (by rfl) mi (by decide +kernel) (pa_cons (pv 4) pa_nil)) pe_int))
      (pss_one (ps_ret (pe_op op_modN (pe_callTy call_int1 (by rfl) mi (by decide +kernel) (pa_cons (pe_op op_fdiv (pv 4) pe_int) pa_nil)) (pv 1)))))))), ?_⟩
    have hL : SqL K H d [.int x, .int y, .int z] := .inl (.inl hd)
    have hne : n ≠ 0 := by omega
    refine ⟨.ref d, rfl, d, _, 0, .int x, rfl, rfl, hL, rfl, x, 0, rfl, rfl, _, rfl, ite2 (fun e => ?_) (fun e => ?_)⟩
    · have hb : n ≠ 0 ∧ n.natAbs < 1073741824 := ⟨hne, by omega⟩
      refine ⟨.ref d, rfl, d, _, 0, .int x, rfl, rfl, hL, rfl, .inl ⟨x, rfl, .int n, rfl, x, n, rfl, rfl, hne, ?_⟩⟩
      refine ⟨.ref d, rfl, d, _, 0, .int x, rfl, rfl, hL, rfl, .int n, rfl, x, n, rfl, rfl, hb, ?_⟩
      refine ⟨.ref d, rfl, d, _, 0, 0, rfl, rfl, hd, rfl, _, rfl, ?_⟩
      exact q _ _ y z (Int.fmod_nonneg_of_pos _ h0) (Int.fmod_lt_of_pos _ h0)
    · refine ⟨.ref d, rfl, d, _, 2, .int z, rfl, rfl, hL, rfl, z, 1, rfl, rfl, ?_⟩
      refine ⟨.ref d, rfl, d, _, 2, 2, rfl, rfl, hd, rfl, ?_⟩
      have hL2 : SqL K (upd H d (.lst [.int x, .int y, .int (z + 1)])) d [.int x, .int y, .int (z + 1)] := .inl (.inl upd_same)
      refine ⟨.ref d, rfl, d, _, 1, .int y, rfl, rfl, hL2, rfl, .ref d, rfl, d, _, 2, .int (z + 1), rfl, rfl, hL2, rfl, 998244319, _, rfl, rfl, .inl (by decide), y, _, rfl, rfl, .inl ⟨_, rfl, _, _, rfl, rfl, (by show (0 : Int) < 2305843009213693951; decide), ?_⟩⟩
      dsimp only
      have a0 : 0 ≤ (y + 998244319 * (z + 1)) % 2305843009213693951 := Int.emod_nonneg _ (by decide)
      have a1 : (y + 998244319 * (z + 1)) % 2305843009213693951 < 2305843009213693951 := Int.emod_lt_of_pos _ (by decide)
      generalize (y + 998244319 * (z + 1)) % 2305843009213693951 = o at a0 a1 ⊢
      refine ⟨.int o, rfl, .int o, rfl, o, o, rfl, rfl, .inl ⟨by omega, by omega⟩, .inl ⟨_, rfl, _, _, rfl, rfl, (by show (0 : Int) < 2305843009213693907; decide), ?_⟩⟩
      refine ⟨.int o, rfl, _, o, rfl, rfl, .inl ⟨by omega, by omega⟩, .ref d, rfl, d, _, 2, .int (z + 1), rfl, rfl, hL2, rfl, 9421, _, rfl, rfl, .inl (by decide), _, _, rfl, rfl, ?_⟩
      dsimp only
      generalize (o * o % 2305843009213693907 * o + 9421 * (z + 1)) = t
      refine ⟨.int t, rfl, .inl ⟨t, rfl, t, _, rfl, rfl, hP, ?_⟩⟩
      dsimp only
      generalize t % 2305843009213693661 = t2
      refine ⟨.int t2, rfl, t2, 8192, rfl, rfl, ⟨by decide, by decide⟩, .inl ⟨_, rfl, .int n, rfl, _, n, rfl, rfl, hne, ?_⟩⟩
      exact q _ x y (z + 1) (Int.fmod_nonneg_of_pos _ h0) (Int.fmod_lt_of_pos _ h0)
/-- one of the items -/
def spPick : Sp := fun vs H Q _ => ∃ (d p : Addr) (xs : List V), vs = [.ref d, .ref p] ∧ DiceAt H d ∧ H p = some (.lst xs) ∧ p ≠ d ∧ 0 < xs.length ∧ xs.length < 1073741824 ∧
  ∀ v H', v ∈ xs → Sd d H H' → Q v H'
theorem ok_pick {f g : Addr} {fd gd : FuncData} {k : Nat} (F : Fun K "_law_pick" "_law_pick" sPick f fd) (G : FnOk P w K mg base CX0 k g gd ["dice", "total"] spRoll) (gk : PySem.W.keepIn K (.ref g) = true) (gb : Binds K gd ["dice", "total"] []) (mg1 : mg "_law_roll" = some (.ref g)) (ml : mg "len" = none) :
    FnOk P w K mg base CX0 (k + 1) f fd ["dice", "items"] spPick := by
  refine F.ok scPick (fun vs H Q E h => ?_) (fun cdv A outer s H vs Q E hr h => ?_)
  · obtain ⟨d, p, xs, rfl, _⟩ := h
    rfl
  · obtain ⟨d, p, xs, rfl, hd, hp, hne, h0, h1, q⟩ := h
    refine ⟨_, pss_one (ps_ret (pe_ix ix_list (pv 1) (pe_call G hr (by rfl) mg1 gk gb .nil pass0 (pa_cons (pv 0) (pa_cons (pe_callB call_len_seq (by rfl) ml PySem.boot_len (pa_cons (pv 1) pa_nil)) pa_nil))) (fun _ _ => rfl))), ?_⟩
    refine ⟨.ref p, rfl, .ref d, rfl, .ref p, rfl, p, xs, rfl, .inl (.inl (.inl hp)), d, _, rfl, hd, by omega, by omega, fun r x y z r0 r1 => ?_⟩
    obtain ⟨j, rfl⟩ : ∃ j : Nat, r = (j : Int) := ⟨r.toNat, by omega⟩
    have hj : j < xs.length := by omega
    refine ⟨p, xs, (j : Int), xs[j], rfl, rfl, .inl (.inl ?_), atI_nat (List.getElem?_eq_getElem hj), q _ _ (List.getElem_mem hj) (sd_put x y z)⟩
    rw [upd_ne hne]
    exact hp
end
section
variable {P : Program} {w : World} {K : PySem.W.Frag} {mg : Str → Option Value} {base : Heap}
/-- so many of the items, drawn one behind the other: what is drawn and what is left are the items in another order -/
def spSome (K : PySem.W.Frag) : Sp := fun vs H Q _ => ∃ (d p : Addr) (m : Int) (xs : List V), vs = [.ref d, .ref p, .int m] ∧ DiceAt H d ∧ SqL K H p xs ∧ 0 ≤ m ∧ m < 1000000 ∧ xs.length < 1000000 ∧
  ∀ D ys rest H', (ys ++ rest).Perm xs → ys.length = min m.toNat xs.length → H D = none → H' D = some (.lst ys) → Sd d H H' → Q (.ref D) H'
theorem erase_perm {α : Type} : ∀ (xs : List α) (j : Nat) (h : j < xs.length), (xs[j] :: xs.eraseIdx j).Perm xs
  | [], j, h => by simp at h
  | x :: r, 0, h => List.Perm.refl _
  | x :: r, j + 1, h => by
    have ih := erase_perm r j (by simpa using h)
    show (r[j]'(by simpa using h) :: x :: r.eraseIdx j).Perm (x :: r)
    exact (List.Perm.swap _ _ _).trans (ih.cons x)
theorem ok_some {f g : Addr} {fd gd : FuncData} {k : Nat} (F : Fun K "_law_some" "_law_some" sSome f fd) (G : FnOk P w K mg base CX0 k g gd ["dice", "total"] spRoll) (gk : PySem.W.keepIn K (.ref g) = true) (gb : Binds K gd ["dice", "total"] []) (mg1 : mg "_law_roll" = some (.ref g)) (ml : mg "len" = none) (mL : mg "list" = none) (mR : mg "range" = none) (mM : mg "min" = none) :
    FnOk P w K mg base CX0 (k + 1) f fd ["dice", "items", "size"] (spSome K) := by
  refine F.ok scSome (fun vs H Q E h => ?_) (fun cdv A outer s H vs Q E hr h => ?_)
  · obtain ⟨d, p, m, xs, rfl, _⟩ := h
    rfl
  · obtain ⟨d, p, m, xs, rfl, hd, hp, m0, m1, hx, q⟩ := h
    refine ⟨_, pss_cons (ps_set (i := 3) scSome.nd rfl (.inr rfl) (pe_callTy call_list_of (by rfl) mL (by decide +kernel) (pa_cons (pv 1) pa_nil)))
      (pss_one (ps_ret (pe_lc (own := [("turn", 4)]) (g := gName 4) (tt := tYes) rfl scSome.nd (pi_range1 (by rfl) mR (pa_cons (pe_callB (call_min2 rfl) (by rfl) mM (by decide +kernel) (pa_cons (pv 2) (pa_cons (pe_callB call_len_seq (by rfl) ml PySem.boot_len (pa_cons (pv 3) pa_nil)) pa_nil))) pa_nil))
        (blkOk_by (N := ["dice", "items", "size", "left", "turn"]) (sc := defScope sSome) (by decide +kernel)) (fun _ _ _ _ _ => pg_name (i := 4) scSome.nd rfl (Or.inl rfl)) (fun _ _ _ _ _ => pts_nil)
        (fun _ _ _ _ _ => pe_bmK (K := K) rfl PySem.F.plainAttrs_list PySem.F.slot_list_pop PySem.F.type_list_pop mt_popAt (pv 3)
          (pa_cons (pe_call G hr (by rfl) mg1 gk gb .nil pass0 (pa_cons (pv 0) (pa_cons (pe_callB (call_len_seqK (K := K) rfl) (by rfl) ml PySem.boot_len (pa_cons (pv 3) pa_nil)) pa_nil))) pa_nil))))), ?_⟩
    refine ⟨.ref p, rfl, p, xs, rfl, .inl hp, fun l nl => ?_⟩
    have hl : (upd H l (.lst xs)) l = some (.lst xs) := upd_same
    have dl : d ≠ l := hd.ne nl
    refine ⟨.int m, rfl, .ref l, rfl, l, xs, rfl, .inl (.inl (.inl hl)), m, _, rfl, ?_⟩
    obtain ⟨c, hc, c0, c1⟩ : ∃ c : Nat, (if ((xs.length : Int) < m) then (xs.length : Int) else m) = (c : Int) ∧ c = min m.toNat xs.length ∧ c ≤ 1000000 := by
      by_cases hh : (xs.length : Int) < m
      · rw [if_pos hh]
        exact ⟨xs.length, rfl, by omega, by omega⟩
      · rw [if_neg hh]
        exact ⟨m.toNat, by omega, by omega, by omega⟩
    refine ⟨(c : Int), congrArg (fun z => [V.int z]) hc, by omega, by omega, fun D nD => ?_⟩
    have lD : l ≠ D := ne_of_none hl nD
    have nD0 : H D = none := (same_upd nl).free nD
    have dD : d ≠ D := hd.ne nD0
    refine lc_range (lo := 0) (n := (c : Int).toNat) (fun i H' => ∃ ys rest, H' D = some (.lst ys) ∧ H' l = some (.lst rest) ∧ (ys ++ rest).Perm xs ∧ ys.length = i ∧ Sd d H H')
      ⟨[], xs, upd_same, by rw [upd_ne lD]; exact hl, List.Perm.refl _, rfl, (sd_new hd nl).then_same (same_upd nD)⟩ (fun i H' hi hP => ?_) (fun H' hP => ?_)
    · obtain ⟨ys, rest, eD, el, pm, hy, sd⟩ := hP
      have hi : i < c := hi
      have hlen : ys.length + rest.length = xs.length := by
        rw [← List.length_append]
        exact pm.length_eq
      have hr0 : 0 < rest.length := by omega
      refine ⟨rfl, ?_⟩
      refine ⟨.ref l, rfl, .inl ⟨rfl, _, .inl (.inl el)⟩, .ref d, rfl, .ref l, rfl, l, rest, rfl, .inl (.inl (.inl el)), d, _, rfl, sd.dice, by omega, by omega, fun r x y z r0 r1 => ?_⟩
      obtain ⟨j, rfl⟩ : ∃ j : Nat, r = (j : Int) := ⟨r.toNat, by omega⟩
      have hj : j < rest.length := by omega
      have el2 : (upd H' d (.lst [.int x, .int y, .int z])) l = some (.lst rest) := by
        rw [upd_ne dl.symm]
        exact el
      have sq : seqIndex? (j : Int) rest.length = some j := (ixN_seq (by
        unfold ixN
        rw [if_pos (by omega), if_pos (by omega)]
        rfl)).1
      refine ⟨l, rest, (j : Int), j, rest[j], rfl, rfl, el2, by omega, by omega, sq, List.getElem?_eq_getElem hj, ?_⟩
      refine ⟨ys, ?_, by have e : sizeLine = 16777216 := by decide
                         omega, ys ++ [rest[j]], rest.eraseIdx j, upd_same, ?_, ?_, ?_, ?_⟩
      · rw [upd_ne lD.symm, upd_ne dD.symm]
        exact eD
      · rw [upd_ne lD, upd_same]
      · rw [List.append_assoc]
        exact ((erase_perm rest j hj).append_left ys).trans pm
      · rw [List.length_append, hy]
        rfl
      · refine ⟨fun b o hb e => ?_, x, y, z, ?_⟩
        · rw [upd_ne (ne_of_none e nD0), upd_ne (ne_of_none e nl), upd_ne hb]
          exact sd.keep b o hb e
        · rw [upd_ne dD, upd_ne dl, upd_same]
    · obtain ⟨ys, rest, eD, el, pm, hy, sd⟩ := hP
      exact q D ys rest H' pm (by rw [hy]; exact c0) nD0 eD sd
end
/-! ### words -/
theorem lc_str {z : Str} {g : TG} {tt : TT} {te : TE} {vs : List Nat} {σ : L2.St} {H1 : Hp} {D : Addr} {Qd : Hp → Prop} (Pv : Nat → Hp → Prop) (h0 : Pv 0 (upd H1 D (.lst [])))
    (hs : ∀ i c H, z.cps[i]? = some c → Pv i H → g (.str ⟨#[c]⟩) (wipe σ vs) H fun σ2 H2 => wipe σ2 vs = wipe σ vs ∧ tt σ2 H2 fun b H3 =>
      if b = true then te σ2 H3 fun y H4 => ∃ acc, H4 D = some (.lst acc) ∧ acc.length < sizeLine ∧ Pv (i + 1) (upd H4 D (.lst (acc ++ [y]))) else Pv (i + 1) H3) (hd : ∀ H, Pv z.cps.size H → Qd H) :
    ∃ W : Nat → Nat → Hp → Prop, (∃ m, W 0 m (upd H1 D (.lst []))) ∧ ∀ i m H, W i m H →
      ((Its z).stop i H ∧ Qd H) ∨ ((Its z).go i H ∧ ∃ Nx : Hp → Prop, (∀ H', Nx H' → ∃ m', m' < m ∧ W (i + 1) m' H') ∧ ∀ x H', (Its z).yld i H x H' → g x (wipe σ vs) H' fun σ2 H2 => wipe σ2 vs = wipe σ vs ∧ tt σ2 H2 fun b H3 =>
        if b = true then te σ2 H3 fun y H4 => ∃ acc, H4 D = some (.lst acc) ∧ acc.length < sizeLine ∧ Nx (upd H4 D (.lst (acc ++ [y]))) else Nx H3) := by
  refine ⟨fun i m H => m = z.cps.size - i ∧ i ≤ z.cps.size ∧ Pv i H, ⟨z.cps.size, by simp, Nat.zero_le _, h0⟩, ?_⟩
  rintro i m H ⟨rfl, hi, p⟩
  by_cases hlt : i < z.cps.size
  · refine .inr ⟨hlt, Pv (i + 1), fun H' p' => ⟨z.cps.size - (i + 1), by omega, rfl, hlt, p'⟩, fun x H' y => ?_⟩
    obtain ⟨e, c, hc, y⟩ := y
    subst e y
    exact hs i c _ hc p
  · have e : i = z.cps.size := by omega
    subst e
    exact .inl ⟨Nat.le_refl _, hd H p⟩
def letters : Str := "abcdefghijklmnopqrstuvwxyz"
def isLet (c : Nat) : Bool := decide (c ∈ letters.cps.toList)
def isStr : V → Bool
  | .str _ => true
  | _ => false
/-- one to eight small letters -/
def wordS (z : Str) : Bool := (decide (1 ≤ z.length) && decide (z.length ≤ 8)) && z.cps.toList.all isLet
def wordB : V → Bool
  | .str z => wordS z
  | _ => false
/-- a value of which it is known whether it is a text; a text is not too long, its signs are plain -/
structure Tv (K : PySem.W.Frag) (H : Hp) (v : V) : Prop where
  ty : ∃ t, TyX K H v t ∧ PySem.W.kitOne K t (.type "str") = some (isStr v)
  len : ∀ z, v = .str z → z.length ≤ 1000 ∧ ∀ c ∈ z.cps.toList, c < 128
theorem take_map {α β : Type} (f : α → β) (xs : List α) (i : Nat) (x : α) (h : xs[i]? = some x) : (xs.take i).map f ++ [f x] = (xs.take (i + 1)).map f := by
  rw [List.take_add_one, h, List.map_append]
  rfl
theorem take_filter_t {α : Type} (p : α → Bool) (xs : List α) (i : Nat) (x : α) (h : xs[i]? = some x) (hp : p x = true) : (xs.take i).filter p ++ [x] = (xs.take (i + 1)).filter p := by
  rw [List.take_add_one, h, List.filter_append]
  simp [hp]
theorem take_filter_f {α : Type} (p : α → Bool) (xs : List α) (i : Nat) (x : α) (h : xs[i]? = some x) (hp : p x = false) : (xs.take i).filter p = (xs.take (i + 1)).filter p := by
  rw [List.take_add_one, h, List.filter_append]
  simp [hp]
def sign1 (c : Nat) : Str := ⟨#[c]⟩
theorem lay_signs : ∀ cs : List Nat, (∀ c ∈ cs, c < 128) → PyData.canLayAll0 (cs.map fun c => .str (sign1 c)) = true
  | [], _ => rfl
  | c :: cs, h => by
    have h1 : c < 1114112 := Nat.lt_trans (h c (List.mem_cons_self ..)) (by decide)
    have e : PyData.canLay0 (.str (sign1 c)) = true := by
      show PyData.strOk (sign1 c) = true
      simp [PyData.strOk, sign1, h1]
    show (PyData.canLay0 (.str (sign1 c)) && PyData.canLayAll0 (cs.map fun c => .str (sign1 c))) = true
    rw [e, lay_signs cs fun x hx => h x (List.mem_cons_of_mem _ hx)]
    rfl
theorem depth_signs : ∀ cs : List Nat, PyData.depthAll (cs.map fun c => .str (sign1 c)) = 0
  | [] => rfl
  | c :: cs => by
    show max (PyData.depth (.str (sign1 c))) (PyData.depthAll (cs.map fun c => .str (sign1 c))) = 0
    rw [depth_signs cs]
    rfl
theorem shaped_signs {cs : List Nat} (h : ∀ c ∈ cs, c < 128) : SeqAt.shaped (.list (cs.map fun c => .str (sign1 c))) = true := by
  unfold SeqAt.shaped
  rw [Bool.and_eq_true]
  refine ⟨lay_signs cs h, decide_eq_true ?_⟩
  show PyData.depthAll (cs.map fun c => .str (sign1 c)) + 1 ≤ 64
  rw [depth_signs cs]
  decide
theorem dp_signs {K : PySem.W.Frag} {H : Hp} : ∀ cs : List Nat, DpAll K H (cs.map fun c => V.str (sign1 c)) (cs.map fun c => .str (sign1 c))
  | [] => .nil
  | _ :: cs => .cons (.str _) (dp_signs cs)
theorem eqv_signs_nil (cs : List Nat) : PyData.eqv (.list (cs.map fun c => .str (sign1 c))) (.list []) = cs.isEmpty := by
  cases cs with
  | nil => rfl
  | cons c cs => rfl
theorem filter_isEmpty (xs : List Nat) : (xs.filter fun c => !isLet c).isEmpty = xs.all isLet := by
  induction xs with
  | nil => rfl
  | cons x r ih =>
    cases h : isLet x with
    | true => simp [h, ← ih]
    | false => simp [h]
def spWord (K : PySem.W.Frag) : Sp := fun vs H Q _ => ∃ v, vs = [v] ∧ Tv K H v ∧ ∀ H', Same H H' → Q (.bl (wordB v)) H'
theorem not_str {v : V} (h : isStr v = false) : wordB v = false := by
  cases v <;> first | rfl | cases h
theorem is_str {v : V} (h : isStr v = true) : ∃ z, v = .str z := by
  cases v <;> first | exact ⟨_, rfl⟩ | cases h
section
variable {P : Program} {w : World} {K : PySem.W.Frag} {mg : Str → Option Value} {base : Heap}
theorem scWord : FnScope ["value", "sign"] ["value"] (defScope sIsWord) := ⟨rfl, rfl, rfl, by decide +kernel, rfl, by decide +kernel, by decide +kernel⟩
theorem ok_word {f : Addr} {fd : FuncData} {k : Nat} {t1 t2 : Tok} (F : Fun K "is_word" "is_word" sIsWord f fd) (ml : mg "len" = none) (mi : mg "isinstance" = none) (ms : mg "str" = none) (mA : mg "all" = none)
    (mM : mg "MAX_LETTERS" = some (.int 8 t1)) (mL : mg "_LETTERS" = some (.str letters t2)) :
    FnOk P w K mg base CX0 (k + 1) f fd ["value"] (spWord K) := by
  refine F.ok scWord (fun vs H Q E h => ?_) (fun cdv A outer s H vs Q E hr h => ?_)
  · obtain ⟨v, rfl, _⟩ := h
    rfl
  · obtain ⟨v, rfl, ⟨⟨t, ty, hk⟩, hz⟩, q⟩ := h
    refine ⟨_, pss_one (ps_ret (pe_and (pe_callB call_isi (by rfl) mi (by decide +kernel) (pa_cons (pv 0) (pa_cons (pe_bltn (v := .ty "str") (by rfl) ms (by decide +kernel) rfl) pa_nil)))
      (pe_and (pe_chain op_le op_le pe_int (pe_callB call_len_str (by rfl) ml PySem.boot_len (pa_cons (pv 0) pa_nil)) (pe_glob (v := .int 8) rfl mM ⟨_, rfl⟩))
      (pe_one (pe_callB (cr_all rfl) (by rfl) mA (by decide +kernel) (pa_cons (pe_lc (own := [("sign", 1)]) (g := gName 1) (tt := tYes) rfl scWord.nd (pi_str (pv 0))
        (blkOk_by (N := ["value", "sign"]) (sc := defScope sIsWord) (by decide +kernel)) (fun _ _ _ _ _ => pg_name (i := 1) scWord.nd rfl (Or.inl rfl)) (fun _ _ _ _ _ => pts_nil)
        (fun _ _ _ _ _ => pe_cmpR op_in_sign (pv 1) (pe_glob (v := .str letters) rfl mL ⟨_, rfl⟩) rfl)) pa_nil)))))), ?_⟩
    refine ⟨v, rfl, v, .ty "str", t, .type "str", isStr v, rfl, .ty "str", ty, hk, isStr v, rfl, ite2 (fun e => ?_) (fun e => ?_)⟩
    · obtain ⟨z, rfl⟩ := is_str e
      obtain ⟨hz1, hz2⟩ := hz z rfl
      have hs : z.length ≤ sizeLine := Nat.le_of_lt (small1000 hz1)
      refine ⟨.str z, rfl, z, rfl, hs, 1, _, rfl, rfl, _, rfl, ite2 (fun e1 => ?_) (fun e1 => ?_)⟩
      · refine ⟨_, 8, rfl, rfl, _, rfl, ite2 (fun e2 => ?_) (fun e2 => ?_)⟩
        · refine ⟨.str z, rfl, z, rfl, fun D nD => lc_str (fun i H' => H' D = some (.lst ((z.cps.toList.take i).map fun c => V.bl (isLet c))) ∧ Same H H') ⟨upd_same, same_upd nD⟩ (fun i c H' hc hP => ?_) (fun H' hP => ?_)⟩
          · obtain ⟨eD, sm⟩ := hP
            refine ⟨rfl, .str ⟨#[c]⟩, rfl, c, letters, rfl, rfl, _, eD, ?_, ?_, ?_⟩
            · rw [List.length_map, List.length_take]
              exact Nat.lt_of_le_of_lt (Nat.min_le_right _ _) (small1000 hz1)
            · rw [upd_same, ← take_map (fun c => V.bl (isLet c)) _ i c (by rw [Array.getElem?_toList]; exact hc)]
              rfl
            · intro b o hb
              rw [upd_ne (ne_of_none hb nD)]
              exact sm b o hb
          · obtain ⟨eD, sm⟩ := hP
            have ea : z.cps.toList.take z.cps.size = z.cps.toList := List.take_of_length_le (Nat.le_of_eq (Array.length_toList))
            rw [ea] at eD
            refine ⟨D, z.cps.toList.map isLet, rfl, .inl (.inl ?_), ?_⟩
            · rw [List.map_map]
              exact eD
            · have ew : (z.cps.toList.map isLet).all id = wordB (.str z) := by
                have h1 : (1 : Int) ≤ z.length := of_decide_eq_true e1
                have h2 : (z.length : Int) ≤ 8 := of_decide_eq_true e2
                show _ = wordS z
                unfold wordS
                rw [decide_eq_true (show 1 ≤ z.length by omega), decide_eq_true (show z.length ≤ 8 by omega), List.all_map]
                rfl
              rw [ew]
              exact q H' sm
        · have h2 : ¬ (z.length : Int) ≤ 8 := fun h => e2 (decide_eq_true h)
          have ew : wordB (.str z) = false := by
            show wordS z = false
            unfold wordS
            rw [decide_eq_false (show ¬ z.length ≤ 8 by omega), Bool.and_false, Bool.false_and]
          rw [ew] at q
          exact q H (Same.refl H)
      · have h1 : ¬ (1 : Int) ≤ z.length := fun h => e1 (decide_eq_true h)
        have ew : wordB (.str z) = false := by
          show wordS z = false
          unfold wordS
          rw [decide_eq_false (show ¬ 1 ≤ z.length by omega), Bool.false_and, Bool.false_and]
        rw [ew] at q
        exact ⟨false, rfl, iteF (q H (Same.refl H))⟩
    · have ev := not_str (Bool.eq_false_iff.mpr e)
      rw [ev] at q
      exact q H (Same.refl H)
end
/-! ### what is drawn -/
section
variable {X : Cx}
theorem vals_of : ∀ {xs : List V} {us : List Value}, xs.length = us.length → (∀ (j : Nat) x u, xs[j]? = some x → us[j]? = some u → RelV x u) → Vals xs us
  | [], [], _, _ => .nil
  | [], _ :: _, h, _ => by simp at h
  | _ :: _, [], h, _ => by simp at h
  | x :: xs, u :: us, h, g => .cons (g 0 x u rfl rfl) (vals_of (by simpa using h) fun j a b ha hb => g (j + 1) a b (by simpa using ha) (by simpa using hb))
def signV (z : Str) : List V := z.cps.toList.map fun c => V.str (sign1 c)
theorem call_list_strV (hc : X.calm = true) : CallR X (.type "list") (fun xs H Q => ∃ z : Str, xs = [.str z] ∧ z.length ≤ sizeLine ∧ ∀ l, H l = none → Q (.ref l) (upd H l (.lst (signV z)))) := by
  intro pins s σ H xs us Q I r h
  obtain ⟨z, rfl, hz, q⟩ := h
  obtain ⟨u, rfl, t, rfl⟩ := vals1 r
  refine call_list_str (I.ok.hd hc) z t (fun h' tk acc' c' kp e its => ?_) hz
  refine ⟨.ref s.heap.objs.size, _, I.laid (a := s.heap.objs.size) (o := .lst (signV z)) (t' := tk) kp (Nat.le_refl _) (show ObjOk X.prog X.w _ h' _ (.lst (signV z)) from ⟨?_, acc'.toList, c', ?_, by simpa using e⟩), rfl, q _ (I.hok.fresh (Nat.le_refl _))⟩
  · unfold signV
    rw [List.length_map, Array.length_toList]
    exact hz
  · refine vals_of ?_ fun j x u hx hu => ?_
    · unfold signV
      rw [List.length_map, Array.length_toList, Array.length_toList]
      exact its.1.symm
    · obtain ⟨c, t2, hc2, e2⟩ := its.2 j u (by simpa using hu)
      unfold signV at hx
      rw [List.getElem?_map, Array.getElem?_toList, hc2] at hx
      cases hx
      exact ⟨t2, e2⟩
theorem pe_joinK {K : PySem.W.Frag} {o e : Expr} {to : TE} {te : TE} {apos pos : Pos} (hK : X.K = K) (ho : PE X o to) (he : PE X e te) (hs : starEach [e] X.env = [(false, eval e X.env)] := by rfl) (hbase : attributeBase o "join" X.env (eval o X.env) = eval o X.env := by rfl) (hline : (apos.endLine == pos.line) = true := by rfl) :
    PE X (.Call (.Attribute o "join" apos) [e] [] pos) (tM1 (fun x xs H Q => ∃ a p, ∃ ys : List Str, x = .str a ∧ xs = [.ref p] ∧ (SqL K H p (ys.map V.str) ∨ SqT K H p (ys.map V.str)) ∧
      (ys.map (·.length)).sum + ys.length * a.length ≤ 16777216 ∧ Q (.str (Txt.join a ys)) H) to te) := by
  subst hK
  exact pe_join ho he hs hbase hline
end
open TL in
theorem joinL_flat : ∀ ps : List (List Nat), joinL [] ps = ps.flatten
  | [] => rfl
  | [p] => by simp [joinL]
  | p :: q :: r => by
    show p ++ ([] ++ joinL [] (q :: r)) = _
    rw [joinL_flat (q :: r)]
    rfl
open TL in
theorem join_cps {a : Str} (ha : a.cps.toList = []) (ys : List Str) : (Txt.join a ys).cps.toList = (ys.map fun y => y.cps.toList).flatten := by
  rw [join_eq]
  show tl _ = _
  rw [tl_join, show tl a = [] from ha, joinL_flat]
theorem add_cps (x y : Str) : (x ++ y).cps.toList = x.cps.toList ++ y.cps.toList := TL.tl_append x y
theorem len_cps (z : Str) : z.length = z.cps.toList.length := by
  rw [Array.length_toList]
  rfl
/-- a drawn value -/
def okStr (z : Str) : Prop := z.length ≤ 1000 ∧ ∀ c ∈ z.cps.toList, c < 128
instance okStr_dec (z : Str) : Decidable (okStr z) := inferInstanceAs (Decidable (z.length ≤ 1000 ∧ ∀ c ∈ z.cps.toList, c < 128))
inductive Dv (H : Hp) : V → Prop where
  | non : Dv H .non
  | bl (b : Bool) : Dv H (.bl b)
  | int (i : Int) : Dv H (.int i)
  | str {z : Str} (h : okStr z) : Dv H (.str z)
  | lst {a : Addr} {xs : List V} (e : H a = some (.lst xs)) : Dv H (.ref a)
  | tup {a : Addr} {xs : List V} (e : H a = some (.tup xs)) : Dv H (.ref a)
  | dK {a : Addr} {kvs : List (Key × V)} (e : H a = some (.dK kvs)) : Dv H (.ref a)
theorem Dv.keep {d : Addr} {H H' : Hp} {v : V} (s : Sd d H H') (h : Dv H v) : Dv H' v := by
  have at_d : Dv H' (.ref d) := by
    obtain ⟨x, y, z, e⟩ := s.dice
    exact .lst e
  cases h with
  | non => exact .non
  | bl b => exact .bl b
  | int i => exact .int i
  | str h => exact .str h
  | @lst a xs e =>
    by_cases ha : a = d
    · rw [ha]; exact at_d
    · exact .lst (s.keep _ _ ha e)
  | @tup a xs e =>
    by_cases ha : a = d
    · rw [ha]; exact at_d
    · exact .tup (s.keep _ _ ha e)
  | @dK a xs e =>
    by_cases ha : a = d
    · rw [ha]; exact at_d
    · exact .dK (s.keep _ _ ha e)
theorem Dv.same {H H' : Hp} {v : V} (s : Same H H') (h : Dv H v) : Dv H' v := by
  cases h with
  | non => exact .non
  | bl b => exact .bl b
  | int i => exact .int i
  | str h => exact .str h
  | lst e => exact .lst (s _ _ e)
  | tup e => exact .tup (s _ _ e)
  | dK e => exact .dK (s _ _ e)
theorem kb_bool : kitB "bool" "str" = some false := by decide +kernel
theorem kb_int : kitB "int" "str" = some false := by decide +kernel
theorem kb_str : kitB "str" "str" = some true := by decide +kernel
theorem kb_list : kitB "list" "str" = some false := by decide +kernel
theorem kb_tuple : kitB "tuple" "str" = some false := by decide +kernel
theorem kb_dict : kitB "dict" "str" = some false := by decide +kernel
theorem kb_none : kitB "NoneType" "str" = some false := by decide +kernel
theorem Dv.tv {K : PySem.W.Frag} {H : Hp} {v : V} (h : Dv H v) : Tv K H v := by
  cases h with
  | non => exact ⟨⟨_, .base .non, kit_ty kb_none⟩, fun z e => nomatch e⟩
  | bl b => exact ⟨⟨_, .base (.bl b), kit_ty kb_bool⟩, fun z e => nomatch e⟩
  | int i => exact ⟨⟨_, .base (.int i), kit_ty kb_int⟩, fun z e => nomatch e⟩
  | str h => exact ⟨⟨_, .base (.str _), kit_ty kb_str⟩, fun z e => by cases e; exact h⟩
  | lst e => exact ⟨⟨_, .base (.lst e), kit_ty kb_list⟩, fun z e => nomatch e⟩
  | tup e => exact ⟨⟨_, .base (.tup e), kit_ty kb_tuple⟩, fun z e => nomatch e⟩
  | dK e => exact ⟨⟨_, .base (.dK e), kit_ty kb_dict⟩, fun z e => nomatch e⟩
/-! ### defs that show data: what they promise where nothing is being shown around them -/
structure FnG (P : Program) (w : World) (K : PySem.W.Frag) (mg : Str → Option Value) (base : Heap)
    (CX : CXT) (k : Nat) (f : Addr) (fd : FuncData) (ps : List Str) (sp : Sp) : Prop where
  len : ∀ {vs H Q E}, sp vs H Q E → vs.length = ps.length
  run : ∀ {A outer s H args us vs Q E}, A.guards = some [] → Room k A → Env0 P w K mg base A outer s H →
    BindsTo s fd args (ps.zip us) → Vals vs us → sp vs H Q E → codeAny (model P w) A (.call (.ref f) args) (CR CX outer P w H s Q E) s
section
variable {P : Program} {w : World} {K : PySem.W.Frag} {mg : Str → Option Value} {base : Heap}
theorem Fun.okG {x qual : Str} {st : Stmt} {f : Addr} {fd : FuncData} {N ps : List Str} {k : Nat} {sp : Sp}
    (F : Fun K x qual st f fd) (S : FnScope N ps (defScope st)) (len : ∀ vs H Q E, sp vs H Q E → vs.length = ps.length)
    (body : ∀ (cdv : Value) (A : Around) (outer : List Env) (s : Shared) (H : Hp) (vs : List V) (Q : VK) (E : XK), A.guards = some [] →
      Room k (A.deeper (envOfC qual (defScope st) s.heap.objs.size f cdv)) → sp vs H Q E →
      ∃ t, PSs (cxOf CX0 P w K mg base N qual (defScope st) f cdv A outer s H E).nox (defBody st) t ∧ t ⟨fun _ H' => Q .non H', Q, fun _ _ => False, fun _ _ => False⟩ (L2.start N vs) H) :
    FnG P w K mg base CX0 (k + 1) f fd ps sp := by
  obtain ⟨oc, od, kV, doc, pm, an, cdv, ct, osl, rfl, lk, hcd⟩ := F.ex
  constructor
  · intro vs H Q E h
    exact len vs H Q E h
  · intro A outer s H args us vs Q E hg hr e0 hb r hsp
    have hn := len vs H Q E hsp
    have inK : K.In s.heap := e0.mod.kin.keeps fun b o e => (e0.bs b o e).1
    have noL : s.heap.NoLimit := e0.mod.nolimit.keeps fun b o e => (e0.bs b o e).1
    refine codeAny_call_function hr.depth (inK _ _ lk) rfl S.co S.gen rfl (PySem.W.codeRec_of inK hcd) (hb _ _ _ _ ?_)
    refine wpAny_newFunctionEnv_cells S.kind (fun y hy => ?_) fun env he s1 x => ?_
    · obtain ⟨n, v⟩ := y
      rcases S.par n (List.of_mem_zip hy).1 with q | q
      exact .inl q
      exact .inr ⟨q, PySem.W.cellsFrom_some _ _ _ (.inl q)⟩
    · subst he
      refine ⟨noL.keeps x.toInCall.keep, codeAny_func ?_⟩
      obtain ⟨t, ht0, hq⟩ := body cdv A outer s H vs Q E hg (hr.deeper _) hsp
      have ht := ht0.nox
      have I0 := inv_start (CX := CX0) (E := E) S hr.hd e0 hn r x
      refine wpAny_mono (ht.run [] s1 _ H _ I0 hq) (fun fl s' hs => ?_) fun e s' hs => hs
      cases fl with
      | ret u =>
        obtain ⟨v, σ', H', J, rv, q⟩ := hs
        exact ⟨v, H', J.os, J.bare, J.base, J.hok, rv, q⟩
      | next =>
        obtain ⟨σ', H', J, q⟩ := hs
        exact ⟨V.non, H', J.os, J.bare, J.base, J.hok, rfl, q⟩
      | brk =>
        obtain ⟨_, _, _, q⟩ := hs
        exact q.elim
      | cont =>
        obtain ⟨_, _, _, q⟩ := hs
        exact q.elim
end
section
variable {X : Cx}
/-- repr of a list or tuple of data, where nothing is being shown -/
theorem call_reprD {K : PySem.W.Frag} (hK : X.K = K) (hg : X.A.guards = some []) (hu : X.A.units + 66 < cLine) : CallR X (.builtin "repr") (fun xs H Q => ∃ a d, xs = [.ref a] ∧ Dp K H (.ref a) d ∧
    d.showable = true ∧ d.hasDict = false ∧ d.depth ≤ 64 ∧ d.shown.length ≤ sizeLine ∧ Q (.str d.shown) H) := by
  subst hK
  intro pins s σ H xs us Q I r h
  obtain ⟨a, d, rfl, hd, h1, h2, h3, h4, q⟩ := h
  obtain ⟨u, rfl, rx⟩ := vals1 r
  cases (show u = Value.ref a from rx)
  obtain ⟨as, rd⟩ := Dp.reads I d _ _ hd rfl
  refine repr_of_reads' rd h1 (fun e => by rw [h2] at e; cases e) hg (by omega) (fun _ _ e => e) (fun h' u tk hk => ⟨.str d.shown, H, I.kept hk, ⟨u, rfl⟩, q⟩) h4
end
/-! ### a law's end over such a promise -/
theorem script_heap {P : Program} {w : World} {K : PySem.W.Frag} {h : Heap} {a : Addr} {vs : List Value} {ns : List Int} (KX : K.In h)
    (ha : h.get? a = some { cls := .type "list", data := .seq vs.toArray }) (hi : IntsAre vs ns) (hl : ns.length ≤ sizeLine) :
    ∃ H : Hp, Only H ∧ SqL K H a (ns.map V.int) ∧ HOk P w H h ∧ ∀ b, H b ≠ none → b = a ∧ K.lookup a = none := by
  have rv := vals_ints hi
  have hlen : vs.length = ns.length := hi.length
  by_cases hk : K.lookup a = none
  · refine ⟨fun b => if b = a then some (.frz { cls := .type "list", data := .seq vs.toArray } (.lst (ns.map V.int))) else none, fun b => ?_, .inl (.inr ⟨_, if_pos rfl⟩), fun b u z => ?_, fun b z => ⟨?_, hk⟩⟩
    · by_cases e : b = a
      · exact .inr ⟨_, _, if_pos e⟩
      · exact .inl (if_neg e)
    · by_cases e : b = a
      · subst e
        cases (if_pos rfl).symm.trans z
        exact ⟨ha, by rw [List.length_map]; exact hl, vs, _, rv, ha⟩
      · cases (if_neg e).symm.trans z
    · by_cases e : b = a
      · exact e
      · exact absurd (if_neg e) z
  · obtain ⟨o, hk⟩ := Option.ne_none_iff_exists'.mp hk
    have e := (KX a o hk).symm.trans ha
    cases e
    refine ⟨fun _ => none, fun _ => .inl rfl, .inr ⟨_, vs.toArray, _, hk, rfl, rfl, rfl, ?_, by simpa using rv⟩, fun b u z => ?_, fun b z => absurd rfl z⟩
    · rw [List.size_toArray, hlen]
      exact hl
    · cases (show (none : Option HO) = some u from z)
theorem law_runG {P : Program} {w : World} {K : PySem.W.Frag} {mg mb : Str → Option Value} {k : Nat} {fa a : Addr} {fd : FuncData} {x : Str} {sp : Sp} {s₁ : Shared} {vs : List Value} {ns : List Int}
    (KX : K.In s₁.heap) (g1 : s₁.heap.Ns mainGlobals mg) (g2 : s₁.heap.Ns builtinsNs mb) (g3 : ∀ x : Str, x ≠ "__name__" → mb x = bootBuiltins x) (g4 : s₁.heap.NoLimit) (g5 : s₁.gens = #[])
    (ha : s₁.heap.get? a = some { cls := .type "list", data := .seq vs.toArray }) (hi : IntsAre vs ns) (hl : ns.length ≤ sizeLine) (hr : Room k callerA)
    (F : ∀ base : Heap, K.In base → base.Ns mainGlobals mg → FnG P w K mg base CX0 k fa fd [x] sp) (hbind : ∀ (s : Shared) (u : Value), BindsTo s fd ⟨[u], []⟩ [(x, u)])
    (hsp : ∀ H : Hp, Only H → SqL K H a (ns.map V.int) → sp [.ref a] H (fun v _ => v = .bl true) E0) :
    codeAny (model P w) callerA (.call (.ref fa) ⟨[.ref a], []⟩) (fun r s' => r = .ok (.ret (.bool true)) ∧ OldK s₁.heap s'.heap ∧ s'.os = s₁.os ∧ AllBare s'.gens) s₁ := by
  obtain ⟨H, hO, hS, hok, hA⟩ := script_heap (P := P) (w := w) KX ha hi hl
  have free : ∀ {b : Addr} {o : Obj}, s₁.heap.get? b = some o → (b = a → K.lookup a ≠ none) → (hidT s₁.heap H).get? b = some o := fun {b o} e h => hidT_get e (by
    cases q : H b with
    | none => rfl
    | some u =>
      obtain ⟨z1, z2⟩ := hA b (by rw [q]; exact nofun)
      exact absurd z2 (h z1))
  have dicts : ∀ {b : Addr} {m : Str → Option Value}, s₁.heap.Ns b m → (hidT s₁.heap H).Ns b m := fun {b m} ⟨o, es, ep, e, dt, r⟩ => ⟨o, es, ep, free e (fun z => by
    subst z
    cases ha.symm.trans e
    cases dt), dt, r⟩
  have inB : K.In (hidT s₁.heap H) := fun b o e => free (KX b o e) (fun z => by
    subst z
    rw [e]
    exact nofun)
  obtain ⟨mc, l1, l2⟩ := g4
  have e0 : Env0 P w K mg (hidT s₁.heap H) callerA [] s₁ H :=
    ⟨rfl, ⟨inB, dicts g1, ⟨mb, dicts g2, g3⟩, ⟨mc, dicts l1, l2⟩⟩, fun b o e => of_hidT e, Nat.le_of_eq (hidT_size _ _), trivial, fun b hb => (nomatch hb), hok, .of_eq g5⟩
  refine codeAny_mono ((F _ inB (dicts g1)).run (us := [.ref a]) (vs := [.ref a]) rfl hr e0 (hbind s₁ (.ref a)) (.cons rfl .nil) (hsp H hO hS)) fun r s' h => ?_
  match r, h with
  | .ok (.ret u), h =>
    obtain ⟨v, H', os, bare, un, hok', rv, q⟩ := h
    subst q
    cases (show u = Value.bool true from rv)
    refine ⟨rfl, OldK.of_keep fun b o e => ?_, os, bare⟩
    rcases hO b with z | ⟨ob, xs, z⟩
    · exact un.keep b o e z (fun m => nomatch m) (fun m => nomatch m)
    · obtain ⟨e1, _⟩ := hok b _ z
      obtain ⟨e2, _⟩ := hok' b _ (un.frzs b ob _ z)
      cases e.symm.trans e1
      exact e2
theorem walk_ofG {l : PySem.W.OpenLaw} {n k : Nat} {q : Program} {loose : List Str} {XP : (Str → Option Value) → Heap → Prop} {YP : World → Heap → Prop} {d : DefRec} {K : Params → PySem.W.Frag} {sp : World → Sp} {x : Str}
    (hn : l.most = some n) (hn2 : n ≤ sizeLine) (hdf : d.params.defaults = []) (hr : Room k callerA) (hY : ∀ (w : World) (h : Heap), YP w h → (K w.params).In h)
    (F : ∀ (w : World) (mg : Str → Option Value) (fa : Addr) (h : Heap), (K w.params).In h → h.Ns mainGlobals mg → mg d.name = some (.ref fa) →
      ∃ fd : FuncData, (∀ (s : Shared) (u : Value), BindsTo s fd ⟨[u], []⟩ [(x, u)]) ∧
        ∀ base : Heap, (K w.params).In base → base.Ns mainGlobals mg → FnG l.prog w (K w.params) mg base CX0 k fa fd [x] (sp w))
    (hsp : ∀ (w : World) (H : Hp) (a : Addr) (ns : List Int), ns.length ≤ n → Only H → SqL (K w.params) H a (ns.map V.int) → sp w [.ref a] H (fun v _ => v = .bl true) E0) :
    PySem.W.WalkO q loose XP YP l.row.toRowW d [] (fun f vs => PySem.call f vs) :=
  Att.attach_call hn hdf fun w s₀ s₁ mg mb fa o pm cd doc a vs ns G Y ho hd hcd hmg hobj hints hlen hg => by
    obtain ⟨fd, hb, hF⟩ := F w mg fa _ (hY w _ Y) G.T.g hmg
    exact law_runG (hY w _ Y) G.T.g G.T.b G.T.builtins G.T.nolimit hg hobj hints (Nat.le_trans hlen hn2) hr hF hb fun H hO hS => hsp w H a ns hlen hO hS
/-! ### dicts whose keys are pairs of texts -/
def mergeT (kvs more : List (List Key × V)) : List (List Key × V) := more.foldl (fun acc kv => putK acc kv.1 kv.2) kvs
theorem putK_new {kvs : List (List Key × V)} {k : List Key} {v : V} (h : k ∉ kvs.map (·.1)) : putK kvs k v = kvs ++ [(k, v)] := by
  unfold putK
  rw [if_neg]
  intro e
  obtain ⟨p, hp, e⟩ := List.any_eq_true.mp e
  exact h (List.mem_map.mpr ⟨p, hp, of_decide_eq_true e⟩)
theorem mergeT_app : ∀ (more kvs : List (List Key × V)), ((kvs ++ more).map (·.1)).Nodup → mergeT kvs more = kvs ++ more
  | [], kvs, _ => by simp [mergeT]
  | p :: r, kvs, h => by
    have hn : p.1 ∉ kvs.map (·.1) := fun e => by
      rw [List.map_append, List.nodup_append] at h
      exact h.2.2 _ e _ (by simp) rfl
    show mergeT (putK kvs p.1 p.2) r = kvs ++ p :: r
    rw [putK_new hn, mergeT_app r (kvs ++ [(p.1, p.2)]) (by rw [List.append_assoc]; exact h), List.append_assoc]
    rfl
theorem mergeT_nil {kvs : List (List Key × V)} (h : (kvs.map (·.1)).Nodup) : mergeT [] kvs = kvs := mergeT_app kvs [] h
theorem mergeT_len : ∀ (more kvs : List (List Key × V)), (mergeT kvs more).length ≤ kvs.length + more.length
  | [], kvs => by simp [mergeT]
  | p :: r, kvs => by
    refine Nat.le_trans (mergeT_len r (putK kvs p.1 p.2)) ?_
    have : (putK kvs p.1 p.2).length ≤ kvs.length + 1 := by
      unfold putK
      split <;> simp
    show _ ≤ kvs.length + (r.length + 1)
    omega
theorem KT.all {H : Hp} {kvs ms : List (List Key × V)} {xs ps : List (List Key × Addr × Value)} (r : KT H kvs xs) (q : KT H ms ps) : KT H (mergeT kvs ms) (storedAllH xs ps) := by
  induction q generalizing kvs xs with
  | nil => exact r
  | @cons m p ms ps hm t ih =>
    obtain ⟨h1, h2, h3⟩ := hm
    obtain ⟨p1, p2, p3⟩ := p
    cases h1
    exact ih (KT.put r m.1 h2 h3)
/-- a list of pairs (key, value), each a tuple whose first item is a tuple of texts -/
def PairsT (H : Hp) (ps : List Addr) (kvs : List (List Key × V)) : Prop := Paired (fun p kv => ∃ b, H p = some (.tup [.ref b, kv.2]) ∧ H b = some (.tup (kv.1.map kV))) ps kvs
section
variable {X : Cx}
theorem pairsT_of {pins : List (Addr × Obj)} {σ : L2.St} {H : Hp} {s : Shared} (I : Inv X pins σ H s) : ∀ {ps : List Addr} {kvs : List (List Key × V)}, PairsT H ps kvs →
    ∃ prs : List (List Key × Addr × Value), KT H kvs prs ∧ prs.length = ps.length ∧ ∀ (j : Nat) (q : List Key × Addr × Value), prs[j]? = some q → ∃ b, ps[j]? = some b ∧ IsTup s.heap b #[.ref q.2.1, q.2.2]
  | _, _, .nil => ⟨[], .nil, rfl, fun j q e => by simp at e⟩
  | _, _, .cons (a := p) (b := kv) h t => by
    obtain ⟨prs, r, hl, hp⟩ := pairsT_of I t
    obtain ⟨b, e1, e2⟩ := h
    obtain ⟨its, rv, ht, _⟩ := I.tuple (.inl (.inl e1))
    obtain ⟨u, y, ei, ru, ry⟩ := vals2 rv
    subst ei
    cases (show u = Value.ref b from ru)
    refine ⟨(kv.1, b, y) :: prs, .cons ⟨rfl, e2, ry⟩ r, by rw [List.length_cons, List.length_cons, hl], fun j q e => ?_⟩
    cases j with
    | zero =>
      cases (show (kv.1, b, y) = q from Option.some.inj e)
      exact ⟨p, rfl, ht⟩
    | succ j =>
      obtain ⟨b', e1, e2⟩ := hp j q (by simpa using e)
      exact ⟨b', by simpa using e1, e2⟩
theorem kt_keys {pins : List (Addr × Obj)} {σ : L2.St} {H : Hp} {s : Shared} (I : Inv X pins σ H s) {kvs : List (List Key × V)} {xs : List (List Key × Addr × Value)} (r : KT H kvs xs) :
    ∀ x ∈ xs, (tupleKind (mixKind X.prog X.w)).is s.heap x.1 x.2.1 := by
  induction r with
  | nil => intro x hx; exact nomatch hx
  | @cons p q ps qs h t ih =>
    intro x hx
    rcases List.mem_cons.mp hx with e | hx
    · subst e
      exact key_of I.hok (by rw [← h.1]; exact h.2.1)
    · exact ih x hx
/-- dict(ps), ps a list of pairs whose keys are tuples of texts -/
theorem call_dictT (hcalm : X.calm = true) (hu : X.A.units + 3 < cLine) : CallR X (.type "dict") (fun xs H Q => ∃ (a : Addr) (ps : List Addr) (kvs : List (List Key × V)), xs = [.ref a] ∧ H a = some (.lst (ps.map V.ref)) ∧ PairsT H ps kvs ∧
    ∀ p, H p = none → Q (.ref p) (upd H p (.dT (mergeT [] kvs)))) := by
  intro pins s σ H xs us Q I r h
  obtain ⟨a, ps, kvs, rfl, ha, hp, q⟩ := h
  obtain ⟨u, rfl, rx⟩ := vals1 r
  cases (show u = Value.ref a from rx)
  obtain ⟨its, rv, pl, hz⟩ := I.list (.inl (.inl ha))
  have ei := refs_at rv
  subst ei
  rw [List.length_map] at hz
  obtain ⟨prs, rel, hl, hpr⟩ := pairsT_of I hp
  have hkeys := kt_keys I rel
  refine call_dict_pairsH (knd := tupleKind (mixKind X.prog X.w)) (ps := prs) (PairArg.list a (ps.map Value.ref).toArray (fun j => ps.getD j 0) (prs.map fun q => (Value.ref q.2.1, q.2.2))) (I.ok.hd hcalm) (by show X.A.units + 1 + 1 < cLine; omega) ⟨pl, ?_, ?_⟩ ⟨by rw [List.length_map], ?_⟩ ?_ (by rw [List.length_map, hl]; exact hz) (fun h' tk hd' k => ?_)
  · simp [hl]
  · intro j k v e
    rw [List.getElem?_map] at e
    cases hq : prs[j]? with
    | none => rw [hq] at e; cases e
    | some x =>
      rw [hq] at e
      cases e
      obtain ⟨b, e1, e2⟩ := hpr j x hq
      have e3 : ps.getD j 0 = b := by simp [List.getD, e1]
      refine ⟨?_, .inl ?_⟩
      · show (ps.map Value.ref).toArray[j]? = some (.ref (ps.getD j 0))
        rw [e3]
        simp [e1]
      · show s.heap.IsTuple (ps.getD j 0) _
        rw [e3]
        exact e2
  · intro i key v e
    have e : (prs.map fun q => (Value.ref q.2.1, q.2.2))[i]? = some (key, v) := e
    rw [List.getElem?_map] at e
    cases hq : prs[i]? with
    | none => rw [hq] at e; cases e
    | some x =>
      rw [hq] at e
      cases e
      exact ⟨x.1, x.2.1, rfl, rfl⟩
  · intro h' hk x hx
    obtain ⟨o, items, n, ho, hc, hd, hi⟩ := hkeys x hx
    exact ⟨o, items, n, hk _ _ (Nat.ne_of_lt (Heap.lt_size ho)) (fun z => nomatch z) ho, hc, hd, hi⟩
  · have hm : (s.heap.objs.size == sysModules) = false := beq_eq_false_iff_ne.mpr (Nat.ne_of_gt I.big)
    have hlen : (mergeT [] kvs).length ≤ sizeLine := by
      refine Nat.le_trans (mergeT_len kvs []) ?_
      have h1 := rel.length
      rw [List.length_nil, Nat.zero_add, h1, hl]
      exact hz
    obtain ⟨o, es, ep, c1, c2, c3, c4, _, c6⟩ := hd'
    have hn : H s.heap.objs.size = none := I.hok.fresh (Nat.le_refl _)
    have kt : KT (upd H s.heap.objs.size (.dT (mergeT [] kvs))) (mergeT [] kvs) (storedAllH [] prs) := (KT.all (.nil : KT H [] []) rel).keeps fun b ys e => by
      rw [upd_ne (ne_of_none e hn)]
      exact e
    exact ⟨.ref s.heap.objs.size, upd H s.heap.objs.size (.dT (mergeT [] kvs)), I.laid (t' := tk) (fun b o e => k b o (fun z => nomatch z) e) (Nat.le_refl _) (show ObjOk X.prog X.w _ _ _ (.dT (mergeT [] kvs)) from ⟨hlen, hm, _, kt, o, es, ep, c1, c2, c3, c4, c6⟩), rfl, q _ hn⟩
end
/-! ### list(d.items()) where keys are tuples -/
section
variable {prog : Program} {w : World} {A : Around} {E : Value → Shared → Prop} {s : Shared} {r d : Addr} {es : Array DictEntry} {ep : Nat}
theorem list_view {Q : Value → Shared → Prop} (hh : A.handled = none) (hv : s.heap.IsItemsView r d) (hm : DT.Raw s.heap d es ep) (hn : es.size ≤ sizeLine)
    (hQ : ∀ h' tk acc c as, (∀ b o, s.heap.get? b = some o → h'.get? b = some o) → h'.get? s.heap.objs.size = some { cls := .type "list", dict := none, data := .seq acc c, slots := #[] } →
      as.length = es.size → DT.Made es s.heap.objs.size h' as → acc.toList = as.map Value.ref → Q (.ref s.heap.objs.size) { s with heap := h', toks := tk }) :
    wpAny (model prog w) A (call (.type "list") [.ref r]) Q E s := by
  have rlt : r < s.heap.objs.size := by
    obtain ⟨_, ho, _⟩ := hv
    exact Heap.lt_size ho
  refine callType_codes (Q₁ := fun x s₁ => x = .ref s.heap.objs.size ∧ s₁ = { s with heap := s.heap.push { cls := .type "list", data := .seq #[] } }) PySem.F.called_list (PySem.F.typeCall_list_1 _) PySem.F.entry_list_init (code_list_new _ ⟨rfl, rfl⟩) fun x s₁ hx => ?_
  obtain ⟨rfl, rfl⟩ := hx
  have e0 : (s.heap.push { cls := .type "list", data := .seq #[] }).get? s.heap.objs.size = some { cls := .type "list", data := .seq #[] } := Heap.get?_push_size _ rfl
  refine ⟨⟨_, e0, rfl⟩, PySem.F.args_list_init_2 _ _, ?_⟩
  show wpAny _ _ (Builtin.List.listItems (.ref s.heap.objs.size) >>= fun old => Builtin.List.listUpdate (.ref s.heap.objs.size) (fun _ => #[]) >>= fun _ => letGo old.toList.reverse >>= fun _ => Builtin.List.listExtendWith (.ref s.heap.objs.size) (.ref r) .none) _ _ _
  refine wpAny_bind ?_
  unfold Builtin.List.listItems
  refine wpAny_bind (wpAny_seqItems e0 rfl (wpAny_pure ?_))
  refine wpAny_bind (wpAny_updateSeq e0 rfl ?_)
  have e1 := Heap.get?_update_self (Obj.mapSeq (fun _ => (#[] : Array Value))) e0 rfl
  have far : ∀ b o, s.heap.get? b = some o → ((s.heap.push { cls := .type "list", data := .seq #[] }).update s.heap.objs.size (Obj.mapSeq (fun _ => (#[] : Array Value)))).get? b = some o := fun b o e => by
    rw [Heap.get?_update_other _ _ (Nat.ne_of_gt (Heap.lt_size e))]
    exact Heap.get?_push_of_some _ e
  refine wpAny_bind (wpAny_letGo ?_)
  refine DT.extI (prog := prog) (w := w) (A := A.in1) (R := wants (fun r s₂ => r = Value.none ∧ Q (Value.ref s.heap.objs.size) s₂) E) (s := { s with heap := (s.heap.push { cls := .type "list", data := .seq #[] }).update s.heap.objs.size (Obj.mapSeq (fun _ => (#[] : Array Value))) }) hh (by obtain ⟨o, ho, x⟩ := hv; exact ⟨o, far _ _ ho, x⟩) (hm.at' fun o e => far _ _ e) s.heap.objs.size (Nat.ne_of_gt rlt) (Nat.ne_of_lt hm.lt) .none _ e1 (fun h' tk acc c as hk hS hl hG hacc => ?_) hn
  refine ⟨rfl, hQ h' tk acc c as (fun b o e => hk b o (Nat.ne_of_lt (Heap.lt_size e)) (far b o e)) hS hl (hG.low ?_) hacc⟩
  exact Nat.le_of_lt (Heap.lt_size e1)
end
theorem paired_of {α β : Type} {F : α → β → Prop} : ∀ {xs : List α} {ys : List β}, xs.length = ys.length → (∀ (j : Nat) x y, xs[j]? = some x → ys[j]? = some y → F x y) → Paired F xs ys
  | [], [], _, _ => .nil
  | [], _ :: _, h, _ => by simp at h
  | _ :: _, [], h, _ => by simp at h
  | x :: xs, y :: ys, h, g => .cons (g 0 x y rfl rfl) (paired_of (by simpa using h) fun j a b ha hb => g (j + 1) a b (by simpa using ha) (by simpa using hb))
theorem paired_at {α β : Type} {F : α → β → Prop} : ∀ {xs : List α} {ys : List β} {j : Nat} {x : α} {y : β}, Paired F xs ys → xs[j]? = some x → ys[j]? = some y → F x y
  | _, _, _, _, _, .nil, h, _ => by simp at h
  | _, _, 0, _, _, .cons r _, h1, h2 => by
    cases (show _ = _ from Option.some.inj h1)
    cases (show _ = _ from Option.some.inj h2)
    exact r
  | _, _, j + 1, _, _, .cons _ t, h1, h2 => paired_at (j := j) t (by simpa using h1) (by simpa using h2)
theorem refs_vals : ∀ as : List Addr, Vals (as.map V.ref) (as.map Value.ref)
  | [] => .nil
  | _ :: as => .cons rfl (refs_vals as)
theorem nodup_ix {α : Type} {xs : List α} (h : xs.Nodup) {i j : Nat} {x : α} (hi : xs[i]? = some x) (hj : xs[j]? = some x) : i = j := by
  obtain ⟨hi1, hi2⟩ := List.getElem?_eq_some_iff.mp hi
  obtain ⟨hj1, hj2⟩ := List.getElem?_eq_some_iff.mp hj
  have pw := List.pairwise_iff_getElem.mp (show xs.Pairwise (· ≠ ·) from h)
  rcases Nat.lt_trichotomy i j with c | c | c
  · exact absurd (hi2.trans hj2.symm) (pw i j hi1 hj1 c)
  · exact c
  · exact absurd (hj2.trans hi2.symm) (pw j i hj1 hi1 c)
section
variable {X : Cx}
theorem call_listItT (hc : X.calm = true) : CallR X (.type "list") (fun xs H Q => ∃ (p a : Addr) (kvs : List (List Key × V)), xs = [.ref p] ∧ H p = some (L2.DX.itemsO p a) ∧ H a = some (.dT kvs) ∧
    ∀ (H' : Hp) (l : Addr) (ts : List Addr), Same H H' → H l = none → H' l = some (.lst (ts.map V.ref)) → PairsT H' ts kvs → Q (.ref l) H') := by
  intro pins s σ H xs us Q I r h
  obtain ⟨p, a, kvs, rfl, hp, ha, q⟩ := h
  obtain ⟨u, rfl, rx⟩ := vals1 r
  cases (show u = Value.ref p from rx)
  have view : s.heap.IsItemsView p a := (show ObjOk X.prog X.w H s.heap p (L2.DX.itemsO p a) from I.hok p _ hp).1
  obtain ⟨z, hd, ks, rel, o, es, ep, ho, hx, hdat, hes, his, hn⟩ := dt_of I.hok ha
  have l1 : kvs.length = ks.length := Paired.length rel
  have l2 : es.size = ks.length := size_of_entries hes
  refine list_view (I.ok.hd hc) view ⟨o, ho, hx, hdat⟩ (by omega) fun h' tk acc c as hk hS hl hG hacc => ?_
  have nd : as.Nodup := List.Pairwise.imp (fun h => Nat.ne_of_lt h) hG.rise
  have newS : H s.heap.objs.size = none := I.hok.fresh (Nat.le_refl _)
  have I1 : Inv X pins σ (upd H s.heap.objs.size (.lst (as.map V.ref))) { s with heap := h', toks := tk } :=
    I.laid (t' := tk) hk (Nat.le_refl _) (show ObjOk X.prog X.w _ h' _ (.lst (as.map V.ref)) from ⟨by rw [List.length_map]; omega, acc.toList, c, by rw [hacc]; exact refs_vals as, by simpa using hS⟩)
  obtain ⟨H2, I2, g, tq⟩ := L2.DX.takeT (P := fun b vs => ∃ (j : Nat) (kv : List Key × V) (kq : Addr), as[j]? = some b ∧ kvs[j]? = some kv ∧ H kq = some (.tup (kv.1.map kV)) ∧ vs = [.ref kq, kv.2]) I as _ I1 nd fun b hb => by
    obtain ⟨j, hj⟩ := List.mem_iff_getElem?.mp hb
    obtain ⟨en, he, hg⟩ := hG.pairs j b hj
    have hb0 := hG.above b hb
    refine ⟨Nat.le_of_lt hb0, ?_, ?_⟩
    · rw [upd_ne (Nat.ne_of_gt hb0)]
      exact I.hok.fresh (Nat.le_of_lt hb0)
    · rw [entry_at hes j] at he
      cases hkj : ks[j]? with
      | none => rw [hkj] at he; cases he
      | some x =>
        rw [hkj] at he
        cases (show entryOfKey (tupleKind (mixKind X.prog X.w)) x = en from Option.some.inj he)
        have hjl : j < kvs.length := by
          rw [l1]
          exact (List.getElem?_eq_some_iff.mp hkj).1
        obtain ⟨r1, r2, r3⟩ := paired_at rel (List.getElem?_eq_getElem hjl) hkj
        exact ⟨_, ⟨j, kvs[j], x.2.1, hj, List.getElem?_eq_getElem hjl, r2, rfl⟩, fun _ => ⟨by show 2 ≤ sizeLine; decide, [Value.ref x.2.1, x.2.2], .cons rfl (.cons r3 .nil), ⟨_, hg, rfl, 0, rfl⟩⟩⟩
  have sm : Same H H2 := fun b o e => g b o (by rw [upd_ne (ne_of_none e newS)]; exact e)
  refine ⟨.ref s.heap.objs.size, H2, I2, rfl, q H2 _ as sm newS (g _ _ upd_same) (paired_of (by omega) fun j b kv hb hkv => ?_)⟩
  obtain ⟨vs, ⟨i, kv', kq, hi, hkv', hq, rfl⟩, e2⟩ := tq b (List.mem_of_getElem? hb)
  have := nodup_ix nd hi hb
  subst this
  rw [hkv] at hkv'
  cases hkv'
  exact ⟨kq, e2, sm _ _ hq⟩
end
/-! ### sorted(d), the keys pairs of texts -/
def dP (k : Str × Str) : PyData := .tuple [.str k.1, .str k.2]
def kP (k : Str × Str) : List Key := [Sum.inr k.1, Sum.inr k.2]
def ltP (x y : Str × Str) : Bool := PySem.W.dataLt (dP x) (dP y)
def leP (x y : Str × Str) : Bool := !ltP y x
theorem alikeP (x y : Str × Str) : PySem.W.alike (dP x) (dP y) = true := rfl
theorem each_of {α β : Type} {R : α → β → Prop} {xs : List α} {ys : List β} (h : Paired R xs ys) : PySem.W.EachIs R xs ys := by
  induction h with
  | nil => exact .nil
  | cons r _ ih => exact .cons r ih
theorem of_each {α β : Type} {R : α → β → Prop} {xs : List α} {ys : List β} (h : PySem.W.EachIs R xs ys) : Paired R xs ys := by
  induction h with
  | nil => exact .nil
  | cons r _ ih => exact .cons r ih
section
variable {prog : Program} {w : World} {A : Around} {s : Shared}
theorem sorts_pairs {bs : List Addr} {ks : List (Str × Str)} (h : Paired (fun b k => ∃ as, Reads s.heap (.ref b) (dP k) as) bs ks) (hu : A.units + 66 < cLine) :
    PySem.W.SortsAt prog w A s (PySem.W.dataKind s.heap (ks.map dP)) (bs.map Value.ref) ∧
    PySem.W.sortVals (PySem.W.dataKind s.heap (ks.map dP)) false (bs.map Value.ref) (bs.map Value.ref) = ((bs.zip ks).mergeSort fun x y => leP x.2 y.2).map fun x => Value.ref x.1 := by
  have hal : PySem.W.AllAlike (ks.map dP) := fun d hd d' hd' => by
    obtain ⟨x, _, rfl⟩ := List.mem_map.mp hd
    obtain ⟨y, _, rfl⟩ := List.mem_map.mp hd'
    exact alikeP x y
  have hso : PySem.W.Sortable (ks.map dP) := .inl fun d hd => by
    obtain ⟨x, _, rfl⟩ := List.mem_map.mp hd
    exact ⟨_, _, rfl⟩
  have e1 : PySem.W.EachIs (fun v d => ∃ as, Reads s.heap v d as) (bs.map Value.ref) (ks.map dP) := by
    induction h with
    | nil => exact .nil
    | cons r _ ih => exact .cons r (ih (fun d hd d' hd' => hal d (List.mem_cons_of_mem _ hd) d' (List.mem_cons_of_mem _ hd')) (.inl fun d hd => by
        obtain ⟨x, _, rfl⟩ := List.mem_map.mp hd
        exact ⟨_, _, rfl⟩))
  refine ⟨PySem.W.SortsAt.data e1 hal hso fun d hd => ?_, ?_⟩
  · obtain ⟨x, _, rfl⟩ := List.mem_map.mp hd
    show A.units + 1 < cLine
    omega
  · have hl : bs.length = ks.length := h.length
    have e2 : PySem.W.EachIs (fun (v : Value) (b : Addr × Str × Str) => v = Value.ref b.1) (bs.map Value.ref) (bs.zip ks) := by
      clear e1 hal hso
      induction h with
      | nil => exact .nil
      | cons r _ ih => exact .cons rfl (ih (by simpa using hl))
    have e3 : PySem.W.EachIs (fun (v : Value) (b : Addr × Str × Str) => (PySem.W.dataKind s.heap (ks.map dP)).keyOf v = some (PySem.W.keyToks (dP b.2))) (bs.map Value.ref) (bs.zip ks) := by
      have gen : ∀ {bs' : List Addr} {ks' : List (Str × Str)}, Paired (fun b k => ∃ as, Reads s.heap (.ref b) (dP k) as) bs' ks' → (∀ k ∈ ks', k ∈ ks) →
          PySem.W.EachIs (fun (v : Value) (b : Addr × Str × Str) => (PySem.W.dataKind s.heap (ks.map dP)).keyOf v = some (PySem.W.keyToks (dP b.2))) (bs'.map Value.ref) (bs'.zip ks') := by
        intro bs' ks' h hk
        induction h with
        | nil => exact .nil
        | cons r _ ih =>
          obtain ⟨as, r⟩ := r
          exact .cons (PySem.W.dataKind_some hal (List.mem_map_of_mem (hk _ (List.mem_cons_self ..))) r) (ih fun k hk' => hk k (List.mem_cons_of_mem _ hk'))
      exact gen h fun _ h => h
    have e4 := PySem.W.sortVals_each (κ := PySem.W.dataKind s.heap (ks.map dP)) (rev := false) (fun b : Addr × Str × Str => PySem.W.keyToks (dP b.2)) e2 e3
    have e5 : ((bs.zip ks).mergeSort fun x y => leP x.2 y.2) = (bs.zip ks).mergeSort (PySem.W.sortLe (PySem.W.dataKind s.heap (ks.map dP)).toKeyOrd false fun b : Addr × Str × Str => PySem.W.keyToks (dP b.2)) := rfl
    rw [e5]
    generalize (bs.zip ks).mergeSort (PySem.W.sortLe (PySem.W.dataKind s.heap (ks.map dP)).toKeyOrd false fun b : Addr × Str × Str => PySem.W.keyToks (dP b.2)) = L at e4
    clear e5 e3 e2 e1 h hl
    generalize PySem.W.sortVals _ _ _ _ = M at e4
    induction e4 with
    | nil => rfl
    | cons r _ ih =>
      rw [List.map_cons, ← ih, r]
end
theorem zip_snd {α β : Type} : ∀ {xs : List α} {ys : List β}, xs.length = ys.length → (xs.zip ys).map (·.2) = ys
  | [], [], _ => rfl
  | [], _ :: _, h => by simp at h
  | _ :: _, [], h => by simp at h
  | x :: xs, y :: ys, h => by
    show y :: (xs.zip ys).map (·.2) = y :: ys
    rw [zip_snd (by simpa using h)]
/-- what a dict's key tuples are, in order -/
theorem keys_at {H : Hp} {kvs : List (List Key × V)} {xs : List (List Key × Addr × Value)} (rel : KT H kvs xs) : ∀ {ks : List (Str × Str)}, kvs.map (·.1) = ks.map kP → Paired (fun b (k : Str × Str) => H b = some (.tup [.str k.1, .str k.2])) (xs.map fun x => x.2.1) ks := by
  induction rel with
  | nil => intro ks h; cases ks with
    | nil => exact .nil
    | cons k r => cases h
  | @cons p q ps qs h t ih =>
    intro ks e
    cases ks with
    | nil => cases e
    | cons k r =>
      rw [List.map_cons, List.map_cons] at e
      obtain ⟨e1, e2⟩ := List.cons.inj e
      refine .cons ?_ (ih e2)
      obtain ⟨h1, h2, h3⟩ := h
      rw [e1] at h2
      exact h2
theorem paired_zip {α β : Type} {F : α → β → Prop} : ∀ {L : List (α × β)}, (∀ x ∈ L, F x.1 x.2) → Paired F (L.map (·.1)) (L.map (·.2))
  | [], _ => .nil
  | x :: L, h => .cons (h x (List.mem_cons_self ..)) (paired_zip fun y hy => h y (List.mem_cons_of_mem _ hy))
theorem zip_mem {α β : Type} {F : α → β → Prop} {xs : List α} {ys : List β} (h : Paired F xs ys) : ∀ x ∈ xs.zip ys, F x.1 x.2 := by
  induction h with
  | nil => intro x hx; cases hx
  | cons r _ ih =>
    intro x hx
    rcases List.mem_cons.mp hx with e | hx
    · rw [e]; exact r
    · exact ih x hx
section
variable {X : Cx}
/-- sorted(d): a new list of the key tuples -/
theorem call_sortedT (hcalm : X.calm = true) (hu : X.A.units + 80 < cLine) : CallR X (.builtin "sorted") (fun xs H Q => ∃ (a : Addr) (kvs : List (List Key × V)) (ks : List (Str × Str)), xs = [.ref a] ∧ Rd H a (.dT kvs) ∧ kvs.map (·.1) = ks.map kP ∧
    ∀ (p : Addr) (bs : List Addr), H p = none → Paired (fun b (k : Str × Str) => H b = some (.tup [.str k.1, .str k.2])) bs (ks.mergeSort leP) → Q (.ref p) (upd H p (.lst (bs.map V.ref)))) := by
  intro pins s σ H xs us Q I r h
  obtain ⟨a, kvs, ks, rfl, hd, hks, q⟩ := h
  obtain ⟨u, rfl, rx⟩ := vals1 r
  cases (show u = Value.ref a from rx)
  obtain ⟨z, lo, es0, rel, o, es, ep, ho, hx, hdat, hes, his, hn⟩ := dt_rd I.hok hd
  have kat := keys_at rel hks
  have l1 : es.size = es0.length := size_of_entries hes
  have l0 : kvs.length = es0.length := Paired.length rel
  refine Calls.call_function_entry PyProof.Rows.kind_sorted PyProof.Rows.plain_sorted PyProof.Rows.entry_sorted (PyProof.Rows.args_sorted1 _) ?_
  unfold Builtin.«sorted»
  refine wpAny_bind (m := checkCount "sorted" 1 1 _) (wpAny_pure ?_)
  refine wpAny_bind (PySem.W.kdu_collect (A := X.A.in1) (kdl_raw lo hx hdat) (I.ok.hd hcalm) ho (by omega) fun h' tk acc hk hacc => ?_)
  have ev : acc.toList = (es0.map fun x => x.2.1).map Value.ref := by
    refine List.ext_getElem? fun j => ?_
    rw [List.map_map, List.getElem?_map, Array.getElem?_toList]
    cases hj : acc[j]? with
    | none =>
      have : es0.length ≤ j := by
        rw [← l1, ← hacc.1]
        exact Array.getElem?_eq_none_iff.mp hj
      rw [List.getElem?_eq_none this]
      rfl
    | some v =>
      obtain ⟨en, e1, e2⟩ := hacc.2 j v hj
      rw [entry_at hes j] at e1
      cases hx0 : es0[j]? with
      | none => rw [hx0] at e1; cases e1
      | some x =>
        rw [hx0] at e1
        cases (show entryOfKey (tupleKind (mixKind X.prog X.w)) x = en from Option.some.inj e1)
        rw [e2]
        rfl
  generalize hbs : (es0.map fun x => x.2.1) = bs at kat ev
  have lb : bs.length = ks.length := kat.length
  have lb2 : bs.length = kvs.length := by rw [← hbs, List.length_map, l0]
  have I1 : Inv X pins σ H { s with heap := h', toks := tk } := I.kept hk
  rw [ev]
  refine wpAny_bind (wpAny_newList ?_ (by rw [List.length_map]; omega))
  have hoL : (h'.push (seqObj "list" (bs.map Value.ref).toArray 0)).get? h'.objs.size = some (seqObj "list" (bs.map Value.ref).toArray 0) := Heap.get?_push_size _ rfl
  show wpAny _ _ _ _ _ { s with heap := h'.push (seqObj "list" (bs.map Value.ref).toArray 0), toks := tk }
  have far : ∀ b o, h'.get? b = some o → (PySem.W.sortingHeap (h'.push (seqObj "list" (bs.map Value.ref).toArray 0)) h'.objs.size (bs.map Value.ref)).get? b = some o := fun b o e =>
    PySem.W.sortingHeap_old (Nat.ne_of_lt (Heap.lt_size e)) (Heap.get?_push_of_some _ e)
  have rds : Paired (fun b (k : Str × Str) => ∃ as, Reads (PySem.W.sortingHeap (h'.push (seqObj "list" (bs.map Value.ref).toArray 0)) h'.objs.size (bs.map Value.ref)) (.ref b) (dP k) as) bs ks :=
    Paired.mapP kat fun b k e => by
      obtain ⟨as, rd⟩ := Dp.reads I1 (dP k) (.ref b) (.ref b) (.tup (.inl (.inl e)) (.cons (.str _) (.cons (.str _) .nil))) rfl
      exact ⟨as, Reads.keeps far rd⟩
  obtain ⟨S1, S2⟩ := sorts_pairs (prog := X.prog) (w := X.w) (A := X.A.in1.in1) (s := { s with heap := PySem.W.sortingHeap (h'.push (seqObj "list" (bs.map Value.ref).toArray 0)) h'.objs.size (bs.map Value.ref), toks := tk }) rds (by show X.A.units + 1 + 1 + 66 < cLine; omega)
  have hz : (bs.map Value.ref).length ≤ sizeLine := by rw [List.length_map]; omega
  refine wpAny_bind (wpAny_holding (wpAny_call_entry PyProof.Rows.slot_list_sort ⟨_, hoL, rfl⟩ PyProof.Rows.entry_list_sort
    (PySem.W.list_sort_vals (s := { s with heap := h'.push (seqObj "list" (bs.map Value.ref).toArray 0), toks := tk }) hoL S1 hz ⟨_, rfl, ?_⟩) (PyProof.Rows.args_list_sort _)))
  rw [S2]
  have eL : ((bs.zip ks).mergeSort fun x y => leP x.2 y.2).map (·.2) = ks.mergeSort leP := by
    rw [PySem.W.sort_maps (s := leP) (fun x : Addr × Str × Str => x.2) (fun a _ b _ => rfl), zip_snd lb]
  have pL : ∀ x ∈ (bs.zip ks).mergeSort fun x y => leP x.2 y.2, H x.1 = some (.tup [.str x.2.1, .str x.2.2]) := fun x hx =>
    zip_mem kat x ((List.mergeSort_perm _ _).subset hx)
  have nL : ((bs.zip ks).mergeSort fun x y => leP x.2 y.2).length = ks.length := by
    rw [(List.mergeSort_perm _ _).length_eq, List.length_zip, lb, Nat.min_self]
  generalize ((bs.zip ks).mergeSort fun x y => leP x.2 y.2) = L at eL pL nL
  obtain ⟨e', he'⟩ := PyProof.Rows.sortedHeap_at (vs := bs.map Value.ref) (out := (L.map fun x => Value.ref x.1).toArray) hoL
  have new : H h'.objs.size = none := I1.hok.fresh (Nat.le_refl _)
  have prs : Paired (fun b (k : Str × Str) => H b = some (.tup [.str k.1, .str k.2])) (L.map (·.1)) (ks.mergeSort leP) := by
    rw [← eL]
    exact paired_zip pL
  have rv : Vals ((L.map (·.1)).map V.ref) (L.map fun x => Value.ref x.1) := by
    clear pL eL nL he' prs
    induction L with
    | nil => exact .nil
    | cons x r ih => exact .cons rfl ih
  refine wpAny_pure ⟨_, rfl, .ref h'.objs.size, upd H h'.objs.size (.lst ((L.map (·.1)).map V.ref)), I1.laid (t' := tk) (fun b u e => ?_) (Nat.le_refl _)
    (show ObjOk X.prog X.w _ _ _ (.lst ((L.map (·.1)).map V.ref)) from ⟨by rw [List.length_map, List.length_map]; omega, L.map fun x => Value.ref x.1, e', rv, he'⟩), rfl, q _ _ new prs⟩
  have hb : b < h'.objs.size := Heap.lt_size e
  rw [PyProof.Rows.sortedHeap_old (Nat.ne_of_lt hb) (by rw [size_push']; exact Nat.lt_succ_of_lt hb)]
  exact Heap.get?_push_of_some _ e
end
/-! ### {(a, b): v, ..} and d.pop(k) -/
section
variable {X : Cx}
def tDispT (trs : List (TE × TE)) : TE := fun σ H Q => ∀ p, H p = none → tPairs trs σ (upd H p (.dT [])) fun ps H2 => H2 p = some (.dT []) ∧ ∃ kvs : List (List Key × V),
  Paired (fun (r : V × V) (kv : List Key × V) => ∃ b, r = (.ref b, kv.2) ∧ H2 b = some (.tup (kv.1.map kV))) ps kvs ∧ kvs.length ≤ 15 ∧ Q (.ref p) (upd H2 p (.dT (mergeT [] kvs)))
theorem carriesT {pins : List (Addr × Obj)} {σ : L2.St} {H : Hp} {s : Shared} (I : Inv X pins σ H s) : ∀ {ps : List (V × V)} {kvs : List (List Key × V)} {vs : List (Value × Value)},
    Paired (fun (r : V × V) (kv : List Key × V) => ∃ b, r = (.ref b, kv.2) ∧ H b = some (.tup (kv.1.map kV))) ps kvs → VV ps vs →
    ∃ prs : List (List Key × Addr × Value), CarriesH (tupleKind (mixKind X.prog X.w)) s.heap vs prs ∧ KT H kvs prs
  | _, _, _, .nil, .nil => ⟨[], trivial, .nil⟩
  | _, _, _, .cons (b := kv) h t, .cons (b := u) r t2 => by
    obtain ⟨prs, c, k⟩ := carriesT I t t2
    obtain ⟨b, e, hb⟩ := h
    subst e
    obtain ⟨u1, u2⟩ := u
    obtain ⟨r1, r2⟩ := r
    cases (show u1 = Value.ref b from r1)
    exact ⟨(kv.1, b, u2) :: prs, ⟨rfl, rfl, key_of I.hok hb, c⟩, .cons ⟨rfl, hb, r2⟩ k⟩
theorem pe_dispT {pos : Pos} {keys : List (Option Expr)} {values : List Expr} {trs : List (TE × TE)} (hu : X.A.units + 3 < cLine) (h : PPs X pos keys values trs) (hall : keys.all (·.isSome) = true) (hl : keys.length = values.length) (h0 : keys ≠ [])
    (h15 : keys.length ≤ 15) : PE X (.Dict keys values pos) (tDispT trs) := by
  refine ⟨fun pins s σ H Q I q => ?_⟩
  have hn := I.hok.fresh (Nat.le_refl s.heap.objs.size)
  have I1 := I.laid (a := s.heap.objs.size) (o := .dT []) (h' := s.heap.push { cls := .type "dict", data := .dict #[] }) (t' := s.toks) (fun _ _ q => Heap.get?_push_of_some _ q) (Nat.le_refl _) (dt_empty s.heap I.big)
  have hpl := pairTrees_length keys values X.env pos hall hl
  rw [arm_eval_Dict, zip_pairTrees keys values X.env pos hall hl, dictDisplay_pairs _ (fun he => by
    rw [he] at hpl
    exact h0 (List.length_eq_zero_iff.mp hpl.symm)) (by omega)]
  refine wpAny_bind (wpAny_standAt (wpAny_bind (wpAny_subDictH (knd := tupleKind (mixKind X.prog X.w)) (by show X.A.units < cLine; omega) (by omega) (thn (h.run pins _ σ _ _ I1 (q _ hn)) fun vs s2 ⟨ps, H2, I2, rel, e, kvs, pk, lk, q2⟩ => ?_))))
  obtain ⟨prs, c, kt⟩ := carriesT I2 pk rel
  obtain ⟨z, hd, xs0, r0, dd⟩ := dt_of I2.hok e
  cases r0
  refine ⟨prs, c, dd, fun h' tk dd' hs => wpAny_pure ?_⟩
  obtain ⟨o, es, ep, hq, h2, h3, h4, _, h5⟩ := dd'
  have hlen : (mergeT [] kvs).length ≤ sizeLine := by
    have := mergeT_len kvs []
    have e2 : sizeLine = 16777216 := by decide
    rw [List.length_nil, Nat.zero_add] at this
    omega
  exact ⟨.ref s.heap.objs.size, _, d_write (t' := tk) (ob := .dT (mergeT [] kvs)) I2 (by rw [e]; exact True.intro) hs ⟨o, hq⟩ (show ObjOk X.prog X.w _ h' _ (.dT (mergeT [] kvs)) from ⟨hlen, hd, _, (KT.all (.nil : KT H2 [] []) kt).keeps (fun c ys ec => (by rw [upd_ne (ne_of ec e (fun z => nomatch z))]; exact ec)), o, es, ep, hq, h2, h3, h4, h5⟩), rfl, q2⟩
/-- d.pop(k), the key there -/
def rPopT1 : V → List V → Hp → VK → Prop := fun x xs H Q => ∃ (a : Addr) (kvs : List (List Key × V)) (k : List Key) (b : Addr) (v : V), x = .ref a ∧ xs = [.ref b] ∧ H a = some (.dT kvs) ∧ H b = some (.tup (k.map kV)) ∧ valV kvs k = some v ∧ Q v (upd H a (.dT (dropK kvs k)))
theorem meetsPop1 {prog : Program} {w : World} {K : Type} [DecidableEq K] {knd : HeapKind prog w K} {d b : Addr} {k : K} (hd : (d == sysModules) = false) :
    MeetsIn prog w (Builtin.«dict.pop» ⟨[.ref d, .ref b], []⟩) (fun A R s => ∃ xs p, knd.room A.in1 ∧ knd.is s.heap k b ∧ s.heap.DictOfH knd d xs ∧ xs.length ≤ sizeLine ∧ atKey xs k = some p ∧
      ∀ h' tk, h'.DictOfH knd d (DT.dropH xs k) → Heap.SameBut d s.heap h' → R (.ok (.ret p.2)) { s with heap := h', toks := tk }) :=
  .of_wp fun A R s ⟨xs, p, hu, hkey, hm, hsz, hp, hsome⟩ => by
    obtain ⟨o, es, ep, ho, hc, hdat, he, his, hn⟩ := id hm
    have hes : es.size = xs.length := size_of_entries he
    have hpart : (keyPart (Value.ref b)).isSome = false := rfl
    unfold Builtin.«dict.pop»
    refine wpAny_bind ?_
    unfold Builtin.Dict.keyAndDefault
    refine wpAny_bind (wpAny_notOrdered_dict hm.typeIs ?_)
    refine wpAny_pure ?_
    simp only [hpart, Bool.false_eq_true, if_false]
    refine wpAny_bind (wpAny_dictEntries ho hdat (wpAny_bind (wpAny_pure ?_)))
    cases hem : es.isEmpty with
    | true =>
      have h0 : xs = [] := by
        have z : es.size = 0 := by simpa using hem
        exact List.length_eq_zero_iff.mp (by omega)
      rw [h0] at hp
      cases hp
    | false =>
      simp only [Bool.false_eq_true, if_false]
      refine wpAny_bind (DT.takeH hu hkey hm hsz (fun hno => by rw [hno] at hp; cases hp) fun p' e hp' hev h' hm' hs' => ?_)
      rw [hp] at hp'
      cases hp'
      simp only [Option.isNone_some, Bool.false_eq_true, if_false]
      exact wpAny_bind (wpAny_letGo (wpAny_pure ⟨e.val, rfl, by rw [hev]; exact hsome h' _ hm' hs'⟩))
theorem mt_popT1 (hu : X.A.units + 3 < cLine) : MtR X "dict.pop" rPopT1 := by
  intro pins s σ H x xs v us Q I rx rxs h
  obtain ⟨a, kvs, k, b, v0, rfl, rfl, ha, hb, ev, q⟩ := h
  cases rx
  obtain ⟨u, rfl, r1⟩ := vals1 rxs
  cases (show u = Value.ref b from r1)
  obtain ⟨z, hd, xs', rel, dd⟩ := dt_of I.hok ha
  have hz : xs'.length ≤ sizeLine := by rw [← Paired.length rel]; exact z
  have r := rel.val k
  rw [ev] at r
  cases hp0 : atKey xs' k with
  | none => rw [hp0] at r; exact (show False from r).elim
  | some p =>
    rw [hp0] at r
    have rv : RelV v0 p.2 := r
    refine call_meetsIn PySem.F.slot_dict_pop dd.typeIs PySem.F.entry_dict_pop (PySem.F.args_dict_pop_2 _ _) (meetsPop1 (knd := tupleKind (mixKind X.prog X.w)) (k := k) hd)
      ⟨xs', p, (by show X.A.units + 1 < cLine; omega), key_of I.hok hb, dd, hz, hp0, fun h' tk dd' hs => ?_⟩
    obtain ⟨o, es, ep, hq, h2, h3, h4, _, h5⟩ := dd'
    have I2 : Inv X pins σ (upd H a (.dT (dropK kvs k))) { s with heap := h', toks := tk } :=
      d_write I (by rw [ha]; exact True.intro) hs ⟨o, hq⟩ ⟨Nat.le_trans (dropK_le kvs k) z, hd, _, (L2.DX.KT_drop k rel).keeps (fun c ys ec => (by rw [upd_ne (ne_of ec ha (fun z => nomatch z))]; exact ec)), o, es, ep, hq, h2, h3, h4, h5⟩
    exact ⟨v0, _, I2, rv, q⟩
end
/-! ### plain nets -/
def ltS (x y : Str) : Bool := decide (x.cps.toList < y.cps.toList)
def ordP (x y : Str) : Str × Str := if ltS x y = true then (x, y) else (y, x)
def pairsOf (ps : List Str) : List (Str × Str) := ps.flatMap fun x => (ps.filter fun y => ltS x y).map fun y => (x, y)
/-- the key tuples stand at bs -/
def KeysAt (H : Hp) (bs : List Addr) (ks : List (Str × Str)) : Prop := Paired (fun b (k : Str × Str) => H b = some (.tup [.str k.1, .str k.2])) bs ks
theorem KeysAt.same {H H' : Hp} {bs : List Addr} {ks : List (Str × Str)} (s : Same H H') (h : KeysAt H bs ks) : KeysAt H' bs ks := Paired.mapP h fun _ _ e => s _ _ e
theorem Paired.app {α β : Type} {F : α → β → Prop} {a b : List α} {c d : List β} (h : Paired F a c) (g : Paired F b d) : Paired F (a ++ b) (c ++ d) := by
  induction h with
  | nil => exact g
  | cons r _ ih => exact .cons r ih
theorem scPairL : FnScope ["one", "other"] ["one", "other"] (defScope sPairL) := ⟨rfl, rfl, rfl, by decide +kernel, rfl, by decide +kernel, by decide +kernel⟩
theorem scPairsL : FnScope ["places", "found", "one", "other"] ["places"] (defScope sPairsL) := ⟨rfl, rfl, rfl, by decide +kernel, rfl, by decide +kernel, by decide +kernel⟩
theorem scWith : FnScope ["net", "pair", "more", "ties"] ["net", "pair", "more"] (defScope sWith) := ⟨rfl, rfl, rfl, by decide +kernel, rfl, by decide +kernel, by decide +kernel⟩
def spPairL : Sp := fun vs H Q _ => ∃ x y, vs = [.str x, .str y] ∧ ∀ p, H p = none → Q (.ref p) (upd H p (.tup [.str (ordP x y).1, .str (ordP x y).2]))
def spPairsL (K : PySem.W.Frag) : Sp := fun vs H Q _ => ∃ (pl : Addr) (ps : List Str), vs = [.ref pl] ∧ SqL K H pl (ps.map V.str) ∧ ps.length ≤ 9 ∧
  ∀ H' l bs, Same H H' → H l = none → H' l = some (.lst (bs.map V.ref)) → KeysAt H' bs (pairsOf ps) → Q (.ref l) H'
theorem slx {n : Nat} (h : n ≤ 1000) : n ≤ sizeLine := Nat.le_of_lt (small1000 h)
section
variable {P : Program} {w : World} {K : PySem.W.Frag} {mg : Str → Option Value} {base : Heap}
theorem ok_pairL {f : Addr} {fd : FuncData} {k : Nat} (F : Fun K "_law_pair" "_law_pair" sPairL f fd) : FnOk P w K mg base CX0 (k + 1) f fd ["one", "other"] spPairL := by
  refine F.ok scPairL (fun vs H Q E h => ?_) (fun cdv A outer s H vs Q E hr h => ?_)
  · obtain ⟨x, y, rfl, _⟩ := h
    rfl
  · obtain ⟨x, y, rfl, q⟩ := h
    refine ⟨_, pss_one (ps_ret (pe_ifExp (pt_cmpR op_lt_str (pv 0) (pv 1) (nomark _)) (pe_tup (pa_cons (pv 0) (pa_cons (pv 1) pa_nil))) (pe_tup (pa_cons (pv 1) (pa_cons (pv 0) pa_nil))))), ?_⟩
    refine ⟨.str x, rfl, .str y, rfl, x, y, rfl, rfl, _, rfl, ite2 (fun e => ?_) (fun e => ?_)⟩
    · refine ⟨.str x, rfl, .str y, rfl, slx (n := 2) (by decide), fun p np => ?_⟩
      have e2 : ordP x y = (x, y) := if_pos e
      rw [e2] at q
      exact q p np
    · refine ⟨.str y, rfl, .str x, rfl, slx (n := 2) (by decide), fun p np => ?_⟩
      have e2 : ordP x y = (y, x) := if_neg e
      rw [e2] at q
      exact q p np
theorem filter_le (ps : List Str) (x : Str) (i : Nat) : ((ps.take i).filter fun y => ltS x y).length ≤ ps.length := Nat.le_trans (List.length_filter_le _ _) (by rw [List.length_take]; exact Nat.min_le_right _ _)
theorem pairsOf_len (qs ps : List Str) : (qs.flatMap fun x => (ps.filter fun y => ltS x y).map fun y => (x, y)).length ≤ qs.length * ps.length := by
  induction qs with
  | nil => simp
  | cons x r ih =>
    rw [List.flatMap_cons, List.length_append, List.length_map, List.length_cons, Nat.succ_mul]
    have := List.length_filter_le (fun y => ltS x y) ps
    omega
theorem ok_pairsL {f : Addr} {fd : FuncData} {k : Nat} (F : Fun K "_law_pairs" "_law_pairs" sPairsL f fd) : FnOk P w K mg base CX0 (k + 1) f fd ["places"] (spPairsL K) := by
  refine F.ok scPairsL (fun vs H Q E h => ?_) (fun cdv A outer s H vs Q E hr h => ?_)
  · obtain ⟨pl, ps, rfl, _⟩ := h
    rfl
  · obtain ⟨pl, ps, rfl, hp, hlen, q⟩ := h
    refine ⟨_, pss_cons (ps_set (i := 1) scPairsL.nd rfl (.inl rfl) (pe_lst pa_nil))
      (pss_cons (ps_for PassesOwn.never rfl (pi_list (pv 0)) (pg_name (i := 2) scPairsL.nd rfl (.inr rfl))
        (pss_one (ps_set (i := 1) scPairsL.nd rfl (.inl rfl) (pe_op op_cat (pv 1) (pe_lc (own := [("other", 3)]) (g := gName 3) rfl scPairsL.nd (pi_list (pv 0))
          (blkOk_by (N := ["places", "found", "one", "other"]) (sc := defScope sPairsL) (by decide +kernel)) (fun _ _ _ _ _ => pg_name (i := 3) scPairsL.nd rfl (Or.inl rfl)) (fun _ _ _ _ _ => pts_one (pt_cmpR op_lt_str (pv 2) (pv 3) (nomark _)))
          (fun _ _ _ _ _ => pe_tup (pa_cons (pv 2) (pa_cons (pv 3) pa_nil))))))))
      (pss_one (ps_ret (pv 1)))), ?_⟩
    refine ⟨slx (by decide), fun l0 n0 => ⟨.ref pl, rfl, pl, rfl, ⟨_, (same_upd n0).seq hp⟩, ?_⟩⟩
    refine for_list (K := K) (a := pl) (xs := ps.map V.str) (fun i σ H' => ∃ l bs y2 y3, σ = [some (.ref pl), some (.ref l), y2, y3] ∧ Same H H' ∧ H l = none ∧ H' l = some (.lst (bs.map V.ref)) ∧
        KeysAt H' bs ((ps.take i).flatMap fun x => (ps.filter fun y => ltS x y).map fun y => (x, y))) ⟨l0, [], none, none, rfl, same_upd n0, n0, upd_same, .nil⟩ (fun i σ H' _ h => ?_) (fun i x σ H' hx h => ?_) (fun σ H' h => ?_)
    · obtain ⟨_, _, _, _, _, sm, _⟩ := h
      exact sm.seq hp
    · obtain ⟨l, bs, y2, y3, rfl, sm, nl, el, ka⟩ := h
      obtain ⟨z, hz, rfl⟩ : ∃ z, ps[i]? = some z ∧ x = V.str z := by
        rw [List.getElem?_map] at hx
        cases hm : ps[i]? with
        | none => rw [hm] at hx; cases hx
        | some z => rw [hm] at hx; cases hx; exact ⟨z, rfl, rfl⟩
      have lbs : bs.length ≤ 81 := by
        have h1 := ka.length
        have h2 := pairsOf_len (ps.take i) ps
        have h3 : (ps.take i).length ≤ 9 := Nat.le_trans (by rw [List.length_take]; exact Nat.min_le_right _ _) hlen
        have h4 : (ps.take i).length * ps.length ≤ 9 * 9 := Nat.mul_le_mul h3 hlen
        omega
      refine ⟨.ref l, rfl, .ref pl, rfl, pl, rfl, ⟨_, sm.seq hp⟩, fun D nD => lc_list (K := K) (a := pl) (xs := ps.map V.str)
        (fun j H'' => ∃ cs, Same H' H'' ∧ H'' D = some (.lst (cs.map V.ref)) ∧ KeysAt H'' cs (((ps.take j).filter fun y => ltS z y).map fun y => (z, y))) ⟨[], same_upd nD, upd_same, .nil⟩ (fun j H'' _ h => ?_) (fun j x H'' hx h => ?_) (fun H'' h => ?_)⟩
      · obtain ⟨_, sm2, _⟩ := h
        exact (sm.trans sm2).seq hp
      · obtain ⟨cs, sm2, eD, kc⟩ := h
        obtain ⟨y, hy, rfl⟩ : ∃ y, ps[j]? = some y ∧ x = V.str y := by
          rw [List.getElem?_map] at hx
          cases hm : ps[j]? with
          | none => rw [hm] at hx; cases hx
          | some y => rw [hm] at hx; cases hx; exact ⟨y, rfl, rfl⟩
        refine ⟨rfl, .str z, rfl, .str y, rfl, z, y, rfl, rfl, _, rfl, ite2 (fun e => ?_) (fun e => ?_)⟩
        · refine ⟨.str z, rfl, .str y, rfl, slx (n := 2) (by decide), fun t nt => ⟨cs.map V.ref, ?_, ?_, cs ++ [t], ?_, ?_, ?_⟩⟩
          · rw [upd_ne (ne_of_none eD nt)]
            exact eD
          · have h1 := kc.length
            have h2 := filter_le ps z j
            rw [List.length_map] at h1
            rw [List.length_map]
            exact small1000 (by omega)
          · intro b o hb
            rw [upd_ne (ne_of_none hb nD)]
            exact same_upd nt _ _ (sm2 _ _ hb)
          · rw [upd_same, List.map_append]
            rfl
          · rw [← take_filter_t (fun y => ltS z y) ps j y hy e, List.map_append]
            refine Paired.app ?_ (.cons ?_ .nil)
            · refine Paired.mapP kc fun b k hb => ?_
              rw [upd_ne (ne_of hb eD (fun z => nomatch z))]
              exact same_upd nt _ _ hb
            · rw [upd_ne (ne_of_none eD nt).symm, upd_same]
        · refine ⟨cs, sm2, eD, ?_⟩
          rw [← take_filter_f (fun y => ltS z y) ps j y hy (Bool.eq_false_iff.mpr e)]
          exact kc
      · obtain ⟨cs, sm2, eD, kc⟩ := h
        have ej : ps.take (ps.map V.str).length = ps := by rw [List.length_map, List.take_length]
        rw [ej] at kc
        have lcs : cs.length ≤ 9 := by
          have h1 := kc.length
          have h2 := List.length_filter_le (fun y => ltS z y) ps
          rw [List.length_map] at h1
          omega
        refine ⟨l, D, _, _, rfl, rfl, sm2 _ _ el, eD, (by rw [List.length_map, List.length_map]; exact slx (by omega)), fun p np => ?_⟩
        refine ⟨p, bs ++ cs, _, _, rfl, (sm.trans sm2).trans (same_upd np), (sm.trans sm2).free np, ?_, ?_⟩
        · rw [upd_same, List.map_append]
        · have et : ps.take (i + 1) = ps.take i ++ [z] := by
            rw [List.take_add_one, hz]
            rfl
          rw [et, List.flatMap_append]
          refine Paired.app ((ka.same sm2).same (same_upd np)) ?_
          rw [List.flatMap_cons, List.flatMap_nil, List.append_nil]
          exact kc.same (same_upd np)
    · obtain ⟨l, bs, y2, y3, rfl, sm, nl, el, ka⟩ := h
      have ej : ps.take (ps.map V.str).length = ps := by rw [List.length_map, List.take_length]
      rw [ej] at ka
      exact ⟨.ref l, rfl, q H' l bs sm nl el ka⟩
end
abbrev Ties := List ((Str × Str) × Int)
def tk (ts : Ties) : List (List Key × V) := ts.map fun e => (kP e.1, V.int e.2)
def getT (ts : Ties) (k : Str × Str) : Int := ((ts.find? fun e => decide (e.1 = k)).map (·.2)).getD 0
def putT (ts : Ties) (k : Str × Str) (v : Int) : Ties := if (ts.any fun e => decide (e.1 = k)) = true then ts.map (fun e => if e.1 = k then (e.1, v) else e) else ts ++ [(k, v)]
theorem kP_inj {a b : Str × Str} (h : kP a = kP b) : a = b := by
  unfold kP at h
  injection h with h1 h2
  injection h2 with h2 _
  injection h1 with h1
  injection h2 with h2
  exact Prod.ext h1 h2
theorem tk_keys (ts : Ties) : (tk ts).map (·.1) = (ts.map (·.1)).map kP := by
  unfold tk
  rw [List.map_map, List.map_map]
  rfl
theorem tk_len (ts : Ties) : (tk ts).length = ts.length := List.length_map ..
theorem map_nodup {α β : Type} {f : α → β} (hf : ∀ a b, f a = f b → a = b) : ∀ {xs : List α}, xs.Nodup → (xs.map f).Nodup
  | [], _ => List.nodup_nil
  | x :: xs, h => by
    rw [List.nodup_cons] at h
    rw [List.map_cons, List.nodup_cons]
    refine ⟨fun e => ?_, map_nodup hf h.2⟩
    obtain ⟨y, hy, e⟩ := List.mem_map.mp e
    rw [hf _ _ e] at hy
    exact h.1 hy
theorem tk_nodup {ts : Ties} (h : (ts.map (·.1)).Nodup) : ((tk ts).map (·.1)).Nodup := by
  rw [tk_keys]
  exact map_nodup (fun _ _ => kP_inj) h
theorem tk_val : ∀ (ts : Ties) (k : Str × Str), valV (tk ts) (kP k) = (ts.find? fun e => decide (e.1 = k)).map fun e => V.int e.2
  | [], _ => rfl
  | e :: ts, k => by
    show valV ((kP e.1, V.int e.2) :: tk ts) (kP k) = _
    rw [List.find?_cons]
    by_cases h : e.1 = k
    · rw [valV_pos (by rw [h]), decide_eq_true h]
      rfl
    · rw [valV_neg (fun z => h (kP_inj z)), decide_eq_false h, tk_val ts k]
theorem tk_get (ts : Ties) (k : Str × Str) : (valV (tk ts) (kP k)).getD (.int 0) = V.int (getT ts k) := by
  rw [tk_val]
  unfold getT
  cases ts.find? fun e => decide (e.1 = k) with
  | none => rfl
  | some e => rfl
theorem tk_any (ts : Ties) (k : Str × Str) : ((tk ts).any fun kv => decide (kv.1 = kP k)) = ts.any fun e => decide (e.1 = k) := by
  unfold tk
  rw [List.any_map]
  congr 1
  funext e
  show decide (kP e.1 = kP k) = decide (e.1 = k)
  by_cases h : e.1 = k
  · rw [decide_eq_true h, h]
    exact decide_eq_true rfl
  · rw [decide_eq_false h, decide_eq_false fun z => h (kP_inj z)]
theorem tk_put (ts : Ties) (k : Str × Str) (v : Int) : putK (tk ts) (kP k) (.int v) = tk (putT ts k v) := by
  unfold putK putT
  rw [tk_any]
  by_cases h : (ts.any fun e => decide (e.1 = k)) = true
  · rw [if_pos h, if_pos h]
    unfold tk
    rw [List.map_map, List.map_map]
    congr 1
    funext e
    show (if kP e.1 = kP k then (kP e.1, V.int v) else (kP e.1, V.int e.2)) = (kP (if e.1 = k then (e.1, v) else e).1, V.int (if e.1 = k then (e.1, v) else e).2)
    by_cases z : e.1 = k
    · rw [if_pos (by rw [z]), if_pos z]
    · rw [if_neg (fun y => z (kP_inj y)), if_neg z]
  · rw [if_neg h, if_neg h]
    unfold tk
    rw [List.map_append]
    rfl
theorem find_put (ts : Ties) (k : Str × Str) (v : Int) : (putT ts k v).find? (fun e => decide (e.1 = k)) = some (k, v) := by
  unfold putT
  by_cases h : (ts.any fun e => decide (e.1 = k)) = true
  · rw [if_pos h]
    induction ts with
    | nil => cases h
    | cons e r ih =>
      rw [List.map_cons, List.find?_cons]
      by_cases z : e.1 = k
      · rw [if_pos z, decide_eq_true z, ← z]
      · rw [if_neg z, decide_eq_false z]
        refine ih ?_
        rw [List.any_cons, decide_eq_false z, Bool.false_or] at h
        exact h
  · rw [if_neg h, List.find?_append]
    have : ts.find? (fun e => decide (e.1 = k)) = none := by
      rw [List.find?_eq_none]
      intro e he z
      exact h (List.any_eq_true.mpr ⟨e, he, z⟩)
    rw [this, Option.none_or, List.find?_cons, decide_eq_true rfl]
theorem tk_drop (ts : Ties) (k : Str × Str) : dropK (tk ts) (kP k) = tk (ts.filter fun e => decide (e.1 ≠ k)) := by
  unfold dropK tk
  rw [List.filter_map]
  congr 1
  refine List.filter_congr fun e _ => ?_
  show decide (kP e.1 ≠ kP k) = decide (e.1 ≠ k)
  by_cases h : e.1 = k
  · rw [decide_eq_false (fun z : e.1 ≠ k => z h), decide_eq_false (fun z : kP e.1 ≠ kP k => z (by rw [h]))]
  · rw [decide_eq_true (show e.1 ≠ k from h), decide_eq_true (show kP e.1 ≠ kP k from fun z => h (kP_inj z))]
/-- a plain net: places and ties -/
structure NetAt (H : Hp) (N : Addr) (ps : List Str) (ts : Ties) (pl ti : Addr) : Prop where
  net : H N = some (.dK [(Sum.inr "places", .ref pl), (Sum.inr "ties", .ref ti)])
  pl : H pl = some (.lst (ps.map V.str))
  ti : H ti = some (.dT (tk ts))
theorem NetAt.same {H H' : Hp} {N : Addr} {ps : List Str} {ts : Ties} {pl ti : Addr} (s : Same H H') (h : NetAt H N ps ts pl ti) : NetAt H' N ps ts pl ti := ⟨s _ _ h.net, s _ _ h.pl, s _ _ h.ti⟩
theorem key_ne : ¬ ((Sum.inr ("places" : Str) : Key) = Sum.inr ("ties" : Str)) := by decide
theorem merge2 {a b : V} : mergeK [] [((Sum.inr ("places" : Str) : Key), a), (Sum.inr ("ties" : Str), b)] = [((Sum.inr ("places" : Str) : Key), a), (Sum.inr ("ties" : Str), b)] := by
  simp [mergeK, putK]
  decide
theorem get_ties {a b : V} : valV [((Sum.inr "places" : Key), a), (Sum.inr "ties", b)] (Sum.inr "ties") = some b := by
  rw [valV_neg (show ¬ ((Sum.inr ("places" : Str) : Key), a).1 = Sum.inr ("ties" : Str) from key_ne), valV_pos rfl]
theorem get_places {a b : V} : valV [((Sum.inr "places" : Key), a), (Sum.inr "ties", b)] (Sum.inr "places") = some a := by
  rw [valV_pos rfl]
theorem dget_ties {H : Hp} {N : Addr} {ps : List Str} {ts : Ties} {pl ti : Addr} (h : NetAt H N ps ts pl ti) : DGet H N (.str "ties") (some (.ref ti)) := by
  have := DGet.k (k := Sum.inr "ties") h.net
  rw [get_ties] at this
  exact this
theorem dget_places {H : Hp} {N : Addr} {ps : List Str} {ts : Ties} {pl ti : Addr} (h : NetAt H N ps ts pl ti) : DGet H N (.str "places") (some (.ref pl)) := by
  have := DGet.k (k := Sum.inr "places") h.net
  rw [get_places] at this
  exact this
def spWith : Sp := fun vs H Q _ => ∃ N b m ps ts pl ti k, vs = [.ref N, .ref b, .int m] ∧ NetAt H N ps ts pl ti ∧ H b = some (.tup [.str (k : Str × Str).1, .str k.2]) ∧ getT ts k + m ≠ 0 ∧ ts.length ≤ 100 ∧ ps.length ≤ 100 ∧ (ts.map (·.1)).Nodup ∧
  ∀ H' N' pl' ti', NetAt H' N' ps (putT ts k (getT ts k + m)) pl' ti' → Same H H' → H N' = none → H pl' = none → H ti' = none → Q (.ref N') H'
section
variable {P : Program} {w : World} {K : PySem.W.Frag} {mg : Str → Option Value} {base : Heap}
theorem room80 {k : Nat} {A : Around} (r : Room k A) : A.units + 80 < cLine := by
  have := r.un
  omega
theorem room3 {k : Nat} {A : Around} (r : Room k A) : A.units + 3 < cLine := by
  have := r.un
  omega
theorem ok_with {f : Addr} {fd : FuncData} {k : Nat} (F : Fun K "_law_with" "_law_with" sWith f fd) (mL : mg "list" = none) (mD : mg "dict" = none) : FnOk P w K mg base CX0 (k + 1) f fd ["net", "pair", "more"] spWith := by
  refine F.ok scWith (fun vs H Q E h => ?_) (fun cdv A outer s H vs Q E hr h => ?_)
  · obtain ⟨N, b, m, ps, ts, pl, ti, k, rfl, _⟩ := h
    rfl
  · obtain ⟨N, b, m, ps, ts, pl, ti, k, rfl, na, hb, h0, hts, hps, nd, q⟩ := h
    have hu := hu_of hr
    refine ⟨_, pss_cons (ps_set (i := 3) scWith.nd rfl (.inl rfl) (pe_callTy (call_dictT rfl (room3 hr)) (by rfl) mD (by decide +kernel) (pa_cons (pe_callTy (call_listItT rfl) (by rfl) mL (by decide +kernel)
          (pa_cons (pe_bm0 PySem.F.plainAttrs_dict PySem.F.slot_dict_items PySem.F.type_dict_items L2.DX.mt_itemsT (pe_dget hu (pv 0) pe_str (fun _ _ => rfl))) pa_nil)) pa_nil)))
      (pss_cons (ps_dput hu (pv 3) (pv 1) (pe_op op_add (pe_dget2 hu (pv 3) (pv 1) pe_int ⟨rfl, rfl, rfl, rfl⟩) (pv 2)) rfl)
      (pss_cons (ps_if (pt_cmpR op_eq (pe_dget hu (pv 3) (pv 1) (fun _ _ => rfl)) pe_int (nomark _))
        (pss_one (ps_expr (pe_bm PySem.F.plainAttrs_dict PySem.F.slot_dict_pop PySem.F.type_dict_pop (mt_popT1 (room3 hr)) (pv 3) (pa_cons (pv 1) pa_nil)))) pss_nil)
      (pss_one (ps_ret (pe_disp (pps_cons pe_str (pe_callTy call_list_of (by rfl) mL (by decide +kernel) (pa_cons (pe_dget hu (pv 0) pe_str (fun _ _ => rfl)) pa_nil)) (pps_cons pe_str (pv 3) pps_nil)) (by rfl) (by rfl) (fun z => by cases z) (by decide)))))), ?_⟩
    refine ⟨.ref N, rfl, N, .ref ti, rfl, dget_ties na, .inr (.inr (.inl ⟨rfl, .inr ⟨_, na.ti⟩⟩)), ti, tk ts, rfl, rfl, na.ti, fun vw nv => ?_⟩
    have s0 : Same H (upd H vw (L2.DX.itemsO vw ti)) := same_upd nv
    refine ⟨vw, ti, tk ts, rfl, upd_same, s0 _ _ na.ti, fun H1 l1 bs sm nl el prs => ⟨l1, bs, tk ts, rfl, el, prs, fun td ntd => ?_⟩⟩
    rw [mergeT_nil (tk_nodup nd)]
    have s1 : Same H H1 := s0.trans sm
    have s2 : Same H (upd H1 td (.dT (tk ts))) := s1.trans (same_upd ntd)
    have etd : (upd H1 td (.dT (tk ts))) td = some (.dT (tk ts)) := upd_same
    have ntd0 : H td = none := s1.free ntd
    generalize upd H1 td (.dT (tk ts)) = H2 at s2 etd ⊢
    refine ⟨.ref td, rfl, td, rfl, .inr ⟨_, .inl etd⟩, .ref b, rfl, _, DGet.t (k := kP k) etd (s2 _ _ hb), .int m, rfl, getT ts k, m, tk_get ts k, rfl, ?_⟩
    refine ⟨.ref td, rfl, .ref b, rfl, td, _, rfl, DPut.t (k := kP k) etd (s2 _ _ hb) (by rw [tk_len]; exact small1000 (by omega)), ?_⟩
    dsimp only
    rw [tk_put]
    have n3 : ∀ c o, H c = some o → c ≠ td := fun c o e => ne_of_none e ntd0
    have s3 : Same H (upd H2 td (.dT (tk (putT ts k (getT ts k + m))))) := fun c o e => by
      rw [upd_ne (n3 c o e)]
      exact s2 c o e
    have e3 : (upd H2 td (.dT (tk (putT ts k (getT ts k + m))))) td = some (.dT (tk (putT ts k (getT ts k + m)))) := upd_same
    generalize upd H2 td (.dT (tk (putT ts k (getT ts k + m)))) = H3 at s3 e3 ⊢
    have gv : valV (tk (putT ts k (getT ts k + m))) (kP k) = some (V.int (getT ts k + m)) := by
      rw [tk_val, find_put]
      rfl
    have dg : DGet H3 td (.ref b) (some (.int (getT ts k + m))) := by
      have := DGet.t (k := kP k) e3 (s3 _ _ hb)
      rw [gv] at this
      exact this
    refine ⟨.ref td, rfl, .ref b, rfl, td, _, rfl, dg, rfl, _, rfl, ?_⟩
    rw [decide_eq_false (show ¬ V.int (getT ts k + m) = V.int 0 from fun z => h0 (V.int.inj z))]
    refine iteF ?_
    refine fun p np => ⟨.ref N, rfl, N, .ref pl, rfl, dget_places (na.same (s3.trans (same_upd np))), pl, _, rfl, .inl (.inl (.inl ((s3.trans (same_upd np)) _ _ na.pl))), fun l2 nl2 => ⟨.ref td, rfl, ?_⟩⟩
    refine ⟨(same_upd nl2) _ _ upd_same, [(Sum.inr "places", .ref l2), (Sum.inr "ties", .ref td)], rfl, (show 2 ≤ 15 by decide), ?_⟩
    rw [merge2]
    have s5 : Same H3 (upd H3 p (.dK [])) := same_upd np
    have s6 : Same (upd H3 p (.dK [])) (upd (upd H3 p (.dK [])) l2 (.lst (ps.map V.str))) := same_upd nl2
    have np0 : H p = none := s3.free np
    have l2p : l2 ≠ p := (ne_of_none (o := .dK []) upd_same nl2).symm
    have nl0 : H l2 = none := (s3.trans s5).free nl2
    have tdp : td ≠ p := ne_of_none e3 np
    refine q _ p l2 td ⟨upd_same, ?_, ?_⟩ (fun c o e => ?_) np0 nl0 ntd0
    · rw [upd_ne l2p, upd_same]
    · rw [upd_ne tdp]
      exact (s5.trans s6) _ _ e3
    · rw [upd_ne (ne_of_none e np0)]
      exact (s3.trans (s5.trans s6)) c o e
end
/-! ### nets that are drawn -/
structure GoodN (ps : List Str) (ts : Ties) : Prop where
  asc : ps.Pairwise fun a b => ltS a b = true
  words : ∀ p ∈ ps, wordS p = true ∧ p.length ≤ 8 ∧ ∀ c ∈ p.cps.toList, c < 128
  two : 2 ≤ ps.length
  six : ps.length ≤ 6
  keys : ∀ e ∈ ts, e.1.1 ∈ ps ∧ e.1.2 ∈ ps ∧ ltS e.1.1 e.1.2 = true
  nodup : (ts.map (·.1)).Nodup
  pos : ∀ e ∈ ts, 1 ≤ e.2
  sum : (ts.map (·.2)).sum ≤ 22
def n5 : List Str := ["a", "b", "c", "d", "e"]
def n4 : List Str := ["a", "b", "c", "d"]
def fullT : Ties := (pairsOf n4).map fun k => (k, 1)
def ringK : List (Str × Str) := [("a", "e"), ("a", "b"), ("b", "c"), ("c", "d"), ("d", "e")]
def ringT : Ties := ringK.map fun k => (k, 1)
def hubT : Ties := [(("a", "z"), 2), (("b", "z"), 1), (("c", "z"), 1), (("a", "b"), 1), (("b", "c"), 1), (("a", "c"), 1)]
def starT : Ties := (n4.map fun p => (p, ("z" : Str))).map fun k => (k, 1)
theorem good_full : GoodN n4 fullT := ⟨by decide +kernel, by decide +kernel, by decide +kernel, by decide +kernel, by decide +kernel, by decide +kernel, by decide +kernel, by decide +kernel⟩
theorem good_ring : GoodN n5 ringT := ⟨by decide +kernel, by decide +kernel, by decide +kernel, by decide +kernel, by decide +kernel, by decide +kernel, by decide +kernel, by decide +kernel⟩
theorem good_hub : GoodN ["a", "b", "c", "z"] hubT := ⟨by decide +kernel, by decide +kernel, by decide +kernel, by decide +kernel, by decide +kernel, by decide +kernel, by decide +kernel, by decide +kernel⟩
theorem good_two : GoodN ["a", "b"] [(("a", "b"), 4)] := ⟨by decide +kernel, by decide +kernel, by decide +kernel, by decide +kernel, by decide +kernel, by decide +kernel, by decide +kernel, by decide +kernel⟩
theorem good_star : GoodN ["a", "b", "c", "d", "z"] starT := ⟨by decide +kernel, by decide +kernel, by decide +kernel, by decide +kernel, by decide +kernel, by decide +kernel, by decide +kernel, by decide +kernel⟩
theorem good_path : GoodN ["a", "b", "c"] [(("a", "b"), 1), (("b", "c"), 1)] := ⟨by decide +kernel, by decide +kernel, by decide +kernel, by decide +kernel, by decide +kernel, by decide +kernel, by decide +kernel, by decide +kernel⟩
theorem good_bare : GoodN ["a", "b", "c"] [] := ⟨by decide +kernel, by decide +kernel, by decide +kernel, by decide +kernel, by decide +kernel, by decide +kernel, by decide +kernel, by decide +kernel⟩
/-- a row (places, ties) of known nets -/
structure KRow (H : Hp) (x : V) : Prop where
  ex : ∃ t pl ti ps ts, x = .ref t ∧ H t = some (.tup [.ref pl, .ref ti]) ∧ H pl = some (.lst ((ps : List Str).map V.str)) ∧ H ti = some (.dT (tk ts)) ∧ GoodN ps ts
theorem KRow.same {H H' : Hp} {x : V} (s : Same H H') (h : KRow H x) : KRow H' x := by
  obtain ⟨t, pl, ti, ps, ts, e, h1, h2, h3, g⟩ := h.ex
  exact ⟨t, pl, ti, ps, ts, e, s _ _ h1, s _ _ h2, s _ _ h3, g⟩
theorem KRow.sd {d : Addr} {H H' : Hp} {x : V} (hd : DiceAt H d) (s : Sd d H H') (h : KRow H x) : KRow H' x := by
  obtain ⟨t, pl, ti, ps, ts, e, h1, h2, h3, g⟩ := h.ex
  obtain ⟨a, b, c, hd⟩ := hd
  refine ⟨t, pl, ti, ps, ts, e, s.keep _ _ (ne_of h1 hd (fun z => nomatch z)) h1, s.keep _ _ ?_ h2, s.keep _ _ (ne_of h3 hd (fun z => nomatch z)) h3, g⟩
  refine ne_of h2 hd fun z => ?_
  injection z with z
  match ps, g.two, z with
  | p :: r, _, z => cases z
theorem scKnown : FnScope ["dice", "names", "full", "ring", "hub", "some", "star", "places", "ties", "pair", "at", "place"] ["dice"] (defScope sKnown) := ⟨rfl, rfl, rfl, by decide +kernel, rfl, by decide +kernel, by decide +kernel⟩
def spNet : Sp := fun vs H Q _ => ∃ d, vs = [.ref d] ∧ DiceAt H d ∧ ∀ H' N ps ts pl ti, Sd d H H' → NetAt H' N ps ts pl ti → GoodN ps ts → H N = none → H pl = none → H ti = none → Q (.ref N) H'
theorem PairsT.same {H H' : Hp} {ps : List Addr} {kvs : List (List Key × V)} (s : Same H H') (h : PairsT H ps kvs) : PairsT H' ps kvs := Paired.mapP h fun _ _ ⟨b, e1, e2⟩ => ⟨b, s _ _ e1, s _ _ e2⟩
theorem tk_snoc (ts : Ties) (k : Str × Str) (v : Int) : tk ts ++ [(kP k, V.int v)] = tk (ts ++ [(k, v)]) := by
  unfold tk
  rw [List.map_append]
  rfl
theorem ring_at : ∀ i : Nat, i < 5 → ∃ x y, atI (n5.map V.str) (0 + (i : Int) - 1) = some (V.str x) ∧ atI (n5.map V.str) (0 + (i : Int)) = some (V.str y) ∧ ringK[i]? = some (ordP x y)
  | 0, _ => ⟨"e", "a", by rfl, by rfl, by decide +kernel⟩
  | 1, _ => ⟨"a", "b", by rfl, by rfl, by decide +kernel⟩
  | 2, _ => ⟨"b", "c", by rfl, by rfl, by decide +kernel⟩
  | 3, _ => ⟨"c", "d", by rfl, by rfl, by decide +kernel⟩
  | 4, _ => ⟨"d", "e", by rfl, by rfl, by decide +kernel⟩
  | n + 5, h => by omega
theorem cut_n4 : cutV (n5.map V.str) none (some 4) = n4.map V.str := by rfl
theorem cut_n3 : cutV (n5.map V.str) none (some 3) = [V.str "a", V.str "b", V.str "c"] := by rfl
theorem paired_get' {α β : Type} {F : α → β → Prop} : ∀ {xs : List α} {ys : List β}, Paired F xs ys → ∀ {i : Nat} {x : α}, xs[i]? = some x → ∃ y, ys[i]? = some y ∧ F x y
  | _, _, .nil, i, x, h => by simp at h
  | _, _, .cons r t, 0, x, h => by
    cases (show _ = _ from Option.some.inj h)
    exact ⟨_, rfl, r⟩
  | _, _, .cons r t, i + 1, x, h => by
    obtain ⟨y, h1, h2⟩ := paired_get' (i := i) t (by simpa using h)
    exact ⟨y, by simpa using h1, h2⟩
/-- one more pair (key, number) at the end of the list at D -/
theorem pairs_step {H2 H' : Hp} {D t b : Addr} {cs : List Addr} {T : Ties} {k : Str × Str} {v : Int} (nD : H2 D = none) (sm : Same H2 H') (eD : H' D = some (.lst (cs.map V.ref))) (pt : PairsT H' cs (tk T))
    (hb : H' b = some (.tup [.str k.1, .str k.2])) (nt : H' t = none) :
    (upd H' t (.tup [.ref b, .int v])) D = some (.lst (cs.map V.ref)) ∧ Same H2 (upd (upd H' t (.tup [.ref b, .int v])) D (.lst (cs.map V.ref ++ [V.ref t]))) ∧
    (upd (upd H' t (.tup [.ref b, .int v])) D (.lst (cs.map V.ref ++ [V.ref t]))) D = some (.lst ((cs ++ [t]).map V.ref)) ∧
    PairsT (upd (upd H' t (.tup [.ref b, .int v])) D (.lst (cs.map V.ref ++ [V.ref t]))) (cs ++ [t]) (tk (T ++ [(k, v)])) := by
  have tD : t ≠ D := (ne_of_none eD nt).symm
  have far : ∀ c xs, H' c = some (.tup xs) → (upd (upd H' t (.tup [.ref b, .int v])) D (.lst (cs.map V.ref ++ [V.ref t]))) c = some (.tup xs) := fun c xs e => by
    rw [upd_ne (ne_of e eD (fun z => nomatch z)), upd_ne (ne_of_none e nt)]
    exact e
  refine ⟨by rw [upd_ne tD.symm]; exact eD, fun c o e => ?_, ?_, ?_⟩
  · rw [upd_ne (ne_of_none e nD), upd_ne (ne_of_none (sm _ _ e) nt)]
    exact sm _ _ e
  · rw [upd_same, List.map_append]
    rfl
  · rw [← tk_snoc]
    refine Paired.app (Paired.mapP pt fun p kv ⟨b', h1, h2⟩ => ⟨b', far _ _ h1, far _ _ h2⟩) (.cons ⟨b, ?_, far _ _ hb⟩ .nil)
    rw [upd_ne tD, upd_same]
theorem disp_same {H H2 : Hp} {p : Addr} {o u : HO} (np : H p = none) (sm : Same (upd H p u) H2) : Same H (upd H2 p o) := fun c x e => by
  rw [upd_ne (ne_of_none e np)]
  exact sm c x (by rw [upd_ne (ne_of_none e np)]; exact e)
theorem pairsT_len {H : Hp} {cs : List Addr} {T : Ties} (h : PairsT H cs (tk T)) : cs.length = T.length := by
  have := Paired.length h
  rw [tk_len] at this
  exact this
section
variable {P : Program} {w : World} {K : PySem.W.Frag} {mg : Str → Option Value} {base : Heap}
theorem ok_known {f g1 g2 g3 : Addr} {fd gd1 gd2 gd3 : FuncData} {k : Nat} (F : Fun K "_law_known_net" "_law_known_net" sKnown f fd)
    (G1 : FnOk P w K mg base CX0 (k + 1) g1 gd1 ["one", "other"] spPairL) (gk1 : PySem.W.keepIn K (.ref g1) = true) (gb1 : Binds K gd1 ["one", "other"] []) (mg1 : mg "_law_pair" = some (.ref g1))
    (G2 : FnOk P w K mg base CX0 (k + 1) g2 gd2 ["places"] (spPairsL K)) (gk2 : PySem.W.keepIn K (.ref g2) = true) (gb2 : Binds K gd2 ["places"] []) (mg2 : mg "_law_pairs" = some (.ref g2))
    (G3 : FnOk P w K mg base CX0 (k + 1) g3 gd3 ["dice", "items"] spPick) (gk3 : PySem.W.keepIn K (.ref g3) = true) (gb3 : Binds K gd3 ["dice", "items"] []) (mg3 : mg "_law_pick" = some (.ref g3))
    (mL : mg "list" = none) (mD : mg "dict" = none) (mR : mg "range" = none) : FnOk P w K mg base CX0 (k + 2) f fd ["dice"] spNet := by
  refine F.ok scKnown (fun vs H Q E h => ?_) (fun cdv A outer s H vs Q E hr h => ?_)
  · obtain ⟨d, rfl, _⟩ := h
    rfl
  · obtain ⟨d, rfl, hd, q⟩ := h
    have hu := hu_of hr
    refine ⟨_, pss_cons (ps_set (i := 1) scKnown.nd rfl (.inr rfl) (pe_lst (pa_cons pe_str (pa_cons pe_str (pa_cons pe_str (pa_cons pe_str (pa_cons pe_str pa_nil)))))))
      (C8.pss_cut (ps_set (i := 2) scKnown.nd rfl (.inl rfl) (pe_callTy (call_dictT rfl (room3 hr)) (by rfl) mD (by decide +kernel) (pa_cons (pe_lc (own := [("pair", 9)]) (g := gName 9) (tt := tYes) rfl scKnown.nd
          (pi_list (pe_call G2 hr (by rfl) mg2 gk2 gb2 .nil pass0 (pa_cons (pe_slice sl_list (pv 1) po_none (po_some pe_int)) pa_nil)))
          (blkOk_by (N := ["dice", "names", "full", "ring", "hub", "some", "star", "places", "ties", "pair", "at", "place"]) (sc := defScope sKnown) (by decide +kernel)) (fun _ _ _ _ _ => pg_name (i := 9) scKnown.nd rfl (Or.inl rfl)) (fun _ _ _ _ _ => pts_nil)
          (fun _ _ _ _ _ => pe_tup (pa_cons (pv 9) (pa_cons pe_int pa_nil)))) pa_nil)))
      (C8.pss_cut (ps_set (i := 3) scKnown.nd rfl (.inl rfl) (pe_callTy (call_dictT rfl (room3 hr)) (by rfl) mD (by decide +kernel) (pa_cons (pe_lc (own := [("at", 10)]) (g := gName 10) (tt := tYes) rfl scKnown.nd
          (pi_range1 (by rfl) mR (pa_cons pe_int pa_nil))
          (blkOk_by (N := ["dice", "names", "full", "ring", "hub", "some", "star", "places", "ties", "pair", "at", "place"]) (sc := defScope sKnown) (by decide +kernel)) (fun _ _ _ _ _ => pg_name (i := 10) scKnown.nd rfl (Or.inl rfl)) (fun _ _ _ _ _ => pts_nil)
          (fun _ _ _ _ _ => pe_tup (pa_cons (pe_call G1 hr (by rfl) mg1 gk1 gb1 .nil pass0 (pa_cons (pe_ix (ix_listK (K := K) rfl) (pv 1) (pe_op op_sub (pv 10) pe_int) (fun _ _ => rfl)) (pa_cons (pe_ix (ix_listK (K := K) rfl) (pv 1) (pv 10) (fun _ _ => rfl)) pa_nil))) (pa_cons pe_int pa_nil)))) pa_nil)))
      (C8.pss_cut (ps_set (i := 4) scKnown.nd rfl (.inl rfl) (pe_dispT (room3 hr) (pps_cons (pe_tup (pa_cons pe_str (pa_cons pe_str pa_nil))) pe_int (pps_cons (pe_tup (pa_cons pe_str (pa_cons pe_str pa_nil))) pe_int (pps_cons (pe_tup (pa_cons pe_str (pa_cons pe_str pa_nil))) pe_int
          (pps_cons (pe_tup (pa_cons pe_str (pa_cons pe_str pa_nil))) pe_int (pps_cons (pe_tup (pa_cons pe_str (pa_cons pe_str pa_nil))) pe_int (pps_cons (pe_tup (pa_cons pe_str (pa_cons pe_str pa_nil))) pe_int pps_nil)))))) (by rfl) (by rfl) (fun z => by cases z) (by decide)))
      (C8.pss_cut (ps_set (i := 5) scKnown.nd rfl (.inl rfl) (pe_lst (pa_cons (pe_tup (pa_cons (pe_slice sl_list (pv 1) po_none (po_some pe_int)) (pa_cons (pv 2) pa_nil))) (pa_cons (pe_tup (pa_cons (pv 1) (pa_cons (pv 3) pa_nil)))
          (pa_cons (pe_tup (pa_cons (pe_lst (pa_cons pe_str (pa_cons pe_str (pa_cons pe_str (pa_cons pe_str pa_nil))))) (pa_cons (pv 4) pa_nil)))
          (pa_cons (pe_tup (pa_cons (pe_lst (pa_cons pe_str (pa_cons pe_str pa_nil))) (pa_cons (pe_dispT (room3 hr) (pps_cons (pe_tup (pa_cons pe_str (pa_cons pe_str pa_nil))) pe_int pps_nil) (by rfl) (by rfl) (fun z => by cases z) (by decide)) pa_nil))) pa_nil))))))
      (C8.pss_cut (ps_set (i := 6) scKnown.nd rfl (.inl rfl) (pe_callTy (call_dictT rfl (room3 hr)) (by rfl) mD (by decide +kernel) (pa_cons (pe_lc (own := [("place", 11)]) (g := gName 11) (tt := tYes) rfl scKnown.nd
          (pi_list (pe_slice sl_list (pv 1) po_none (po_some pe_int)))
          (blkOk_by (N := ["dice", "names", "full", "ring", "hub", "some", "star", "places", "ties", "pair", "at", "place"]) (sc := defScope sKnown) (by decide +kernel)) (fun _ _ _ _ _ => pg_name (i := 11) scKnown.nd rfl (Or.inl rfl)) (fun _ _ _ _ _ => pts_nil)
          (fun _ _ _ _ _ => pe_tup (pa_cons (pe_tup (pa_cons (pv 11) (pa_cons pe_str pa_nil))) (pa_cons pe_int pa_nil)))) pa_nil)))
      (C8.pss_cut (ps_set (i := 5) scKnown.nd rfl (.inl rfl) (pe_op op_cat (pv 5) (pe_lst (pa_cons (pe_tup (pa_cons (pe_op op_cat (pe_slice sl_list (pv 1) po_none (po_some pe_int)) (pe_lst (pa_cons pe_str pa_nil))) (pa_cons (pv 6) pa_nil)))
          (pa_cons (pe_tup (pa_cons (pe_slice sl_list (pv 1) po_none (po_some pe_int)) (pa_cons (pe_dispT (room3 hr) (pps_cons (pe_tup (pa_cons pe_str (pa_cons pe_str pa_nil))) pe_int (pps_cons (pe_tup (pa_cons pe_str (pa_cons pe_str pa_nil))) pe_int pps_nil)) (by rfl) (by rfl) (fun z => by cases z) (by decide)) pa_nil)))
          (pa_cons (pe_tup (pa_cons (pe_slice sl_list (pv 1) po_none (po_some pe_int)) (pa_cons pe_dnewT pa_nil))) pa_nil))))))
      (pss_cons (ps_asg (pe_call G3 hr (by rfl) mg3 gk3 gb3 .nil pass0 (pa_cons (pv 0) (pa_cons (pv 5) pa_nil))) (pg_tup rfl (pgs_cons (pg_name (i := 7) scKnown.nd rfl (.inl rfl)) (pgs_cons (pg_name (i := 8) scKnown.nd rfl (.inl rfl)) pgs_nil))))
      (pss_one (ps_ret (pe_disp (pps_cons pe_str (pe_callTy call_list_of (by rfl) mL (by decide +kernel) (pa_cons (pv 7) pa_nil)) (pps_cons pe_str (pe_callTy (call_dictT rfl (room3 hr)) (by rfl) mD (by decide +kernel) (pa_cons (pe_callTy (call_listItT rfl) (by rfl) mL (by decide +kernel)
          (pa_cons (pe_bm0 PySem.F.plainAttrs_dict PySem.F.slot_dict_items PySem.F.type_dict_items L2.DX.mt_itemsT (pv 8)) pa_nil)) pa_nil)) pps_nil)) (by rfl) (by rfl) (fun z => by cases z) (by decide))))))))))), ?_⟩
    refine ⟨slx (n := 5) (by decide), fun nm nnm => ?_⟩
    have e1 : (upd H nm (.lst [.str "a", .str "b", .str "c", .str "d", .str "e"])) nm = some (.lst (n5.map V.str)) := upd_same
    have sm1 : Same H (upd H nm (.lst [.str "a", .str "b", .str "c", .str "d", .str "e"])) := same_upd nnm
    generalize upd H nm (.lst [.str "a", .str "b", .str "c", .str "d", .str "e"]) = H1 at e1 sm1 ⊢
    -- full
    refine ⟨fun σ' H' => ∃ a, σ' = [some (.ref d), some (.ref nm), some (.ref a), none, none, none, none, none, none, none, none, none] ∧ Same H1 H' ∧ H' a = some (.dT (tk fullT)), ?_, ?_⟩
    · refine ⟨.ref nm, rfl, 4, rfl, nm, n5.map V.str, rfl, .inl (.inl e1), fun p0 np0 => ⟨p0, n4, rfl, .inl (.inl (by rw [← cut_n4]; exact upd_same)), by decide, fun H2 l bs sm nl el ka => ⟨l, rfl, ⟨_, .inl (.inl el)⟩, fun D nD => ?_⟩⟩⟩
      have s12 : Same H1 H2 := (same_upd np0).trans sm
      refine lc_list (K := K) (a := l) (xs := bs.map V.ref) (fun i H' => ∃ cs, Same H2 H' ∧ H' D = some (.lst (cs.map V.ref)) ∧ PairsT H' cs (tk (((pairsOf n4).take i).map fun k => (k, (1 : Int)))))
        ⟨[], same_upd nD, upd_same, .nil⟩ (fun i H' _ h => ?_) (fun i x H' hx h => ?_) (fun H' h => ?_)
      · obtain ⟨_, s2, _⟩ := h
        exact .inl (.inl (s2 _ _ el))
      · obtain ⟨cs, s2, eD, pt⟩ := h
        rw [List.getElem?_map] at hx
        cases hb : bs[i]? with
        | none => rw [hb] at hx; cases hx
        | some b =>
          rw [hb] at hx
          cases hx
          obtain ⟨k, hk, eb⟩ := paired_get' ka hb
          refine ⟨rfl, .ref b, rfl, slx (n := 2) (by decide), fun t nt => ?_⟩
          obtain ⟨c1, c2, c3, c4⟩ := pairs_step (v := 1) nD s2 eD pt (s2 _ _ eb) nt
          refine ⟨cs.map V.ref, c1, ?_, cs ++ [t], c2, c3, ?_⟩
          · have := pairsT_len pt
            rw [List.length_map, List.length_take] at this
            rw [List.length_map]
            have h6 : (pairsOf n4).length = 6 := by decide +kernel
            exact small1000 (by omega)
          · rw [List.take_add_one, hk, List.map_append]
            exact c4
      · obtain ⟨cs, s2, eD, pt⟩ := h
        have hl : (bs.map V.ref).length = (pairsOf n4).length := by rw [List.length_map]; exact ka.length
        rw [hl, List.take_length] at pt
        refine ⟨D, cs, tk fullT, rfl, eD, pt, fun a na => ?_⟩
        rw [mergeT_nil (tk_nodup good_full.nodup)]
        exact ⟨a, rfl, (s12.trans s2).trans (same_upd na), upd_same⟩
    rintro σ2 H2 ⟨fu, rfl, s12, efu⟩
    -- ring
    refine ⟨fun σ' H' => ∃ a, σ' = [some (.ref d), some (.ref nm), some (.ref fu), some (.ref a), none, none, none, none, none, none, none, none] ∧ Same H2 H' ∧ H' a = some (.dT (tk ringT)), ?_, ?_⟩
    · refine ⟨5, rfl, by decide, by decide, fun D nD => lc_range (lo := 0) (n := 5) (fun i H' => ∃ cs, Same H2 H' ∧ H' D = some (.lst (cs.map V.ref)) ∧ PairsT H' cs (tk ((ringK.take i).map fun k => (k, (1 : Int)))))
        ⟨[], same_upd nD, upd_same, .nil⟩ (fun i H' hi h => ?_) (fun H' h => ?_)⟩
      · obtain ⟨cs, s2, eD, pt⟩ := h
        obtain ⟨x, y, hx, hy, hk⟩ := ring_at i hi
        have enm : H' nm = some (.lst (n5.map V.str)) := s2 _ _ (s12 _ _ e1)
        refine ⟨rfl, .ref nm, rfl, .int (0 + (i : Int)), rfl, _, 1, rfl, rfl, nm, _, _, _, rfl, rfl, .inl (.inl enm), hx, .ref nm, rfl, .int (0 + (i : Int)), rfl, nm, _, _, _, rfl, rfl, .inl (.inl enm), hy, x, y, rfl, fun b nb => ⟨slx (n := 2) (by decide), fun t nt => ?_⟩⟩
        have s3 : Same H2 (upd H' b (.tup [.str (ordP x y).1, .str (ordP x y).2])) := s2.trans (same_upd nb)
        obtain ⟨c1, c2, c3, c4⟩ := pairs_step (v := 1) nD s3 (same_upd nb _ _ eD) (pt.same (same_upd nb)) (k := ordP x y) upd_same nt
        refine ⟨cs.map V.ref, c1, ?_, cs ++ [t], c2, c3, ?_⟩
        · have := pairsT_len pt
          rw [List.length_map, List.length_take] at this
          rw [List.length_map]
          have h6 : ringK.length = 5 := rfl
          exact small1000 (by omega)
        · rw [List.take_add_one, hk, List.map_append]
          exact c4
      · obtain ⟨cs, s2, eD, pt⟩ := h
        refine ⟨D, cs, tk ringT, rfl, eD, pt, fun a na => ?_⟩
        rw [mergeT_nil (tk_nodup good_ring.nodup)]
        exact ⟨a, rfl, s2.trans (same_upd na), upd_same⟩
    rintro σ3 H3 ⟨ri, rfl, s23, eri⟩
    -- hub
    refine ⟨fun σ' H' => ∃ a, σ' = [some (.ref d), some (.ref nm), some (.ref fu), some (.ref ri), some (.ref a), none, none, none, none, none, none, none] ∧ Same H3 H' ∧ H' a = some (.dT (tk hubT)), ?_, ?_⟩
    · refine fun p np => ⟨slx (n := 2) (by decide), fun t1 n1 => ⟨slx (n := 2) (by decide), fun t2 n2 => ⟨slx (n := 2) (by decide), fun t3 n3 => ⟨slx (n := 2) (by decide), fun t4 n4' => ⟨slx (n := 2) (by decide), fun t5 n5' => ⟨slx (n := 2) (by decide), fun t6 n6 => ?_⟩⟩⟩⟩⟩⟩
      have m6 := same_upd (o := .tup [.str "a", .str "c"]) n6
      have m5 := (same_upd n5').trans m6
      have m4 := (same_upd n4').trans m5
      have m3 := (same_upd n3).trans m4
      have m2 := (same_upd n2).trans m3
      have m1 := (same_upd n1).trans m2
      have m0 := (same_upd np).trans m1
      refine ⟨m1 _ _ upd_same, tk hubT, .cons ⟨t1, rfl, m2 _ _ upd_same⟩ (.cons ⟨t2, rfl, m3 _ _ upd_same⟩ (.cons ⟨t3, rfl, m4 _ _ upd_same⟩ (.cons ⟨t4, rfl, m5 _ _ upd_same⟩ (.cons ⟨t5, rfl, m6 _ _ upd_same⟩ (.cons ⟨t6, rfl, upd_same⟩ .nil))))), by decide, ?_⟩
      rw [mergeT_nil (tk_nodup good_hub.nodup)]
      refine ⟨p, rfl, fun c o e => ?_, upd_same⟩
      rw [upd_ne (ne_of_none e np)]
      exact m0 _ _ e
    rintro σ4 H4 ⟨hu4, rfl, s34, ehu⟩
    -- some
    have enm4 : H4 nm = some (.lst (n5.map V.str)) := s34 _ _ (s23 _ _ (s12 _ _ e1))
    have efu4 : H4 fu = some (.dT (tk fullT)) := s34 _ _ (s23 _ _ efu)
    have eri4 : H4 ri = some (.dT (tk ringT)) := s34 _ _ eri
    refine ⟨fun σ' H' => ∃ L rows, σ' = [some (.ref d), some (.ref nm), some (.ref fu), some (.ref ri), some (.ref hu4), some (.ref L), none, none, none, none, none, none] ∧ Same H4 H' ∧ H' L = some (.lst rows) ∧ rows.length = 4 ∧ ∀ x ∈ rows, KRow H' x, ?_, ?_⟩
    · refine ⟨.ref nm, rfl, 4, rfl, nm, _, rfl, .inl (.inl enm4), fun q1 nq1 => ⟨.ref fu, rfl, slx (n := 2) (by decide), fun t1 n1 => ⟨.ref nm, rfl, .ref ri, rfl, slx (n := 2) (by decide), fun t2 n2 => ⟨slx (n := 4) (by decide), fun q3 nq3 => ⟨.ref hu4, rfl, slx (n := 2) (by decide), fun t3 n3 =>
        ⟨slx (n := 2) (by decide), fun q4 nq4 => fun p4 np4 => ⟨slx (n := 2) (by decide), fun k4 nk4 => ?_⟩⟩⟩⟩⟩⟩⟩
      refine ⟨(same_upd nk4) _ _ upd_same, tk [(("a", "b"), 4)], .cons ⟨k4, rfl, upd_same⟩ .nil, by decide, slx (n := 2) (by decide), fun t4 n4' => ⟨slx (n := 4) (by decide), fun L nL => ?_⟩⟩
      rw [mergeT_nil (tk_nodup good_two.nodup)] at n4' nL ⊢
      have mL := same_upd (o := .lst [.ref t1, .ref t2, .ref t3, .ref t4]) nL
      have m8 := (same_upd n4').trans mL
      have m7 := (disp_same (o := .dT (tk [(("a", "b"), 4)])) np4 (same_upd nk4)).trans m8
      have m6 := (same_upd nq4).trans m7
      have m5 := (same_upd n3).trans m6
      have m4 := (same_upd nq3).trans m5
      have m3 := (same_upd n2).trans m4
      have m2 := (same_upd n1).trans m3
      have m1 := (same_upd nq1).trans m2
      refine ⟨L, _, rfl, m1, upd_same, rfl, fun x hx => ?_⟩
      simp only [List.mem_cons, List.not_mem_nil, or_false] at hx
      rcases hx with rfl | rfl | rfl | rfl
      · exact ⟨t1, q1, fu, n4, fullT, rfl, m3 _ _ upd_same, m2 _ _ (by rw [upd_same, cut_n4]), m1 _ _ efu4, good_full⟩
      · exact ⟨t2, nm, ri, n5, ringT, rfl, m4 _ _ upd_same, m1 _ _ enm4, m1 _ _ eri4, good_ring⟩
      · exact ⟨t3, q3, hu4, ["a", "b", "c", "z"], hubT, rfl, m6 _ _ upd_same, m5 _ _ upd_same, m1 _ _ ehu, good_hub⟩
      · exact ⟨t4, q4, p4, ["a", "b"], [(("a", "b"), 4)], rfl, mL _ _ upd_same, m7 _ _ upd_same, m8 _ _ upd_same, good_two⟩
    rintro σ5 H5 ⟨L5, rows5, rfl, s45, eL5, len5, row5⟩
    have enm5 : H5 nm = some (.lst (n5.map V.str)) := s45 _ _ enm4
    -- star
    refine ⟨fun σ' H' => ∃ a, σ' = [some (.ref d), some (.ref nm), some (.ref fu), some (.ref ri), some (.ref hu4), some (.ref L5), some (.ref a), none, none, none, none, none] ∧ Same H5 H' ∧ H' a = some (.dT (tk starT)), ?_, ?_⟩
    · refine ⟨.ref nm, rfl, 4, rfl, nm, _, rfl, .inl (.inl enm5), fun q1 nq1 => ⟨q1, rfl, ⟨n4.map V.str, .inl (.inl (by rw [← cut_n4]; exact upd_same))⟩, fun D nD => ?_⟩⟩
      have sq : Same H5 (upd H5 q1 (.lst (cutV (n5.map V.str) none (some 4)))) := same_upd nq1
      have eq1 : (upd H5 q1 (.lst (cutV (n5.map V.str) none (some 4)))) q1 = some (.lst (n4.map V.str)) := by rw [upd_same, cut_n4]
      generalize upd H5 q1 (.lst (cutV (n5.map V.str) none (some 4))) = Hq at sq eq1 nD ⊢
      refine lc_list (K := K) (a := q1) (xs := n4.map V.str) (fun i H' => ∃ cs, Same Hq H' ∧ H' D = some (.lst (cs.map V.ref)) ∧ PairsT H' cs (tk (((n4.map fun p => (p, ("z" : Str))).take i).map fun k => (k, (1 : Int)))))
        ⟨[], same_upd nD, upd_same, .nil⟩ (fun i H' _ h => ?_) (fun i x H' hx h => ?_) (fun H' h => ?_)
      · obtain ⟨_, s2, _⟩ := h
        exact .inl (.inl (s2 _ _ eq1))
      · obtain ⟨cs, s2, eD, pt⟩ := h
        rw [List.getElem?_map] at hx
        cases hb : n4[i]? with
        | none => rw [hb] at hx; cases hx
        | some b =>
          rw [hb] at hx
          cases hx
          refine ⟨rfl, .str b, rfl, slx (n := 2) (by decide), fun u nu => ⟨slx (n := 2) (by decide), fun t nt => ?_⟩⟩
          have s3 : Same Hq (upd H' u (.tup [.str b, .str "z"])) := s2.trans (same_upd nu)
          obtain ⟨c1, c2, c3, c4⟩ := pairs_step (v := 1) nD s3 (same_upd nu _ _ eD) (pt.same (same_upd nu)) (k := (b, "z")) upd_same nt
          refine ⟨cs.map V.ref, c1, ?_, cs ++ [t], c2, c3, ?_⟩
          · have := pairsT_len pt
            rw [List.length_map, List.length_take] at this
            rw [List.length_map]
            have h6 : (n4.map fun p => (p, ("z" : Str))).length = 4 := rfl
            exact small1000 (by omega)
          · rw [List.take_add_one, List.getElem?_map, hb, List.map_append]
            exact c4
      · obtain ⟨cs, s2, eD, pt⟩ := h
        refine ⟨D, cs, tk starT, rfl, eD, pt, fun a na => ?_⟩
        rw [mergeT_nil (tk_nodup good_star.nodup)]
        exact ⟨a, rfl, (sq.trans s2).trans (same_upd na), upd_same⟩
    rintro σ6 H6 ⟨st, rfl, s56, est⟩
    have enm6 : H6 nm = some (.lst (n5.map V.str)) := s56 _ _ enm5
    -- some, three more
    refine ⟨fun σ' H' => ∃ L rows, σ' = [some (.ref d), some (.ref nm), some (.ref fu), some (.ref ri), some (.ref hu4), some (.ref L), some (.ref st), none, none, none, none, none] ∧ Same H6 H' ∧ H6 L = none ∧ H' L = some (.lst rows) ∧ rows.length = 7 ∧ ∀ x ∈ rows, KRow H' x, ?_, ?_⟩
    · refine ⟨.ref L5, rfl, .ref nm, rfl, 4, rfl, nm, _, rfl, .inl (.inl enm6), fun q1 nq1 => ⟨slx (n := 1) (by decide), fun u1 nu1 => ⟨q1, u1, _, _, rfl, rfl, (same_upd nu1) _ _ upd_same, upd_same, ?_, fun w1 nw1 => ⟨.ref st, rfl, slx (n := 2) (by decide), fun t1 n1 => ?_⟩⟩⟩⟩
      · rw [cut_n4]
        exact slx (n := 5) (by decide)
      have a1 := (same_upd nq1).trans ((same_upd nu1).trans ((same_upd nw1).trans (same_upd (o := .tup [.ref w1, .ref st]) n1)))
      refine ⟨.ref nm, rfl, 3, rfl, nm, _, rfl, .inl (.inl (a1 _ _ enm6)), fun q2 nq2 => fun p2 np2 => ⟨slx (n := 2) (by decide), fun k1 nk1 => ⟨slx (n := 2) (by decide), fun k2 nk2 => ?_⟩⟩⟩
      refine ⟨((same_upd nk1).trans (same_upd nk2)) _ _ upd_same, tk [(("a", "b"), 1), (("b", "c"), 1)], .cons ⟨k1, rfl, (same_upd nk2) _ _ upd_same⟩ (.cons ⟨k2, rfl, upd_same⟩ .nil), by decide, slx (n := 2) (by decide), fun t2 n2 => ?_⟩
      rw [mergeT_nil (tk_nodup good_path.nodup)] at n2 ⊢
      have b1 := disp_same (o := .dT (tk [(("a", "b"), 1), (("b", "c"), 1)])) np2 ((same_upd nk1).trans (same_upd (o := .tup [.str "b", .str "c"]) nk2))
      have a2 := a1.trans ((same_upd nq2).trans (b1.trans (same_upd (o := .tup [.ref q2, .ref p2]) n2)))
      refine ⟨.ref nm, rfl, 3, rfl, nm, _, rfl, .inl (.inl (a2 _ _ enm6)), fun q3 nq3 => fun p3 np3 => ⟨slx (n := 2) (by decide), fun t3 n3 => ⟨slx (n := 3) (by decide), fun L2 nL2 => ?_⟩⟩⟩
      have mL2 := same_upd (o := .lst [.ref t1, .ref t2, .ref t3]) nL2
      have a3 := a2.trans ((same_upd nq3).trans ((same_upd np3).trans ((same_upd n3).trans mL2)))
      refine ⟨L5, L2, rows5, _, rfl, rfl, a3 _ _ (s56 _ _ eL5), upd_same, ?_, fun L nL => ?_⟩
      · show rows5.length + 3 ≤ _
        rw [len5]
        exact slx (n := 7) (by decide)
      have mL := mL2.trans (same_upd (o := .lst (rows5 ++ [.ref t1, .ref t2, .ref t3])) nL)
      have c9 := (same_upd n3).trans mL
      have c8 := (same_upd np3).trans c9
      have c7 := (same_upd nq3).trans c8
      have c6 := (same_upd n2).trans c7
      have c5 := b1.trans c6
      have c4 := (same_upd nq2).trans c5
      have c3 := (same_upd n1).trans c4
      have c2 := (same_upd nw1).trans c3
      have c0 := (same_upd nq1).trans ((same_upd nu1).trans c2)
      refine ⟨L, _, rfl, c0, a3.free nL, upd_same, by rw [List.length_append, len5]; rfl, fun x hx => ?_⟩
      rcases List.mem_append.mp hx with hx | hx
      · exact ((row5 x hx).same s56).same c0
      simp only [List.mem_cons, List.not_mem_nil, or_false] at hx
      rcases hx with rfl | rfl | rfl
      · exact ⟨t1, w1, st, ["a", "b", "c", "d", "z"], starT, rfl, c4 _ _ upd_same, c3 _ _ (by rw [upd_same, cut_n4]; rfl), c0 _ _ est, good_star⟩
      · exact ⟨t2, q2, p2, ["a", "b", "c"], [(("a", "b"), 1), (("b", "c"), 1)], rfl, c7 _ _ upd_same, c5 _ _ (by rw [upd_same, cut_n3]; rfl), c6 _ _ upd_same, good_path⟩
      · exact ⟨t3, q3, p3, ["a", "b", "c"], [], rfl, mL _ _ upd_same, c8 _ _ (by rw [upd_same, cut_n3]; rfl), c9 _ _ upd_same, good_bare⟩
    rintro σ7 H7 ⟨L7, rows7, rfl, s67, nL7, eL7, len7, row7⟩
    have sH6 : Same H H6 := sm1.trans (s12.trans (s23.trans (s34.trans (s45.trans s56))))
    have sH7 : Same H H7 := sH6.trans s67
    obtain ⟨dx, dy, dz, hd'⟩ := hd
    have hd6 : DiceAt H6 d := ⟨dx, dy, dz, sH6 _ _ hd'⟩
    have hd7 : DiceAt H7 d := ⟨dx, dy, dz, sH7 _ _ hd'⟩
    refine ⟨.ref d, rfl, .ref L7, rfl, d, L7, rows7, rfl, hd7, eL7, (hd6.ne nL7).symm, by omega, by omega, fun v H8 hv s8 => ?_⟩
    obtain ⟨t, pl, ti, ps, ts, rfl, et, epl, eti, good⟩ := ((row7 v hv).sd hd7 s8).ex
    have sd8 : Sd d H H8 := (Sd.of_same sH7 ⟨dx, dy, dz, hd'⟩).trans s8
    refine ⟨t, _, rfl, .inl (.inl et), rfl, _, _, rfl, _, _, rfl, rfl, ?_⟩
    refine fun p np => ⟨.ref pl, rfl, pl, _, rfl, .inl (.inl (.inl ((same_upd np) _ _ epl))), fun l2 nl2 => ?_⟩
    have s9 : Same H8 (upd (upd H8 p (.dK [])) l2 (.lst (ps.map V.str))) := (same_upd np).trans (same_upd nl2)
    have s9p : Same (upd H8 p (.dK [])) (upd (upd H8 p (.dK [])) l2 (.lst (ps.map V.str))) := same_upd nl2
    have el2 : (upd (upd H8 p (.dK [])) l2 (.lst (ps.map V.str))) l2 = some (.lst (ps.map V.str)) := upd_same
    have nl2' : H8 l2 = none := (same_upd np).free nl2
    generalize upd (upd H8 p (.dK [])) l2 (.lst (ps.map V.str)) = H9 at s9 s9p el2 ⊢
    refine ⟨.ref ti, rfl, .inr (.inr (.inl ⟨rfl, .inr ⟨_, s9 _ _ eti⟩⟩)), ti, tk ts, rfl, rfl, s9 _ _ eti, fun vw nv => ⟨vw, ti, tk ts, rfl, upd_same, (same_upd nv) _ _ (s9 _ _ eti), fun H10 l1 bs sm nl el prs => ⟨l1, bs, tk ts, rfl, el, prs, fun td ntd => ?_⟩⟩⟩
    rw [mergeT_nil (tk_nodup good.nodup)]
    have s10 : Same H9 H10 := (same_upd nv).trans sm
    have s11 : Same H9 (upd H10 td (.dT (tk ts))) := s10.trans (same_upd ntd)
    refine ⟨s11 _ _ (s9p _ _ upd_same), [(Sum.inr "places", .ref l2), (Sum.inr "ties", .ref td)], rfl, (show 2 ≤ 15 by decide), ?_⟩
    rw [merge2]
    have ntd9 : H9 td = none := s10.free ntd
    have ptd : td ≠ p := (ne_of_none (s9p _ _ (upd_same (o := .dK []))) ntd9).symm
    have pl2 : l2 ≠ p := ne_of el2 (s9p _ _ (upd_same (o := .dK []))) (fun z => nomatch z)
    refine q _ p ps ts l2 td ⟨fun c o hc e => ?_, ?_⟩ ⟨upd_same, ?_, ?_⟩ good (sd8.free np) (sd8.free nl2') (sd8.free (s9.free ntd9))
    · have e8 := sd8.keep c o hc e
      rw [upd_ne (ne_of_none e8 np)]
      exact s11 _ _ (s9 _ _ e8)
    · obtain ⟨a, b, c, e8⟩ := sd8.dice
      refine ⟨a, b, c, ?_⟩
      rw [upd_ne (ne_of_none e8 np)]
      exact s11 _ _ (s9 _ _ e8)
    · rw [upd_ne pl2]
      exact s11 _ _ el2
    · rw [upd_ne ptd]
      exact upd_same
end
/-! ### nets grow tie by tie: the mathematics -/
theorem ltS_iff {x y : Str} : ltS x y = true ↔ x.cps.toList < y.cps.toList := decide_eq_true_iff
theorem ltS_irr (x : Str) : ltS x x = false := decide_eq_false (List.lt_irrefl _)
theorem ltS_trans {x y z : Str} (h : ltS x y = true) (g : ltS y z = true) : ltS x z = true := ltS_iff.mpr (List.lt_trans (ltS_iff.mp h) (ltS_iff.mp g))
theorem ltS_asymm {x y : Str} (h : ltS x y = true) : ltS y x = false := by
  cases g : ltS y x with
  | false => rfl
  | true =>
    have := ltS_trans h g
    rw [ltS_irr] at this
    cases this
theorem ltS_tri {x y : Str} (h : x ≠ y) : ltS x y = true ∨ ltS y x = true := by
  by_cases g : ltS x y = true
  · exact .inl g
  · refine .inr (ltS_iff.mpr ?_)
    have g' : ¬ x.cps.toList < y.cps.toList := fun z => g (ltS_iff.mpr z)
    rcases List.le_iff_lt_or_eq.mp (List.not_lt.mp g') with z | z
    · exact z
    · exact absurd (PySem.W.str_of_cps z.symm) h
/-- with a tie set at a pair -/
theorem putT_keys_sub (ts : Ties) (k : Str × Str) (v : Int) : ∀ e ∈ putT ts k v, e.1 = k ∧ e.2 = v ∨ e ∈ ts := by
  intro e he
  unfold putT at he
  split at he
  · obtain ⟨f, hf, rfl⟩ := List.mem_map.mp he
    by_cases h : f.1 = k
    · rw [if_pos h]
      exact .inl ⟨h, rfl⟩
    · rw [if_neg h]
      exact .inr hf
  · rcases List.mem_append.mp he with h | h
    · exact .inr h
    · rw [List.mem_singleton.mp h]
      exact .inl ⟨rfl, rfl⟩
theorem putT_nodup {ts : Ties} (k : Str × Str) (v : Int) (h : (ts.map (·.1)).Nodup) : ((putT ts k v).map (·.1)).Nodup := by
  unfold putT
  split
  · rw [List.map_map]
    have e : ((fun x : (Str × Str) × Int => x.1) ∘ fun e : (Str × Str) × Int => if e.1 = k then (e.1, v) else e) = fun x => x.1 := by
      funext e
      show (if e.1 = k then (e.1, v) else e).1 = e.1
      split <;> rfl
    rw [e]
    exact h
  · rename_i hn
    rw [List.map_append, List.nodup_append]
    refine ⟨h, by simp, fun a ha b hb => ?_⟩
    have hb' : b = k := by simpa using hb
    subst hb'
    intro e
    subst e
    obtain ⟨x, hx, e⟩ := List.mem_map.mp ha
    exact hn (List.any_eq_true.mpr ⟨x, hx, decide_eq_true e⟩)
theorem sum_put : ∀ {ts : Ties} (k : Str × Str) (m : Int), (ts.map (·.1)).Nodup → ((putT ts k (getT ts k + m)).map (·.2)).sum = (ts.map (·.2)).sum + m := by
  intro ts k m h
  unfold putT
  by_cases hn : (ts.any fun e => decide (e.1 = k)) = true
  · rw [if_pos hn]
    induction ts with
    | nil => cases hn
    | cons e r ih =>
      rw [List.map_cons, List.nodup_cons] at h
      by_cases z : e.1 = k
      · have hg : getT (e :: r) k = e.2 := by
          unfold getT
          rw [List.find?_cons, decide_eq_true z]
          rfl
        have hr : r.map (fun f => if f.1 = k then (f.1, getT (e :: r) k + m) else f) = r := by
          rw [hg]
          refine (List.map_congr_left fun f hf => ?_).trans (List.map_id r)
          rw [if_neg]
          · rfl
          · intro y
            exact h.1 (List.mem_map.mpr ⟨f, hf, by rw [y, z]⟩)
        rw [List.map_cons, hr, if_pos z, hg, List.map_cons, List.map_cons, List.sum_cons, List.sum_cons]
        omega
      · have hg : getT (e :: r) k = getT r k := by
          unfold getT
          rw [List.find?_cons, decide_eq_false z]
        have hn' : (r.any fun e => decide (e.1 = k)) = true := by
          rw [List.any_cons, decide_eq_false z, Bool.false_or] at hn
          exact hn
        have := ih h.2 hn'
        rw [hg, List.map_cons, if_neg z, List.map_cons, List.map_cons, List.sum_cons, List.sum_cons, this]
        omega
  · rw [if_neg hn]
    have hg : getT ts k = 0 := by
      unfold getT
      have : ts.find? (fun e => decide (e.1 = k)) = none := by
        rw [List.find?_eq_none]
        intro e he z
        exact hn (List.any_eq_true.mpr ⟨e, he, z⟩)
      rw [this]
      rfl
    rw [hg, List.map_append, List.sum_append]
    simp
theorem getT_nn {ts : Ties} (h : ∀ e ∈ ts, 1 ≤ e.2) (k : Str × Str) : 0 ≤ getT ts k := by
  unfold getT
  cases e : ts.find? fun e => decide (e.1 = k) with
  | none => exact Int.le_refl 0
  | some x =>
    have := h x (List.mem_of_find?_eq_some e)
    show 0 ≤ x.2
    omega
structure GoodB (n : Int) (ps : List Str) (ts : Ties) : Prop where
  keys : ∀ e ∈ ts, e.1.1 ∈ ps ∧ e.1.2 ∈ ps ∧ ltS e.1.1 e.1.2 = true
  nodup : (ts.map (·.1)).Nodup
  pos : ∀ e ∈ ts, 1 ≤ e.2
  sum : (ts.map (·.2)).sum ≤ n
theorem GoodB.put {n m : Int} {ps : List Str} {ts : Ties} {k : Str × Str} (h : GoodB n ps ts) (hk : k.1 ∈ ps ∧ k.2 ∈ ps ∧ ltS k.1 k.2 = true) (hm : 1 ≤ m) : GoodB (n + m) ps (putT ts k (getT ts k + m)) := by
  have hg := getT_nn h.pos k
  refine ⟨fun e he => ?_, putT_nodup k _ h.nodup, fun e he => ?_, ?_⟩
  · rcases putT_keys_sub ts k _ e he with ⟨e1, _⟩ | e1
    · rw [e1]
      exact hk
    · exact h.keys e e1
  · rcases putT_keys_sub ts k _ e he with ⟨_, e2⟩ | e1
    · rw [e2]
      omega
    · exact h.pos e e1
  · rw [sum_put k m h.nodup]
    have := h.sum
    omega
theorem GoodB.len {n : Int} {ps : List Str} {ts : Ties} (h : GoodB n ps ts) : (ts.length : Int) ≤ n := by
  have : ∀ {ts : Ties}, (∀ e ∈ ts, 1 ≤ e.2) → (ts.length : Int) ≤ (ts.map (·.2)).sum := by
    intro ts h
    induction ts with
    | nil => simp
    | cons e r ih =>
      have h1 := h e (List.mem_cons_self ..)
      have h2 := ih fun f hf => h f (List.mem_cons_of_mem _ hf)
      rw [List.length_cons, List.map_cons, List.sum_cons]
      omega
  have h1 := this h.pos
  have h2 := h.sum
  omega
theorem GoodB.mono {n m : Int} {ps : List Str} {ts : Ties} (h : GoodB n ps ts) (hm : n ≤ m) : GoodB m ps ts := ⟨h.keys, h.nodup, h.pos, Int.le_trans h.sum hm⟩
theorem GoodB.drop {n : Int} {ps : List Str} {ts : Ties} (h : GoodB n ps ts) (p : (Str × Str) × Int → Bool) : GoodB n ps (ts.filter p) := by
  refine ⟨fun e he => h.keys e (List.mem_filter.mp he).1, h.nodup.sublist (List.Sublist.map _ (List.filter_sublist ..)), fun e he => h.pos e (List.mem_filter.mp he).1, ?_⟩
  have : ∀ {ts : Ties}, (∀ e ∈ ts, 1 ≤ e.2) → ((ts.filter p).map (·.2)).sum ≤ (ts.map (·.2)).sum := by
    intro ts h
    induction ts with
    | nil => simp
    | cons e r ih =>
      have h1 := h e (List.mem_cons_self ..)
      have h2 := ih fun f hf => h f (List.mem_cons_of_mem _ hf)
      rw [List.filter_cons]
      split
      · rw [List.map_cons, List.map_cons, List.sum_cons, List.sum_cons]
        omega
      · rw [List.map_cons, List.sum_cons]
        omega
  exact Int.le_trans (this h.pos) h.sum
theorem mem_pairsOf {ps : List Str} {k : Str × Str} (h : k ∈ pairsOf ps) : k.1 ∈ ps ∧ k.2 ∈ ps ∧ ltS k.1 k.2 = true := by
  unfold pairsOf at h
  obtain ⟨x, hx, h⟩ := List.mem_flatMap.mp h
  obtain ⟨y, hy, rfl⟩ := List.mem_map.mp h
  obtain ⟨h1, h2⟩ := List.mem_filter.mp hy
  exact ⟨hx, h1, h2⟩
theorem ordP_ok {ps : List Str} {x y : Str} (hx : x ∈ ps) (hy : y ∈ ps) (h : x ≠ y) : (ordP x y).1 ∈ ps ∧ (ordP x y).2 ∈ ps ∧ ltS (ordP x y).1 (ordP x y).2 = true := by
  unfold ordP
  by_cases g : ltS x y = true
  · rw [if_pos g]
    exact ⟨hx, hy, g⟩
  · rw [if_neg g]
    exact ⟨hy, hx, (ltS_tri h).resolve_left g⟩
/-! ### nets that are drawn: the def -/
theorem ltCps_eq : ∀ a b : List Nat, PySem.Spec.ltCps a b = decide (a < b)
  | [], [] => rfl
  | [], _ :: _ => (decide_eq_true (List.nil_lt_cons _ _)).symm
  | _ :: _, [] => (decide_eq_false (List.not_lt_nil _)).symm
  | a :: r, b :: t => by
    show (decide (a < b) || (a == b && PySem.Spec.ltCps r t)) = _
    rw [ltCps_eq r t, Bool.eq_iff_iff]
    simp only [Bool.or_eq_true, Bool.and_eq_true, decide_eq_true_eq, beq_iff_eq, List.cons_lt_cons_iff]
theorem rising_all : ∀ (xs : List Str) (x : Str), risingS x xs = true → ∀ y ∈ xs, ltS y x = false
  | [], _, _, y, hy => by cases hy
  | z :: r, x, h, y, hy => by
    have h1 : (!PySem.Spec.ltCps z.cps.toList x.cps.toList && risingS z r) = true := h
    rw [Bool.and_eq_true, ltCps_eq] at h1
    have hz : ltS z x = false := by
      have := h1.1
      unfold ltS
      cases q : decide (z.cps.toList < x.cps.toList) with
      | false => rfl
      | true => rw [q] at this; cases this
    rcases List.mem_cons.mp hy with rfl | hy
    · exact hz
    · have hyz := rising_all r z h1.2 y hy
      cases q : ltS y x with
      | false => rfl
      | true =>
        by_cases e : z = x
        · rw [e, q] at hyz
          cases hyz
        · rcases ltS_tri e with g | g
          · rw [g] at hz
            cases hz
          · have := ltS_trans q g
            rw [this] at hyz
            cases hyz
theorem sortedS_tail {x : Str} {xs : List Str} (h : risingS x xs = true) : sortedS xs = true := by
  cases xs with
  | nil => rfl
  | cons y r =>
    have h1 : (!PySem.Spec.ltCps y.cps.toList x.cps.toList && risingS y r) = true := h
    rw [Bool.and_eq_true] at h1
    exact h1.2
theorem sorted_asc : ∀ {xs : List Str}, sortedS xs = true → xs.Nodup → xs.Pairwise fun a b => ltS a b = true
  | [], _, _ => .nil
  | x :: r, h, n => by
    rw [List.nodup_cons] at n
    refine .cons (fun y hy => ?_) (sorted_asc (sortedS_tail h) n.2)
    have := rising_all r x h y hy
    rcases ltS_tri (x := x) (y := y) (fun e => n.1 (by rw [e]; exact hy)) with g | g
    · exact g
    · rw [this] at g
      cases g
def names9n : List Str := ["a", "b", "c", "d", "e", "f", "h", "m", "z"]
theorem names9n_ok : ∀ p ∈ names9n, wordS p = true ∧ p.length ≤ 8 ∧ ∀ c ∈ p.cps.toList, c < 128 := by decide +kernel
theorem names9n_nd : names9n.Nodup := by decide +kernel
def sizes6 : List Int := [3, 4, 4, 5, 5, 6]
theorem sizes6_ok : ∀ i ∈ sizes6, 3 ≤ i ∧ i ≤ 6 := by decide
def turns7 : List Int := [0, 1, 2, 3, 4, 6, 8]
theorem turns7_ok : ∀ i ∈ turns7, 0 ≤ i ∧ i ≤ 8 := by decide
def ones4 : List Int := [1, 1, 1, 2]
theorem ones4_ok : ∀ i ∈ ones4, 1 ≤ i ∧ i ≤ 2 := by decide
theorem perm_vals {α β : Type} {f : α → β} (g : β → Option α) (hg : ∀ a, g (f a) = some a) {ys rest : List β} {xs : List α} (h : (ys ++ rest).Perm (xs.map f)) : ∃ zs qs : List α, ys = zs.map f ∧ rest = qs.map f ∧ (zs ++ qs).Perm xs := by
  have lift : ∀ (l : List β), (∀ y ∈ l, ∃ x, f x = y) → ∃ zs : List α, l = zs.map f := by
    intro l hl
    induction l with
    | nil => exact ⟨[], rfl⟩
    | cons y r ih =>
      obtain ⟨zs, e⟩ := ih fun z hz => hl z (List.mem_cons_of_mem _ hz)
      obtain ⟨x, hx⟩ := hl y (List.mem_cons_self ..)
      exact ⟨x :: zs, by rw [List.map_cons, hx, ← e]⟩
  have back : ∀ (l : List α), (l.map f).filterMap g = l := by
    intro l
    induction l with
    | nil => rfl
    | cons y r ih => rw [List.map_cons, List.filterMap_cons, hg, ih]
  have hm : ∀ y ∈ ys ++ rest, ∃ x, f x = y := fun y hy => by
    obtain ⟨x, _, e⟩ := List.mem_map.mp (h.subset hy)
    exact ⟨x, e⟩
  obtain ⟨zs, e1⟩ := lift ys fun y hy => hm y (List.mem_append_left _ hy)
  obtain ⟨qs, e2⟩ := lift rest fun y hy => hm y (List.mem_append_right _ hy)
  refine ⟨zs, qs, e1, e2, ?_⟩
  rw [e1, e2, ← List.map_append] at h
  have h2 := h.filterMap g
  rwa [back, back] at h2
def unStr : V → Option Str
  | .str s => some s
  | _ => none
theorem NetAt.sd {d : Addr} {H H' : Hp} {N : Addr} {ps : List Str} {ts : Ties} {pl ti : Addr} (hd : DiceAt H d) (s : Sd d H H') (hp : 1 ≤ ps.length) (h : NetAt H N ps ts pl ti) : NetAt H' N ps ts pl ti := by
  obtain ⟨a, b, c, hd⟩ := hd
  refine ⟨s.keep _ _ (ne_of h.net hd (fun z => nomatch z)) h.net, s.keep _ _ (ne_of h.pl hd fun z => ?_) h.pl, s.keep _ _ (ne_of h.ti hd (fun z => nomatch z)) h.ti⟩
  injection z with z
  match ps, hp, z with
  | p :: r, _, z => cases z
theorem strs_sd {d : Addr} {H H' : Hp} {p : Addr} {ps : List Str} (hd : DiceAt H d) (s : Sd d H H') (hp : 1 ≤ ps.length) (h : H p = some (.lst (ps.map V.str))) : H' p = some (.lst (ps.map V.str)) := by
  obtain ⟨a, b, c, hd⟩ := hd
  refine s.keep _ _ (ne_of h hd fun z => ?_) h
  injection z with z
  match ps, hp, z with
  | p :: r, _, z => cases z
theorem two_at {os : List Str} (nd : os.Nodup) (h2 : 2 ≤ os.length) {j : Nat} (hj : j < os.length) : ∃ x y, atI (os.map V.str) (0 + (j : Int) - 1) = some (V.str x) ∧ atI (os.map V.str) (0 + (j : Int)) = some (V.str y) ∧ x ≠ y ∧ x ∈ os ∧ y ∈ os := by
  have hy : atI (os.map V.str) (0 + (j : Int)) = some (V.str os[j]) := by
    rw [Int.zero_add]
    exact atI_nat (by rw [List.getElem?_map, List.getElem?_eq_getElem hj]; rfl)
  have far : ∀ a (ha : a < os.length), a ≠ j → os[a] ≠ os[j] := fun a ha ne e => ne ((List.getElem_inj nd).mp e)
  cases j with
  | zero =>
    refine ⟨os[os.length - 1], os[0], ?_, hy, far _ (by omega) (by omega), List.getElem_mem .., List.getElem_mem ..⟩
    have h0 : ixN (os.map V.str).length (0 + ((0 : Nat) : Int) - 1) = some (os.length - 1) := by
      rw [List.length_map]
      unfold ixN
      rw [if_neg (by omega), if_pos (by omega)]
      congr 1
      omega
    unfold atI
    rw [h0]
    show (os.map V.str)[os.length - 1]? = _
    rw [List.getElem?_map, List.getElem?_eq_getElem (by omega)]
    rfl
  | succ j =>
    refine ⟨os[j], os[j + 1], ?_, hy, far _ (by omega) (by omega), List.getElem_mem .., List.getElem_mem ..⟩
    have : (0 + ((j + 1 : Nat) : Int) - 1) = (j : Int) := by omega
    rw [this]
    exact atI_nat (by rw [List.getElem?_map, List.getElem?_eq_getElem (by omega)]; rfl)
theorem good_nil {n : Int} {ps : List Str} (h : 0 ≤ n) : GoodB n ps [] := ⟨fun e he => (nomatch he), .nil, fun e he => (nomatch he), h⟩
theorem pairsOf_pos {ps : List Str} (asc : ps.Pairwise fun a b => ltS a b = true) (h : 2 ≤ ps.length) : 0 < (pairsOf ps).length := by
  match ps, asc, h with
  | x :: y :: r, asc, _ =>
    have hxy : ltS x y = true := (List.pairwise_cons.mp asc).1 y (List.mem_cons_self ..)
    have : (x, y) ∈ pairsOf (x :: y :: r) := by
      unfold pairsOf
      refine List.mem_flatMap.mpr ⟨x, List.mem_cons_self .., List.mem_map.mpr ⟨y, List.mem_filter.mpr ⟨List.mem_cons_of_mem _ (List.mem_cons_self ..), hxy⟩, rfl⟩⟩
    exact List.length_pos_of_mem this
theorem keysAt_sd {d : Addr} {H H' : Hp} (hd : DiceAt H d) (s : Sd d H H') {bs : List Addr} {ks : List (Str × Str)} (h : KeysAt H bs ks) : KeysAt H' bs ks := by
  obtain ⟨a, b, c, hd⟩ := hd
  exact Paired.mapP h fun _ _ e => s.keep _ _ (ne_of e hd (fun z => nomatch z)) e
theorem scNetL : FnScope ["dice", "way", "size", "places", "net", "order", "at", "pairs", "turn"] ["dice"] (defScope sNetL) := ⟨rfl, rfl, rfl, by decide +kernel, rfl, by decide +kernel, by decide +kernel⟩
section
variable {P : Program} {w : World} {K : PySem.W.Frag} {mg : Str → Option Value} {base : Heap}
theorem ok_net {f g0 g1 g2 g3 g4 g5 g6 : Addr} {fd gd0 gd1 gd2 gd3 gd4 gd5 gd6 : FuncData} {k : Nat} (F : Fun K "_law_net" "_law_net" sNetL f fd)
    (G0 : FnOk P w K mg base CX0 (k + 2) g0 gd0 ["dice", "total"] spRoll) (gk0 : PySem.W.keepIn K (.ref g0) = true) (gb0 : Binds K gd0 ["dice", "total"] []) (mg0 : mg "_law_roll" = some (.ref g0))
    (G1 : FnOk P w K mg base CX0 (k + 2) g1 gd1 ["one", "other"] spPairL) (gk1 : PySem.W.keepIn K (.ref g1) = true) (gb1 : Binds K gd1 ["one", "other"] []) (mg1 : mg "_law_pair" = some (.ref g1))
    (G2 : FnOk P w K mg base CX0 (k + 2) g2 gd2 ["places"] (spPairsL K)) (gk2 : PySem.W.keepIn K (.ref g2) = true) (gb2 : Binds K gd2 ["places"] []) (mg2 : mg "_law_pairs" = some (.ref g2))
    (G3 : FnOk P w K mg base CX0 (k + 2) g3 gd3 ["dice", "items"] spPick) (gk3 : PySem.W.keepIn K (.ref g3) = true) (gb3 : Binds K gd3 ["dice", "items"] []) (mg3 : mg "_law_pick" = some (.ref g3))
    (G4 : FnOk P w K mg base CX0 (k + 2) g4 gd4 ["dice", "items", "size"] (spSome K)) (gk4 : PySem.W.keepIn K (.ref g4) = true) (gb4 : Binds K gd4 ["dice", "items", "size"] []) (mg4 : mg "_law_some" = some (.ref g4))
    (G5 : FnOk P w K mg base CX0 (k + 2) g5 gd5 ["net", "pair", "more"] spWith) (gk5 : PySem.W.keepIn K (.ref g5) = true) (gb5 : Binds K gd5 ["net", "pair", "more"] []) (mg5 : mg "_law_with" = some (.ref g5))
    (G6 : FnOk P w K mg base CX0 (k + 2) g6 gd6 ["dice"] spNet) (gk6 : PySem.W.keepIn K (.ref g6) = true) (gb6 : Binds K gd6 ["dice"] []) (mg6 : mg "_law_known_net" = some (.ref g6))
    (mS : mg "sorted" = none) (mR : mg "range" = none) (ml : mg "len" = none) : FnOk P w K mg base CX0 (k + 3) f fd ["dice"] spNet := by
  refine F.ok scNetL (fun vs H Q E h => ?_) (fun cdv A outer s H vs Q E hr h => ?_)
  · obtain ⟨d, rfl, _⟩ := h
    rfl
  · obtain ⟨d, rfl, hd, q⟩ := h
    have hu := hu_of hr
    refine ⟨_, pss_cons (ps_set (i := 1) scNetL.nd rfl (.inl rfl) (pe_call G0 hr (by rfl) mg0 gk0 gb0 .nil pass0 (pa_cons (pv 0) (pa_cons pe_int pa_nil))))
      (pss_cons (ps_if (pt_cmpR op_eq (pv 1) pe_int (nomark _)) (pss_one (ps_ret (pe_call G6 hr (by rfl) mg6 gk6 gb6 .nil pass0 (pa_cons (pv 0) pa_nil)))) pss_nil)
      (pss_cons (ps_set (i := 2) scNetL.nd rfl (.inl rfl) (pe_call G3 hr (by rfl) mg3 gk3 gb3 .nil pass0 (pa_cons (pv 0) (pa_cons (pe_lst (pa_cons pe_int (pa_cons pe_int (pa_cons pe_int (pa_cons pe_int (pa_cons pe_int (pa_cons pe_int pa_nil))))))) pa_nil))))
      (pss_cons (ps_set (i := 3) scNetL.nd rfl (.inl rfl) (pe_callB cr_sortedS (by rfl) mS (by decide +kernel) (pa_cons (pe_call G4 hr (by rfl) mg4 gk4 gb4 .nil pass0 (pa_cons (pv 0) (pa_cons (pe_lst (pa_cons pe_str (pa_cons pe_str (pa_cons pe_str (pa_cons pe_str (pa_cons pe_str
          (pa_cons pe_str (pa_cons pe_str (pa_cons pe_str (pa_cons pe_str pa_nil)))))))))) (pa_cons (pv 2) pa_nil)))) pa_nil)))
      (pss_cons (ps_set (i := 4) scNetL.nd rfl (.inl rfl) (pe_disp (pps_cons pe_str (pv 3) (pps_cons pe_str pe_dnewT pps_nil)) (by rfl) (by rfl) (fun z => by cases z) (by decide)))
      (C8.pss_cut (ps_if (pt_cmpR op_gt (pv 1) pe_int (nomark _))
        (pss_cons (ps_set (i := 5) scNetL.nd rfl (.inl rfl) (pe_call G4 hr (by rfl) mg4 gk4 gb4 .nil pass0 (pa_cons (pv 0) (pa_cons (pv 3) (pa_cons (pv 2) pa_nil)))))
        (pss_one (ps_for PassesOwn.never rfl (pi_range1 (by rfl) mR (pa_cons (pv 2) pa_nil)) (pg_name (i := 6) scNetL.nd rfl (.inl rfl))
          (pss_one (ps_set (i := 4) scNetL.nd rfl (.inl rfl) (pe_call G5 hr (by rfl) mg5 gk5 gb5 .nil pass0 (pa_cons (pv 4) (pa_cons (pe_call G1 hr (by rfl) mg1 gk1 gb1 .nil pass0 (pa_cons (pe_ix ix_list (pv 5) (pe_op op_sub (pv 6) pe_int) (fun _ _ => rfl)) (pa_cons (pe_ix ix_list (pv 5) (pv 6) (fun _ _ => rfl)) pa_nil))) (pa_cons pe_int pa_nil))))))))) pss_nil)
      (pss_cons (ps_set (i := 7) scNetL.nd rfl (.inl rfl) (pe_call G2 hr (by rfl) mg2 gk2 gb2 .nil pass0 (pa_cons (pv 3) pa_nil)))
      (C8.pss_cut (ps_for PassesOwn.never rfl (pi_range1 (by rfl) mR (pa_cons (pe_call G3 hr (by rfl) mg3 gk3 gb3 .nil pass0 (pa_cons (pv 0) (pa_cons (pe_lst (pa_cons pe_int (pa_cons pe_int (pa_cons pe_int (pa_cons pe_int (pa_cons pe_int (pa_cons pe_int (pa_cons pe_int pa_nil)))))))) pa_nil))) pa_nil)) (pg_name (i := 8) scNetL.nd rfl (.inl rfl))
          (pss_one (ps_set (i := 4) scNetL.nd rfl (.inl rfl) (pe_call G5 hr (by rfl) mg5 gk5 gb5 .nil pass0 (pa_cons (pv 4) (pa_cons (pe_call G3 hr (by rfl) mg3 gk3 gb3 .nil pass0 (pa_cons (pv 0) (pa_cons (pv 7) pa_nil)))
            (pa_cons (pe_call G3 hr (by rfl) mg3 gk3 gb3 .nil pass0 (pa_cons (pv 0) (pa_cons (pe_lst (pa_cons pe_int (pa_cons pe_int (pa_cons pe_int (pa_cons pe_int pa_nil))))) pa_nil))) pa_nil)))))))
      (C8.pss_cut (ps_if (PW.pt (pw_and (pt_cmpR op_eq (pe_call G0 hr (by rfl) mg0 gk0 gb0 .nil pass0 (pa_cons (pv 0) (pa_cons pe_int pa_nil))) pe_int (nomark _))
            (pw_and1 (pt_cmpR op_gt (pe_callB call_len_dT (by rfl) ml PySem.boot_len (pa_cons (pe_dget hu (pv 4) pe_str (fun _ _ => rfl)) pa_nil)) pe_int (nomark _)))))
          (pss_one (ps_expr (pe_bm PySem.F.plainAttrs_dict PySem.F.slot_dict_pop PySem.F.type_dict_pop (mt_popT1 (room3 hr)) (pe_dget hu (pv 4) pe_str (fun _ _ => rfl))
            (pa_cons (pe_call G3 hr (by rfl) mg3 gk3 gb3 .nil pass0 (pa_cons (pv 0) (pa_cons (pe_callB (call_sortedT rfl (room80 hr)) (by rfl) mS (by decide +kernel) (pa_cons (pe_dget hu (pv 4) pe_str (fun _ _ => rfl)) pa_nil)) pa_nil))) pa_nil)))) pss_nil)
      (pss_one (ps_ret (pv 4))))))))))), ?_⟩
    refine ⟨.ref d, rfl, d, 8, rfl, hd, by decide, by decide, fun r x y z r0 r1 => ?_⟩
    have sd0 : Sd d H (upd H d (.lst [.int x, .int y, .int z])) := sd_put x y z
    generalize upd H d (.lst [.int x, .int y, .int z]) = H0 at sd0 ⊢
    refine ⟨.int r, rfl, rfl, _, rfl, ?_⟩
    by_cases r00 : r = 0
    · rw [decide_eq_true (show V.int r = V.int 0 by rw [r00])]
      refine iteT ?_
      exact ⟨.ref d, rfl, d, rfl, sd0.dice, fun H' N ps ts pl ti s na good n1 n2 n3 => q H' N ps ts pl ti (sd0.trans s) na good (sd0.free n1) (sd0.free n2) (sd0.free n3)⟩
    rw [decide_eq_false (show ¬ V.int r = V.int 0 from fun z => r00 (V.int.inj z))]
    refine iteF ?_
    refine ⟨.ref d, rfl, slx (n := 6) (by decide), fun M nM => ⟨d, M, _, rfl, (sd_new sd0.dice nM).dice, upd_same, (sd0.dice.ne nM).symm, by decide, by decide, fun v H1 hv s1 => ?_⟩⟩
    have sd1 : Sd d H H1 := (sd0.trans (sd_new sd0.dice nM)).trans s1
    obtain ⟨i, hi, rfl⟩ : ∃ i, i ∈ sizes6 ∧ v = V.int i := by
      obtain ⟨i, hi, e⟩ := List.mem_map.mp (show v ∈ sizes6.map V.int from hv)
      exact ⟨i, hi, e.symm⟩
    obtain ⟨hi1, hi2⟩ := sizes6_ok i hi
    refine ⟨.ref d, rfl, slx (n := 9) (by decide), fun N0 nN0 => ⟨.int i, rfl, d, N0, i, names9n.map V.str, rfl, (sd_new sd1.dice nN0).dice, .inl (.inl upd_same), by omega, by omega, by decide, fun D ys rest H2 pm hl nD eD s2 => ?_⟩⟩
    have sd2 : Sd d H H2 := (sd1.trans (sd_new sd1.dice nN0)).trans s2
    obtain ⟨zs, qs, rfl, rfl, pm'⟩ := perm_vals unStr (fun _ => rfl) pm
    have hzl : zs.length = i.toNat := by
      rw [List.length_map, List.length_map] at hl
      have h9 : names9n.length = 9 := rfl
      omega
    refine ⟨D, zs, rfl, .inl (.inl eD), by omega, fun ps S pmS srt nS => ?_⟩
    have zsN : zs.Nodup := (List.nodup_append.mp (pm'.nodup_iff.mpr names9n_nd)).1
    have psN : ps.Nodup := pmS.nodup_iff.mpr zsN
    have asc := sorted_asc srt psN
    have wd : ∀ p ∈ ps, wordS p = true ∧ p.length ≤ 8 ∧ ∀ c ∈ p.cps.toList, c < 128 := fun p hp => names9n_ok p (pm'.subset (List.mem_append_left _ (pmS.subset hp)))
    have plen : ps.length = i.toNat := by rw [pmS.length_eq, hzl]
    have sd3 : Sd d H (upd H2 S (.lst (ps.map V.str))) := sd2.trans (sd_new sd2.dice nS)
    have eS3 : (upd H2 S (.lst (ps.map V.str))) S = some (.lst (ps.map V.str)) := upd_same
    have nS0 : H S = none := sd2.free nS
    generalize upd H2 S (.lst (ps.map V.str)) = H3 at sd3 eS3 ⊢
    refine fun N nN => ⟨.ref S, rfl, fun T nT => ?_⟩
    refine ⟨(same_upd nT) _ _ upd_same, [(Sum.inr "places", .ref S), (Sum.inr "ties", .ref T)], rfl, (show 2 ≤ 15 by decide), ?_⟩
    rw [merge2]
    have nN0 : H N = none := sd3.free nN
    have nT3 : H3 T = none := (same_upd nN).free nT
    have nT0 : H T = none := sd3.free nT3
    have nNT : N ≠ T := ne_of_none upd_same nT
    have na4 : NetAt (upd (upd (upd H3 N (.dK [])) T (.dT [])) N (.dK [(Sum.inr "places", .ref S), (Sum.inr "ties", .ref T)])) N ps [] S T := ⟨upd_same, by
      rw [upd_ne (ne_of_none eS3 nN), upd_ne (ne_of_none eS3 nT3), upd_ne (ne_of_none eS3 nN)]
      exact eS3, by
      rw [upd_ne nNT.symm, upd_same]
      rfl⟩
    have sd4 : Sd d H (upd (upd (upd H3 N (.dK [])) T (.dT [])) N (.dK [(Sum.inr "places", .ref S), (Sum.inr "ties", .ref T)])) := sd3.then_same (disp_same nN (same_upd nT))
    have eS4 : (upd (upd (upd H3 N (.dK [])) T (.dT [])) N (.dK [(Sum.inr "places", .ref S), (Sum.inr "ties", .ref T)])) S = some (.lst (ps.map V.str)) := na4.pl
    generalize upd (upd (upd H3 N (.dK [])) T (.dT [])) N (.dK [(Sum.inr "places", .ref S), (Sum.inr "ties", .ref T)]) = H4 at na4 sd4 eS4 ⊢
    have p2 : 1 ≤ ps.length := by omega
    refine ⟨fun σ' H' => ∃ N ts pl ti y5 y6, σ' = [some (.ref d), some (.int r), some (.int i), some (.ref S), some (.ref N), y5, y6, none, none] ∧ Sd d H H' ∧ NetAt H' N ps ts pl ti ∧ GoodB 6 ps ts ∧ H N = none ∧ H pl = none ∧ H ti = none ∧ H' S = some (.lst (ps.map V.str)), ?_, ?_⟩
    · refine ⟨.int r, rfl, _, _, rfl, rfl, _, rfl, ?_⟩
      by_cases r2 : 1 < r
      · rw [decide_eq_true r2]
        refine iteT ?_
        refine ⟨.ref d, rfl, .ref S, rfl, .int i, rfl, d, S, i, _, rfl, sd4.dice, .inl (.inl eS4), by omega, by omega, by rw [List.length_map]; omega, fun O ys rest H5 pm hl nO eO s5 => ?_⟩
        obtain ⟨os, qs, rfl, rfl, pm5⟩ := perm_vals unStr (fun _ => rfl) pm
        have ol : os.length = i.toNat := by
          rw [List.length_map, List.length_map] at hl
          omega
        have osN : os.Nodup := (List.nodup_append.mp (pm5.nodup_iff.mpr psN)).1
        have osm : ∀ o ∈ os, o ∈ ps := fun o ho => pm5.subset (List.mem_append_left _ ho)
        have sd5 : Sd d H H5 := sd4.trans s5
        have na5 := na4.sd sd4.dice s5 p2
        have eS5 := strs_sd sd4.dice s5 p2 eS4
        refine ⟨.int i, rfl, i, rfl, by omega, by omega, for_range (lo := 0) (n := i.toNat) (fun j σ' H' => ∃ N ts pl ti y6, σ' = [some (.ref d), some (.int r), some (.int i), some (.ref S), some (.ref N), some (.ref O), y6, none, none] ∧ Sd d H H' ∧ NetAt H' N ps ts pl ti ∧ GoodB j ps ts ∧ H N = none ∧ H pl = none ∧ H ti = none ∧ H' S = some (.lst (ps.map V.str)) ∧ H' O = some (.lst (os.map V.str)))
          ⟨N, [], S, T, none, rfl, sd5, na5, good_nil (Int.le_refl 0), nN0, nS0, nT0, eS5, eO⟩ (fun j σ' H' hj h => ?_) (fun σ' H' h => ?_)⟩
        · obtain ⟨N', ts, pl, ti, y6, rfl, sd', na', good, n1, n2, n3, eS', eO'⟩ := h
          obtain ⟨x, y, hx, hy, hxy, xm, ym⟩ := two_at osN (show 2 ≤ os.length by omega) (show j < os.length by omega)
          have ok := ordP_ok (osm x xm) (osm y ym) hxy
          have hn := getT_nn good.pos (ordP x y)
          have hl := good.len
          refine ⟨.ref N', rfl, .ref O, rfl, .int (0 + (j : Int)), rfl, _, 1, rfl, rfl, O, _, _, _, rfl, rfl, .inl (.inl eO'), hx, .ref O, rfl, .int (0 + (j : Int)), rfl, O, _, _, _, rfl, rfl, .inl (.inl eO'), hy, x, y, rfl, fun b nb => ?_⟩
          refine ⟨N', b, 1, ps, ts, pl, ti, ordP x y, rfl, na'.same (same_upd nb), upd_same, by omega, by omega, by omega, good.nodup, fun H'' N'' pl' ti' na'' sm m1 m2 m3 => ?_⟩
          have sm' := (same_upd (o := .tup [.str (ordP x y).1, .str (ordP x y).2]) nb).trans sm
          exact ⟨N'', _, pl', ti', _, rfl, sd'.then_same sm', na'', good.put ok (Int.le_refl 1), sd'.free ((same_upd nb).free m1), sd'.free ((same_upd nb).free m2), sd'.free ((same_upd nb).free m3), sm' _ _ eS', sm' _ _ eO'⟩
        · obtain ⟨N', ts, pl, ti, y6, rfl, sd', na', good, n1, n2, n3, eS', eO'⟩ := h
          exact ⟨N', ts, pl, ti, _, y6, rfl, sd', na', good.mono (by omega), n1, n2, n3, eS'⟩
      · rw [decide_eq_false r2]
        refine iteF ?_
        exact ⟨N, [], S, T, none, none, rfl, sd4, na4, good_nil (by decide), nN0, nS0, nT0, eS4⟩
    rintro σ5 H5 ⟨N5, ts5, pl5, ti5, y5, y6, rfl, sd5, na5, good5, nN5, npl5, nti5, eS5⟩
    refine ⟨.ref S, rfl, S, ps, rfl, .inl (.inl eS5), by omega, fun H6 l bs sm6 nl el6 ka6 => ?_⟩
    have sd6 : Sd d H H6 := sd5.then_same sm6
    have na6 := na5.same sm6
    have ld : l ≠ d := (sd5.dice.ne nl).symm
    have blen : bs.length = (pairsOf ps).length := Paired.length ka6
    have b0 := pairsOf_pos asc (by omega)
    have b1 : bs.length ≤ 36 := by
      rw [blen]
      have h1 : (pairsOf ps).length ≤ ps.length * ps.length := pairsOf_len ps ps
      have h2 : ps.length * ps.length ≤ 6 * 6 := Nat.mul_le_mul (by omega) (by omega)
      omega
    refine ⟨fun σ' H' => ∃ N ts pl ti y5 y6 y7 y8, σ' = [some (.ref d), some (.int r), some (.int i), some (.ref S), some (.ref N), y5, y6, y7, y8] ∧ Sd d H H' ∧ NetAt H' N ps ts pl ti ∧ GoodB 22 ps ts ∧ H N = none ∧ H pl = none ∧ H ti = none, ?_, ?_⟩
    · refine ⟨.ref d, rfl, slx (n := 7) (by decide), fun M nM => ⟨d, M, _, rfl, (sd_new sd6.dice nM).dice, upd_same, (sd6.dice.ne nM).symm, by decide, by decide, fun v H7 hv s7 => ?_⟩⟩
      have s67 : Sd d H6 H7 := (sd_new sd6.dice nM).trans s7
      obtain ⟨c, hc, rfl⟩ : ∃ c, c ∈ turns7 ∧ v = V.int c := by
        obtain ⟨c, hc, e⟩ := List.mem_map.mp (show v ∈ turns7.map V.int from hv)
        exact ⟨c, hc, e.symm⟩
      obtain ⟨hc1, hc2⟩ := turns7_ok c hc
      refine ⟨c, rfl, by omega, by omega, for_range (lo := 0) (n := c.toNat) (fun j σ' H' => ∃ N ts pl ti y8, σ' = [some (.ref d), some (.int r), some (.int i), some (.ref S), some (.ref N), y5, y6, some (.ref l), y8] ∧ Sd d H6 H' ∧ NetAt H' N ps ts pl ti ∧ GoodB (6 + 2 * j) ps ts ∧ H N = none ∧ H pl = none ∧ H ti = none)
        ⟨N5, ts5, pl5, ti5, none, rfl, s67, na6.sd sd6.dice s67 p2, good5.mono (by omega), nN5, npl5, nti5⟩ (fun j σ' H' hj h => ?_) (fun σ' H' h => ?_)⟩
      · obtain ⟨N', ts, pl, ti, y8, rfl, sd', na', good, n1, n2, n3⟩ := h
        refine ⟨.ref N', rfl, .ref d, rfl, .ref l, rfl, d, l, _, rfl, sd'.dice, sd'.keep _ _ ld el6, ld, by rw [List.length_map]; omega, by rw [List.length_map]; omega, fun v H8 hv s8 => ?_⟩
        obtain ⟨b, k, rfl, hb, hk⟩ : ∃ b k, v = V.ref b ∧ H6 b = some (.tup [.str (k : Str × Str).1, .str k.2]) ∧ k ∈ pairsOf ps := by
          obtain ⟨b, hb, e⟩ := List.mem_map.mp hv
          obtain ⟨n, hn⟩ := List.mem_iff_getElem?.mp hb
          obtain ⟨k, hk, e2⟩ := paired_get' ka6 hn
          exact ⟨b, k, e.symm, e2, List.mem_of_getElem? hk⟩
        have s8' : Sd d H6 H8 := sd'.trans s8
        refine ⟨.ref d, rfl, slx (n := 4) (by decide), fun M2 nM2 => ⟨d, M2, _, rfl, (sd_new s8'.dice nM2).dice, upd_same, (s8'.dice.ne nM2).symm, by decide, by decide, fun v H9 hv s9 => ?_⟩⟩
        obtain ⟨m, hm, rfl⟩ : ∃ c, c ∈ ones4 ∧ v = V.int c := by
          obtain ⟨c, hc, e⟩ := List.mem_map.mp (show v ∈ ones4.map V.int from hv)
          exact ⟨c, hc, e.symm⟩
        obtain ⟨hm1, hm2⟩ := ones4_ok m hm
        have s9' : Sd d H8 H9 := (sd_new s8'.dice nM2).trans s9
        have s69 : Sd d H6 H9 := s8'.trans s9'
        have hn := getT_nn good.pos k
        have hl := good.len
        have eb9 : H9 b = some (.tup [.str k.1, .str k.2]) := by
          obtain ⟨d1, d2, d3, ed⟩ := sd6.dice
          exact s69.keep _ _ (ne_of hb ed (fun z => nomatch z)) hb
        have na9 := na'.sd sd'.dice (s8.trans s9') p2
        refine ⟨N', b, m, ps, ts, pl, ti, k, rfl, na9, eb9, by omega, by omega, by omega, good.nodup, fun H'' N'' pl' ti' na'' sm m1 m2 m3 => ?_⟩
        exact ⟨N'', _, pl', ti', _, rfl, s69.then_same sm, na'', (good.put (mem_pairsOf hk) hm1).mono (by omega), (sd6.trans s69).free m1, (sd6.trans s69).free m2, (sd6.trans s69).free m3⟩
      · obtain ⟨N', ts, pl, ti, y8, rfl, sd', na', good, n1, n2, n3⟩ := h
        exact ⟨N', ts, pl, ti, _, _, _, y8, rfl, sd6.trans sd', na', good.mono (by omega), n1, n2, n3⟩
    rintro σ6 H9 ⟨N6, ts6, pl6, ti6, x5, x6, x7, x8, rfl, sd9, na9, good6, nN6, npl6, nti6⟩
    refine ⟨fun σ' H' => ∃ N ts pl ti y5 y6 y7 y8, σ' = [some (.ref d), some (.int r), some (.int i), some (.ref S), some (.ref N), y5, y6, y7, y8] ∧ Sd d H H' ∧ NetAt H' N ps ts pl ti ∧ GoodB 22 ps ts ∧ H N = none ∧ H pl = none ∧ H ti = none, ?_, ?_⟩
    · refine ⟨.ref d, rfl, d, 4, rfl, sd9.dice, by decide, by decide, fun r4 x y z r40 r41 => ?_⟩
      have sd9' : Sd d H9 (upd H9 d (.lst [.int x, .int y, .int z])) := sd_put x y z
      have naA := na9.sd sd9.dice sd9' p2
      have sdA := sd9.trans sd9'
      generalize upd H9 d (.lst [.int x, .int y, .int z]) = HA at sd9' naA sdA ⊢
      refine ⟨rfl, _, rfl, ?_⟩
      by_cases r44 : r4 = 0
      · rw [decide_eq_true (show V.int r4 = V.int 0 by rw [r44])]
        refine iteT ?_
        refine ⟨.ref N6, rfl, N6, .ref ti6, rfl, dget_ties naA, ti6, tk ts6, rfl, naA.ti, _, _, rfl, rfl, _, rfl, ?_⟩
        rw [tk_len]
        by_cases hz : (0 : Int) < ((ts6.length : Nat) : Int)
        · rw [decide_eq_true hz]
          refine iteT ?_
          refine ⟨.ref N6, rfl, N6, .ref ti6, rfl, dget_ties naA, .inr (.inr (.inl ⟨rfl, .inr ⟨_, naA.ti⟩⟩)), .ref d, rfl, .ref N6, rfl, N6, .ref ti6, rfl, dget_ties naA, ti6, tk ts6, ts6.map (·.1), rfl, .inl naA.ti, tk_keys ts6, fun p bs np ka => ?_⟩
          have kl : bs.length = ts6.length := by rw [Paired.length ka, List.length_mergeSort, List.length_map]
          have tl := good6.len
          refine ⟨d, p, _, rfl, (sd_new sdA.dice np).dice, upd_same, (sdA.dice.ne np).symm, by rw [List.length_map]; omega, by rw [List.length_map]; omega, fun v HB hv sB => ?_⟩
          have sAB : Sd d HA HB := (sd_new sdA.dice np).trans sB
          obtain ⟨b, k, rfl, hb, hk⟩ : ∃ b k, v = V.ref b ∧ HA b = some (.tup [.str (k : Str × Str).1, .str k.2]) ∧ k ∈ ts6.map (·.1) := by
            obtain ⟨b, hb, e⟩ := List.mem_map.mp hv
            obtain ⟨n, hn⟩ := List.mem_iff_getElem?.mp hb
            obtain ⟨k, hk, e2⟩ := paired_get' ka hn
            exact ⟨b, k, e.symm, e2, List.mem_mergeSort.mp (List.mem_of_getElem? hk)⟩
          obtain ⟨d1, d2, d3, ed⟩ := sdA.dice
          have hbB : HB b = some (.tup [.str k.1, .str k.2]) := sAB.keep _ _ (ne_of hb ed (fun z => nomatch z)) hb
          have naB := naA.sd sdA.dice sAB p2
          obtain ⟨e, he, ek⟩ := List.mem_map.mp hk
          have ev : ∃ v, valV (tk ts6) (kP k) = some v := by
            rw [tk_val]
            cases ef : ts6.find? fun e => decide (e.1 = k) with
            | none => exact absurd (decide_eq_true ek) (List.find?_eq_none.mp ef e he)
            | some e' => exact ⟨_, rfl⟩
          obtain ⟨v0, ev⟩ := ev
          refine ⟨ti6, tk ts6, kP k, b, v0, rfl, rfl, naB.ti, hbB, ev, ?_⟩
          rw [tk_drop]
          have sdB := sdA.trans sAB
          obtain ⟨f1, f2, f3, ed2⟩ := sdB.dice
          have dti : d ≠ ti6 := ne_of ed2 naB.ti (fun z => nomatch z)
          refine ⟨N6, ts6.filter fun e => decide (e.1 ≠ k), pl6, ti6, _, _, _, _, rfl, ⟨fun c o hc h => ?_, ⟨f1, f2, f3, ?_⟩⟩, ⟨?_, ?_, upd_same⟩, good6.drop _, nN6, npl6, nti6⟩
          · rw [upd_ne (ne_of_none h nti6)]
            exact sdB.keep c o hc h
          · rw [upd_ne dti]
            exact ed2
          · rw [upd_ne (ne_of naB.net naB.ti (fun z => nomatch z))]
            exact naB.net
          · rw [upd_ne (ne_of naB.pl naB.ti (fun z => nomatch z))]
            exact naB.pl
        · rw [decide_eq_false hz]
          refine iteF ?_
          exact ⟨N6, ts6, pl6, ti6, _, _, _, _, rfl, sdA, naA, good6, nN6, npl6, nti6⟩
      · rw [decide_eq_false (show ¬ V.int r4 = V.int 0 from fun z => r44 (V.int.inj z))]
        refine iteF ?_
        exact ⟨N6, ts6, pl6, ti6, _, _, _, _, rfl, sdA, naA, good6, nN6, npl6, nti6⟩
    rintro σ7 H10 ⟨N7, ts7, pl7, ti7, x5, x6, x7, x8, rfl, sd10, na10, good7, nN7, npl7, nti7⟩
    exact ⟨.ref N7, rfl, q H10 N7 ps ts7 pl7 ti7 sd10 na10 ⟨asc, wd, by omega, by omega, good7.keys, good7.nodup, good7.pos, good7.sum⟩ nN7 npl7 nti7⟩
end
/-! ### set(t) of a tuple of keys, and its length -/
theorem nodup_snoc {κ : Type} {xs : List κ} {z : κ} : (xs ++ [z]).Nodup ↔ xs.Nodup ∧ z ∉ xs := by
  rw [List.nodup_append]
  constructor
  · intro ⟨h1, _, h3⟩
    exact ⟨h1, fun hz => h3 z hz z (List.mem_singleton.mpr rfl) rfl⟩
  · intro ⟨h1, h2⟩
    refine ⟨h1, List.nodup_cons.mpr ⟨(fun h => nomatch h), List.nodup_nil⟩, fun a ha b hb e => ?_⟩
    rw [List.mem_singleton.mp hb] at e
    exact h2 (e ▸ ha)
def hasK (ks : List Key) (j : Key) : Bool := ks.any fun k => decide (k = j)
theorem hasK_iff {ks : List Key} {j : Key} : hasK ks j = true ↔ j ∈ ks := by
  unfold hasK
  rw [List.any_eq_true]
  constructor
  · rintro ⟨k, hk, e⟩
    rw [← of_decide_eq_true e]
    exact hk
  · intro h
    exact ⟨j, h, decide_eq_true rfl⟩
theorem setOf_congr {P : Program} {w : World} {h : Heap} {a : Addr} {S S' : Key → Bool} {n : Nat} (x : h.SetOf (mixKind P w) a S n) (e : ∀ k, S k = S' k) : h.SetOf (mixKind P w) a S' n := by
  obtain rfl : S = S' := funext e
  exact x
section
variable {P : Program} {w : World} {A : Around} {E : Value → Shared → Prop} {s : Shared}
theorem set_loop_keys {I : Addr} {fp wr : List Addr} {G : Array GenState → Array GenState → Prop} {n : Nat} {Pv : Nat → Value → Prop} {St : Nat → Shared → Prop} {R : Result → Shared → Prop}
    (W : WalksS P w A.in1 I fp wr G n Pv St) (S : Addr) (hSf : S ∉ fp) (ks : List Key) (hn : n = ks.length) (hb : ks.length + 1 < scanBound)
    (hval : ∀ i v, Pv i v → ∃ k, ks[i]? = some k ∧ (mixKind P w).is k v = true ∧ v.scannable = true) :
    ∀ (k i : Nat) (s : Shared), n - i = k → i ≤ n → St i s → (∃ c, c ≤ i ∧ (c = i ↔ (ks.take i).Nodup) ∧ s.heap.SetOf (mixKind P w) S (hasK (ks.take i)) c) →
      (∀ s' c, Moved (S :: wr) G s s' → c ≤ n → (c = n ↔ ks.Nodup) → s'.heap.SetOf (mixKind P w) S (hasK ks) c → R (.ok (.ret .none)) s') →
      codeAny (model P w) A (.builtin "set.update.loop" ⟨[.ref S, .ref I], []⟩) R s := by
  have hSw : S ∉ wr := fun h => hSf (W.sub _ h)
  have hsub : ∀ b ∈ wr, b ∈ S :: wr := fun b hb => List.mem_cons_of_mem _ hb
  intro k
  induction k with
  | zero =>
    intro i s hk hi hst ⟨c, hc, hcn, hS⟩ hR
    obtain rfl : i = n := by omega
    refine codeAny_builtin PyProof.Rows.F.entry_set_update_loop ?_
    rw [Around.under_plainId PyProof.Rows.F.plain_set_update_loop _]
    show wpAny _ A.in1 (pyNext (.ref I) >>= _) _ _ s
    refine wpAny_bind (W.done s _ _ hst fun s' hm => ?_)
    show wpAny _ A.in1 (ret Value.none) _ _ s'
    have e : ks.take i = ks := List.take_of_length_le (by omega)
    rw [e] at hS hcn
    exact wpAny_pure (hR s' c (hm.mono hsub) hc hcn (setOf_at hS fun o e => hm.heap S o hSw e))
  | succ k ih =>
    intro i s hk hi hst ⟨c, hc, hcn, hS⟩ hR
    have hlt : i < n := by omega
    refine codeAny_builtin PyProof.Rows.F.entry_set_update_loop ?_
    rw [Around.under_plainId PyProof.Rows.F.plain_set_update_loop _]
    show wpAny _ A.in1 (pyNext (.ref I) >>= _) _ _ s
    refine wpAny_bind (W.item i s _ _ hlt hst fun v s' hP hst' hm => ?_)
    obtain ⟨z, hz, his, hsc⟩ := hval i v hP
    have hS' : s'.heap.SetOf (mixKind P w) S (hasK (ks.take i)) c := setOf_at hS fun o e => hm.heap S o hSw e
    show wpAny _ A.in1 (holding [v] (setAdd S v) >>= _) _ _ s'
    refine wpAny_bind (wpAny_holding ?_)
    unfold setAdd
    refine wpAny_holding ?_
    refine wpAny_bind ((mixKind P w).pyHash (k := z) his ?_)
    refine wpAny_setAddHashed_of (knd := mixKind P w) (s := { s' with toks := s'.toks + 1 }) his hsc hS' (by omega) fun h' hsb hS2 => ?_
    have et : ks.take (i + 1) = ks.take i ++ [z] := by
      rw [List.take_add_one, hz]
      rfl
    have hS3 : h'.SetOf (mixKind P w) S (hasK (ks.take (i + 1))) (if hasK (ks.take i) z = true then c else c + 1) := setOf_congr hS2 fun j => by
      rw [et]
      unfold hasK
      rw [List.any_append]
      simp [eq_comm]
    have hc3 : (if hasK (ks.take i) z = true then c else c + 1) ≤ i + 1 ∧ ((if hasK (ks.take i) z = true then c else c + 1) = i + 1 ↔ (ks.take (i + 1)).Nodup) := by
      rw [et, nodup_snoc]
      by_cases hm : z ∈ ks.take i
      · rw [if_pos (hasK_iff.mpr hm)]
        exact ⟨by omega, fun e => by omega, fun ⟨_, h⟩ => absurd hm h⟩
      · rw [if_neg fun h => hm (hasK_iff.mp h)]
        refine ⟨by omega, fun e => ⟨hcn.mp (by omega), hm⟩, fun ⟨h, _⟩ => ?_⟩
        have := hcn.mpr h
        omega
    refine wpAny_pure ⟨plainId_quiet PyProof.Rows.F.plain_set_update_loop _, ih (i + 1) _ (by omega) hlt (W.frame _ s' _ _ hst' (Nat.le_succ _) fun b hb o e => ?_) ⟨_, hc3.1, hc3.2, hS3⟩ fun s'' c2 hm'' hc'' hcn'' hS'' => ?_⟩
    · rw [hsb.2 b (fun h : b = S => hSf (by rw [← h]; exact hb))]
      exact e
    · refine hR s'' c2 (Moved.trans W.gtrans ((hm.mono hsub).then_heap (Nat.le_succ _) fun b o hb e => ?_) hm'') hc'' hcn'' hS''
      rw [hsb.2 b (fun h : b = S => hb (by rw [h]; exact List.mem_cons_self))]
      exact e
end
section
variable {P : Program} {w : World} {A : Around} {E : Value → Shared → Prop} {s : Shared}
/-- the empty set that set.__new__ lays -/
def set0 (w : World) : Obj := { cls := .type "set", dict := none, data := .set #[] 0 (.fresh 0 0 (!w.params.followText "set-order")) }
set_option maxRecDepth 100000 in
set_option maxHeartbeats 3200000 in
theorem call_set_by {a : Value} {Q : Value → Shared → Prop}
    (hnext : wpAny (model P w) A.in1.in1 (Builtin.«set.__init__» ⟨[.ref s.heap.objs.size, a], []⟩)
      (fun fin s' => match fin with
        | .done f => wants (fun r s₂ => r = .none ∧ Q (.ref s.heap.objs.size) s₂) E (.ok f) s'
        | .again c' => c'.quiet = true ∧ codeAny (model P w) A.in1 c' (wants (fun r s₂ => r = .none ∧ Q (.ref s.heap.objs.size) s₂) E) s')
      (fun e s' => wants (fun r s₂ => r = .none ∧ Q (.ref s.heap.objs.size) s₂) E (.error e) s') { s with heap := s.heap.push (set0 w) }) :
    wpAny (model P w) A (call (.type "set") [a]) Q E s := by
  obtain ⟨c, tl, hmro⟩ := F.called_set.mro
  have hmade := F.called_set.made
  have hsub := F.called_set.sub
  refine wpAny_call (codeAny_of_tree ?_)
  show wpAny _ _ (callAny (.type "set") _) _ _ _
  refine wpAny_pure ⟨Code.quiet_builtin _ (by decide +kernel), codeAny_builtin F.entry_type_call ?_⟩
  rw [Around.under_plain (weight_type_call_type "set" [a] []) rfl]
  have h1 := F.called_set.notType
  have h2 := F.called_set.canCreate
  have hct := F.typeCall_set_1 a
  repeat (any_goals (first | assumption | wp_step))
  refine codeAny_mono (code_set_led1 a (E := E) (Q₁ := fun obj s₁ => obj = .ref s.heap.objs.size ∧ s₁ = { s with heap := s.heap.push (set0 w) }) ⟨rfl, rfl⟩) fun r s₁ hr => ?_
  cases r with
  | error e => exact hr
  | ok fl =>
    cases fl with
    | ret obj =>
      obtain ⟨rfl, rfl⟩ := hr
      have hT : Shared.TypeIs { s with heap := s.heap.push (set0 w) } (.ref s.heap.objs.size) "set" := ⟨_, Heap.get?_push_size _ rfl, rfl⟩
      have hli := F.called_set.init.lookup
      have hbi := F.called_set.init.bind (.ref s.heap.objs.size)
      repeat (any_goals (first | assumption | wp_step))
      refine codeAny_mono (codeAny_call_builtin F.called_set.init.plain F.entry_set_init (check_set_init_1 hT hnext)) fun r₂ s₂ hr₂ => ?_
      cases r₂ with
      | error e => exact hr₂
      | ok fl₂ =>
        cases fl₂ with
        | ret r =>
          obtain ⟨rfl, hq⟩ := hr₂
          repeat (any_goals (first | assumption | wp_step))
        | _ => exact hr₂.elim
    | _ => exact hr.elim
end
section
variable {P : Program} {w : World} {A : Around} {E : Value → Shared → Prop} {s : Shared}
theorem call_set_tupK {l : Addr} {items : Array Value} (ks : List Key) {Q : Value → Shared → Prop} (hh : A.handled = none) (hl : s.heap.IsTuple l items) (hit : Vals (ks.map kV) items.toList) (hb : ks.length + 1 < scanBound)
    (h : ∀ (h' : Heap) (tk c : Nat), h'.SetOf (mixKind P w) s.heap.objs.size (hasK ks) c → c ≤ ks.length → (c = ks.length ↔ ks.Nodup) → (∀ b o, s.heap.get? b = some o → h'.get? b = some o) → Q (.ref s.heap.objs.size) { s with heap := h', toks := tk }) :
    wpAny (model P w) A (call (.type "set") [.ref l]) Q E s := by
  have hisz : items.size = ks.length := by
    have q := hit.length
    rw [List.length_map, Array.length_toList] at q
    exact q.symm
  refine call_set_by ?_
  have hS : (s.heap.push (set0 w)).get? s.heap.objs.size = some (set0 w) := Heap.get?_push_size _ rfl
  obtain ⟨ol, hol, hcl, nl, hdl⟩ := hl
  obtain ⟨ocls, odict, odata, oslots⟩ := ol
  simp only at hcl hdl
  subst hcl; subst hdl
  have hol' : (s.heap.push (set0 w)).get? l = some { cls := .type "tuple", dict := odict, data := .seq items nl, slots := oslots } := Heap.get?_push_of_some _ hol
  have hsls := F.sub_tuple_set
  have hslf := F.sub_tuple_frozenset
  have hne : (Value.type "tuple" == Value.type "dict") = false := by decide
  have hl1 : (s.heap.push (set0 w)).IsTuple l items := ⟨_, hol', rfl, nl, rfl⟩
  have hlS : l < s.heap.objs.size := Heap.lt_size hol
  have hval : ∀ (i : Nat) (v : Value), items[i]? = some v → ∃ k, ks[i]? = some k ∧ (mixKind P w).is k v = true ∧ v.scannable = true := fun i v hv => by
    have hi : i < ks.length := by
      rw [← hisz]
      exact (Array.getElem?_eq_some_iff.mp hv).1
    obtain ⟨u, hu, r⟩ := hit.get (i := i) (x := kV ks[i]) (by rw [List.getElem?_map, List.getElem?_eq_getElem hi]; rfl)
    rw [Array.getElem?_toList, hv] at hu
    cases hu
    exact ⟨ks[i], List.getElem?_eq_getElem hi, kV_is r, key_scan r⟩
  unfold Builtin.«set.__init__» noKeywords Builtin.Frozenset.updateFrom
  generalize hPI : pyIter = PI
  wp_walk
  subst hPI
  refine wpAny_pyIter_tuple hl1 ?_
  refine wpAny_bind (wpAny_runValue ?_)
  have hh3 : A.in1.in1.in1.handled = none := by simp [hh]
  have hz : (s.heap.push (set0 w)).objs.size = s.heap.objs.size + 1 := Heap.size_push ..
  have hneI : l ≠ (s.heap.push (set0 w)).objs.size := by
    rw [hz]
    exact Nat.ne_of_lt (Nat.lt_succ_of_lt hlS)
  have hSf : s.heap.objs.size ∉ [(s.heap.push (set0 w)).objs.size, l] := by
    rw [hz]
    simp only [List.mem_cons, List.mem_singleton, List.not_mem_nil, or_false, not_or]
    exact ⟨Nat.ne_of_lt (Nat.lt_succ_self _), Nat.ne_of_gt hlS⟩
  refine set_loop_keys ((Walks.tuple hh3 _ l hneI items).toS) s.heap.objs.size hSf ks hisz hb hval (items.size - 0) 0 _ (by omega) (Nat.zero_le _)
    ⟨⟨_, Heap.get?_push_size _ rfl, rfl, rfl⟩, (hl1.push _)⟩ ⟨0, Nat.le_refl 0, ⟨fun _ => by rw [List.take_zero]; exact List.nodup_nil, fun _ => rfl⟩, _, #[], 0, _, Heap.get?_push_of_some _ hS, ⟨rfl, rfl, rfl⟩, rfl, (fun e he => by simp at he), (fun k => by simp [hasK]), (by decide), (by rfl), rfl⟩ ?_
  intro s' c' hm hc' hcn hS'
  obtain ⟨h', g2, d', tk', os'⟩ := s'
  obtain rfl : g2 = s.gens := hm.gens
  obtain rfl : d' = s.drawn := hm.drawn
  obtain rfl : os' = s.os := hm.os
  refine wpAny_pure ?_
  show wpAny _ _ (ret Value.none) _ _ _
  rw [hisz] at hc' hcn
  refine wpAny_pure ⟨rfl, h h' tk' c' hS' hc' hcn fun b o e => ?_⟩
  have hb0 : b < s.heap.objs.size := Heap.lt_size e
  refine hm.heap b o ?_ (Heap.get?_push_of_some _ (Heap.get?_push_of_some _ e))
  rw [hz]
  simp only [List.mem_cons, List.mem_singleton, List.not_mem_nil, or_false, not_or]
  exact ⟨Nat.ne_of_lt hb0, Nat.ne_of_lt (Nat.lt_succ_of_lt hb0)⟩
end
section
variable {X : Cx}
/-- set(t) of a tuple of keys -/
theorem call_setTupK (hc : X.calm = true) : CallR X (.type "set") (fun xs H Q => ∃ (t : Addr) (ks : List Key), xs = [.ref t] ∧ SqT X.K H t (ks.map kV) ∧ ks.length < 1000 ∧
    ∀ (p : Addr) (c : Nat), H p = none → c ≤ ks.length → (c = ks.length ↔ ks.Nodup) → Q (.ref p) (upd H p (SetK X.prog X.w p (hasK ks) c))) := by
  intro pins s σ H xs us Q I r h
  obtain ⟨t, ks, rfl, ht, hl, q⟩ := h
  obtain ⟨u, rfl, rx⟩ := vals1 r
  cases (show u = Value.ref t from rx)
  obtain ⟨its, rv, ⟨o, e, hcl, n, hd⟩, hz⟩ := I.tuple ht
  have hf : H s.heap.objs.size = none := I.hok.fresh (Nat.le_refl _)
  have hsb : scanBound = 4096 := rfl
  refine call_set_tupK ks (I.ok.hd hc) ⟨o, e, hcl, n, hd⟩ rv (by omega) fun h' tk c hS hcl hcn hk => ?_
  exact ⟨.ref s.heap.objs.size, upd H s.heap.objs.size (SetK X.prog X.w s.heap.objs.size (hasK ks) c), I.laid (t' := tk) hk (Nat.le_refl _) (setK_new hS), rfl, q _ c hf hcl hcn⟩
/-- len of it -/
theorem call_lenSetK : CallR X (.builtin "len") (fun xs H Q => ∃ (a : Addr) (S : Key → Bool) (n : Nat), xs = [.ref a] ∧ H a = some (SetK X.prog X.w a S n) ∧ Q (.int (n : Int)) H) := by
  intro pins s σ H xs us Q I r h
  obtain ⟨a, S, n, rfl, ha, q⟩ := h
  obtain ⟨u, rfl, rx⟩ := vals1 r
  cases (show u = Value.ref a from rx)
  obtain ⟨o, es, ep, tb, ho, hex, hd, hel, hmem, hb, hf, hn⟩ := setK_get I ha
  subst hn
  have h4 : es.size < 4096 := hb
  refine call_len_set ho hex hd hf (by omega) ?_
  exact ⟨.int _, H, I.tok _, ⟨_, rfl⟩, q⟩
end
/-! ### places that a net can have -/
theorem scArePl : FnScope ["value", "place"] ["value"] (defScope sArePlaces) := ⟨rfl, rfl, rfl, by decide +kernel, rfl, by decide +kernel, by decide +kernel⟩
def placesB (ps : List Str) : Bool := decide (1 ≤ ps.length) && (decide (ps.length ≤ 9) && (ps.all wordS && decide ps.Nodup))
def spArePl (K : PySem.W.Frag) : Sp := fun vs H Q _ => ∃ (t : Addr) (ps : List Str), vs = [.ref t] ∧ H t = some (.tup (ps.map V.str)) ∧ ps.length < 900 ∧ (∀ p ∈ ps, okStr p) ∧ ∀ H', Same H H' → Q (.bl (placesB ps)) H'
section
variable {P : Program} {w : World} {K : PySem.W.Frag} {mg : Str → Option Value} {base : Heap}
theorem ok_arePl {f g : Addr} {fd gd : FuncData} {k : Nat} {t9 : Tok} (F : Fun K "_are_places" "_are_places" sArePlaces f fd)
    (G : FnOk P w K mg base CX0 k g gd ["value"] (spWord K)) (gk : PySem.W.keepIn K (.ref g) = true) (gb : Binds K gd ["value"] []) (mgW : mg "is_word" = some (.ref g))
    (ml : mg "len" = none) (mi : mg "isinstance" = none) (mt : mg "tuple" = none) (mA : mg "all" = none) (mS : mg "set" = none) (mM : mg "MAX_PLACES" = some (.int 9 t9)) :
    FnOk P w K mg base CX0 (k + 1) f fd ["value"] (spArePl K) := by
  refine F.ok scArePl (fun vs H Q E h => ?_) (fun cdv A outer s H vs Q E hr h => ?_)
  · obtain ⟨t, ps, rfl, _⟩ := h
    rfl
  · obtain ⟨t, ps, rfl, ht, hl, ho, q⟩ := h
    refine ⟨_, pss_one (ps_ret (pe_and (pe_callB call_isi (by rfl) mi (by decide +kernel) (pa_cons (pv 0) (pa_cons (pe_bltn (v := .ty "tuple") (by rfl) mt (by decide +kernel) rfl) pa_nil)))
      (pe_and (pe_chain op_le op_le pe_int (pe_callB call_len_seq (by rfl) ml PySem.boot_len (pa_cons (pv 0) pa_nil)) (pe_glob (v := .int 9) rfl mM ⟨_, rfl⟩))
      (pe_and (pe_callB (cr_all rfl) (by rfl) mA (by decide +kernel) (pa_cons (pe_lc (own := [("place", 1)]) (g := gName 1) (tt := tYes) rfl scArePl.nd (pi_tup (pv 0))
        (blkOk_by (N := ["value", "place"]) (sc := defScope sArePlaces) (by decide +kernel)) (fun _ _ _ _ _ => pg_name (i := 1) scArePl.nd rfl (Or.inl rfl)) (fun _ _ _ _ _ => pts_nil)
        (fun _ _ _ _ _ => pe_call G hr (by rfl) mgW gk gb .nil pass0 (pa_cons (pv 1) pa_nil))) pa_nil))
      (pe_one (pe_cmpR op_eq (pe_callB call_lenSetK (by rfl) ml PySem.boot_len (pa_cons (pe_callTy (call_setTupK rfl) (by rfl) mS (by decide +kernel) (pa_cons (pv 0) pa_nil)) pa_nil)) (pe_callB call_len_seq (by rfl) ml PySem.boot_len (pa_cons (pv 0) pa_nil)) (nomark _))))))), ?_⟩
    refine ⟨.ref t, rfl, .ref t, .ty "tuple", _, .type "tuple", true, rfl, .ty "tuple", .base (.tup ht), kit_ty (by decide +kernel), true, rfl, iteT ?_⟩
    have hln : (ps.map V.str).length = ps.length := List.length_map ..
    refine ⟨.ref t, rfl, t, _, rfl, .inr (.inl (.inl ht)), 1, _, rfl, rfl, _, rfl, ite2 (fun e1 => ?_) (fun e1 => ?_)⟩
    · have h1 : 1 ≤ ps.length := by
        have := of_decide_eq_true e1
        rw [hln] at this
        omega
      refine ⟨_, 9, rfl, rfl, _, rfl, ite2 (fun e2 => ?_) (fun e2 => ?_)⟩
      · have h2 : ps.length ≤ 9 := by
          have := of_decide_eq_true e2
          rw [hln] at this
          omega
        refine ⟨.ref t, rfl, t, rfl, ⟨_, .inl (.inl ht)⟩, fun D nD => lc_tup (K := K) (a := t) (xs := ps.map V.str) (fun i H' => H' D = some (.lst ((ps.take i).map fun p => V.bl (wordS p))) ∧ Same H H') ⟨upd_same, same_upd nD⟩ (fun i H' _ hP => .inl (.inl (hP.2 _ _ ht))) (fun i x H' hx hP => ?_) (fun H' hP => ?_)⟩
        · obtain ⟨eD, sm⟩ := hP
          rw [List.getElem?_map] at hx
          cases hp : ps[i]? with
          | none =>
            rw [hp] at hx
            cases hx
          | some p =>
            rw [hp] at hx
            cases hx
            refine ⟨rfl, .str p, rfl, .str p, rfl, (Dv.str (ho p (List.mem_of_getElem? hp))).tv, fun H2 s2 => ⟨_, s2 _ _ eD, ?_, ?_, ?_⟩⟩
            · rw [List.length_map, List.length_take]
              exact small1000 (by omega)
            · rw [upd_same, List.take_add_one, hp, List.map_append]
              rfl
            · intro b o hb
              rw [upd_ne (ne_of_none hb nD)]
              exact s2 _ _ (sm b o hb)
        · obtain ⟨eD, sm⟩ := hP
          rw [List.length_map, List.take_of_length_le (Nat.le_refl _)] at eD
          refine ⟨D, ps.map wordS, rfl, .inl (.inl (by rw [List.map_map]; exact eD)), ?_⟩
          have ea : (ps.map wordS).all id = ps.all wordS := by
            rw [List.all_map]
            rfl
          have hb : placesB ps = (ps.all wordS && decide ps.Nodup) := by
            unfold placesB
            rw [decide_eq_true h1, decide_eq_true h2, Bool.true_and, Bool.true_and]
          rw [ea]
          refine ⟨_, rfl, ite2 (fun e3 => ?_) (fun e3 => ?_)⟩
          · have ek : (ps.map (Sum.inr : Str → Key)).map kV = ps.map V.str := by
              rw [List.map_map]
              rfl
            have kl : (ps.map (Sum.inr : Str → Key)).length = ps.length := List.length_map ..
            refine ⟨.ref t, rfl, t, ps.map Sum.inr, rfl, .inl (.inl (by rw [ek]; exact sm _ _ ht)), by omega, fun p c np hc hcn => ?_⟩
            refine ⟨p, _, c, rfl, upd_same, .ref t, rfl, t, _, rfl, .inr (.inl (.inl ((same_upd np) _ _ (sm _ _ ht)))), rfl, ?_⟩
            have en : decide (V.int (c : Int) = V.int (((ps.map V.str).length : Nat) : Int)) = decide ps.Nodup := by
              have inj : (ps.map (Sum.inr : Str → Key)).Nodup ↔ ps.Nodup := ⟨fun h => List.Pairwise.of_map (S := fun a b => a ≠ b) _ (fun a b n e => n (by rw [e])) h, fun h => map_nodup (fun a b e => by injection e) h⟩
              rw [kl, inj] at hcn
              rw [hln]
              by_cases hd : ps.Nodup
              · rw [decide_eq_true hd, decide_eq_true (by rw [hcn.mpr hd])]
              · rw [decide_eq_false hd, decide_eq_false fun z => hd (hcn.mp (by have := V.int.inj z; omega))]
            rw [en]
            have := q _ (sm.trans (same_upd (o := SetK P w p (hasK (ps.map Sum.inr)) c) np))
            rw [hb, e3, Bool.true_and] at this
            exact this
          · have := q _ sm
            rw [hb, Bool.eq_false_iff.mpr e3, Bool.false_and] at this
            exact this
      · have h2 : ¬ ps.length ≤ 9 := fun h => e2 (decide_eq_true (by rw [hln]; omega))
        have ew : placesB ps = false := by
          unfold placesB
          rw [decide_eq_false h2, Bool.false_and, Bool.and_false]
        rw [ew] at q
        exact q H (Same.refl H)
    · have h1 : ¬ 1 ≤ ps.length := fun h => e1 (decide_eq_true (by rw [hln]; omega))
      have ew : placesB ps = false := by
        unfold placesB
        rw [decide_eq_false h1, Bool.false_and]
      rw [ew] at q
      exact ⟨false, rfl, iteF (q H (Same.refl H))⟩
end
/-! ### integers and pairs -/
def topInt : Int := 10 ^ (60 : Int).toNat
def intB : V → Bool
  | .int i => decide ((if i < 0 then -i else i) < topInt)
  | _ => false
def ltB : V → V → Bool
  | .str x, .str y => decide (x.cps.toList < y.cps.toList)
  | _, _ => false
/-- a value that is no tuple -/
inductive Nt (H : Hp) : V → Prop where
  | non : Nt H .non
  | bl (b : Bool) : Nt H (.bl b)
  | int (i : Int) : Nt H (.int i)
  | str (z : Str) : Nt H (.str z)
  | lst {a : Addr} {xs : List V} (e : H a = some (.lst xs)) : Nt H (.ref a)
  | dK {a : Addr} {kvs : List (Key × V)} (e : H a = some (.dK kvs)) : Nt H (.ref a)
inductive PairV (H : Hp) : V → Bool → Prop where
  | no {v : V} (h : Nt H v) : PairV H v false
  | len {t : Addr} {xs : List V} (e : H t = some (.tup xs)) (h : xs.length ≠ 2) : PairV H (.ref t) false
  | two {t : Addr} {x y : V} {b : Bool} (e : H t = some (.tup [x, y])) (dx : Dv H x) (dy : Dv H y) (h : (wordB x && (wordB y && ltB x y)) = b) : PairV H (.ref t) b
/-- but for the list at L, which is a list still, all stands -/
structure Kl (L : Addr) (H H' : Hp) : Prop where
  keep : ∀ b o, b ≠ L → H b = some o → H' b = some o
  one : ∃ xs, H L = some (.lst xs)
  two : ∃ xs, H' L = some (.lst xs)
theorem Kl.ne {L t : Addr} {H H' : Hp} {xs : List V} (k : Kl L H H') (e : H t = some (.tup xs)) : t ≠ L := fun z => by
  obtain ⟨ys, h⟩ := k.one
  rw [z, h] at e
  cases e
theorem Kl.of_sd {d : Addr} {H H' : Hp} (h : DiceAt H d) (s : Sd d H H') : Kl d H H' := by
  obtain ⟨x, y, z, e⟩ := h
  obtain ⟨x', y', z', e'⟩ := s.dice
  exact ⟨s.keep, ⟨_, e⟩, ⟨_, e'⟩⟩
theorem Kl.of_same {L : Addr} {H H' : Hp} (e : ∃ xs, H L = some (.lst xs)) (s : Same H H') : Kl L H H' := by
  obtain ⟨xs, h⟩ := e
  exact ⟨fun b o _ q => s b o q, ⟨_, h⟩, ⟨_, s _ _ h⟩⟩
theorem Kl.trans {L : Addr} {H H1 H2 : Hp} (a : Kl L H H1) (b : Kl L H1 H2) : Kl L H H2 := ⟨fun c o hc h => b.keep c o hc (a.keep c o hc h), a.one, b.two⟩
theorem Dv.kl {L : Addr} {H H' : Hp} {v : V} (k : Kl L H H') (h : Dv H v) : Dv H' v := by
  have at_L : Dv H' (.ref L) := by
    obtain ⟨xs, e⟩ := k.two
    exact .lst e
  cases h with
  | non => exact .non
  | bl b => exact .bl b
  | int i => exact .int i
  | str h => exact .str h
  | @lst a xs e =>
    by_cases ha : a = L
    · rw [ha]; exact at_L
    · exact .lst (k.keep _ _ ha e)
  | @tup a xs e => exact .tup (k.keep _ _ (k.ne e) e)
  | @dK a xs e =>
    by_cases ha : a = L
    · rw [ha]; exact at_L
    · exact .dK (k.keep _ _ ha e)
theorem Nt.kl {L : Addr} {H H' : Hp} {v : V} (k : Kl L H H') (h : Nt H v) : Nt H' v := by
  have at_L : Nt H' (.ref L) := by
    obtain ⟨xs, e⟩ := k.two
    exact .lst e
  cases h with
  | non => exact .non
  | bl b => exact .bl b
  | int i => exact .int i
  | str z => exact .str z
  | @lst a xs e =>
    by_cases ha : a = L
    · rw [ha]; exact at_L
    · exact .lst (k.keep _ _ ha e)
  | @dK a xs e =>
    by_cases ha : a = L
    · rw [ha]; exact at_L
    · exact .dK (k.keep _ _ ha e)
theorem Nt.same {H H' : Hp} {v : V} (s : Same H H') (h : Nt H v) : Nt H' v := by
  cases h with
  | non => exact .non
  | bl b => exact .bl b
  | int i => exact .int i
  | str z => exact .str z
  | lst e => exact .lst (s _ _ e)
  | dK e => exact .dK (s _ _ e)
theorem PairV.kl {L : Addr} {H H' : Hp} {v : V} {b : Bool} (k : Kl L H H') (h : PairV H v b) : PairV H' v b := by
  cases h with
  | no h => exact .no (h.kl k)
  | len e h => exact .len (k.keep _ _ (k.ne e) e) h
  | two e dx dy h => exact .two (k.keep _ _ (k.ne e) e) (dx.kl k) (dy.kl k) h
theorem PairV.same {H H' : Hp} {v : V} {b : Bool} (s : Same H H') (h : PairV H v b) : PairV H' v b := by
  cases h with
  | no h => exact .no (h.same s)
  | len e h => exact .len (s _ _ e) h
  | two e dx dy h => exact .two (s _ _ e) (dx.same s) (dy.same s) h
theorem Nt.ty {K : PySem.W.Frag} {H : Hp} {v : V} (h : Nt H v) : ∃ t, TyX K H v t ∧ PySem.W.kitOne K t (.type "tuple") = some false := by
  cases h with
  | non => exact ⟨_, .base .non, kit_ty (by decide +kernel)⟩
  | bl b => exact ⟨_, .base (.bl b), kit_ty (by decide +kernel)⟩
  | int i => exact ⟨_, .base (.int i), kit_ty (by decide +kernel)⟩
  | str z => exact ⟨_, .base (.str z), kit_ty (by decide +kernel)⟩
  | lst e => exact ⟨_, .base (.lst e), kit_ty (by decide +kernel)⟩
  | dK e => exact ⟨_, .base (.dK e), kit_ty (by decide +kernel)⟩
def isIntV : V → Bool
  | .int _ => true
  | .bl _ => true
  | _ => false
def isBlV : V → Bool
  | .bl _ => true
  | _ => false
theorem ki1 : kitB "bool" "int" = some true := by decide +kernel
theorem ki2 : kitB "int" "int" = some true := by decide +kernel
theorem ki3 : kitB "str" "int" = some false := by decide +kernel
theorem ki4 : kitB "list" "int" = some false := by decide +kernel
theorem ki5 : kitB "tuple" "int" = some false := by decide +kernel
theorem ki6 : kitB "dict" "int" = some false := by decide +kernel
theorem ki7 : kitB "NoneType" "int" = some false := by decide +kernel
theorem kl1 : kitB "bool" "bool" = some true := by decide +kernel
theorem kl2 : kitB "int" "bool" = some false := by decide +kernel
theorem Dv.tyInt {K : PySem.W.Frag} {H : Hp} {v : V} (h : Dv H v) : ∃ t, TyX K H v t ∧ PySem.W.kitOne K t (.type "int") = some (isIntV v) := by
  cases h with
  | non => exact ⟨_, .base .non, kit_ty ki7⟩
  | bl b => exact ⟨_, .base (.bl b), kit_ty ki1⟩
  | int i => exact ⟨_, .base (.int i), kit_ty ki2⟩
  | str h => exact ⟨_, .base (.str _), kit_ty ki3⟩
  | lst e => exact ⟨_, .base (.lst e), kit_ty ki4⟩
  | tup e => exact ⟨_, .base (.tup e), kit_ty ki5⟩
  | dK e => exact ⟨_, .base (.dK e), kit_ty ki6⟩
theorem scInt : FnScope ["value"] ["value"] (defScope sIsInt) := ⟨rfl, rfl, rfl, by decide +kernel, rfl, by decide +kernel, by decide +kernel⟩
theorem scPair : FnScope ["value"] ["value"] (defScope sIsPair) := ⟨rfl, rfl, rfl, by decide +kernel, rfl, by decide +kernel, by decide +kernel⟩
def spInt : Sp := fun vs H Q _ => ∃ v, vs = [v] ∧ Dv H v ∧ Q (.bl (intB v)) H
def spPair : Sp := fun vs H Q _ => ∃ v b, vs = [v] ∧ PairV H v b ∧ ∀ H', Same H H' → Q (.bl b) H'
section
variable {P : Program} {w : World} {K : PySem.W.Frag} {mg : Str → Option Value} {base : Heap}
theorem ok_int {f : Addr} {fd : FuncData} {k : Nat} (F : Fun K "is_integer" "is_integer" sIsInt f fd) (mi : mg "isinstance" = none) (mn : mg "int" = none) (mb : mg "bool" = none) (ma : mg "abs" = none) :
    FnOk P w K mg base CX0 (k + 1) f fd ["value"] spInt := by
  refine F.ok scInt (fun vs H Q E h => ?_) (fun cdv A outer s H vs Q E hr h => ?_)
  · obtain ⟨v, rfl, _⟩ := h
    rfl
  · obtain ⟨v, rfl, dv, q⟩ := h
    refine ⟨_, pss_one (ps_ret (pe_and (pe_callB call_isi (by rfl) mi (by decide +kernel) (pa_cons (pv 0) (pa_cons (pe_bltn (v := .ty "int") (by rfl) mn (by decide +kernel) rfl) pa_nil)))
      (pe_and (pe_not (pe_callB call_isi (by rfl) mi (by decide +kernel) (pa_cons (pv 0) (pa_cons (pe_bltn (v := .ty "bool") (by rfl) mb (by decide +kernel) rfl) pa_nil))))
      (pe_one (pe_cmpR op_lt (pe_callB call_abs (by rfl) ma (by decide +kernel) (pa_cons (pv 0) pa_nil)) (pe_op op_pow pe_int pe_int) (nomark _)))))), ?_⟩
    obtain ⟨t, ty, hk⟩ := dv.tyInt (K := K)
    refine ⟨v, rfl, v, .ty "int", t, .type "int", _, rfl, .ty "int", ty, hk, _, rfl, ite2 (fun e => ?_) (fun e => ?_)⟩
    · cases v with
      | bl b =>
        refine ⟨.bl b, rfl, .bl b, .ty "bool", .type "bool", .type "bool", true, rfl, .ty "bool", .base (.bl b), kit_ty kl1, true, rfl, false, rfl, iteF q⟩
      | int i =>
        refine ⟨.int i, rfl, .int i, .ty "bool", .type "int", .type "bool", false, rfl, .ty "bool", .base (.int i), kit_ty kl2, false, rfl, true, rfl, iteT ?_⟩
        exact ⟨.int i, rfl, i, rfl, 10, 60, rfl, rfl, ⟨by decide, by decide, by decide⟩, _, _, rfl, rfl, q⟩
      | _ => cases e
    · cases v with
      | bl b => exact absurd rfl e
      | int i => exact absurd rfl e
      | _ => exact q
theorem ok_pair {f g : Addr} {fd gd : FuncData} {k : Nat} (F : Fun K "is_pair" "is_pair" sIsPair f fd)
    (G : FnOk P w K mg base CX0 k g gd ["value"] (spWord K)) (gk : PySem.W.keepIn K (.ref g) = true) (gb : Binds K gd ["value"] []) (mgW : mg "is_word" = some (.ref g))
    (ml : mg "len" = none) (mi : mg "isinstance" = none) (mt : mg "tuple" = none) :
    FnOk P w K mg base CX0 (k + 1) f fd ["value"] spPair := by
  refine F.ok scPair (fun vs H Q E h => ?_) (fun cdv A outer s H vs Q E hr h => ?_)
  · obtain ⟨v, b, rfl, _⟩ := h
    rfl
  · obtain ⟨v, b, rfl, pr, q⟩ := h
    refine ⟨_, pss_one (ps_ret (pe_and (pe_callB call_isi (by rfl) mi (by decide +kernel) (pa_cons (pv 0) (pa_cons (pe_bltn (v := .ty "tuple") (by rfl) mt (by decide +kernel) rfl) pa_nil)))
      (pe_and (pe_cmpR op_eq (pe_callB call_len_seq (by rfl) ml PySem.boot_len (pa_cons (pv 0) pa_nil)) pe_int (nomark _))
      (pe_and (pe_call G hr (by rfl) mgW gk gb .nil pass0 (pa_cons (pe_ix ix_tup (pv 0) pe_int (fun _ _ => rfl)) pa_nil))
      (pe_and (pe_call G hr (by rfl) mgW gk gb .nil pass0 (pa_cons (pe_ix ix_tup (pv 0) pe_int (fun _ _ => rfl)) pa_nil))
      (pe_one (pe_cmpR op_lt_str (pe_ix ix_tup (pv 0) pe_int (fun _ _ => rfl)) (pe_ix ix_tup (pv 0) pe_int (fun _ _ => rfl)) (nomark _)))))))), ?_⟩
    cases pr with
    | no nt =>
      obtain ⟨t, ty, hk⟩ := nt.ty (K := K)
      exact ⟨v, rfl, v, .ty "tuple", t, .type "tuple", _, rfl, .ty "tuple", ty, hk, false, rfl, iteF (q H (Same.refl H))⟩
    | @len t xs e hx =>
      refine ⟨.ref t, rfl, .ref t, .ty "tuple", _, .type "tuple", true, rfl, .ty "tuple", .base (.tup e), kit_ty (by decide +kernel), true, rfl, iteT ?_⟩
      refine ⟨.ref t, rfl, t, xs, rfl, .inr (.inl (.inl e)), rfl, _, rfl, ite2 (fun e2 => ?_) (fun e2 => q H (Same.refl H))⟩
      have e3 := V.int.inj (of_decide_eq_true e2)
      omega
    | @two t x y b e dx dy hb =>
      refine ⟨.ref t, rfl, .ref t, .ty "tuple", _, .type "tuple", true, rfl, .ty "tuple", .base (.tup e), kit_ty (by decide +kernel), true, rfl, iteT ?_⟩
      refine ⟨.ref t, rfl, t, [x, y], rfl, .inr (.inl (.inl e)), rfl, true, rfl, iteT ?_⟩
      refine ⟨.ref t, rfl, t, [x, y], 0, x, rfl, rfl, .inl (.inl e), rfl, x, rfl, dx.tv, fun H1 s1 => ⟨_, rfl, ite2 (fun e1 => ?_) (fun e1 => ?_)⟩⟩
      · refine ⟨.ref t, rfl, t, [x, y], 1, y, rfl, rfl, .inl (.inl (s1 _ _ e)), rfl, y, rfl, (dy.same s1).tv, fun H2 s2 => ⟨_, rfl, ite2 (fun e2 => ?_) (fun e2 => ?_)⟩⟩
        · obtain ⟨zx, rfl⟩ : ∃ z, x = .str z := by cases x <;> first | exact ⟨_, rfl⟩ | cases e1
          obtain ⟨zy, rfl⟩ : ∃ z, y = .str z := by cases y <;> first | exact ⟨_, rfl⟩ | cases e2
          have s12 := s1.trans s2
          refine ⟨.ref t, rfl, t, [.str zx, .str zy], 0, .str zx, rfl, rfl, .inl (.inl (s12 _ _ e)), rfl, .ref t, rfl, t, [.str zx, .str zy], 1, .str zy, rfl, rfl, .inl (.inl (s12 _ _ e)), rfl, zx, zy, rfl, rfl, ?_⟩
          have eb : decide (zx.cps.toList < zy.cps.toList) = b := by
            rw [← hb, e1, e2]
            rfl
          rw [eb]
          exact q H2 s12
        · rw [Bool.eq_false_iff.mpr e2, Bool.false_and, Bool.and_false] at hb
          rw [hb]
          exact q H2 (s1.trans s2)
      · rw [Bool.eq_false_iff.mpr e1, Bool.false_and] at hb
        rw [hb]
        exact q H1 s1
end
/-! ### d.values() where keys are tuples, and sum of it -/
def valuesO (p d : Addr) : HO := .ext fun h => h.IsValuesView p d
theorem valuesO_ok {P : Program} {w : World} {H : Hp} {h : Heap} {p d : Addr} (e : h.get? p = some { cls := .type "dict_values", data := .fields #[.ref d] }) : ObjOk P w H h p (valuesO p d) :=
  ⟨⟨_, e, rfl, rfl⟩, ⟨_, e⟩, fun h1 h2 x k => let ⟨o, ho, r⟩ := x; ⟨o, k o ho, r⟩⟩
theorem preSum_list (ns : List Int) : ∀ j, preSum (fun i => ns.getD i 0) j = (ns.take j).sum
  | 0 => by simp [preSum]
  | j + 1 => by
    show preSum (fun i => ns.getD i 0) j + ns.getD j 0 = _
    rw [preSum_list ns j, List.take_add_one, List.sum_append, List.getD_eq_getElem?_getD]
    cases ns[j]? <;> simp
section
variable {X : Cx}
def rValuesT : V → List V → Hp → VK → Prop := fun x xs H Q => ∃ (a : Addr) (kvs : List (List Key × V)), x = .ref a ∧ xs = [] ∧ Rd H a (.dT kvs) ∧ ∀ p, H p = none → Q (.ref p) (upd H p (valuesO p a))
theorem mt_valuesT : MtR X "dict.values" rValuesT := by
  intro pins s σ H x xs v us Q I rx rxs h
  obtain ⟨a, kvs, rfl, rfl, ha, q⟩ := h
  cases rx
  cases rxs
  obtain ⟨z, hd, xs', rel, o, es, ep, ho, hx, hdat, _⟩ := dt_rd I.hok ha
  refine call_meetsIn F.slot_dict_values ⟨o, ho, hx.1⟩ F.entry_dict_values (F.args_dict_values_1 _) (meets_dict_values_raw a hd) ⟨⟨es, ep, o, ho, hx, hdat⟩, ?_⟩
  have hf : H s.heap.objs.size = none := I.hok.fresh (Nat.le_refl _)
  exact ⟨.ref s.heap.objs.size, upd H s.heap.objs.size (valuesO s.heap.objs.size a), I.laid (t' := s.toks) (fun b u e => Heap.get?_push_of_some _ e) (Nat.le_refl _) (valuesO_ok (Heap.get?_push_size _ rfl)), rfl, q _ hf⟩
theorem call_sumVT (hc : X.calm = true) : CallR X (.builtin "sum") (fun xs H Q => ∃ (p a : Addr) (kvs : List (List Key × V)) (ns : List Int), xs = [.ref p] ∧ H p = some (valuesO p a) ∧ Rd H a (.dT kvs) ∧ kvs.map (·.2) = ns.map V.int ∧ Q (.int ns.sum) H) := by
  intro pins s σ H xs us Q I r h
  obtain ⟨p, a, kvs, ns, rfl, hp, ha, hns, q⟩ := h
  obtain ⟨u, rfl, rx⟩ := vals1 r
  cases (show u = Value.ref p from rx)
  have view : s.heap.IsValuesView p a := (show ObjOk X.prog X.w H s.heap p (valuesO p a) from I.hok p _ hp).1
  obtain ⟨z, hd, ks, rel, o, es, ep, ho, hx, hdat, hes, his, hn⟩ := dt_rd I.hok ha
  have l1 : kvs.length = ks.length := Paired.length rel
  have l2 : es.size = ks.length := size_of_entries hes
  have l3 : kvs.length = ns.length := by
    have := congrArg List.length hns
    rwa [List.length_map, List.length_map] at this
  have alt : a < s.heap.objs.size := Heap.lt_size ho
  refine call_sum_walkG (wpAny_pyIter_values_raw view ⟨o, ho, hx, hdat⟩ ?_)
  refine ⟨_, _, _, _, _, _, fun i => ns.getD i 0, rfl, Walks.valuesH (xs := ks) (A := X.A.in1) (I.ok.hd hc) s.heap.objs.size a (Nat.ne_of_lt alt) es ep ?_, ⟨⟨_, Heap.get?_push_size _ rfl, rfl, rfl⟩, ⟨o, Heap.get?_push_of_some _ ho, hx, hdat⟩⟩, fun b hb => ?_, fun i v hP => ?_, fun h' tk t' hk => ?_⟩
  · intro i hi
    have hk : i < ks.length := by omega
    have e := entry_at hes i
    rw [Array.getElem?_eq_getElem hi, List.getElem?_eq_getElem hk] at e
    have e2 : es[i] = entryOfKey (tupleKind (mixKind X.prog X.w)) ks[i] := Option.some.inj e
    exact ⟨ks[i], List.getElem?_eq_getElem hk, by rw [e2]; rfl, by rw [e2]; rfl⟩
  · show b < (s.heap.push _).objs.size
    rw [Heap.size_push]
    rcases List.mem_cons.mp hb with e | hb
    · rw [e]
      exact Nat.lt_succ_self _
    · have e : b = a := List.mem_singleton.mp hb
      rw [e]
      exact Nat.lt_succ_of_lt alt
  · obtain ⟨y, hy, rfl⟩ := hP
    have hi : i < kvs.length := by
      rw [l1]
      exact (List.getElem?_eq_some_iff.mp hy).1
    obtain ⟨r1, r2, r3⟩ := paired_at rel (List.getElem?_eq_getElem hi) hy
    have e1 : (kvs.map (·.2))[i]? = some kvs[i].2 := by rw [List.getElem?_map, List.getElem?_eq_getElem hi] <;> rfl
    rw [hns, List.getElem?_map] at e1
    obtain ⟨j, hj, e2⟩ := Option.map_eq_some_iff.mp e1
    rw [← e2] at r3
    obtain ⟨t, e3⟩ := r3
    refine ⟨t, ?_⟩
    rw [e3]
    show Value.int j t = Value.int (ns.getD i 0) t
    rw [List.getD_eq_getElem?_getD, hj] <;> rfl
  · refine ⟨.int ns.sum, H, I.kept (t' := tk) fun b u e => hk b u (fun hmem => ?_) (Heap.get?_push_of_some _ e), ⟨t', ?_⟩, q⟩
    · have e1 : b = s.heap.objs.size := List.mem_singleton.mp hmem
      have e2 := Heap.lt_size e
      rw [e1] at e2
      exact absurd e2 (Nat.lt_irrefl _)
    · rw [preSum_list, List.take_of_length_le (by omega)]
end
/-! ### ties that a net can have -/
theorem ix_tupK {X : Cx} {K : PySem.W.Frag} (h : X.K = K) : IxR X (rIxT K) := h ▸ ix_tup
theorem op_in_seqK {X : Cx} {K : PySem.W.Frag} (h : X.K = K) : OpR X (compareOp .In) (rIn K false) := h ▸ op_in_seq
theorem scAreTi : FnScope ["places", "value", "pair"] ["places", "value"] (defScope sAreTies) := ⟨rfl, rfl, rfl, by decide +kernel, rfl, by decide +kernel, by decide +kernel⟩
def inP (ps : List Str) (x : Str) : Bool := inV (.str x) (ps.map V.str)
def pairOk (ps : List Str) (k : Str × Str) : Bool := (wordB (.str k.1) && (wordB (.str k.2) && ltB (.str k.1) (.str k.2))) && (inP ps k.1 && inP ps k.2)
def tieOk (v : Int) : Bool := intB (.int v) && decide (1 ≤ v)
def tiesB (ps : List Str) (ts : Ties) : Bool := (ts.all fun e => pairOk ps e.1) && ((ts.all fun e => tieOk e.2) && decide ((ts.map (·.2)).sum ≤ 60))
def spAreTi : Sp := fun vs H Q _ => ∃ (t d : Addr) (ps : List Str) (ts : Ties), vs = [.ref t, .ref d] ∧ H t = some (.tup (ps.map V.str)) ∧ H d = some (.dT (tk ts)) ∧ ts.length < 900 ∧ (ts.map (·.1)).Nodup ∧ (∀ e ∈ ts, okStr e.1.1 ∧ okStr e.1.2) ∧ ∀ H', Same H H' → Q (.bl (tiesB ps ts)) H'
theorem val_at : ∀ {ts : Ties} {e : (Str × Str) × Int}, (ts.map (·.1)).Nodup → e ∈ ts → valV (tk ts) (kP e.1) = some (.int e.2)
  | [], _, _, h => by cases h
  | f :: r, e, nd, h => by
    rw [tk_val, List.find?_cons]
    rw [List.map_cons, List.nodup_cons] at nd
    rcases List.mem_cons.mp h with rfl | h
    · rw [decide_eq_true rfl]
      rfl
    · have hne : ¬ f.1 = e.1 := fun z => nd.1 (List.mem_map.mpr ⟨e, h, z.symm⟩)
      rw [decide_eq_false hne]
      have := val_at nd.2 h
      rw [tk_val] at this
      exact this
theorem flat_strs : ∀ ps : List Str, (ps.map V.str).all flatV = true
  | [] => rfl
  | p :: r => by
    rw [List.map_cons, List.all_cons, flat_strs r]
    rfl
theorem dget_frz {H : Hp} {a b : Addr} {od : Obj} {kvs : List (List Key × V)} {k : List Key} (e : H a = some (.frz od (.dT kvs))) (eb : H b = some (.tup (k.map kV))) : DGet H a (.ref b) (valV kvs k) := .inr ⟨kvs, k, b, .inr ⟨od, e⟩, rfl, eb, rfl⟩
theorem same_unlock {H H' : Hp} {d : Addr} {od : Obj} {u : HO} (hd : H d = some u) (s : Same (upd H d (.frz od u)) H') : Same H (upd H' d u) := fun c o e => by
  by_cases hc : c = d
  · subst hc
    rw [upd_same, ← e, hd]
  · rw [upd_ne hc]
    exact s c o (by rw [upd_ne hc]; exact e)
section
variable {P : Program} {w : World} {K : PySem.W.Frag} {mg : Str → Option Value} {base : Heap}
theorem ok_areTi {f g1 g2 : Addr} {fd gd1 gd2 : FuncData} {k : Nat} {t60 : Tok} (F : Fun K "_are_ties" "_are_ties" sAreTies f fd)
    (G1 : FnOk P w K mg base CX0 (k + 1) g1 gd1 ["value"] spPair) (gk1 : PySem.W.keepIn K (.ref g1) = true) (gb1 : Binds K gd1 ["value"] []) (mg1 : mg "is_pair" = some (.ref g1))
    (G2 : FnOk P w K mg base CX0 (k + 1) g2 gd2 ["value"] spInt) (gk2 : PySem.W.keepIn K (.ref g2) = true) (gb2 : Binds K gd2 ["value"] []) (mg2 : mg "is_integer" = some (.ref g2))
    (mi : mg "isinstance" = none) (mD : mg "dict" = none) (mA : mg "all" = none) (mS : mg "sum" = none) (mM : mg "MAX_TIES" = some (.int 60 t60)) :
    FnOk P w K mg base CX0 (k + 2) f fd ["places", "value"] spAreTi := by
  refine F.ok scAreTi (fun vs H Q E h => ?_) (fun cdv A outer s H vs Q E hr h => ?_)
  · obtain ⟨t, d, ps, ts, rfl, _⟩ := h
    rfl
  · obtain ⟨t, d, ps, ts, rfl, ht, hd, hl, nd, ho, q⟩ := h
    have hu := hu_of hr
    refine ⟨_, pss_one (ps_ret (pe_and (pe_callB call_isi (by rfl) mi (by decide +kernel) (pa_cons (pv 1) (pa_cons (pe_bltn (v := .ty "dict") (by rfl) mD (by decide +kernel) rfl) pa_nil)))
      (pe_and (pe_callB (cr_all rfl) (by rfl) mA (by decide +kernel) (pa_cons (pe_lock (pe_lc (own := [("pair", 2)]) (g := gName 2) (tt := tYes) rfl scAreTi.nd (pi_keys (pv 1))
        (blkOk_by (N := ["places", "value", "pair"]) (sc := defScope sAreTies) (by decide +kernel)) (fun _ _ _ _ _ => pg_name (i := 2) scAreTi.nd rfl (Or.inl rfl)) (fun _ _ _ _ _ => pts_nil)
        (fun _ _ _ _ _ => pe_and (pe_call G1 hr (by rfl) mg1 gk1 gb1 .nil pass0 (pa_cons (pv 2) pa_nil))
          (pe_and (pe_cmpR (op_in_seqK (K := K) rfl) (pe_ix (ix_tupK (K := K) rfl) (pv 2) pe_int (fun _ _ => rfl)) (pv 0) rfl)
          (pe_one (pe_cmpR (op_in_seqK (K := K) rfl) (pe_ix (ix_tupK (K := K) rfl) (pv 2) pe_int (fun _ _ => rfl)) (pv 0) rfl)))))) pa_nil))
      (pe_and (pe_callB (cr_all rfl) (by rfl) mA (by decide +kernel) (pa_cons (pe_lock (pe_lc (own := [("pair", 2)]) (g := gName 2) (tt := tYes) rfl scAreTi.nd (pi_keys (pv 1))
        (blkOk_by (N := ["places", "value", "pair"]) (sc := defScope sAreTies) (by decide +kernel)) (fun _ _ _ _ _ => pg_name (i := 2) scAreTi.nd rfl (Or.inl rfl)) (fun _ _ _ _ _ => pts_nil)
        (fun _ _ _ _ _ => pe_and (pe_call G2 hr (by rfl) mg2 gk2 gb2 .nil pass0 (pa_cons (pe_dget hu (pv 1) (pv 2) (fun _ _ => rfl)) pa_nil))
          (pe_one (pe_cmpR op_ge (pe_dget hu (pv 1) (pv 2) (fun _ _ => rfl)) pe_int (nomark _)))))) pa_nil))
      (pe_one (pe_cmpR op_le (pe_callB (call_sumVT rfl) (by rfl) mS (by decide +kernel) (pa_cons (pe_bm0 PySem.F.plainAttrs_dict PySem.F.slot_dict_values PySem.F.type_dict_values mt_valuesT (pv 1)) pa_nil)) (pe_glob (v := .int 60) rfl mM ⟨_, rfl⟩) (nomark _))))))), ?_⟩
    refine ⟨.ref d, rfl, .ref d, .ty "dict", _, .type "dict", true, rfl, .ty "dict", .base (.dT hd), kit_ty (by decide +kernel), true, rfl, iteT ?_⟩
    -- the keys
    refine ⟨d, _, hd, trivial, fun od => ?_⟩
    have e0 : (upd H d (.frz od (.dT (tk ts)))) d = some (.frz od (.dT (tk ts))) := upd_same
    have keepT : ∀ c xs, H c = some (.tup xs) → (upd H d (.frz od (.dT (tk ts)))) c = some (.tup xs) := fun c xs e => by
      rw [upd_ne (ne_of e hd (fun z => nomatch z))]
      exact e
    have unl : ∀ H', Same (upd H d (.frz od (.dT (tk ts)))) H' → Same H (upd H' d (.dT (tk ts))) := fun H' s => same_unlock hd s
    have ht0 := keepT _ _ ht
    generalize upd H d (.frz od (.dT (tk ts))) = L0 at e0 ht0 unl ⊢
    refine ⟨.ref d, rfl, d, od, rfl, .inr ⟨tk ts, e0, fun D nD => lc_it walk_keysT (fun i H' => H' D = some (.lst ((ts.take i).map fun e => V.bl (pairOk ps e.1))) ∧ Same L0 H') ⟨upd_same, same_upd nD⟩ (fun i H' _ hP => hP.2 _ _ e0) (fun i x H0 H' hi hP hy => ?_) (fun H' hP => ?_)⟩⟩
    · obtain ⟨eD, sm⟩ := hP
      obtain ⟨rfl, k, v, b, hk, rfl, hb⟩ := hy
      obtain ⟨e, he, hke⟩ : ∃ e, ts[i]? = some e ∧ (kP e.1, V.int e.2) = (k, v) := by
        unfold tk at hk
        rw [List.getElem?_map] at hk
        exact Option.map_eq_some_iff.mp hk
      obtain ⟨rfl, rfl⟩ : kP e.1 = k ∧ V.int e.2 = v := by
        injection hke with a b
        exact ⟨a, b⟩
      have hb' : H' b = some (.tup [.str e.1.1, .str e.1.2]) := hb
      obtain ⟨o1, o2⟩ := ho e (List.mem_of_getElem? he)
      have ht' := sm _ _ ht0
      have fin : ∀ H4 y, Same H' H4 → y = pairOk ps e.1 → ∃ acc, H4 D = some (.lst acc) ∧ acc.length < sizeLine ∧ ((upd H4 D (.lst (acc ++ [V.bl y]))) D = some (.lst ((ts.take (i + 1)).map fun e => V.bl (pairOk ps e.1))) ∧ Same L0 (upd H4 D (.lst (acc ++ [V.bl y])))) := fun H4 y s4 hy => by
        refine ⟨_, s4 _ _ eD, ?_, ?_, ?_⟩
        · rw [List.length_map, List.length_take]
          exact small1000 (by omega)
        · rw [upd_same, List.take_add_one, he, List.map_append, hy]
          rfl
        · intro c o hc
          rw [upd_ne (ne_of_none hc nD)]
          exact s4 _ _ (sm c o hc)
      refine ⟨rfl, .ref b, rfl, .ref b, _, rfl, .two hb' (.str o1) (.str o2) rfl, fun H2 s2 => ⟨_, rfl, ite2 (fun e1 => ?_) (fun e1 => ?_)⟩⟩
      · refine ⟨.ref b, rfl, b, _, 0, _, rfl, rfl, .inl (.inl (s2 _ _ hb')), rfl, .ref t, rfl, t, ps.map V.str, rfl, .inr (.inl (.inl (s2 _ _ ht'))), rfl, flat_strs ps, _, rfl, ite2 (fun e2 => ?_) (fun e2 => ?_)⟩
        · refine ⟨.ref b, rfl, b, _, 1, _, rfl, rfl, .inl (.inl (s2 _ _ hb')), rfl, .ref t, rfl, t, ps.map V.str, rfl, .inr (.inl (.inl (s2 _ _ ht'))), rfl, flat_strs ps, fin H2 _ s2 ?_⟩
          unfold pairOk
          rw [e1, Bool.true_and]
          have e2' : inP ps e.1.1 = true := e2
          rw [e2', Bool.true_and]
          rfl
        · refine fin H2 _ s2 ?_
          unfold pairOk
          rw [e1, Bool.true_and]
          have e2' : inP ps e.1.1 = false := Bool.eq_false_iff.mpr e2
          rw [e2', Bool.false_and]
      · refine fin H2 _ s2 ?_
        unfold pairOk
        rw [Bool.eq_false_iff.mpr e1, Bool.false_and]
    · obtain ⟨eD, sm⟩ := hP
      refine ⟨sm _ _ e0, ?_⟩
      have sU := unl H' sm
      have nDd : D ≠ d := (ne_of_none e0 nD).symm
      have hdU : (upd H' d (.dT (tk ts))) d = some (.dT (tk ts)) := upd_same
      rw [List.take_of_length_le (Nat.le_of_eq (tk_len ts).symm)] at eD
      have eDU : (upd H' d (.dT (tk ts))) D = some (.lst (ts.map fun e => V.bl (pairOk ps e.1))) := by
        rw [upd_ne nDd]
        exact eD
      generalize upd H' d (.dT (tk ts)) = HU at sU hdU eDU ⊢
      refine ⟨D, ts.map (fun e => pairOk ps e.1), rfl, .inl (.inl (by rw [List.map_map]; exact eDU)), ?_⟩
      have ea : (ts.map fun e => pairOk ps e.1).all id = ts.all fun e => pairOk ps e.1 := by
        rw [List.all_map]
        rfl
      rw [ea]
      refine ⟨_, rfl, ite2 (fun e3 => ?_) (fun e3 => ?_)⟩
      · refine ⟨d, _, hdU, trivial, fun od2 => ?_⟩
        have e1 : (upd HU d (.frz od2 (.dT (tk ts)))) d = some (.frz od2 (.dT (tk ts))) := upd_same
        have unl2 : ∀ H', Same (upd HU d (.frz od2 (.dT (tk ts)))) H' → Same HU (upd H' d (.dT (tk ts))) := fun H' s => same_unlock hdU s
        generalize upd HU d (.frz od2 (.dT (tk ts))) = L1 at e1 unl2 ⊢
        refine ⟨.ref d, rfl, d, od2, rfl, .inr ⟨tk ts, e1, fun D2 nD2 => lc_it walk_keysT (fun i H' => H' D2 = some (.lst ((ts.take i).map fun e => V.bl (tieOk e.2))) ∧ Same L1 H') ⟨upd_same, same_upd nD2⟩ (fun i H' _ hP => hP.2 _ _ e1) (fun i x H0 H' hi hP hy => ?_) (fun H' hP => ?_)⟩⟩
        · obtain ⟨eD2, sm2⟩ := hP
          obtain ⟨rfl, k, v, b, hk, rfl, hb⟩ := hy
          obtain ⟨e, he, hke⟩ : ∃ e, ts[i]? = some e ∧ (kP e.1, V.int e.2) = (k, v) := by
            unfold tk at hk
            rw [List.getElem?_map] at hk
            exact Option.map_eq_some_iff.mp hk
          obtain ⟨rfl, rfl⟩ : kP e.1 = k ∧ V.int e.2 = v := by
            injection hke with a b
            exact ⟨a, b⟩
          have dg : DGet H' d (.ref b) (some (.int e.2)) := by
            have := dget_frz (k := kP e.1) (sm2 _ _ e1) hb
            rw [val_at nd (List.mem_of_getElem? he)] at this
            exact this
          have fin : ∀ y, y = tieOk e.2 → ∃ acc, H' D2 = some (.lst acc) ∧ acc.length < sizeLine ∧ ((upd H' D2 (.lst (acc ++ [V.bl y]))) D2 = some (.lst ((ts.take (i + 1)).map fun e => V.bl (tieOk e.2))) ∧ Same L1 (upd H' D2 (.lst (acc ++ [V.bl y])))) := fun y hy => by
            refine ⟨_, eD2, ?_, ?_, ?_⟩
            · rw [List.length_map, List.length_take]
              exact small1000 (by omega)
            · rw [upd_same, List.take_add_one, he, List.map_append, hy]
              rfl
            · intro c o hc
              rw [upd_ne (ne_of_none hc nD2)]
              exact sm2 c o hc
          refine ⟨rfl, .ref d, rfl, .ref b, rfl, d, _, rfl, dg, _, rfl, .int _, _, rfl, ite2 (fun e4 => ?_) (fun e4 => ?_)⟩
          · refine ⟨.ref d, rfl, .ref b, rfl, d, _, rfl, dg, _, 1, rfl, rfl, fin _ ?_⟩
            unfold tieOk
            rw [e4, Bool.true_and]
          · refine fin _ ?_
            unfold tieOk
            rw [Bool.eq_false_iff.mpr e4, Bool.false_and]
        · obtain ⟨eD2, sm2⟩ := hP
          refine ⟨sm2 _ _ e1, ?_⟩
          have sV := sU.trans (unl2 H' sm2)
          have nDd2 : D2 ≠ d := (ne_of_none e1 nD2).symm
          have hdV : (upd H' d (.dT (tk ts))) d = some (.dT (tk ts)) := upd_same
          rw [List.take_of_length_le (Nat.le_of_eq (tk_len ts).symm)] at eD2
          have eDV : (upd H' d (.dT (tk ts))) D2 = some (.lst (ts.map fun e => V.bl (tieOk e.2))) := by
            rw [upd_ne nDd2]
            exact eD2
          generalize upd H' d (.dT (tk ts)) = HV at sV hdV eDV ⊢
          refine ⟨D2, ts.map (fun e => tieOk e.2), rfl, .inl (.inl (by rw [List.map_map]; exact eDV)), ?_⟩
          have ea2 : (ts.map fun e => tieOk e.2).all id = ts.all fun e => tieOk e.2 := by
            rw [List.all_map]
            rfl
          rw [ea2]
          refine ⟨_, rfl, ite2 (fun e5 => ?_) (fun e5 => ?_)⟩
          · refine ⟨.ref d, rfl, .inr (.inr (.inl ⟨rfl, .inr ⟨_, hdV⟩⟩)), d, tk ts, rfl, rfl, .inl hdV, fun p np => ?_⟩
            refine ⟨p, d, tk ts, ts.map (·.2), rfl, upd_same, .inl ((same_upd np) _ _ hdV), ?_, _, 60, rfl, rfl, ?_⟩
            · unfold tk
              rw [List.map_map, List.map_map]
              rfl
            · have := q _ (sV.trans (same_upd (o := valuesO p d) np))
              unfold tiesB at this
              rw [e3, Bool.true_and, e5, Bool.true_and] at this
              exact this
          · have := q _ sV
            unfold tiesB at this
            rw [e3, Bool.true_and, Bool.eq_false_iff.mpr e5, Bool.false_and] at this
            exact this
      · have := q _ sU
        unfold tiesB at this
        rw [Bool.eq_false_iff.mpr e3, Bool.false_and] at this
        exact this
end
/-! ### sorted(t) of a tuple of texts -/
section
variable {X : Cx}
theorem call_sortedTupS : CallR X (.builtin "sorted") (fun vs H Q => ∃ (a : Addr) (xs : List Str), vs = [V.ref a] ∧ SqT X.K H a (xs.map V.str) ∧ xs.length < 64 ∧
    ∀ (ys : List Str) (p : Addr), ys.Perm xs → sortedS ys = true → H p = none → Q (.ref p) (upd H p (.lst (ys.map V.str)))) := by
  intro pins s σ H vs us Q I r h
  obtain ⟨a, xs, rfl, hs, h64, q⟩ := h
  obtain ⟨its, rv, ⟨o, ho, hcl, n, hd⟩, hz⟩ := I.tuple hs
  rw [Vals.ref1 r]
  have hS : StrsAre its xs := rv.strs
  have hlen0 := rv.length
  rw [List.length_map] at hlen0
  refine Calls.call_function_entry kind_sorted plain_sorted entry_sorted (args_sorted1 _) ?_
  unfold Builtin.«sorted»
  refine wpAny_bind (m := checkCount "sorted" 1 1 _) (wpAny_pure ?_)
  refine wpAny_bind (wpAny_collect_seq a (.inr rfl) ho hcl hd (fun h' hk => ?_) (by rw [List.size_toArray]; exact Nat.le_of_lt (small1000 (by omega))))
  have I1 : Inv X pins σ H { s with heap := h' } := I.kept (t' := s.toks) hk
  refine wpAny_bind (wpAny_newList ?_ (by show its.length ≤ _; exact Nat.le_of_lt (small1000 (by omega))))
  have hoL : (h'.push (seqObj "list" its.toArray 0)).get? h'.objs.size = some (seqObj "list" its.toArray 0) := Heap.get?_push_size _ rfl
  show wpAny _ _ _ _ _ { s with heap := h'.push (seqObj "list" its.toArray 0) }
  refine wpAny_bind (wpAny_holding (wpAny_call_entry PyProof.Rows.slot_list_sort ⟨_, hoL, rfl⟩ PyProof.Rows.entry_list_sort
    (list_sort_treeK strKind_oneLt hoL hS.keysOf (fun v₁ v₂ rest e => keyKind_strs (by rw [← e]; exact hS)) (by omega) fun st' hp hso => ⟨_, rfl, ?_⟩) (PyProof.Rows.args_list_sort _)))
  obtain ⟨ys, h1, h2, h3⟩ := sorted_out_str hS hp hso
  obtain ⟨e', he'⟩ := PyProof.Rows.sortedHeap_at (vs := its) (out := (arrOf st').map (·.2)) hoL
  have new : H h'.objs.size = none := I1.hok.fresh (Nat.le_refl _)
  have hlen : (ys.map V.str).length ≤ sizeLine := by
    rw [List.length_map, h2.length_eq]
    exact small64 h64
  refine wpAny_pure ⟨_, rfl, .ref h'.objs.size, upd H h'.objs.size (.lst (ys.map V.str)), I1.laid (t' := s.toks) (fun b u e => ?_) (Nat.le_refl _)
    (show ObjOk X.prog X.w _ _ _ (.lst (ys.map V.str)) from ⟨hlen, _, e', vals_of_strs h1, he'⟩), rfl, q ys _ h2 h3 new⟩
  have hb : b < h'.objs.size := Heap.lt_size e
  rw [PyProof.Rows.sortedHeap_old (Nat.ne_of_lt hb) (by rw [size_push']; exact Nat.lt_succ_of_lt hb)]
  exact Heap.get?_push_of_some _ e
end
/-! ### one item put by a comprehension, whatever the keys are -/
section
variable {X : Cx} {pins : List (Addr × Obj)} {σ : L2.St} {H H' : Hp} {s : Shared} {E : Value → Shared → Prop} {D : Addr} {y v : V} {u r : Value}
theorem d_dictPut {Q : Unit → Shared → Prop} (hu : X.A.units + 1 < cLine) (I : Inv X pins σ H s) (g : DPut H D y v H') (ry : RelV y u) (rv : RelV v r) (h : ∀ s', Inv X pins σ H' s' → Q () s') :
    wpAny (model X.prog X.w) X.A (dictSet D u r) Q E s := by
  rcases g with ⟨kvs, k, e, rfl, l, rfl⟩ | ⟨kvs, k, b, e, rfl, eb, l, rfl⟩
  · exact d_dictSet I e l ry rv h
  · cases (show u = Value.ref b from ry)
    obtain ⟨z, hd, xs, rel, dd⟩ := dt_of I.hok e
    have hz : xs.length ≤ sizeLine := by
      rw [← Paired.length rel]
      exact z
    have hl : (putK kvs k v).length ≤ sizeLine := by
      have := length_putK kvs k v
      omega
    refine wpAny_dictSet_heap (hsz := hz) (by show X.A.units < cLine; omega) (key_of I.hok eb) dd fun h' dd' hs => h _ ?_
    obtain ⟨q, es, ep, hq, h2, h3, h4, _, h5⟩ := dd'
    refine d_write I (by rw [e]; exact True.intro) hs ⟨q, hq⟩ ⟨hl, hd, _, (rel.put k eb rv).keeps fun c ys ec => ?_, q, es, ep, hq, h2, h3, h4, h5⟩
    rw [upd_ne (ne_of ec e (fun z => nomatch z))]
    exact ec
end
/-! ### {k: v for t in it}, keys of any kind: one item is put by DPut -/
/-- a reading: D is the new dict, W what holds between two turns -/
def tDcP (wi : TI) (g : TG) (tt : TT) (tk tv : TE) (vs : List Nat) : TE := fun σ H Q => wi σ H fun J H1 => ∀ D, H1 D = none → ∃ W : Nat → Nat → Hp → Prop, (∃ m, W 0 m (upd H1 D (.dT []))) ∧ ∀ i m H, W i m H →
  (J.stop i H ∧ Q (.ref D) H) ∨ (J.go i H ∧ ∃ Nx : Hp → Prop, (∀ H', Nx H' → ∃ m', m' < m ∧ W (i + 1) m' H') ∧ ∀ x H', J.yld i H x H' →
    g x (wipe σ vs) H' fun σ2 H2 => wipe σ2 vs = wipe σ vs ∧ tt σ2 H2 fun b H3 => if b = true then tk σ2 H3 fun y H4 => tv σ2 H4 fun z H5 => ∃ H6, DPut H5 D y z H6 ∧ Nx H6 else Nx H3)
section
variable {X B : Cx} {σ : L2.St} {kx vx tg iter : Expr} {ifs : List Expr} {scope : Scope} {vs : List Nat} {pos : Pos} {g : TG} {tt : TT} {tk tv : TE}
theorem offX {α : Type} {M : Model} {A : Around} {c : Sem α} {Q : α → Shared → Prop} {E E' : Value → Shared → Prop} {s : Shared} (e : E = E') (h : wpAny M A c Q E s) : wpAny M A c Q E' s := e ▸ h
/-- the loop within the block B, whose iterator is it -/
theorem dcp_loop {it D : Addr} {fp : List Addr} {tn : Nat → Heap → Prop} {J : It} {R : Result → Shared → Prop} {H0 : Hp} {s0 : Shared} {W : Nat → Nat → Hp → Prop} {m0 : Nat} {Qe : Hp → Prop}
    (hc : B.calm = true) (hu : B.A.units + 1 < cLine) (T : Turn B.prog B.w B.K tg J fp it tn)
    (own : ∀ (σ' : L2.St) (H' : Hp) (s' : Shared), Inv B [] σ' H' s' → (∀ b ∈ fp, H' b = none) → ∀ b ∈ fp, FpOk B [] H' b)
    (pg : PG B tg g) (pt : PTs B ifs tt) (pk : PE B kx tk) (pe : PE B vx tv)
    (I0 : Inv B [] (wipe σ vs) H0 s0) (t0 : tn 0 s0.heap) (n0 : ∀ b ∈ fp, H0 b = none) (w0 : W 0 m0 H0)
    (hxe : B.xe = fun _ _ => False)
    (turn : ∀ i m H, W i m H → (J.stop i H ∧ Qe H) ∨ (J.go i H ∧ ∃ Nx : Hp → Prop, (∀ H', Nx H' → ∃ m', m' < m ∧ W (i + 1) m' H') ∧ ∀ x H', J.yld i H x H' →
      g x (wipe σ vs) H' fun σ2 H2 => wipe σ2 vs = wipe σ vs ∧ tt σ2 H2 fun b H3 => if b = true then tk σ2 H3 fun y H4 => tv σ2 H4 fun z H5 => ∃ H6, DPut H5 D y z H6 ∧ Nx H6 else Nx H3))
    (last : ∀ H' s', Inv B [] (wipe σ vs) H' s' → Qe H' → R (.ok .next) s') :
    codeAny (model B.prog B.w) B.A (.compLoop (.DictComp kx vx [⟨tg, iter, ifs, 0⟩] scope pos) 0 (.ref it) (.ref D) B.env) R s0 := by
  refine compLoop_anyD (fun n s => ∃ i H, Inv B [] (wipe σ vs) H s ∧ tn i s.heap ∧ (∀ b ∈ fp, H b = none) ∧ W i n H) (fun n s ⟨i, H, I, t, nn, w⟩ => ?_) m0 ⟨0, H0, I0, t0, n0, w0⟩
  rcases turn i n H w with ⟨stop, qe⟩ | ⟨go, Nx, hNx, step⟩
  · refine thnF (T.done B rfl rfl rfl hc i [] s _ H (fun _ _ => False) I (own _ _ _ I nn) t stop) fun r s1 ⟨hr, I1⟩ => ?_
    subst hr
    exact last H s1 I1 qe
  · refine thnF (T.item B rfl rfl rfl hc i [] s _ H (fun _ _ => False) I (own _ _ _ I nn) t go) fun r s1 ⟨u, hr, q1⟩ => ?_
    subst hr
    refine thnF q1 fun _ s2 ⟨x, H2, I2, rx, y2, t2, n2⟩ => ?_
    refine thnF (offX hxe (pg.run _ s2 _ H2 x u _ (I2.pinned (own _ _ _ I2 n2) (T.obj _ _ t2)) rx (step x H2 y2))) fun _ s3 ⟨σ3, H3, I3, hw, q3⟩ => ?_
    have again : ∀ (s' : Shared) (H' : Hp), Inv B ([] ++ pinsAt fp s2.heap) σ3 H' s' → Nx H' → ∃ m, m < n ∧ ∃ i H, Inv B [] (wipe σ vs) H s' ∧ tn i s'.heap ∧ (∀ b ∈ fp, H b = none) ∧ W i m H := fun s' H' I' nx => by
      obtain ⟨m', hm, w'⟩ := hNx H' nx
      have held : ∀ b ∈ fp, ∀ o, s2.heap.get? b = some o → s'.heap.get? b = some o ∧ H' b = none := fun b hb o e =>
        let z := I'.pin (b, o) (List.mem_append_right _ (List.mem_append_right _ (mem_pinsAt hb e)))
        ⟨z.1, z.2.1⟩
      refine ⟨m', hm, i + 1, H', (I'.unpinned (pins := [])).weak (by rw [← hw, wipe_length]) (fun j v e => ?_), T.keep _ _ _ t2 fun b hb o e => (held b hb o e).1, fun b hb => ?_, w'⟩
      · rw [← hw] at e
        exact (wipe_some e).1
      · obtain ⟨o, e, _⟩ := T.obj _ _ t2 b hb
        exact (held b hb o e).2
    refine thnF (offX hxe (pt.run _ s3 σ3 H3 _ I3 q3)) fun b s4 ⟨H4, I4, q4⟩ => ?_
    cases b with
    | false =>
      simp only [Bool.false_eq_true, if_false] at q4 ⊢
      exact again _ _ I4 q4
    | true =>
      simp only [if_true] at q4 ⊢
      refine thnF (offX hxe (pk.run _ s4 σ3 H4 _ I4 q4)) fun z s5 ⟨yk, H5, I5, rk, q5⟩ => thnF (offX hxe (pe.run _ s5 σ3 H5 _ I5 q5)) fun z2 s6 ⟨yv, H6, I6, rv, H7, dp, nx⟩ => ?_
      exact d_dictPut hu I6 dp rk rv fun s7 I7 => again _ _ I7 nx
end
section
variable {X : Cx}
theorem pe_dcP {kx vx tg iter : Expr} {ifs : List Expr} {scope : Scope} {own : List (Str × Nat)} {pos : Pos} {wi : TI} {g : TG} {tt : TT} {tk tv : TE} (hc : X.calm = true) (hu : X.A.units + 1 < cLine) (hN : X.N.Nodup) (hi : PI X tg iter wi) (ok : BlkOk X.N X.env.scope scope own)
    (hg : ∀ (s : Shared) (H : Hp) (C : Addr) (cl : List (Str × Addr)) (fp : List Addr), PG (X.blk s H scope (compEnvC scope cl C X.env) fp) tg g)
    (ht : ∀ (s : Shared) (H : Hp) (C : Addr) (cl : List (Str × Addr)) (fp : List Addr), PTs (X.blk s H scope (compEnvC scope cl C X.env) fp) ifs tt)
    (hk : ∀ (s : Shared) (H : Hp) (C : Addr) (cl : List (Str × Addr)) (fp : List Addr), PE (X.blk s H scope (compEnvC scope cl C X.env) fp) kx tk)
    (hv : ∀ (s : Shared) (H : Hp) (C : Addr) (cl : List (Str × Addr)) (fp : List Addr), PE (X.blk s H scope (compEnvC scope cl C X.env) fp) vx tv) (hs : ∀ x, foldedSetIterable iter X.env x = pure x := by intro _; rfl) :
    PE X (.DictComp kx vx [⟨tg, iter, ifs, 0⟩] scope pos) (tDcP wi g tt tk tv (own.map (·.2))) := by
  refine ⟨fun pins s σ H Q I h => ?_⟩
  rw [arm_eval_DictComp]
  have cells : ∀ y ∈ scope.names, y.2 = .free → ∃ c, X.env.cells.lookup y.1 = some c := fun y hy e =>
    I.ok.has _ ((ok.free y hy e).elim .inl .inr)
  refine wpAny_comprehension_free (use := none) rfl hs (closure_ok cells) ok.kind (fun y hy e => by rw [ok.uniq y hy, e])
    (thn (hi.run pins s σ H _ I h) fun xv s1 hx => thn hx fun itv s2 ⟨it, fp, tn, J, H2, e, I2, T, st2, f2, q⟩ => ?_)
  subst e
  refine wpAny_newObj_type (newEnv_comp ?_)
  have hDn : H2 s2.heap.objs.size = none := I2.hok.fresh (Nat.le_refl _)
  obtain ⟨W, ⟨m0, w0⟩, turn⟩ := q _ hDn
  have I3 : Inv X pins σ (upd H2 s2.heap.objs.size (.dT [])) { s2 with heap := s2.heap.push { cls := .type "dict", data := .dict #[] } } :=
    I2.laid (t' := s2.toks) (fun b o e => Heap.get?_push_of_some _ e) (Nat.le_refl _) (dt_empty s2.heap I2.big)
  have low : ∀ b ∈ fp, b < s2.heap.objs.size := fun b hb => by
    obtain ⟨o, e, _⟩ := T.obj _ _ st2 b hb
    exact Heap.lt_size e
  have f3 : ∀ b ∈ fp, FpOk X pins (upd H2 s2.heap.objs.size (.dT [])) b ∧ b < (s2.heap.push { cls := .type "dict", data := .dict #[] }).objs.size := fun b hb => by
    refine ⟨⟨?_, (f2 b hb).2⟩, by rw [Heap.size_push]; exact Nat.lt_succ_of_lt (low b hb)⟩
    rw [upd_ne (Nat.ne_of_lt (low b hb))]
    exact (f2 b hb).1
  have st3 : tn 0 (s2.heap.push { cls := .type "dict", data := .dict #[] }) := T.keep _ _ _ st2 fun b _ o e => Heap.get?_push_of_some _ e
  generalize hs3 : ({ s2 with heap := s2.heap.push { cls := .type "dict", data := .dict #[] } } : Shared) = s3 at I3 ⊢
  have h3 : s2.heap.push { cls := .type "dict", data := .dict #[] } = s3.heap := by rw [← hs3]
  rw [h3] at f3 st3
  generalize hH3 : upd H2 s2.heap.objs.size (.dT []) = H3 at I3 f3 w0
  generalize s2.heap.objs.size = D at turn w0 ⊢
  show codeAny _ _ (.compStart (.DictComp kx vx [⟨tg, iter, ifs, 0⟩] scope pos) 0 (.ref it) (.ref D) (compEnvC scope (cellsFrom (s3.heap.objs.size + 1) scope.names (cloFrom X.env.cells scope.names [])) s3.heap.objs.size X.env))
    (compPost (model X.prog X.w) X.A X.xe none (EP X pins σ Q) (.ref D) s3.heap.objs.size) { s3 with heap := pushCells (s3.heap.push { cls := .type "dict", data := .dict #[] }) scope.names }
  have I4 := block_start I3 ok hN f3
  have pg := hg s3 H3 s3.heap.objs.size (cellsFrom (s3.heap.objs.size + 1) scope.names (cloFrom X.env.cells scope.names [])) fp
  have pt := ht s3 H3 s3.heap.objs.size (cellsFrom (s3.heap.objs.size + 1) scope.names (cloFrom X.env.cells scope.names [])) fp
  have pk := hk s3 H3 s3.heap.objs.size (cellsFrom (s3.heap.objs.size + 1) scope.names (cloFrom X.env.cells scope.names [])) fp
  have pv := hv s3 H3 s3.heap.objs.size (cellsFrom (s3.heap.objs.size + 1) scope.names (cloFrom X.env.cells scope.names [])) fp
  generalize hce : compEnvC scope (cellsFrom (s3.heap.objs.size + 1) scope.names (cloFrom X.env.cells scope.names [])) s3.heap.objs.size X.env = ce at I4 pg pt pk pv ⊢
  have hL : ce.locals = s3.heap.objs.size := by rw [← hce]; rfl
  generalize hs4 : ({ s3 with heap := pushCells (s3.heap.push { cls := .type "dict", data := .dict #[] }) scope.names } : Shared) = s4 at I4 ⊢
  have st4 : tn 0 s4.heap := T.keep _ _ _ st3 fun b _ o e => by
    rw [← hs4]
    exact pushCells_keeps _ _ _ _ (Heap.get?_push_of_some _ e)
  have loop : codeAny (model X.prog X.w) X.A (.compLoop (.DictComp kx vx [⟨tg, iter, ifs, 0⟩] scope pos) 0 (.ref it) (.ref D) ce) (compPost (model X.prog X.w) X.A X.xe none (EP X pins σ Q) (.ref D) s3.heap.objs.size) s4 := by
    refine dcp_loop (B := X.blk s3 H3 scope ce fp) (σ := σ) (vs := own.map (·.2)) (J := J) (W := W) (m0 := m0) (Qe := fun H' => Q (.ref D) H') hc hu T (fun σ' H' s' I' nn b hb => ?_) pg pt pk pv I4 st4 (fun b hb => (f3 b hb).1.1) w0 rfl turn (fun H' s' I' qe => ?_)
    · exact ⟨nn b hb, (I'.ok.exf b hb).1, I'.ok.exfs b hb, .inl hb, fun x c e => (I'.ok.exf b hb).2 x c e, fun p hp => absurd (show p ∈ ([] : List (Addr × Obj)) ++ [] from hp) (by simp)⟩
    · have I7 : Inv X pins σ H' s' := I3.call' (ch := fp) I'.os I'.base I'.hok I'.bare fun b hb => ⟨(f3 b hb).1.2.2.2.1, (f3 b hb).1.2.1, (f3 b hb).1.2.2.2.2.1, (f3 b hb).1.2.2.2.2.2⟩
      obtain ⟨m, hn, _⟩ := I'.loc
      have hn : s'.heap.Ns ce.locals m := hn
      have free : H' ce.locals = none := I'.free
      rw [hL] at hn free
      obtain ⟨f0, f1, f2, f3, f4, f5⟩ := I3.fpOk (Nat.le_refl _) free
      exact ⟨m, hn, fun h'' sb => ⟨.ref D, H', I7.turned (t' := s'.toks) (fun b o hb e => (sb.2 b hb).trans e) f0 f1 f3 f4 f5, rfl, qe⟩⟩
  exact codeAny_compStart_dict loop (T.self X.A 0 _ _ _ st4 loop)
end
/-- over anything that is walked: Pv by the turn and the heap, the new dict within -/
theorem dcp_it {J : It} {n : Nat} {G : Hp → Prop} {Y : Nat → Hp → V → Hp → Prop} (wk : Walk J n G Y) {g : TG} {tt : TT} {tk tv : TE} {vs : List Nat} {σ : L2.St} {H1 : Hp} {D : Addr} {Qd : Hp → Prop} (Pv : Nat → Hp → Prop) (h0 : Pv 0 (upd H1 D (.dT [])))
    (hG : ∀ i H, i ≤ n → Pv i H → G H)
    (hs : ∀ i x H H', i < n → Pv i H → Y i H x H' → g x (wipe σ vs) H' fun σ2 H2 => wipe σ2 vs = wipe σ vs ∧ tt σ2 H2 fun b H3 =>
      if b = true then tk σ2 H3 fun y H4 => tv σ2 H4 fun z H5 => ∃ H6, DPut H5 D y z H6 ∧ Pv (i + 1) H6 else Pv (i + 1) H3) (hd : ∀ H, Pv n H → Qd H) :
    ∃ W : Nat → Nat → Hp → Prop, (∃ m, W 0 m (upd H1 D (.dT []))) ∧ ∀ i m H, W i m H →
      (J.stop i H ∧ Qd H) ∨ (J.go i H ∧ ∃ Nx : Hp → Prop, (∀ H', Nx H' → ∃ m', m' < m ∧ W (i + 1) m' H') ∧ ∀ x H', J.yld i H x H' → g x (wipe σ vs) H' fun σ2 H2 => wipe σ2 vs = wipe σ vs ∧ tt σ2 H2 fun b H3 =>
        if b = true then tk σ2 H3 fun y H4 => tv σ2 H4 fun z H5 => ∃ H6, DPut H5 D y z H6 ∧ Nx H6 else Nx H3) := by
  refine ⟨fun i m H => m = n - i ∧ i ≤ n ∧ Pv i H, ⟨n, rfl, Nat.zero_le _, h0⟩, fun i m H ⟨hm, hi, p⟩ => ?_⟩
  have hg := hG i H hi p
  rcases Nat.lt_or_ge i n with lt | ge
  · exact .inr ⟨wk.goes i H lt hg, Pv (i + 1), fun H' p' => ⟨n - (i + 1), by omega, rfl, lt, p'⟩, fun x H' y => hs i x H H' lt p (wk.yields i H x H' lt hg y)⟩
  · obtain rfl : i = n := by omega
    exact .inl ⟨wk.stops H hg, hd H p⟩
/-! ### Net.__init__, where there is such a net -/
abbrev sInit : Stmt := (C8.clsBody sNet).getD 0 (.Pass ⟨0, 0, 0, 0⟩)
def tNever : TS := fun _ _ _ => False
theorem ps_never {X : Cx} {st : Stmt} : PS X st tNever := ⟨fun _ _ _ _ _ _ h => h.elim⟩
theorem scInit : FnScope ["self", "places", "ties", "counts", "pair"] ["self", "places", "ties"] (C8.fnScope sInit) := ⟨rfl, rfl, rfl, by decide +kernel, rfl, by decide +kernel, by decide +kernel⟩
def sortTi (ts : Ties) : Ties := ((ts.map (·.1)).mergeSort leP).map fun k => (k, getT ts k)
theorem putT_new {A : Ties} {k : Str × Str} {v : Int} (h : ∀ e ∈ A, e.1 ≠ k) : putT A k v = A ++ [(k, v)] := by
  unfold putT
  rw [if_neg]
  intro z
  obtain ⟨e, he, g⟩ := List.any_eq_true.mp z
  exact h e he (of_decide_eq_true g)
/-- the net at x, which was new -/
structure NetO (C dx : Addr) (H0 H : Hp) (x : Addr) (ps : List Str) (ts : Ties) : Prop where
  ex : ∃ t d, H x = some (.ins C dx [("_places", .ref t), ("_ties", .ref d)]) ∧ H t = some (.tup (ps.map V.str)) ∧ H d = some (.dT (tk ts)) ∧ H0 t = none ∧ H0 d = none
def spInit (C : Addr) : Sp := fun vs H Q _ => ∃ (x dx t d : Addr) (ps : List Str) (ts : Ties), vs = [.ref x, .ref t, .ref d] ∧ H x = some (.ins C dx []) ∧ H t = some (.tup (ps.map V.str)) ∧ H d = some (.dT (tk ts)) ∧
  ts.length < 900 ∧ (ts.map (·.1)).Nodup ∧ (∀ p ∈ ps, okStr p) ∧ (∀ e ∈ ts, okStr e.1.1 ∧ okStr e.1.2) ∧ placesB ps = true ∧ tiesB ps ts = true ∧
  ∀ H' qs, qs.Perm ps → sortedS qs = true → (∀ c o, c ≠ x → H c = some o → H' c = some o) → NetO C dx H H' x qs (sortTi ts) → Q .non H'
section
variable {P : Program} {w : World} {K : PySem.W.Frag} {mg : Str → Option Value} {base : Heap}
theorem ok_init {f g1 g2 C : Addr} {fd gd1 gd2 : FuncData} {k : Nat} (F : C8.Fun K "__init__" "Net.__init__" sInit f fd) (hC : Cls K C) (n1 : NoAttr K C "_places") (n2 : NoAttr K C "_ties")
    (G1 : FnOk P w K mg base CX0 (k + 3) g1 gd1 ["value"] (spArePl K)) (gk1 : PySem.W.keepIn K (.ref g1) = true) (gb1 : Binds K gd1 ["value"] []) (mg1 : mg "_are_places" = some (.ref g1))
    (G2 : FnOk P w K mg base CX0 (k + 3) g2 gd2 ["places", "value"] spAreTi) (gk2 : PySem.W.keepIn K (.ref g2) = true) (gb2 : Binds K gd2 ["places", "value"] []) (mg2 : mg "_are_ties" = some (.ref g2))
    (mS : mg "sorted" = none) (mt : mg "tuple" = none) : FnOk P w K mg base CX0 (k + 4) f fd ["self", "places", "ties"] (spInit C) := by
  refine C8.fn0 F scInit (fun vs H Q E h => ?_) (fun cdv A outer s H vs Q E hr h => ?_)
  · obtain ⟨x, dx, t, d, ps, ts, rfl, _⟩ := h
    rfl
  · obtain ⟨x, dx, t, d, ps, ts, rfl, hx, ht, hd, hl, nd, op, ot, pB, tB, q⟩ := h
    have hu := hu_of hr
    refine ⟨_, pss_cons (ps_set (i := 3) scInit.nd rfl (.inr rfl) (pe_ifExp (pt_cmpR op_isN (pv 2) pe_non (nomark _)) pe_dnewT (pv 2)))
      (pss_cons (ps_if (PW.pt (pw_or (pt_not (pt_val (pe_call G1 hr (by rfl) mg1 gk1 gb1 .nil pass0 (pa_cons (pv 1) pa_nil)))) (pw_or1 (pt_not (pt_val (pe_call G2 hr (by rfl) mg2 gk2 gb2 .nil pass0 (pa_cons (pv 1) (pa_cons (pv 3) pa_nil)))))))) (pss_one ps_never) pss_nil)
      (pss_cons (ps_fld (pv 0) (pe_callTy call_tuple_of (by rfl) mt (by decide +kernel) (pa_cons (pe_callB call_sortedTupS (by rfl) mS (by decide +kernel) (pa_cons (pv 1) pa_nil)) pa_nil)) (by rfl))
      (pss_one (ps_fld (pv 0) (pe_dcP (own := [("pair", 4)]) (g := gName 4) (tt := tYes) rfl hu scInit.nd (pi_list (pe_callB (call_sortedT rfl (room80 hr)) (by rfl) mS (by decide +kernel) (pa_cons (pv 3) pa_nil)))
        (blkOk_by (N := ["self", "places", "ties", "counts", "pair"]) (sc := C8.fnScope sInit) (by decide +kernel)) (fun _ _ _ _ _ => pg_name (i := 4) scInit.nd rfl (Or.inl rfl)) (fun _ _ _ _ _ => pts_nil)
        (fun _ _ _ _ _ => pv 4) (fun _ _ _ _ _ => pe_dget hu (pv 3) (pv 4) (fun _ _ => rfl))) (by rfl))))), ?_⟩
    have p9 : ps.length ≤ 9 := by
      unfold placesB at pB
      rw [Bool.and_eq_true, Bool.and_eq_true] at pB
      exact of_decide_eq_true pB.2.1
    refine ⟨.ref d, rfl, rfl, false, (by rw [decide_eq_false (show ¬ V.ref d = V.non from fun z => nomatch z)]), iteF ⟨.ref d, rfl, ?_⟩⟩
    refine ⟨.ref t, rfl, t, ps, rfl, ht, by omega, op, fun H1 s1 => ?_⟩
    rw [pB]
    refine ⟨true, rfl, ?_⟩
    refine iteF ?_
    refine ⟨.ref t, rfl, .ref d, rfl, t, d, ps, ts, rfl, s1 _ _ ht, s1 _ _ hd, hl, nd, ot, fun H2 s2 => ?_⟩
    rw [tB]
    refine ⟨true, rfl, ?_⟩
    refine iteF ?_
    have s02 := s1.trans s2
    refine ⟨.ref t, rfl, t, ps, rfl, .inl (.inl (s02 _ _ ht)), by omega, fun qs l pm srt nl => ?_⟩
    refine ⟨l, qs.map V.str, rfl, .inl ⟨.inl (.inl upd_same), fun t' nt => ?_⟩⟩
    have s3 : Same H (upd (upd H2 l (.lst (qs.map V.str))) t' (.tup (qs.map V.str))) := s02.trans ((same_upd nl).trans (same_upd nt))
    have et : (upd (upd H2 l (.lst (qs.map V.str))) t' (.tup (qs.map V.str))) t' = some (.tup (qs.map V.str)) := upd_same
    have nt0 : H t' = none := s02.free ((same_upd nl).free nt)
    generalize upd (upd H2 l (.lst (qs.map V.str))) t' (.tup (qs.map V.str)) = H3 at s3 et ⊢
    refine ⟨.ref x, rfl, x, C, dx, [], rfl, s3 _ _ hx, hC, n1, by decide, ?_⟩
    have hx4 : (upd H3 x (.ins C dx [("_places", .ref t')])) x = some (.ins C dx [("_places", .ref t')]) := upd_same
    have ne : ∀ c o, H3 c = some o → c ≠ x → (upd H3 x (.ins C dx [("_places", .ref t')])) c = some o := fun c o e hc => by
      rw [upd_ne hc]
      exact e
    have tx : t' ≠ x := ne_of et (s3 _ _ hx) (fun z => nomatch z)
    have et4 := ne _ _ et tx
    have hd4 := ne _ _ (s3 _ _ hd) (ne_of hd hx (fun z => nomatch z))
    have all4 : ∀ c o, c ≠ x → H c = some o → (upd H3 x (.ins C dx [("_places", .ref t')])) c = some o := fun c o hc e => ne _ _ (s3 _ _ e) hc
    rw [show putF ("_places" : Str) (V.ref t') [] = [(("_places" : Str), V.ref t')] from rfl]
    generalize upd H3 x (.ins C dx [("_places", .ref t')]) = H4 at hx4 et4 hd4 all4 ⊢
    refine ⟨.ref d, rfl, d, tk ts, ts.map (·.1), rfl, .inl hd4, tk_keys ts, fun p bs np ka => ?_⟩
    have s5 : Same H4 (upd H4 p (.lst (bs.map V.ref))) := same_upd np
    have ka5 : KeysAt (upd H4 p (.lst (bs.map V.ref))) bs ((ts.map (·.1)).mergeSort leP) := KeysAt.same s5 ka
    have ep5 : (upd H4 p (.lst (bs.map V.ref))) p = some (.lst (bs.map V.ref)) := upd_same
    have nL : ((ts.map (·.1)).mergeSort leP).Nodup := (List.mergeSort_perm _ _).nodup_iff.mpr nd
    have sub : ∀ k ∈ (ts.map (·.1)).mergeSort leP, k ∈ ts.map (·.1) := fun k hk => List.mem_mergeSort.mp hk
    have kl : bs.length = ((ts.map (·.1)).mergeSort leP).length := Paired.length ka
    have ll : ((ts.map (·.1)).mergeSort leP).length = ts.length := by rw [List.length_mergeSort, List.length_map]
    have est : sortTi ts = ((ts.map (·.1)).mergeSort leP).map fun k => (k, getT ts k) := rfl
    generalize (ts.map (·.1)).mergeSort leP = L at ka5 nL sub kl ll est
    generalize upd H4 p (.lst (bs.map V.ref)) = H5 at s5 ka5 ep5 ⊢
    refine ⟨p, rfl, ⟨_, .inl (.inl ep5)⟩, fun D nD => dcp_it (walk_list (xs := bs.map V.ref)) (fun i H' => H' D = some (.dT (tk ((L.take i).map fun k => (k, getT ts k)))) ∧ Same H5 H') ⟨upd_same, same_upd nD⟩ (fun i H' _ hP => .inl (.inl (hP.2 _ _ ep5))) (fun i y H0 H' hi hP hy => ?_) (fun H' hP => ?_)⟩
    · obtain ⟨eD, sm⟩ := hP
      obtain ⟨rfl, hy⟩ := hy
      rw [List.getElem?_map] at hy
      obtain ⟨b, hb, rfl⟩ := Option.map_eq_some_iff.mp hy
      obtain ⟨k, hk, eb⟩ := paired_get' ka5 hb
      obtain ⟨e, he, rfl⟩ := List.mem_map.mp (sub k (List.mem_of_getElem? hk))
      have va := val_at nd he
      have vg : V.int (getT ts e.1) = V.int e.2 := by
        rw [← tk_get, va]
        rfl
      have dg : DGet H' d (.ref b) (some (.int (getT ts e.1))) := by
        have := DGet.t (k := kP e.1) (sm _ _ (s5 _ _ hd4)) (sm _ _ eb)
        rw [va, ← vg] at this
        exact this
      have hD0 : ∀ c o, H5 c = some o → c ≠ D := fun c o e => ne_of_none e nD
      refine ⟨rfl, .ref b, rfl, .ref d, rfl, .ref b, rfl, d, _, rfl, dg, _, DPut.t (k := kP e.1) eD (sm _ _ eb) ?_, ?_, ?_⟩
      · rw [tk_len, List.length_map, List.length_take]
        exact small1000 (by omega)
      · rw [upd_same, tk_put, putT_new, List.take_add_one, hk, List.map_append]
        · rfl
        · intro g hg z
          obtain ⟨k', hk', rfl⟩ := List.mem_map.mp hg
          obtain ⟨j, hj⟩ := List.mem_iff_getElem?.mp hk'
          rw [List.getElem?_take] at hj
          by_cases hji : j < i
          · rw [if_pos hji] at hj
            have z' : k' = e.1 := z
            rw [z'] at hj
            have := nodup_ix nL hj hk
            omega
          · rw [if_neg hji] at hj
            cases hj
      · intro c o hc
        rw [upd_ne (hD0 _ _ hc)]
        exact sm c o hc
    · obtain ⟨eD, sm⟩ := hP
      rw [List.take_of_length_le (by rw [List.length_map]; omega), ← est] at eD
      refine ⟨.ref x, rfl, x, C, dx, _, rfl, sm _ _ (s5 _ _ hx4), hC, n2, (show 1 < 1000 by decide), ?_⟩
      have Dx : D ≠ x := ne_of eD (sm _ _ (s5 _ _ hx4)) (fun z => nomatch z)
      refine q _ qs pm srt (fun c o hc e => ?_) ⟨t', D, upd_same, ?_, ?_, nt0, ?_⟩
      · rw [upd_ne hc]
        exact sm _ _ (s5 _ _ (all4 c o hc e))
      · rw [upd_ne tx]
        exact sm _ _ (s5 _ _ et4)
      · rw [upd_ne Dx]
        exact eD
      · cases z : H D with
        | none => rfl
        | some o =>
          rw [s5 _ _ (all4 D o Dx z)] at nD
          cases nD
end
/-! ### data, and how it stands in the heap -/
inductive D where
  | non | bl (b : Bool) | int (i : Int) | str (x : Str) | ty (n : String) | cell
  | lst (xs : List D) | tup (xs : List D)
  | dK (ks : List Key) (vs : List D) | dT (ks : List (List Key)) (vs : List D)
  | ins (C : Addr) (ns : List Str) (vs : List D)
  | raw (v : V)
  | rng (lo hi : Int)
mutual
inductive Rep (dc : Option Addr) (F : Hp) : D → V → Prop
  | non : Rep dc F .non .non
  | bl (b : Bool) : Rep dc F (.bl b) (.bl b)
  | int (i : Int) : Rep dc F (.int i) (.int i)
  | str (x : Str) : Rep dc F (.str x) (.str x)
  | ty (n : String) : Rep dc F (.ty n) (.ty n)
  | raw (v : V) : Rep dc F (.raw v) v
  | rng {a : Addr} {lo hi : Int} : F a = some (.rng lo hi) → Rep dc F (.rng lo hi) (.ref a)
  | cell {d : Addr} : dc = some d → Rep dc F .cell (.ref d)
  | lst {a : Addr} {xs : List D} {vs : List V} : F a = some (.lst vs) → Reps dc F xs vs → Rep dc F (.lst xs) (.ref a)
  | tup {a : Addr} {xs : List D} {vs : List V} : F a = some (.tup vs) → Reps dc F xs vs → Rep dc F (.tup xs) (.ref a)
  | dK {a : Addr} {ks : List Key} {xs : List D} {vs : List V} : F a = some (.dK (ks.zip vs)) → ks.length = vs.length → Reps dc F xs vs → Rep dc F (.dK ks xs) (.ref a)
  | dT {a : Addr} {ks : List (List Key)} {xs : List D} {vs : List V} : F a = some (.dT (ks.zip vs)) → ks.length = vs.length → Reps dc F xs vs → Rep dc F (.dT ks xs) (.ref a)
  | ins {a C dx : Addr} {ns : List Str} {xs : List D} {vs : List V} : F a = some (.ins C dx (ns.zip vs)) → ns.length = vs.length → Reps dc F xs vs → Rep dc F (.ins C ns xs) (.ref a)
inductive Reps (dc : Option Addr) (F : Hp) : List D → List V → Prop
  | nil : Reps dc F [] []
  | cons {x : D} {v : V} {xs : List D} {vs : List V} : Rep dc F x v → Reps dc F xs vs → Reps dc F (x :: xs) (v :: vs)
end
section
variable {dc : Option Addr} {F F' : Hp}
mutual
theorem Rep.mono (h : ∀ a o, F a = some o → F' a = some o) : ∀ {x : D} {v : V}, Rep dc F x v → Rep dc F' x v
  | _, _, .non => .non
  | _, _, .bl b => .bl b
  | _, _, .int i => .int i
  | _, _, .str x => .str x
  | _, _, .ty x => .ty x
  | _, _, .raw x => .raw x
  | _, _, .rng e => .rng (h _ _ e)
  | _, _, .cell e => .cell e
  | _, _, .lst e r => .lst (h _ _ e) (Reps.mono h r)
  | _, _, .tup e r => .tup (h _ _ e) (Reps.mono h r)
  | _, _, .dK e l r => .dK (h _ _ e) l (Reps.mono h r)
  | _, _, .dT e l r => .dT (h _ _ e) l (Reps.mono h r)
  | _, _, .ins e l r => .ins (h _ _ e) l (Reps.mono h r)
theorem Reps.mono (h : ∀ a o, F a = some o → F' a = some o) : ∀ {xs : List D} {vs : List V}, Reps dc F xs vs → Reps dc F' xs vs
  | _, _, .nil => .nil
  | _, _, .cons r t => .cons (Rep.mono h r) (Reps.mono h t)
end
theorem Reps.length : ∀ {xs : List D} {vs : List V}, Reps dc F xs vs → xs.length = vs.length
  | _, _, .nil => rfl
  | _, _, .cons _ t => by rw [List.length_cons, List.length_cons, Reps.length t]
theorem Reps.get : ∀ {xs : List D} {vs : List V} {i : Nat} {x : D}, Reps dc F xs vs → xs[i]? = some x → ∃ v, vs[i]? = some v ∧ Rep dc F x v
  | _, _, _, _, .nil, e => by simp at e
  | _, _, 0, _, .cons r _, e => by simp at e; subst e; exact ⟨_, rfl, r⟩
  | _, _, i + 1, x, .cons _ t, e => by
    obtain ⟨u, h1, h2⟩ := Reps.get (i := i) (x := x) t (by simpa using e)
    exact ⟨u, by simpa using h1, h2⟩
theorem Reps.get' : ∀ {xs : List D} {vs : List V} {i : Nat} {v : V}, Reps dc F xs vs → vs[i]? = some v → ∃ x, xs[i]? = some x ∧ Rep dc F x v
  | _, _, _, _, .nil, e => by simp at e
  | _, _, 0, _, .cons r _, e => by simp at e; subst e; exact ⟨_, rfl, r⟩
  | _, _, i + 1, x, .cons _ t, e => by
    obtain ⟨u, h1, h2⟩ := Reps.get' (i := i) (v := x) t (by simpa using e)
    exact ⟨u, by simpa using h1, h2⟩
theorem Reps.app : ∀ {xs ys : List D} {vs ws : List V}, Reps dc F xs vs → Reps dc F ys ws → Reps dc F (xs ++ ys) (vs ++ ws)
  | _, _, _, _, .nil, s => s
  | _, _, _, _, .cons r t, s => .cons r (Reps.app t s)
theorem Reps.take : ∀ {xs : List D} {vs : List V} (n : Nat), Reps dc F xs vs → Reps dc F (xs.take n) (vs.take n)
  | _, _, 0, _ => .nil
  | _, _, _ + 1, .nil => .nil
  | _, _, n + 1, .cons r t => .cons r (Reps.take n t)
theorem Reps.drop : ∀ {xs : List D} {vs : List V} (n : Nat), Reps dc F xs vs → Reps dc F (xs.drop n) (vs.drop n)
  | _, _, 0, r => r
  | _, _, _ + 1, .nil => .nil
  | _, _, n + 1, .cons _ t => Reps.drop n t
theorem Reps.nil_iff {xs : List D} : Reps dc F xs [] → xs = [] := fun h => by cases h; rfl
theorem Reps.strs : ∀ (ps : List Str), Reps dc F (ps.map D.str) (ps.map V.str)
  | [] => .nil
  | p :: r => .cons (.str p) (Reps.strs r)
theorem Reps.ints : ∀ (ps : List Int), Reps dc F (ps.map D.int) (ps.map V.int)
  | [] => .nil
  | p :: r => .cons (.int p) (Reps.ints r)
theorem Reps.bls : ∀ (ps : List Bool), Reps dc F (ps.map D.bl) (ps.map V.bl)
  | [] => .nil
  | p :: r => .cons (.bl p) (Reps.bls r)
theorem Reps.strs_eq : ∀ {ps : List Str} {vs : List V}, Reps dc F (ps.map D.str) vs → vs = ps.map V.str
  | [], _, h => by cases h; rfl
  | p :: r, _, h => by
    cases h with
    | cons a b => cases a; rw [Reps.strs_eq b]; rfl
theorem Reps.ints_eq : ∀ {ps : List Int} {vs : List V}, Reps dc F (ps.map D.int) vs → vs = ps.map V.int
  | [], _, h => by cases h; rfl
  | p :: r, _, h => by
    cases h with
    | cons a b => cases a; rw [Reps.ints_eq b]; rfl
theorem Reps.bls_eq : ∀ {ps : List Bool} {vs : List V}, Reps dc F (ps.map D.bl) vs → vs = ps.map V.bl
  | [], _, h => by cases h; rfl
  | p :: r, _, h => by
    cases h with
    | cons a b => cases a; rw [Reps.bls_eq b]; rfl
end
/-- what F says may be read in H -/
def SubO (H : Hp) (a : Addr) : HO → Prop
  | .lst xs => H a = some (.lst xs)
  | .tup xs => H a = some (.tup xs)
  | .dK kvs => Rd H a (.dK kvs)
  | .dT kvs => Rd H a (.dT kvs)
  | .ins C dx fs => H a = some (.ins C dx fs)
  | .rng lo hi => H a = some (.rng lo hi)
  | _ => False
structure Pre (dc : Option Addr) (F H : Hp) : Prop where
  sub : ∀ a o, F a = some o → SubO H a o
  dice : ∀ d, dc = some d → DiceAt H d ∧ F d = none
structure Ext (dc : Option Addr) (F H F' H' : Hp) : Prop where
  pre : Pre dc F' H'
  keep : ∀ a o, dc ≠ some a → H a = some o → H' a = some o
  fsub : ∀ a o, F a = some o → F' a = some o
  fnew : ∀ a o, F' a = some o → F a = some o ∨ H a = none ∨ ∃ xs, H a = some (.tup xs)
theorem SubO.ex {H : Hp} {a : Addr} {o : HO} (h : SubO H a o) : ∃ u, H a = some u := by
  cases o with
  | lst _ => exact ⟨_, h⟩
  | tup _ => exact ⟨_, h⟩
  | dK _ => rcases h with h | ⟨_, h⟩ <;> exact ⟨_, h⟩
  | dT _ => rcases h with h | ⟨_, h⟩ <;> exact ⟨_, h⟩
  | ins _ _ _ => exact ⟨_, h⟩
  | rng _ _ => exact ⟨_, h⟩
  | _ => exact h.elim
theorem SubO.keep {H H' : Hp} {a : Addr} {o : HO} (h : SubO H a o) (k : ∀ u, H a = some u → H' a = some u) : SubO H' a o := by
  cases o with
  | lst _ => exact k _ h
  | tup _ => exact k _ h
  | dK _ => exact h.elim (fun h => .inl (k _ h)) fun ⟨o, h⟩ => .inr ⟨o, k _ h⟩
  | dT _ => exact h.elim (fun h => .inl (k _ h)) fun ⟨o, h⟩ => .inr ⟨o, k _ h⟩
  | ins _ _ _ => exact k _ h
  | rng _ _ => exact k _ h
  | _ => exact h.elim
section
variable {dc : Option Addr} {F F1 F2 H H1 H2 : Hp}
theorem Ext.refl (p : Pre dc F H) : Ext dc F H F H := ⟨p, fun _ _ _ h => h, fun _ _ h => h, fun _ _ h => .inl h⟩
theorem Ext.free (e : Ext dc F H F1 H1) (p : Pre dc F H) {a : Addr} (h : H1 a = none) : H a = none := by
  cases q : H a with
  | none => rfl
  | some o =>
    by_cases hd : dc = some a
    · obtain ⟨⟨x, y, z, hz⟩, _⟩ := e.pre.dice a hd
      rw [hz] at h
      cases h
    · rw [e.keep a o hd q] at h
      cases h
theorem Ext.trans (p : Pre dc F H) (a : Ext dc F H F1 H1) (b : Ext dc F1 H1 F2 H2) : Ext dc F H F2 H2 :=
  ⟨b.pre, fun c o hc h => b.keep c o hc (a.keep c o hc h), fun c o h => b.fsub c o (a.fsub c o h), fun c o h => by
    rcases b.fnew c o h with h | h | ⟨xs, h⟩
    · exact a.fnew c o h
    · exact .inr (.inl (a.free p h))
    · cases q : H c with
      | none => exact .inr (.inl rfl)
      | some u =>
        by_cases hd : dc = some c
        · obtain ⟨⟨x, y, z, hz⟩, _⟩ := a.pre.dice c hd
          rw [hz] at h
          cases h
        · rw [a.keep c u hd q] at h
          cases h
          exact .inr (.inr ⟨xs, rfl⟩)⟩
theorem Ext.rep (e : Ext dc F H F1 H1) {x : D} {v : V} (r : Rep dc F x v) : Rep dc F1 x v := r.mono e.fsub
theorem Ext.reps (e : Ext dc F H F1 H1) {x : List D} {v : List V} (r : Reps dc F x v) : Reps dc F1 x v := r.mono e.fsub
/-- H alone has grown, F is as it was -/
theorem Ext.grow (p : Pre dc F H) (k : Same H H1) : Ext dc F H F H1 :=
  ⟨⟨fun a o h => (p.sub a o h).keep fun u q => k _ _ q, fun d e => let ⟨⟨x, y, z, h⟩, n⟩ := p.dice d e; ⟨⟨x, y, z, k _ _ h⟩, n⟩⟩, fun a o _ h => k a o h, fun _ _ h => h, fun _ _ h => .inl h⟩
/-- a new object -/
theorem Ext.new (p : Pre dc F H) {a : Addr} {o : HO} (n : H a = none) (so : SubO (upd H a o) a o) : Ext dc F H (upd F a o) (upd H a o) := by
  have hF : ∀ b u, F b = some u → b ≠ a := fun b u h z => by
    obtain ⟨q, hq⟩ := (p.sub b u h).ex
    rw [z, n] at hq
    cases hq
  have hH : ∀ b u, H b = some u → b ≠ a := fun b u h => ne_of_none h n
  refine ⟨⟨fun b u h => ?_, fun d e => ?_⟩, fun b u _ h => ?_, fun b u h => ?_, fun b u h => ?_⟩
  · by_cases hb : b = a
    · subst hb
      rw [upd_same] at h
      cases h
      exact so
    · rw [upd_ne hb] at h
      exact (p.sub b u h).keep fun w q => by rw [upd_ne hb]; exact q
  · obtain ⟨⟨x, y, z, hd⟩, nf⟩ := p.dice d e
    have hda := hH _ _ hd
    exact ⟨⟨x, y, z, by rw [upd_ne hda]; exact hd⟩, by rw [upd_ne hda]; exact nf⟩
  · rw [upd_ne (hH b u h)]
    exact h
  · rw [upd_ne (hF b u h)]
    exact h
  · by_cases hb : b = a
    · subst hb
      exact .inr (.inl n)
    · rw [upd_ne hb] at h
      exact .inl h
/-- a tuple that stands is read -/
theorem Ext.seen (p : Pre dc F H) {a : Addr} {xs : List V} (h : H a = some (.tup xs)) : Ext dc F H (upd F a (.tup xs)) H := by
  refine ⟨⟨fun b u q => ?_, fun d e => ?_⟩, fun b u _ h => h, fun b u q => ?_, fun b u q => ?_⟩
  · by_cases hb : b = a
    · subst hb
      rw [upd_same] at q
      cases q
      exact h
    · rw [upd_ne hb] at q
      exact p.sub b u q
  · obtain ⟨⟨x, y, z, hd⟩, nf⟩ := p.dice d e
    exact ⟨⟨x, y, z, hd⟩, by rw [upd_ne (ne_of hd h (fun z => nomatch z))]; exact nf⟩
  · by_cases hb : b = a
    · subst hb
      obtain ⟨v, hv⟩ := (p.sub b u q).ex
      have hs := p.sub b u q
      rw [upd_same]
      cases u with
      | tup ys => rw [show H b = some (.tup ys) from hs] at h; cases h; rfl
      | lst ys => rw [show H b = some (.lst ys) from hs] at h; cases h
      | ins _ _ _ => rw [show H b = some (.ins _ _ _) from hs] at h; cases h
      | rng _ _ => rw [show H b = some (.rng _ _) from hs] at h; cases h
      | dK kvs =>
        rcases (show Rd H b (.dK kvs) from hs) with z | ⟨_, z⟩
        · rw [z] at h; cases h
        · rw [z] at h; cases h
      | dT kvs =>
        rcases (show Rd H b (.dT kvs) from hs) with z | ⟨_, z⟩
        · rw [z] at h; cases h
        · rw [z] at h; cases h
      | _ => exact hs.elim
    · rw [upd_ne hb]
      exact q
  · by_cases hb : b = a
    · subst hb
      exact .inr (.inr ⟨xs, h⟩)
    · rw [upd_ne hb] at q
      exact .inl q
end
/-! ### the slots -/
abbrev DEnv := List (Option D)
def Slots (dc : Option Addr) (F : Hp) (ρ : DEnv) (σ : L2.St) : Prop := ρ.length = σ.length ∧ ∀ (i : Nat) (x : D), ρ[i]? = some (some x) → ∃ v, σ[i]? = some (some v) ∧ Rep dc F x v
theorem Slots.mono {dc : Option Addr} {F F' : Hp} {ρ : DEnv} {σ : L2.St} (s : Slots dc F ρ σ) (h : ∀ a o, F a = some o → F' a = some o) : Slots dc F' ρ σ := ⟨s.1, fun i x e => let ⟨v, h1, h2⟩ := s.2 i x e; ⟨v, h1, h2.mono h⟩⟩
/-! ### the judgements by data -/
abbrev DT := DEnv → (D → Prop) → Prop
abbrev DTA := DEnv → (List D → Prop) → Prop
abbrev DTB := DEnv → (Bool → Prop) → Prop
/-- what is wanted of a value, told by its data -/
def KV' (dc : Option Addr) (F H : Hp) (Q : VK) : D → Prop := fun x => ∀ v F' H', Ext dc F H F' H' → Rep dc F' x v → Q v H'
def KB (dc : Option Addr) (F H : Hp) (Q : Bool → Hp → Prop) : Bool → Prop := fun b => ∀ F' H', Ext dc F H F' H' → Q b H'
def KA (dc : Option Addr) (F H : Hp) (Q : List V → Hp → Prop) : List D → Prop := fun xs => ∀ vs F' H', Ext dc F H F' H' → Reps dc F' xs vs → Q vs H'
structure DE (X : Cx) (dc : Option Addr) (e : Expr) (d : DT) : Prop where
  mono : ∀ ρ P P', (∀ x, P x → P' x) → d ρ P → d ρ P'
  run : ∃ t, PE X e t ∧ ∀ ρ σ F H Q, Pre dc F H → Slots dc F ρ σ → d ρ (KV' dc F H Q) → t σ H Q
structure DA (X : Cx) (dc : Option Addr) (es : List Expr) (d : DTA) : Prop where
  mono : ∀ ρ P P', (∀ x, P x → P' x) → d ρ P → d ρ P'
  run : ∃ t, PA X es t ∧ ∀ ρ σ F H Q, Pre dc F H → Slots dc F ρ σ → d ρ (KA dc F H Q) → t σ H Q
structure DC (X : Cx) (dc : Option Addr) (e : Expr) (d : DTB) : Prop where
  mono : ∀ ρ P P', (∀ x, P x → P' x) → d ρ P → d ρ P'
  run : ∃ t, PT X e t ∧ ∀ ρ σ F H Q, Pre dc F H → Slots dc F ρ σ → d ρ (KB dc F H Q) → t σ H Q
structure DW (X : Cx) (dc : Option Addr) (e : Expr) (d : DTB) : Prop where
  mono : ∀ ρ P P', (∀ x, P x → P' x) → d ρ P → d ρ P'
  run : ∃ t, PW X e t ∧ ∀ ρ σ F H Q, Pre dc F H → Slots dc F ρ σ → d ρ (KB dc F H Q) → t σ H Q
section
variable {X : Cx} {dc : Option Addr} {F H F1 H1 : Hp}
theorem KV'.on {Q : VK} {x : D} (p : Pre dc F H) (e : Ext dc F H F1 H1) (h : KV' dc F H Q x) : KV' dc F1 H1 Q x := fun v F' H' e' r => h v F' H' (e.trans p e') r
theorem KB.on {Q : Bool → Hp → Prop} {x : Bool} (p : Pre dc F H) (e : Ext dc F H F1 H1) (h : KB dc F H Q x) : KB dc F1 H1 Q x := fun F' H' e' => h F' H' (e.trans p e')
theorem KA.on {Q : List V → Hp → Prop} {x : List D} (p : Pre dc F H) (e : Ext dc F H F1 H1) (h : KA dc F H Q x) : KA dc F1 H1 Q x := fun v F' H' e' r => h v F' H' (e.trans p e') r
theorem KV'.now {Q : VK} {x : D} {v : V} (p : Pre dc F H) (r : Rep dc F x v) (h : KV' dc F H Q x) : Q v H := h v F H (.refl p) r
theorem DW.toC {e : Expr} {d : DTB} (h : DW X dc e d) : DC X dc e d := ⟨h.mono, let ⟨t, h1, h2⟩ := h.run; ⟨t, h1.pt, h2⟩⟩
end
/-! ### getting at a judgement -/
section
variable {X : Cx} {dc : Option Addr}
theorem DE.get {e : Expr} {d : DT} (h : DE X dc e d) : ∃ t, PE X e t ∧ ∀ {ρ : DEnv} {σ : L2.St} {F H : Hp} {G : VK} {K : D → Prop}, Pre dc F H → Slots dc F ρ σ → d ρ K → (∀ x v F1 H1, K x → Ext dc F H F1 H1 → Rep dc F1 x v → G v H1) → t σ H G := by
  obtain ⟨m, t, p, r⟩ := h
  exact ⟨t, p, fun hp hs hd step => r _ _ _ _ _ hp hs (m _ _ _ (fun x k v F1 H1 e q => step x v F1 H1 k e q) hd)⟩
theorem DA.get {e : List Expr} {d : DTA} (h : DA X dc e d) : ∃ t, PA X e t ∧ ∀ {ρ : DEnv} {σ : L2.St} {F H : Hp} {G : List V → Hp → Prop} {K : List D → Prop}, Pre dc F H → Slots dc F ρ σ → d ρ K → (∀ x v F1 H1, K x → Ext dc F H F1 H1 → Reps dc F1 x v → G v H1) → t σ H G := by
  obtain ⟨m, t, p, r⟩ := h
  exact ⟨t, p, fun hp hs hd step => r _ _ _ _ _ hp hs (m _ _ _ (fun x k v F1 H1 e q => step x v F1 H1 k e q) hd)⟩
theorem DC.get {e : Expr} {d : DTB} (h : DC X dc e d) : ∃ t, PT X e t ∧ ∀ {ρ : DEnv} {σ : L2.St} {F H : Hp} {G : Bool → Hp → Prop} {K : Bool → Prop}, Pre dc F H → Slots dc F ρ σ → d ρ K → (∀ x F1 H1, K x → Ext dc F H F1 H1 → G x H1) → t σ H G := by
  obtain ⟨m, t, p, r⟩ := h
  exact ⟨t, p, fun hp hs hd step => r _ _ _ _ _ hp hs (m _ _ _ (fun x k F1 H1 e => step x F1 H1 k e) hd)⟩
theorem DW.get {e : Expr} {d : DTB} (h : DW X dc e d) : ∃ t, PW X e t ∧ ∀ {ρ : DEnv} {σ : L2.St} {F H : Hp} {G : Bool → Hp → Prop} {K : Bool → Prop}, Pre dc F H → Slots dc F ρ σ → d ρ K → (∀ x F1 H1, K x → Ext dc F H F1 H1 → G x H1) → t σ H G := by
  obtain ⟨m, t, p, r⟩ := h
  exact ⟨t, p, fun hp hs hd step => r _ _ _ _ _ hp hs (m _ _ _ (fun x k F1 H1 e => step x F1 H1 k e) hd)⟩
/-- two readings of one expression -/
theorem pe_or2 {e : Expr} {t u : TE} (h : PE X e t) (g : PE X e u) : PE X e (fun σ H Q => t σ H Q ∨ u σ H Q) := ⟨fun pins s σ H Q I q => q.elim (h.run pins s σ H Q I) (g.run pins s σ H Q I)⟩
theorem DE.or {e : Expr} {t u : DT} (h : DE X dc e t) (g : DE X dc e u) : DE X dc e (fun ρ Q => t ρ Q ∨ u ρ Q) := by
  obtain ⟨m1, t1, p1, r1⟩ := h
  obtain ⟨m2, t2, p2, r2⟩ := g
  refine ⟨fun ρ P P' hP q => q.elim (fun q => .inl (m1 _ _ _ hP q)) fun q => .inr (m2 _ _ _ hP q), _, pe_or2 p1 p2, fun ρ σ F H Q hp hs q => q.elim (fun q => .inl (r1 _ _ _ _ _ hp hs q)) fun q => .inr (r2 _ _ _ _ _ hp hs q)⟩
end
/-! ### the forms of data -/
def asInt (x : D) (Q : Int → Prop) : Prop := match x with | .int i => Q i | _ => False
def asStr (x : D) (Q : Str → Prop) : Prop := match x with | .str i => Q i | _ => False
def asBl (x : D) (Q : Bool → Prop) : Prop := match x with | .bl i => Q i | _ => False
def asLst (x : D) (Q : List D → Prop) : Prop := match x with | .lst i => Q i | _ => False
def asTup (x : D) (Q : List D → Prop) : Prop := match x with | .tup i => Q i | _ => False
/-- the items of a list or a tuple -/
def asSeq (x : D) (Q : List D → Prop) : Prop := match x with | .lst i => Q i | .tup i => Q i | _ => False
def asDT (x : D) (Q : List (List Key) → List D → Prop) : Prop := match x with | .dT k v => Q k v | _ => False
def asIns (x : D) (Q : Addr → List Str → List D → Prop) : Prop := match x with | .ins C n v => Q C n v | _ => False
theorem asInt.inv {x : D} {Q : Int → Prop} (h : asInt x Q) : ∃ i, x = .int i ∧ Q i := by cases x <;> first | exact ⟨_, rfl, h⟩ | exact h.elim
theorem asStr.inv {x : D} {Q : Str → Prop} (h : asStr x Q) : ∃ i, x = .str i ∧ Q i := by cases x <;> first | exact ⟨_, rfl, h⟩ | exact h.elim
theorem asBl.inv {x : D} {Q : Bool → Prop} (h : asBl x Q) : ∃ i, x = .bl i ∧ Q i := by cases x <;> first | exact ⟨_, rfl, h⟩ | exact h.elim
theorem asLst.inv {x : D} {Q : List D → Prop} (h : asLst x Q) : ∃ i, x = .lst i ∧ Q i := by cases x <;> first | exact ⟨_, rfl, h⟩ | exact h.elim
theorem asTup.inv {x : D} {Q : List D → Prop} (h : asTup x Q) : ∃ i, x = .tup i ∧ Q i := by cases x <;> first | exact ⟨_, rfl, h⟩ | exact h.elim
theorem asSeq.inv {x : D} {Q : List D → Prop} (h : asSeq x Q) : ∃ i, (x = .lst i ∨ x = .tup i) ∧ Q i := by cases x <;> first | exact ⟨_, .inl rfl, h⟩ | exact ⟨_, .inr rfl, h⟩ | exact h.elim
theorem asDT.inv {x : D} {Q : List (List Key) → List D → Prop} (h : asDT x Q) : ∃ k v, x = .dT k v ∧ Q k v := by cases x <;> first | exact ⟨_, _, rfl, h⟩ | exact h.elim
theorem asIns.inv {x : D} {Q : Addr → List Str → List D → Prop} (h : asIns x Q) : ∃ C n v, x = .ins C n v ∧ Q C n v := by cases x <;> first | exact ⟨_, _, _, rfl, h⟩ | exact h.elim
theorem asInt.mono {x : D} {P Q : Int → Prop} (h : ∀ i, P i → Q i) (p : asInt x P) : asInt x Q := by cases x <;> first | exact h _ p | exact p
theorem asStr.mono {x : D} {P Q : Str → Prop} (h : ∀ i, P i → Q i) (p : asStr x P) : asStr x Q := by cases x <;> first | exact h _ p | exact p
theorem asBl.mono {x : D} {P Q : Bool → Prop} (h : ∀ i, P i → Q i) (p : asBl x P) : asBl x Q := by cases x <;> first | exact h _ p | exact p
theorem asLst.mono {x : D} {P Q : List D → Prop} (h : ∀ i, P i → Q i) (p : asLst x P) : asLst x Q := by cases x <;> first | exact h _ p | exact p
theorem asTup.mono {x : D} {P Q : List D → Prop} (h : ∀ i, P i → Q i) (p : asTup x P) : asTup x Q := by cases x <;> first | exact h _ p | exact p
theorem asSeq.mono {x : D} {P Q : List D → Prop} (h : ∀ i, P i → Q i) (p : asSeq x P) : asSeq x Q := by cases x <;> first | exact h _ p | exact p
theorem asDT.mono {x : D} {P Q : List (List Key) → List D → Prop} (h : ∀ i j, P i j → Q i j) (p : asDT x P) : asDT x Q := by cases x <;> first | exact h _ _ p | exact p
theorem asIns.mono {x : D} {P Q : Addr → List Str → List D → Prop} (h : ∀ C i j, P C i j → Q C i j) (p : asIns x P) : asIns x Q := by cases x <;> first | exact h _ _ _ p | exact p
theorem Rep.seqL {dc : Option Addr} {F H : Hp} {K : PySem.W.Frag} {xs : List D} {v : V} (p : Pre dc F H) (r : Rep dc F (.lst xs) v) : ∃ a vs, v = .ref a ∧ H a = some (.lst vs) ∧ Reps dc F xs vs := by
  cases r with
  | lst e r => exact ⟨_, _, rfl, p.sub _ _ e, r⟩
theorem Rep.seqT {dc : Option Addr} {F H : Hp} {xs : List D} {v : V} (p : Pre dc F H) (r : Rep dc F (.tup xs) v) : ∃ a vs, v = .ref a ∧ H a = some (.tup vs) ∧ Reps dc F xs vs := by
  cases r with
  | tup e r => exact ⟨_, _, rfl, p.sub _ _ e, r⟩
theorem Rep.seq {dc : Option Addr} {F H : Hp} {K : PySem.W.Frag} {xs : List D} {x : D} {v : V} (p : Pre dc F H) (r : Rep dc F x v) (h : x = .lst xs ∨ x = .tup xs) : ∃ a vs, v = .ref a ∧ (SqL K H a vs ∨ SqT K H a vs) ∧ Reps dc F xs vs := by
  rcases h with rfl | rfl
  · obtain ⟨a, vs, h1, h2, h3⟩ := r.seqL (K := K) p
    exact ⟨a, vs, h1, .inl (.of h2), h3⟩
  · obtain ⟨a, vs, h1, h2, h3⟩ := r.seqT p
    exact ⟨a, vs, h1, .inr (.of h2), h3⟩
theorem Rep.dTr {dc : Option Addr} {F H : Hp} {ks : List (List Key)} {xs : List D} {v : V} (p : Pre dc F H) (r : Rep dc F (.dT ks xs) v) : ∃ a vs, v = .ref a ∧ F a = some (.dT (ks.zip vs)) ∧ Rd H a (.dT (ks.zip vs)) ∧ ks.length = vs.length ∧ Reps dc F xs vs := by
  cases r with
  | dT e l r => exact ⟨_, _, rfl, e, p.sub _ _ e, l, r⟩
theorem Rep.dKr {dc : Option Addr} {F H : Hp} {ks : List Key} {xs : List D} {v : V} (p : Pre dc F H) (r : Rep dc F (.dK ks xs) v) : ∃ a vs, v = .ref a ∧ F a = some (.dK (ks.zip vs)) ∧ Rd H a (.dK (ks.zip vs)) ∧ ks.length = vs.length ∧ Reps dc F xs vs := by
  cases r with
  | dK e l r => exact ⟨_, _, rfl, e, p.sub _ _ e, l, r⟩
theorem Rep.insr {dc : Option Addr} {F H : Hp} {C : Addr} {ns : List Str} {xs : List D} {v : V} (p : Pre dc F H) (r : Rep dc F (.ins C ns xs) v) : ∃ a dx vs, v = .ref a ∧ F a = some (.ins C dx (ns.zip vs)) ∧ H a = some (.ins C dx (ns.zip vs)) ∧ ns.length = vs.length ∧ Reps dc F xs vs := by
  cases r with
  | ins e l r => exact ⟨_, _, _, rfl, e, p.sub _ _ e, l, r⟩
theorem Rep.int_eq {dc : Option Addr} {F : Hp} {i : Int} {v : V} (r : Rep dc F (.int i) v) : v = .int i := by cases r; rfl
theorem Rep.str_eq {dc : Option Addr} {F : Hp} {i : Str} {v : V} (r : Rep dc F (.str i) v) : v = .str i := by cases r; rfl
theorem Rep.bl_eq {dc : Option Addr} {F : Hp} {i : Bool} {v : V} (r : Rep dc F (.bl i) v) : v = .bl i := by cases r; rfl
theorem Rep.non_eq {dc : Option Addr} {F : Hp} {v : V} (r : Rep dc F .non v) : v = .non := by cases r; rfl
theorem Rep.ty_eq {dc : Option Addr} {F : Hp} {n : String} {v : V} (r : Rep dc F (.ty n) v) : v = .ty n := by cases r; rfl
theorem Rep.raw_eq {dc : Option Addr} {F : Hp} {n : V} {v : V} (r : Rep dc F (.raw n) v) : v = n := by cases r; rfl
/-- a new list, a new tuple -/
theorem Ext.lst {dc : Option Addr} {F H : Hp} {a : Addr} {xs : List D} {vs : List V} (p : Pre dc F H) (n : H a = none) (r : Reps dc F xs vs) : Ext dc F H (upd F a (.lst vs)) (upd H a (.lst vs)) ∧ Rep dc (upd F a (.lst vs)) (.lst xs) (.ref a) := by
  have e := Ext.new p (o := .lst vs) n upd_same
  exact ⟨e, .lst upd_same (e.reps r)⟩
theorem Ext.tup {dc : Option Addr} {F H : Hp} {a : Addr} {xs : List D} {vs : List V} (p : Pre dc F H) (n : H a = none) (r : Reps dc F xs vs) : Ext dc F H (upd F a (.tup vs)) (upd H a (.tup vs)) ∧ Rep dc (upd F a (.tup vs)) (.tup xs) (.ref a) := by
  have e := Ext.new p (o := .tup vs) n upd_same
  exact ⟨e, .tup upd_same (e.reps r)⟩
/-! ### expressions -/
section
variable {X : Cx} {dc : Option Addr}
def dVar (i : Nat) : DT := fun ρ Q => match ρ[i]? with | some (some x) => Q x | _ => False
theorem dVar_inv {i : Nat} {ρ : DEnv} {Q : D → Prop} (h : dVar i ρ Q) : ∃ x, ρ[i]? = some (some x) ∧ Q x := by
  unfold dVar at h
  split at h
  · exact ⟨_, by assumption, h⟩
  · exact h.elim
theorem de_var (i : Nat) {x : Str} {pos : Pos} (hN : X.N[i]? = some x := by rfl) (hv : Vis X.env.scope x := by first | exact Or.inl rfl | exact Or.inr (Or.inl rfl) | exact Or.inr (Or.inr rfl)) (hd : (x == ("__debug__" : Str)) = false := by decide)
    (hcd : (x == ("__classdict__" : Str)) = false := by decide) : DE X dc (.Name x pos) (dVar i) := by
  refine ⟨fun ρ P P' hP h => ?_, _, pe_var hN hv hd hcd, fun ρ σ F H Q p s h => ?_⟩
  · obtain ⟨x, e, h⟩ := dVar_inv h
    unfold dVar
    rw [e]
    exact hP _ h
  · obtain ⟨x, e, h⟩ := dVar_inv h
    obtain ⟨v, e2, r⟩ := s.2 i x e
    exact ⟨v, e2, h.now p r⟩
def dC (x : D) : DT := fun _ Q => Q x
theorem de_int {i : Int} {j pos} : DE X dc (.Constant (.int i) j pos) (dC (.int i)) := ⟨fun _ _ _ h => h _, _, pe_int, fun _ _ _ _ _ p _ h => KV'.now p (.int _) h⟩
theorem de_bl {i : Bool} {j pos} : DE X dc (.Constant (.bool i) j pos) (dC (.bl i)) := ⟨fun _ _ _ h => h _, _, pe_bl, fun _ _ _ _ _ p _ h => KV'.now p (.bl _) h⟩
theorem de_str {i : Str} {j pos} : DE X dc (.Constant (.str i) j pos) (dC (.str i)) := ⟨fun _ _ _ h => h _, _, pe_str, fun _ _ _ _ _ p _ h => KV'.now p (.str _) h⟩
theorem de_non {j pos} : DE X dc (.Constant .none j pos) (dC .non) := ⟨fun _ _ _ h => h _, _, pe_non, fun _ _ _ _ _ p _ h => KV'.now p .non h⟩
/-- a module's constant; a class -/
theorem de_globI {x : Str} {i : Int} {t : Tok} {pos : Pos} (hg : Gl X x) (hm : X.mg x = some (.int i t)) (hd : (x == ("__debug__" : Str)) = false := by decide) : DE X dc (.Name x pos) (dC (.int i)) :=
  ⟨fun _ _ _ h => h _, _, pe_glob hg hm (v := .int i) ⟨_, rfl⟩ hd, fun _ _ _ _ _ p _ h => KV'.now p (.int _) h⟩
theorem de_globS {x : Str} {i : Str} {t : Tok} {pos : Pos} (hg : Gl X x) (hm : X.mg x = some (.str i t)) (hd : (x == ("__debug__" : Str)) = false := by decide) : DE X dc (.Name x pos) (dC (.str i)) :=
  ⟨fun _ _ _ h => h _, _, pe_glob hg hm (v := .str i) ⟨_, rfl⟩ hd, fun _ _ _ _ _ p _ h => KV'.now p (.str _) h⟩
theorem de_globR {x : Str} {a : Addr} {pos : Pos} (hg : Gl X x) (hm : X.mg x = some (.ref a)) (hd : (x == ("__debug__" : Str)) = false := by decide) : DE X dc (.Name x pos) (dC (.raw (.ref a))) :=
  ⟨fun _ _ _ h => h _, _, pe_glob hg hm (v := .ref a) rfl hd, fun _ _ _ _ _ p _ h => KV'.now p (.raw _) h⟩
theorem de_ty {x : Str} {n : String} {pos : Pos} (hg : Gl X x) (hm : X.mg x = none) (hv : bootBuiltins x = some (.type n)) (hn : x ≠ "__name__" := by decide) (hd : (x == ("__debug__" : Str)) = false := by decide) : DE X dc (.Name x pos) (dC (.ty n)) :=
  ⟨fun _ _ _ h => h _, _, pe_bltn hg hm hv (v := .ty n) rfl hn hd, fun _ _ _ _ _ p _ h => KV'.now p (.ty _) h⟩
/-- a two-place operation by data -/
structure OpD (X : Cx) (dc : Option Addr) (f : Value → Value → Sem Value) (g : D → D → (D → Prop) → Prop) : Prop where
  mono : ∀ x y P P', (∀ z, P z → P' z) → g x y P → g x y P'
  run : ∃ r, OpR X f r ∧ ∀ F H x y v u Q, Pre dc F H → Rep dc F x v → Rep dc F y u → g x y (KV' dc F H Q) → r v u H Q
theorem OpD.or {f : Value → Value → Sem Value} {g g' : D → D → (D → Prop) → Prop} (h : OpD X dc f g) (h' : OpD X dc f g') : OpD X dc f (fun x y Q => g x y Q ∨ g' x y Q) := by
  obtain ⟨m, r, o, q⟩ := h
  obtain ⟨m', r', o', q'⟩ := h'
  exact ⟨fun x y P P' hP z => z.elim (fun z => .inl (m _ _ _ _ hP z)) fun z => .inr (m' _ _ _ _ hP z), fun x y H Q => r x y H Q ∨ r' x y H Q, fun pins s σ H x y v u Q I rx ry z => Or.elim z (o pins s σ H x y v u Q I rx ry) (o' pins s σ H x y v u Q I rx ry),
    fun F H x y v u Q p rx ry z => z.elim (fun z => .inl (q F H x y v u Q p rx ry z)) fun z => .inr (q' F H x y v u Q p rx ry z)⟩
theorem OpD.imp {f : Value → Value → Sem Value} {g g' : D → D → (D → Prop) → Prop} (h : OpD X dc f g) (m : ∀ x y P P', (∀ z, P z → P' z) → g' x y P → g' x y P') (i : ∀ x y Q, g' x y Q → g x y Q) : OpD X dc f g' := by
  obtain ⟨_, r, o, q⟩ := h
  exact ⟨m, r, o, fun F H x y v u Q p rx ry z => q F H x y v u Q p rx ry (i _ _ _ z)⟩
/-- ints under C, a flat value out -/
theorem OpD.ints {f : Value → Value → Sem Value} {C : Int → Int → Prop} {g : Int → Int → V} {gd : Int → Int → D} (h : OpR X f (rI C g)) (hg : ∀ F i j, Rep dc F (gd i j) (g i j)) : OpD X dc f (fun x y Q => asInt x fun i => asInt y fun j => C i j ∧ Q (gd i j)) := by
  refine ⟨fun x y P P' hP z => asInt.mono (fun i z => asInt.mono (fun j z => ⟨z.1, hP _ z.2⟩) z) z, _, h, fun F H x y v u Q p rx ry z => ?_⟩
  obtain ⟨i, rfl, z1⟩ := z.inv
  obtain ⟨j, rfl, c, z2⟩ := z1.inv
  cases rx
  cases ry
  exact ⟨i, j, rfl, rfl, c, z2.now p (hg _ _ _)⟩
theorem OpD.ints0 {f : Value → Value → Sem Value} {g : Int → Int → V} {gd : Int → Int → D} (h : OpR X f (rI0 g)) (hg : ∀ F i j, Rep dc F (gd i j) (g i j)) : OpD X dc f (fun x y Q => asInt x fun i => asInt y fun j => Q (gd i j)) := by
  refine ⟨fun x y P P' hP z => asInt.mono (fun i z => asInt.mono (fun j z => hP _ z) z) z, _, h, fun F H x y v u Q p rx ry z => ?_⟩
  obtain ⟨i, rfl, z1⟩ := z.inv
  obtain ⟨j, rfl, z2⟩ := z1.inv
  cases rx
  cases ry
  exact ⟨i, j, rfl, rfl, z2.now p (hg _ _ _)⟩
def d2 (g : D → D → (D → Prop) → Prop) (da db : DT) : DT := fun ρ Q => da ρ fun x => db ρ fun y => g x y Q
theorem d2_mono {g : D → D → (D → Prop) → Prop} {da db : DT} (mg : ∀ x y P P', (∀ z, P z → P' z) → g x y P → g x y P') (ma : ∀ ρ P P', (∀ x, P x → P' x) → da ρ P → da ρ P') (mb : ∀ ρ P P', (∀ x, P x → P' x) → db ρ P → db ρ P') :
    ∀ ρ P P', (∀ x, P x → P' x) → d2 g da db ρ P → d2 g da db ρ P' := fun ρ P P' hP h => ma _ _ _ (fun x h => mb _ _ _ (fun y h => mg _ _ _ _ hP h) h) h
theorem de_op {op : Operator} {g : D → D → (D → Prop) → Prop} {a b : Expr} {da db : DT} {pos : Pos} (ho : OpD X dc (binaryOp op) g) (ha : DE X dc a da) (hb : DE X dc b db) : DE X dc (.BinOp a op b pos) (d2 g da db) := by
  obtain ⟨mg, r, o, q⟩ := ho
  have ma := ha.mono
  have mb := hb.mono
  obtain ⟨ta, pa, ra⟩ := ha.get
  obtain ⟨tb, pb, rb⟩ := hb.get
  refine ⟨d2_mono mg ma mb, _, pe_op o pa pb, fun ρ σ F H Q p s h => ?_⟩
  refine ra p s h fun x v F1 H1 h e1 r1 => rb e1.pre (s.mono e1.fsub) h fun y u F2 H2 h e2 r2 => ?_
  exact q F2 H2 x y v u Q e2.pre (e2.rep r1) r2 (mg _ _ _ _ (fun z hz => hz.on p (e1.trans p e2)) h)
theorem de_cmp {op : CmpOp} {g : D → D → (D → Prop) → Prop} {a b : Expr} {da db : DT} {pos : Pos} (ho : OpD X dc (compareOp op) g) (ha : DE X dc a da) (hb : DE X dc b db) (hm : behindInMarks op b = false) : DE X dc (.Compare a [op] [b] pos) (d2 g da db) := by
  obtain ⟨mg, r, o, q⟩ := ho
  have ma := ha.mono
  have mb := hb.mono
  obtain ⟨ta, pa, ra⟩ := ha.get
  obtain ⟨tb, pb, rb⟩ := hb.get
  refine ⟨d2_mono mg ma mb, _, pe_cmpR o pa pb hm, fun ρ σ F H Q p s h => ?_⟩
  refine ra p s h fun x v F1 H1 h e1 r1 => rb e1.pre (s.mono e1.fsub) h fun y u F2 H2 h e2 r2 => ?_
  exact q F2 H2 x y v u Q e2.pre (e2.rep r1) r2 (mg _ _ _ _ (fun z hz => hz.on p (e1.trans p e2)) h)
/-- a comparison, a value that is True or False, as a test -/
def dB (d : DT) : DTB := fun ρ Q => d ρ fun x => asBl x Q
theorem dB_mono {d : DT} (m : ∀ ρ P P', (∀ x, P x → P' x) → d ρ P → d ρ P') : ∀ ρ P P', (∀ x, P x → P' x) → dB d ρ P → dB d ρ P' := fun ρ P P' hP h => m _ _ _ (fun x h => asBl.mono hP h) h
theorem dc_cmp {op : CmpOp} {g : D → D → (D → Prop) → Prop} {a b : Expr} {da db : DT} {pos : Pos} (ho : OpD X dc (compareOp op) g) (ha : DE X dc a da) (hb : DE X dc b db) (hm : behindInMarks op b = false) : DC X dc (.Compare a [op] [b] pos) (dB (d2 g da db)) := by
  obtain ⟨mg, r, o, q⟩ := ho
  have ma := ha.mono
  have mb := hb.mono
  obtain ⟨ta, pa, ra⟩ := ha.get
  obtain ⟨tb, pb, rb⟩ := hb.get
  refine ⟨dB_mono (d2_mono mg ma mb), _, pt_cmpR o pa pb hm, fun ρ σ F H Q p s h => ?_⟩
  refine ra p s h fun x v F1 H1 h e1 r1 => rb e1.pre (s.mono e1.fsub) h fun y u F2 H2 h e2 r2 => ?_
  refine q F2 H2 x y v u _ e2.pre (e2.rep r1) r2 (mg _ _ _ _ (fun z hz w F3 H3 e3 r3 => ?_) h)
  obtain ⟨b, rfl, hz⟩ := hz.inv
  cases r3
  exact ⟨b, rfl, hz _ _ ((e1.trans p e2).trans p e3)⟩
theorem dc_val {e : Expr} {d : DT} (h : DE X dc e d) (he : ∀ whole, isTrue e X.env whole = (do let v ← whole; standAt e.pos; holding [v] (truthy v)) := by intro _; rfl) : DC X dc e (dB d) := by
  have m := h.mono
  obtain ⟨t, pt, rt⟩ := h.get
  refine ⟨dB_mono m, _, pt_val pt he, fun ρ σ F H Q p s h => ?_⟩
  refine rt p s h fun x v F1 H1 hz e1 r1 => ?_
  obtain ⟨b, rfl, hz⟩ := hz.inv
  cases r1
  exact ⟨b, rfl, hz _ _ e1⟩
/-! and, or, not -/
def dAnd (t u : DTB) : DTB := fun ρ Q => t ρ fun c => if c = true then u ρ Q else Q false
def dOr (t u : DTB) : DTB := fun ρ Q => t ρ fun c => if c = true then Q true else u ρ Q
def dNot (t : DTB) : DTB := fun ρ Q => t ρ fun c => Q (!c)
variable {a b : Expr} {pos : Pos} {rest : List Expr} {ta tb : DTB} {da db : DT}
theorem dw_and1 (ha : DC X dc a ta) : DW X dc (.BoolOp .And [a] pos) ta := ⟨ha.mono, let ⟨t, p, r⟩ := ha.run; ⟨t, pw_and1 p, r⟩⟩
theorem dw_or1 (ha : DC X dc a ta) : DW X dc (.BoolOp .Or [a] pos) ta := ⟨ha.mono, let ⟨t, p, r⟩ := ha.run; ⟨t, pw_or1 p, r⟩⟩
theorem dw_and (ha : DC X dc a ta) (hb : DW X dc (.BoolOp .And (b :: rest) pos) tb) : DW X dc (.BoolOp .And (a :: b :: rest) pos) (dAnd ta tb) := by
  have ma := ha.mono
  have mb := hb.mono
  obtain ⟨t1, p1, r1⟩ := ha.get
  obtain ⟨t2, p2, r2⟩ := hb.get
  refine ⟨fun ρ P P' hP h => ma _ _ _ (fun c h => ?_) h, _, pw_and p1 p2, fun ρ σ F H Q p s h => r1 p s h fun c F1 H1 h e1 => ?_⟩
  · cases c with
    | true => exact iteT (mb _ _ _ hP (by simpa using h))
    | false => exact iteF (hP _ (by simpa using h))
  · cases c with
    | true =>
      have h2 : tb ρ (KB dc F H Q) := by simpa using h
      exact iteT (r2 e1.pre (s.mono e1.fsub) h2 fun c F2 H2 h e2 => h _ _ (e1.trans p e2))
    | false => exact iteF ((show KB dc F H Q false by simpa using h) _ _ e1)
theorem dw_or (ha : DC X dc a ta) (hb : DW X dc (.BoolOp .Or (b :: rest) pos) tb) : DW X dc (.BoolOp .Or (a :: b :: rest) pos) (dOr ta tb) := by
  have ma := ha.mono
  have mb := hb.mono
  obtain ⟨t1, p1, r1⟩ := ha.get
  obtain ⟨t2, p2, r2⟩ := hb.get
  refine ⟨fun ρ P P' hP h => ma _ _ _ (fun c h => ?_) h, _, pw_or p1 p2, fun ρ σ F H Q p s h => r1 p s h fun c F1 H1 h e1 => ?_⟩
  · cases c with
    | true => exact iteT (hP _ (by simpa using h))
    | false => exact iteF (mb _ _ _ hP (by simpa using h))
  · cases c with
    | true => exact iteT ((show KB dc F H Q true by simpa using h) _ _ e1)
    | false =>
      have h2 : tb ρ (KB dc F H Q) := by simpa using h
      exact iteF (r2 e1.pre (s.mono e1.fsub) h2 fun c F2 H2 h e2 => h _ _ (e1.trans p e2))
theorem dc_not (ha : DC X dc a ta) : DC X dc (.UnaryOp .Not a pos) (dNot ta) := by
  have ma := ha.mono
  obtain ⟨t1, p1, r1⟩ := ha.get
  exact ⟨fun ρ P P' hP h => ma _ _ _ (fun c h => hP _ h) h, _, pt_not p1, fun ρ σ F H Q p s h => r1 p s h fun c F1 H1 h e1 => h _ _ e1⟩
def dAndV (ta tb : DT) : DT := fun ρ Q => ta ρ fun x => asBl x fun c => if c = true then tb ρ Q else Q (.bl false)
def dOrV (ta tb : DT) : DT := fun ρ Q => ta ρ fun x => asBl x fun c => if c = true then Q (.bl true) else tb ρ Q
def dNotV (ta : DT) : DT := fun ρ Q => ta ρ fun x => asBl x fun c => Q (.bl (!c))
theorem de_one {op} (h : DE X dc a da) : DE X dc (.BoolOp op [a] pos) da := ⟨h.mono, let ⟨t, p, r⟩ := h.run; ⟨t, pe_one p, r⟩⟩
theorem de_and (ha : DE X dc a da) (hb : DE X dc (.BoolOp .And (b :: rest) pos) db) : DE X dc (.BoolOp .And (a :: b :: rest) pos) (dAndV da db) := by
  have ma := ha.mono
  have mb := hb.mono
  obtain ⟨t1, p1, r1⟩ := ha.get
  obtain ⟨t2, p2, r2⟩ := hb.get
  refine ⟨fun ρ P P' hP h => ma _ _ _ (fun x h => asBl.mono (fun c h => ?_) h) h, _, pe_and p1 p2, fun ρ σ F H Q p s h => r1 p s h fun x v F1 H1 h e1 q1 => ?_⟩
  · cases c with
    | true => exact iteT (mb _ _ _ hP (by simpa using h))
    | false => exact iteF (hP _ (by simpa using h))
  · obtain ⟨c, rfl, h1⟩ := h.inv
    clear h
    cases q1
    cases c with
    | true =>
      have h2 : db ρ (KV' dc F H Q) := by simpa using h1
      exact ⟨true, rfl, iteT (r2 e1.pre (s.mono e1.fsub) h2 fun c u F2 H2 h e2 q2 => h _ _ _ (e1.trans p e2) q2)⟩
    | false => exact ⟨false, rfl, iteF ((show KV' dc F H Q (.bl false) by simpa using h1) _ _ _ e1 (.bl _))⟩
theorem de_orV (ha : DE X dc a da) (hb : DE X dc (.BoolOp .Or (b :: rest) pos) db) : DE X dc (.BoolOp .Or (a :: b :: rest) pos) (dOrV da db) := by
  have ma := ha.mono
  have mb := hb.mono
  obtain ⟨t1, p1, r1⟩ := ha.get
  obtain ⟨t2, p2, r2⟩ := hb.get
  refine ⟨fun ρ P P' hP h => ma _ _ _ (fun x h => asBl.mono (fun c h => ?_) h) h, _, pe_or p1 p2, fun ρ σ F H Q p s h => r1 p s h fun x v F1 H1 h e1 q1 => ?_⟩
  · cases c with
    | true => exact iteT (hP _ (by simpa using h))
    | false => exact iteF (mb _ _ _ hP (by simpa using h))
  · obtain ⟨c, rfl, h1⟩ := h.inv
    clear h
    cases q1
    cases c with
    | true => exact ⟨true, rfl, iteT ((show KV' dc F H Q (.bl true) by simpa using h1) _ _ _ e1 (.bl _))⟩
    | false =>
      have h2 : db ρ (KV' dc F H Q) := by simpa using h1
      exact ⟨false, rfl, iteF (r2 e1.pre (s.mono e1.fsub) h2 fun c u F2 H2 h e2 q2 => h _ _ _ (e1.trans p e2) q2)⟩
theorem de_not (ha : DE X dc a da) : DE X dc (.UnaryOp .Not a pos) (dNotV da) := by
  have ma := ha.mono
  obtain ⟨t1, p1, r1⟩ := ha.get
  refine ⟨fun ρ P P' hP h => ma _ _ _ (fun x h => asBl.mono (fun c h => hP _ h) h) h, _, pe_not p1, fun ρ σ F H Q p s h => r1 p s h fun x v F1 H1 h e1 q1 => ?_⟩
  obtain ⟨c, rfl, h⟩ := h.inv
  cases q1
  exact ⟨c, rfl, h _ _ _ e1 (.bl _)⟩
def dIf (t : DTB) (u w : DT) : DT := fun ρ Q => t ρ fun c => if c = true then u ρ Q else w ρ Q
theorem de_if {c : Expr} {tc : DTB} (hc : DC X dc c tc) (ha : DE X dc a da) (hb : DE X dc b db) : DE X dc (.IfExp c a b pos) (dIf tc da db) := by
  have mc := hc.mono
  have ma := ha.mono
  have mb := hb.mono
  obtain ⟨t0, p0, r0⟩ := hc.get
  obtain ⟨t1, p1, r1⟩ := ha.get
  obtain ⟨t2, p2, r2⟩ := hb.get
  refine ⟨fun ρ P P' hP h => mc _ _ _ (fun c h => ?_) h, _, pe_ifExp p0 p1 p2, fun ρ σ F H Q p s h => r0 p s h fun c F1 H1 h e1 => ?_⟩
  · cases c with
    | true => exact iteT (ma _ _ _ hP (by simpa using h))
    | false => exact iteF (mb _ _ _ hP (by simpa using h))
  · cases c with
    | true =>
      have h2 : da ρ (KV' dc F H Q) := by simpa using h
      exact iteT (r1 e1.pre (s.mono e1.fsub) h2 fun c u F2 H2 h e2 q2 => h _ _ _ (e1.trans p e2) q2)
    | false =>
      have h2 : db ρ (KV' dc F H Q) := by simpa using h
      exact iteF (r2 e1.pre (s.mono e1.fsub) h2 fun c u F2 H2 h e2 q2 => h _ _ _ (e1.trans p e2) q2)
/-! arguments, displays -/
def dNil : DTA := fun _ Q => Q []
def dCons (d : DT) (r : DTA) : DTA := fun ρ Q => d ρ fun x => r ρ fun xs => Q (x :: xs)
theorem da_nil : DA X dc [] dNil := ⟨fun _ _ _ h => h _, _, pa_nil, fun ρ σ F H Q p s h => h _ _ _ (.refl p) .nil⟩
theorem da_cons {e : Expr} {es : List Expr} {d : DT} {r : DTA} (ha : DE X dc e d) (hr : DA X dc es r) (hs : starEach (e :: es) X.env = (false, eval e X.env) :: starEach es X.env := by rfl) : DA X dc (e :: es) (dCons d r) := by
  have ma := ha.mono
  have mb := hr.mono
  obtain ⟨t1, p1, r1⟩ := ha.get
  obtain ⟨t2, p2, r2⟩ := hr.get
  refine ⟨fun ρ P P' hP h => ma _ _ _ (fun x h => mb _ _ _ (fun xs h => hP _ h) h) h, _, pa_cons p1 p2 hs, fun ρ σ F H Q p s h => ?_⟩
  exact r1 p s h fun x v F1 H1 h e1 q1 => r2 e1.pre (s.mono e1.fsub) h fun xs vs F2 H2 h e2 q2 => h _ _ _ (e1.trans p e2) (.cons (e2.rep q1) q2)
def dTup (t : DTA) : DT := fun ρ Q => t ρ fun xs => xs.length ≤ sizeLine ∧ Q (.tup xs)
def dLst (t : DTA) : DT := fun ρ Q => t ρ fun xs => xs.length ≤ sizeLine ∧ Q (.lst xs)
theorem de_tup {es : List Expr} {t : DTA} {x1} (h : DA X dc es t) : DE X dc (.Tuple es x1 pos) (dTup t) := by
  have m := h.mono
  obtain ⟨t1, p1, r1⟩ := h.get
  refine ⟨fun ρ P P' hP h => m _ _ _ (fun x h => ⟨h.1, hP _ h.2⟩) h, _, pe_tup p1, fun ρ σ F H Q p s h => r1 p s h fun xs vs F1 H1 h e1 q1 => ?_⟩
  refine ⟨by rw [← q1.length]; exact h.1, fun a n => ?_⟩
  obtain ⟨e2, q2⟩ := Ext.tup e1.pre n q1
  exact h.2 _ _ _ (e1.trans p e2) q2
theorem de_lst {es : List Expr} {t : DTA} (h : DA X dc es t) : DE X dc (.List es pos) (dLst t) := by
  have m := h.mono
  obtain ⟨t1, p1, r1⟩ := h.get
  refine ⟨fun ρ P P' hP h => m _ _ _ (fun x h => ⟨h.1, hP _ h.2⟩) h, _, pe_lst p1, fun ρ σ F H Q p s h => r1 p s h fun xs vs F1 H1 h e1 q1 => ?_⟩
  refine ⟨by rw [← q1.length]; exact h.1, fun a n => ?_⟩
  obtain ⟨e2, q2⟩ := Ext.lst e1.pre n q1
  exact h.2 _ _ _ (e1.trans p e2) q2
end
/-! ### uniform readings -/
def tD (dc : Option Addr) (d : DT) : TE := fun σ H Q => ∃ ρ F, Pre dc F H ∧ Slots dc F ρ σ ∧ d ρ (KV' dc F H Q)
def tDB (dc : Option Addr) (d : DTB) : TT := fun σ H Q => ∃ ρ F, Pre dc F H ∧ Slots dc F ρ σ ∧ d ρ (KB dc F H Q)
section
variable {X : Cx} {dc : Option Addr}
theorem DE.pe {e : Expr} {d : DT} (h : DE X dc e d) : PE X e (tD dc d) := by
  obtain ⟨_, t, p, r⟩ := h
  exact ⟨fun pins s σ H Q I ⟨ρ, F, hp, hs, hd⟩ => p.run pins s σ H Q I (r ρ σ F H Q hp hs hd)⟩
theorem DC.pt {e : Expr} {d : DTB} (h : DC X dc e d) : PT X e (tDB dc d) := by
  obtain ⟨_, t, p, r⟩ := h
  exact ⟨fun pins s σ H Q I ⟨ρ, F, hp, hs, hd⟩ => p.run pins s σ H Q I (r ρ σ F H Q hp hs hd)⟩
end
/-! ### the slots, many at once -/
def setAll (σ : L2.St) : List Nat → List V → L2.St
  | i :: is, v :: vs => setAll (σ.set i (some v)) is vs
  | _, _ => σ
def setAllD (ρ : DEnv) : List Nat → List D → DEnv
  | i :: is, v :: vs => setAllD (ρ.set i (some v)) is vs
  | _, _ => ρ
def wipeD (ρ : DEnv) : List Nat → DEnv
  | [] => ρ
  | v :: vs => (wipeD ρ vs).set v none
theorem setAll_length : ∀ (is : List Nat) (vs : List V) (σ : L2.St), (setAll σ is vs).length = σ.length
  | [], _, _ => rfl
  | _ :: _, [], _ => rfl
  | i :: is, v :: vs, σ => by unfold setAll; rw [setAll_length, List.length_set]
theorem setAllD_length : ∀ (is : List Nat) (vs : List D) (σ : DEnv), (setAllD σ is vs).length = σ.length
  | [], _, _ => rfl
  | _ :: _, [], _ => rfl
  | i :: is, v :: vs, σ => by unfold setAllD; rw [setAllD_length, List.length_set]
theorem wipeD_length : ∀ (vs : List Nat) (ρ : DEnv), (wipeD ρ vs).length = ρ.length
  | [], _ => rfl
  | v :: vs, ρ => by unfold wipeD; rw [List.length_set, wipeD_length]
theorem Slots.set1 {dc : Option Addr} {F : Hp} {ρ : DEnv} {σ : L2.St} {x : D} {v : V} {i : Nat} (s : Slots dc F ρ σ) (r : Rep dc F x v) : Slots dc F (ρ.set i (some x)) (σ.set i (some v)) := by
  refine ⟨by rw [List.length_set, List.length_set]; exact s.1, fun j y e => ?_⟩
  by_cases hj : i = j
  · subst hj
    have hl : i < ρ.length := by
      have := (List.getElem?_eq_some_iff.mp e).1
      rwa [List.length_set] at this
    rw [List.getElem?_set_self hl] at e
    cases e
    exact ⟨v, List.getElem?_set_self (by rw [← s.1]; exact hl), r⟩
  · rw [List.getElem?_set_ne hj] at e ⊢
    exact s.2 j y e
theorem Slots.setAll {dc : Option Addr} {F : Hp} : ∀ (is : List Nat) {ρ : DEnv} {σ : L2.St} {xs : List D} {vs : List V}, Slots dc F ρ σ → Reps dc F xs vs → Slots dc F (setAllD ρ is xs) (setAll σ is vs)
  | [], _, _, _, _, s, _ => s
  | _ :: _, _, _, _, _, s, .nil => s
  | i :: is, _, _, _, _, s, .cons r t => by
    unfold setAllD KP.setAll
    exact Slots.setAll is (s.set1 r) t
theorem wipeD_some {ρ : DEnv} {i : Nat} {x : D} : ∀ {vs : List Nat}, (wipeD ρ vs)[i]? = some (some x) → ρ[i]? = some (some x) ∧ i ∉ vs
  | [], h => ⟨h, by simp⟩
  | v :: vs, h => by
    unfold wipeD at h
    by_cases hi : v = i
    · subst hi
      by_cases hv : v < (wipeD ρ vs).length
      · rw [List.getElem?_set_self hv] at h; cases h
      · rw [List.getElem?_eq_none (by simpa using hv)] at h; cases h
    · rw [List.getElem?_set_ne hi] at h
      obtain ⟨h1, h2⟩ := wipeD_some h
      exact ⟨h1, by simp only [List.mem_cons, not_or]; exact ⟨fun e => hi e.symm, h2⟩⟩
theorem Slots.wipe {dc : Option Addr} {F : Hp} {ρ : DEnv} {σ : L2.St} (s : Slots dc F ρ σ) (vs : List Nat) : Slots dc F (wipeD ρ vs) (L2.wipe σ vs) := by
  refine ⟨by rw [wipeD_length, wipe_length]; exact s.1, fun i x e => ?_⟩
  obtain ⟨h1, h2⟩ := wipeD_some e
  obtain ⟨v, h3, r⟩ := s.2 i x h1
  exact ⟨v, by rw [wipe_out h2]; exact h3, r⟩
theorem wipe_in {σ : L2.St} {i : Nat} : ∀ {vs : List Nat}, i ∈ vs → i < σ.length → (L2.wipe σ vs)[i]? = some none
  | [], h, _ => by cases h
  | v :: vs, h, hl => by
    unfold L2.wipe
    by_cases hv : v = i
    · subst hv
      exact List.getElem?_set_self (by rw [wipe_length]; exact hl)
    · rw [List.getElem?_set_ne hv]
      exact wipe_in ((List.mem_cons.mp h).resolve_left fun e => hv e.symm) hl
theorem wipe_ext {σ σ' : L2.St} {vs : List Nat} (hl : σ'.length = σ.length) (h : ∀ j, j ∉ vs → σ'[j]? = σ[j]?) : L2.wipe σ' vs = L2.wipe σ vs := by
  refine List.ext_getElem? fun j => ?_
  by_cases hj : j ∈ vs
  · by_cases hk : j < σ.length
    · rw [wipe_in hj hk, wipe_in hj (by rw [hl]; exact hk)]
    · rw [List.getElem?_eq_none (by rw [wipe_length]; omega), List.getElem?_eq_none (by rw [wipe_length]; omega)]
  · rw [wipe_out hj, wipe_out hj]
    exact h j hj
theorem setAll_out {j : Nat} : ∀ (is : List Nat) (vs : List V) (σ : L2.St), j ∉ is → (setAll σ is vs)[j]? = σ[j]?
  | [], _, _, _ => rfl
  | _ :: _, [], _, _ => rfl
  | i :: is, v :: vs, σ, h => by
    unfold setAll
    rw [setAll_out is vs _ fun z => h (List.mem_cons_of_mem _ z), List.getElem?_set_ne fun z => h (by rw [z]; exact List.mem_cons_self)]
theorem wipe_setAll {σ : L2.St} {is vs : List Nat} {ws : List V} (h : ∀ i ∈ is, i ∈ vs) : L2.wipe (setAll (L2.wipe σ vs) is ws) vs = L2.wipe σ vs := by
  have e : L2.wipe (L2.wipe σ vs) vs = L2.wipe σ vs := wipe_ext (wipe_length _ _) fun j hj => wipe_out hj
  refine (wipe_ext (σ := L2.wipe σ vs) (by rw [setAll_length]) fun j hj => ?_).trans e
  exact setAll_out _ _ _ fun z => hj (h j z)
/-! ### targets -/
abbrev DTG := D → (List D → Prop) → Prop
def gD (dc : Option Addr) (is : List Nat) (g : DTG) : TG := fun v σ H Q => ∃ F x, Pre dc F H ∧ Rep dc F x v ∧ g x fun xs => ∀ vs, Reps dc F xs vs → Q (setAll σ is vs) H
structure DG (X : Cx) (dc : Option Addr) (tg : Expr) (is : List Nat) (g : DTG) : Prop where
  mono : ∀ x P P', (∀ xs, P xs → P' xs) → g x P → g x P'
  run : PG X tg (gD dc is g)
def gsD (dc : Option Addr) (is : List Nat) (g : List D → (List D → Prop) → Prop) : TGs := fun vs σ H Q => ∃ F xs, Pre dc F H ∧ Reps dc F xs vs ∧ g xs fun ys => ∀ ws, Reps dc F ys ws → Q (setAll σ is ws) H
structure DGs (X : Cx) (dc : Option Addr) (tgs : List Expr) (is : List Nat) (g : List D → (List D → Prop) → Prop) : Prop where
  mono : ∀ x P P', (∀ xs, P xs → P' xs) → g x P → g x P'
  len : ∀ x P, g x P → g x fun ys => P ys ∧ ys.length = is.length
  run : PGs X tgs (gsD dc is g)
section
variable {X : Cx} {dc : Option Addr}
def gN : DTG := fun x Q => Q [x]
theorem dg_name {i : Nat} {x : Str} {pos : Pos} (hN : X.N.Nodup) (hi : X.N[i]? = some x) (hx : Loc X.env.scope x) (hf : X.fn x = true ∨ X.env.scope.names.lookup x = some .local := by first | exact .inl rfl | exact .inr rfl | assumption) : DG X dc (.Name x pos) [i] gN := by
  refine ⟨fun x P P' h p => h _ p, ⟨fun pins s σ H v u Q I r h => ?_⟩⟩
  obtain ⟨F, x, p, rx, h⟩ := h
  exact (pg_name hN hi hx hf).run pins s σ H v u Q I r (h [v] (.cons rx .nil))
def gsN : List D → (List D → Prop) → Prop := fun xs Q => xs = [] ∧ Q []
def gsC (k : Nat) (g : DTG) (h : List D → (List D → Prop) → Prop) : List D → (List D → Prop) → Prop := fun xs Q => match xs with
  | x :: r => g x fun ys => ys.length = k ∧ h r fun zs => Q (ys ++ zs)
  | [] => False
theorem setAll_app : ∀ (is : List Nat) {js : List Nat} {vs ws : List V} {σ : L2.St}, vs.length = is.length → setAll (setAll σ is vs) js ws = setAll σ (is ++ js) (vs ++ ws)
  | [], js, vs, ws, σ, h => by
    cases vs with
    | nil => rfl
    | cons _ _ => simp at h
  | i :: is, js, vs, ws, σ, h => by
    cases vs with
    | nil => simp at h
    | cons v vs =>
      show setAll (setAll (σ.set i (some v)) is vs) js ws = setAll (σ.set i (some v)) (is ++ js) (vs ++ ws)
      exact setAll_app is (by simpa using h)
theorem dgs_nil : DGs X dc [] [] gsN := by
  refine ⟨fun x P P' h p => ⟨p.1, h _ p.2⟩, fun x P h => ⟨h.1, h.2, rfl⟩, ⟨fun pins s σ H vs us Q I r h => ?_⟩⟩
  obtain ⟨F, xs, p, rx, rfl, h⟩ := h
  cases rx
  exact pgs_nil.run pins s σ H [] us Q I r ⟨rfl, h [] .nil⟩
theorem dgs_cons {e : Expr} {es : List Expr} {is js : List Nat} {g : DTG} {h : List D → (List D → Prop) → Prop} (h1 : DG X dc e is g) (h2 : DGs X dc es js h)
    (hs : (assignEach (e :: es) X.env).map (·.2) = assign e X.env :: (assignEach es X.env).map (·.2) := by rfl) : DGs X dc (e :: es) (is ++ js) (gsC is.length g h) := by
  refine ⟨fun x P P' hP p => ?_, fun x P p => ?_, ⟨fun pins s σ H vs us Q I r hq => ?_⟩⟩
  · cases x with
    | nil => exact p
    | cons x r => exact h1.mono _ _ _ (fun ys q => ⟨q.1, h2.mono _ _ _ (fun zs q => hP _ q) q.2⟩) p
  · cases x with
    | nil => exact p
    | cons x r => exact h1.mono _ _ _ (fun ys q => ⟨q.1, h2.mono _ _ _ (fun zs z => ⟨z.1, by rw [List.length_append, List.length_append, q.1, z.2]⟩) (h2.len _ _ q.2)⟩) p
  · obtain ⟨F, xs, p, rx, hq⟩ := hq
    cases rx with
    | nil => exact hq.elim
    | cons r1 r2 =>
      refine (pgs_cons h1.run h2.run hs).run pins s σ H _ us Q I r ⟨_, _, rfl, F, _, p, r1, h1.mono _ _ _ (fun ys q ws rw' => ⟨F, _, p, r2, h2.mono _ _ _ (fun zs q2 vs2 rv2 => ?_) q.2⟩) hq⟩
      rw [setAll_app is (by rw [← rw'.length, q.1])]
      exact q2 _ (rw'.app rv2)
def gTupD (n : Nat) (g : List D → (List D → Prop) → Prop) : DTG := fun x Q => asTup x fun xs => xs.length = n ∧ g xs Q
theorem dg_tup {es : List Expr} {k : Nat} {pos : Pos} {is : List Nat} {g : List D → (List D → Prop) → Prop} {n : Nat} (hc : X.calm = true) (h : DGs X dc es is g) (hn : (assignEach es X.env).length = n := by rfl) (hst : (assignEach es X.env).findIdx? (·.1) = none := by rfl) :
    DG X dc (.Tuple es k pos) is (gTupD n g) := by
  refine ⟨fun x P P' hP p => asTup.mono (fun xs q => ⟨q.1, h.mono _ _ _ hP q.2⟩) p, ⟨fun pins s σ H v u Q I r hq => ?_⟩⟩
  obtain ⟨F, x, p, rx, hq⟩ := hq
  obtain ⟨xs, rfl, hl, hg⟩ := hq.inv
  obtain ⟨a, vs, rfl, ha, rv⟩ := rx.seqT p
  exact (pg_tup hc h.run hn hst).run pins s σ H _ u Q I r ⟨a, vs, rfl, .of ha, by rw [← rv.length]; exact hl, F, xs, p, rv, hg⟩
end
/-! ### what is walked -/
structure IterOf (dc : Option Addr) (F H : Hp) (J : It) (xs : List D) : Prop where
  goes : ∀ i H', i < xs.length → (∀ a o, F a ≠ none → H a = some o → H' a = some o) → J.go i H'
  stops : ∀ H', (∀ a o, F a ≠ none → H a = some o → H' a = some o) → J.stop xs.length H'
  yields : ∀ i F' H' v H'', i < xs.length → Pre dc F' H' → (∀ a o, F a = some o → F' a = some o) → (∀ a o, F a ≠ none → H a = some o → H' a = some o) → J.yld i H' v H'' → ∃ x F'', xs[i]? = some x ∧ Ext dc F' H' F'' H'' ∧ Rep dc F'' x v
abbrev DTI := DEnv → (List D → Prop) → Prop
def KI (dc : Option Addr) (F H : Hp) (R : It → Hp → Prop) : List D → Prop := fun xs => ∀ J F1 H1, Ext dc F H F1 H1 → IterOf dc F1 H1 J xs → R J H1
def iD (dc : Option Addr) (w : DTI) : TI := fun σ H R => ∃ ρ F, Pre dc F H ∧ Slots dc F ρ σ ∧ w ρ (KI dc F H R)
structure DI (X : Cx) (dc : Option Addr) (tg iter : Expr) (w : DTI) : Prop where
  mono : ∀ ρ P P', (∀ x, P x → P' x) → w ρ P → w ρ P'
  run : PI X tg iter (iD dc w)
theorem Ext.of {dc : Option Addr} {F H F' H' : Hp} (e : Ext dc F H F' H') (p : Pre dc F H) : ∀ a o, F a ≠ none → H a = some o → H' a = some o := fun a o hF h => e.keep a o (fun z => hF (p.dice a z).2) h
section
variable {X : Cx} {dc : Option Addr} {tg : Expr}
theorem pi_or {e : Expr} {t u : TI} (h : PI X tg e t) (g : PI X tg e u) : PI X tg e (fun σ H R => t σ H R ∨ u σ H R) := ⟨fun pins s σ H R I q => q.elim (h.run pins s σ H R I) (g.run pins s σ H R I)⟩
/-- what is walked, told first by some reading -/
theorem DI.mk' {e : Expr} {w : DTI} {t : TI} (m : ∀ ρ P P', (∀ x, P x → P' x) → w ρ P → w ρ P') (h : PI X tg e t) (r : ∀ ρ σ F H R, Pre dc F H → Slots dc F ρ σ → w ρ (KI dc F H R) → t σ H R) : DI X dc tg e w :=
  ⟨m, ⟨fun pins s σ H R I ⟨ρ, F, p, hs, q⟩ => h.run pins s σ H R I (r ρ σ F H R p hs q)⟩⟩
def iSeq (d : DT) : DTI := fun ρ Q => d ρ fun x => asSeq x Q
theorem iter_seq {pins : List (Addr × Obj)} {s : Shared} {σ : L2.St} {F H : Hp} {R : It → Hp → Prop} {x : D} {xs : List D} {v : V} {u : Value} (I : Inv X pins σ H s) (p : Pre dc F H) (r : RelV v u) (rx : Rep dc F x v) (hx : x = .lst xs ∨ x = .tup xs)
    (q : ∀ J, IterOf dc F H J xs → R J H) : wpAny (model X.prog X.w) X.A (pyIter u) (PIE X pins σ tg R) X.xe s := by
  rcases hx with rfl | rfl
  · cases rx with
    | lst ef rr =>
      cases r
      have hh := p.sub _ _ ef
      obtain ⟨its, rv, pl, hz⟩ := I.list (.of hh)
      refine wpAny_pyIter_list pl.isList ?_
      refine ⟨s.heap.objs.size, [s.heap.objs.size], _, _, H, rfl, I.kept (t' := s.toks) fun b o e => Heap.get?_push_of_some _ e, turn_list _ _, ⟨_, Heap.get?_push_size _ rfl, rfl, rfl⟩, fun b hb => ?_, q _ ⟨fun i H' hi k => ?_, fun H' k => ?_, fun i F' H' v H'' hi pr fs k y => ?_⟩⟩
      · have e : b = s.heap.objs.size := by simpa using hb
        subst e
        exact I.fpOk (Nat.le_refl _) (I.hok.fresh (Nat.le_refl _))
      · obtain ⟨v, hv, _⟩ := rr.get (List.getElem?_eq_getElem hi)
        exact ⟨_, v, .of (k _ _ (by rw [ef]; exact fun z => nomatch z) hh), hv⟩
      · exact ⟨_, .of (k _ _ (by rw [ef]; exact fun z => nomatch z) hh), by rw [rr.length]; exact Nat.le_refl _⟩
      · obtain ⟨rfl, y⟩ := y
        have hv := y _ (.of (k _ _ (by rw [ef]; exact fun z => nomatch z) hh))
        obtain ⟨x, hx, rx⟩ := rr.get' hv
        exact ⟨x, F', hx, .refl pr, rx.mono fs⟩
  · cases rx with
    | tup ef rr =>
      cases r
      have hh := p.sub _ _ ef
      obtain ⟨its, rv, pl, hz⟩ := I.tuple (.of hh)
      refine wpAny_pyIter_tuple (show s.heap.IsTuple _ its.toArray from pl) ?_
      refine ⟨s.heap.objs.size, [s.heap.objs.size], _, _, H, rfl, I.kept (t' := s.toks) fun b o e => Heap.get?_push_of_some _ e, turn_tuple _ _, ⟨_, Heap.get?_push_size _ rfl, rfl, rfl⟩, fun b hb => ?_, q _ ⟨fun i H' hi k => ?_, fun H' k => ?_, fun i F' H' v H'' hi pr fs k y => ?_⟩⟩
      · have e : b = s.heap.objs.size := by simpa using hb
        subst e
        exact I.fpOk (Nat.le_refl _) (I.hok.fresh (Nat.le_refl _))
      · obtain ⟨v, hv, _⟩ := rr.get (List.getElem?_eq_getElem hi)
        exact ⟨_, v, .of (k _ _ (by rw [ef]; exact fun z => nomatch z) hh), hv⟩
      · exact ⟨_, .of (k _ _ (by rw [ef]; exact fun z => nomatch z) hh), by rw [rr.length]; exact Nat.le_refl _⟩
      · obtain ⟨rfl, y⟩ := y
        have hv := y _ (.of (k _ _ (by rw [ef]; exact fun z => nomatch z) hh))
        obtain ⟨x, hx, rx⟩ := rr.get' hv
        exact ⟨x, F', hx, .refl pr, rx.mono fs⟩
theorem di_seq {e : Expr} {d : DT} (h : DE X dc e d) : DI X dc tg e (iSeq d) := by
  have m := h.mono
  obtain ⟨t, pt, rt⟩ := h.get
  refine ⟨fun ρ P P' hP q => m _ _ _ (fun x q => asSeq.mono hP q) q, ⟨fun pins s σ H R I ⟨ρ, F, p, hs, q⟩ => ?_⟩⟩
  refine thn (pt.run pins s σ H (fun v H1 => ∃ x xs F1, (x = .lst xs ∨ x = .tup xs) ∧ Ext dc F H F1 H1 ∧ Rep dc F1 x v ∧ KI dc F H R xs) I (rt p hs q fun x v F1 H1 hx e1 r1 => ?_)) fun u s1 ⟨v, H1, I1, r1, x, xs, F1, hx, e1, rx, k⟩ => ?_
  · obtain ⟨xs, e, hq⟩ := hx.inv
    exact ⟨x, xs, F1, e, e1, r1, hq⟩
  · exact iter_seq I1 e1.pre r1 rx hx fun J hJ => k J F1 H1 e1 hJ
/-- range(n), range(m, n) -/
def iRg1 (d : DTA) : DTI := fun ρ Q => d ρ fun xs => match xs with
  | [.int j] => -(2 ^ 62) ≤ j ∧ j < 2 ^ 62 ∧ Q ((List.range j.toNat).map fun (i : Nat) => D.int i)
  | _ => False
def iRg2 (d : DTA) : DTI := fun ρ Q => d ρ fun xs => match xs with
  | [.int i, .int j] => (-(2 ^ 62) ≤ i ∧ i < 2 ^ 62 ∧ -(2 ^ 62) ≤ j ∧ j < 2 ^ 62) ∧ Q ((List.range (j - i).toNat).map fun (k : Nat) => D.int (i + k))
  | _ => False
theorem iter_rg {F H : Hp} {lo : Int} {n : Nat} : IterOf dc F H (Itr lo n) ((List.range n).map fun (k : Nat) => D.int (lo + k)) := by
  have hl : ((List.range n).map fun (k : Nat) => D.int (lo + k)).length = n := by rw [List.length_map, List.length_range]
  refine ⟨fun i H' hi _ => by rw [hl] at hi; exact hi, fun H' _ => by rw [hl]; exact Nat.le_refl _, fun i F' H' v H'' hi pr fs k y => ?_⟩
  rw [hl] at hi
  obtain ⟨rfl, rfl⟩ := y
  exact ⟨.int (lo + i), F', by rw [List.getElem?_map, List.getElem?_range hi]; rfl, .refl pr, .int _⟩
theorem di_range1 {a : Expr} {d : DTA} {p pos : Pos} (hg : Gl X "range") (hm : X.mg "range" = none) (ha : DA X dc [a] d) (hs : starEach [a] X.env = [(false, eval a X.env)] := by rfl) : DI X dc tg (.Call (.Name "range" p) [a] [] pos) (iRg1 d) := by
  have m := ha.mono
  obtain ⟨t, pt, rt⟩ := ha.get
  refine DI.mk' (fun ρ P P' hP q => m _ _ _ (fun xs q => ?_) q) (pi_range1 hg hm pt hs) fun ρ σ F H R p s q => rt p s q fun xs vs F1 H1 h e1 r1 => ?_
  · split at q
    · exact ⟨q.1, q.2.1, hP _ q.2.2⟩
    · exact q.elim
  · split at h
    · obtain ⟨h1, h2, h3⟩ := h
      cases r1 with
      | cons a b =>
        cases a
        cases b
        refine ⟨_, rfl, h1, h2, h3 _ _ _ e1 ?_⟩
        have := iter_rg (dc := dc) (F := F1) (H := H1) (lo := 0) (n := (by assumption : Int).toNat)
        simpa only [Int.zero_add] using this
    · exact h.elim
theorem di_range2 {a b : Expr} {d : DTA} {p pos : Pos} (hg : Gl X "range") (hm : X.mg "range" = none) (ha : DA X dc [a, b] d) (hs : starEach [a, b] X.env = [(false, eval a X.env), (false, eval b X.env)] := by rfl) (hs2 : starEach [b] X.env = [(false, eval b X.env)] := by rfl) :
    DI X dc tg (.Call (.Name "range" p) [a, b] [] pos) (iRg2 d) := by
  have m := ha.mono
  obtain ⟨t, pt, rt⟩ := ha.get
  refine DI.mk' (fun ρ P P' hP q => m _ _ _ (fun xs q => ?_) q) (pi_range2 hg hm pt hs hs2) fun ρ σ F H R p s q => rt p s q fun xs vs F1 H1 h e1 r1 => ?_
  · split at q
    · exact ⟨q.1, hP _ q.2⟩
    · exact q.elim
  · split at h
    · obtain ⟨h1, h3⟩ := h
      cases r1 with
      | cons a b =>
        cases a
        cases b with
        | cons a b =>
          cases a
          cases b
          exact ⟨_, _, rfl, h1, h3 _ _ _ e1 iter_rg⟩
    · exact h.elim
end
/-! ### list comprehensions -/
section
variable {dc : Option Addr} {F H F1 H1 : Hp} {a : Addr} {o : HO}
/-- an object that stands apart is written -/
theorem Ext.put (e : Ext dc F H F1 H1) (n : H a = none) (f : F1 a = none) (hd : dc ≠ some a) : Ext dc F H F1 (upd H1 a o) := by
  refine ⟨⟨fun b u q => ?_, fun d z => ?_⟩, fun b u hb q => ?_, e.fsub, e.fnew⟩
  · have hb : b ≠ a := fun z => by rw [z, f] at q; cases q
    exact (e.pre.sub b u q).keep fun w q => by rw [upd_ne hb]; exact q
  · obtain ⟨⟨x, y, w, h⟩, nf⟩ := e.pre.dice d z
    have hb : d ≠ a := fun q => hd (by rw [z, q])
    exact ⟨⟨x, y, w, by rw [upd_ne hb]; exact h⟩, nf⟩
  · rw [upd_ne (ne_of_none q n)]
    exact e.keep b u hb q
/-- .. and taken in -/
theorem Ext.close (e : Ext dc F H F1 H1) (n : H a = none) (h1 : H1 a = some o) (so : SubO H1 a o) (hd : dc ≠ some a) (f : F1 a = none) : Ext dc F H (upd F1 a o) H1 := by
  refine ⟨⟨fun b u q => ?_, fun d z => ?_⟩, e.keep, fun b u q => ?_, fun b u q => ?_⟩
  · by_cases hb : b = a
    · subst hb
      rw [upd_same] at q
      cases q
      exact so
    · rw [upd_ne hb] at q
      exact e.pre.sub b u q
  · obtain ⟨h, nf⟩ := e.pre.dice d z
    have hb : d ≠ a := fun q => hd (by rw [z, q])
    exact ⟨h, by rw [upd_ne hb]; exact nf⟩
  · have q1 := e.fsub b u q
    have hb : b ≠ a := fun z => by rw [z, f] at q1; cases q1
    rw [upd_ne hb]
    exact q1
  · by_cases hb : b = a
    · subst hb
      exact .inr (.inl n)
    · rw [upd_ne hb] at q
      exact e.fnew b u q
theorem Pre.nd (p : Pre dc F H) (n : H a = none) : dc ≠ some a := fun z => by
  obtain ⟨⟨x, y, w, h⟩, _⟩ := p.dice a z
  rw [n] at h
  cases h
theorem Pre.nf (p : Pre dc F H) (n : H a = none) : F a = none := by
  cases q : F a with
  | none => rfl
  | some u =>
    obtain ⟨w, h⟩ := (p.sub a u q).ex
    rw [n] at h
    cases h
/-- what is not in F and is tracked, but is no tuple, does not come into F -/
theorem Ext.out (e : Ext dc F H F1 H1) (f : F a = none) (h : H a = some o) (nt : ∀ xs, o ≠ .tup xs) : F1 a = none := by
  cases q : F1 a with
  | none => rfl
  | some u =>
    rcases e.fnew a u q with z | z | ⟨xs, z⟩
    · rw [f] at z; cases z
    · rw [h] at z; cases z
    · rw [h] at z; exact absurd (Option.some.inj z) (nt xs)
end
/-- the items one behind the other; each gives some new ones -/
def lcL (f : D → (List D → Prop) → Prop) : List D → (List D → Prop) → Prop
  | [], Q => Q []
  | x :: xs, Q => f x fun a => lcL f xs fun r => Q (a ++ r)
theorem lcL_mono {f : D → (List D → Prop) → Prop} (m : ∀ x P P', (∀ y, P y → P' y) → f x P → f x P') : ∀ (xs : List D) (P P' : List D → Prop), (∀ y, P y → P' y) → lcL f xs P → lcL f xs P'
  | [], _, _, h, p => h _ p
  | x :: xs, _, _, h, p => m _ _ _ (fun a q => lcL_mono m xs _ _ (fun r q => h _ q) q) p
def dYes : DTB := fun _ Q => Q true
structure DTs (X : Cx) (dc : Option Addr) (ifs : List Expr) (d : DTB) : Prop where
  mono : ∀ ρ P P', (∀ x, P x → P' x) → d ρ P → d ρ P'
  run : PTs X ifs (tDB dc d)
def lcF (is : List Nat) (g : DTG) (dt : DTB) (de : DT) (vs : List Nat) (ρ : DEnv) : D → (List D → Prop) → Prop := fun x K => g x fun ys => dt (setAllD (wipeD ρ vs) is ys) fun b => if b = true then de (setAllD (wipeD ρ vs) is ys) fun y => K [y] else K []
def dLc (w : DTI) (is : List Nat) (g : DTG) (dt : DTB) (de : DT) (vs : List Nat) : DT := fun ρ Q => w ρ fun xs => xs.length ≤ sizeLine ∧ lcL (lcF is g dt de vs ρ) xs fun ys => Q (.lst ys)
section
variable {X : Cx} {dc : Option Addr}
theorem dts_nil : DTs X dc [] dYes := ⟨fun ρ P P' h p => h _ p, ⟨fun pins s σ H Q I ⟨ρ, F, p, hs, q⟩ => pts_nil.run pins s σ H Q I (q _ _ (.refl p))⟩⟩
theorem dts_one {c : Expr} {d : DTB} (h : DC X dc c d) : DTs X dc [c] d := ⟨h.mono, pts_one h.pt⟩
theorem lcF_mono {is : List Nat} {g : DTG} {dt : DTB} {de : DT} {vs : List Nat} {ρ : DEnv} (mg : ∀ x P P', (∀ xs, P xs → P' xs) → g x P → g x P') (mt : ∀ ρ P P', (∀ x, P x → P' x) → dt ρ P → dt ρ P') (me : ∀ ρ P P', (∀ x, P x → P' x) → de ρ P → de ρ P') :
    ∀ x P P', (∀ y, P y → P' y) → lcF is g dt de vs ρ x P → lcF is g dt de vs ρ x P' := fun x P P' h p => mg _ _ _ (fun ys p => mt _ _ _ (fun b p => by
  cases b with
  | true => exact iteT (me _ _ _ (fun y q => h _ q) (by simpa using p))
  | false => exact iteF (h _ (by simpa using p))) p) p
theorem lc_read {J : It} {xs : List D} {ρ : DEnv} {σ : L2.St} {F1 H1 : Hp} {Q : VK} {is vs : List Nat} {g : DTG} {dt : DTB} {de : DT} (mg : ∀ x P P', (∀ xs, P xs → P' xs) → g x P → g x P') (mt : ∀ ρ P P', (∀ x, P x → P' x) → dt ρ P → dt ρ P')
    (me : ∀ ρ P P', (∀ x, P x → P' x) → de ρ P → de ρ P') (his : ∀ i ∈ is, i ∈ vs) (p1 : Pre dc F1 H1) (s : Slots dc F1 ρ σ) (it : IterOf dc F1 H1 J xs) (hz : xs.length ≤ sizeLine) (hl : lcL (lcF is g dt de vs ρ) xs fun ys => KV' dc F1 H1 Q (.lst ys)) :
    ∀ L, H1 L = none → ∃ W : Nat → Nat → Hp → Prop, (∃ m, W 0 m (upd H1 L (.lst []))) ∧ ∀ i m H, W i m H →
      (J.stop i H ∧ Q (.ref L) H) ∨ (J.go i H ∧ ∃ Nx : Hp → Prop, (∀ H', Nx H' → ∃ m', m' < m ∧ W (i + 1) m' H') ∧ ∀ x H', J.yld i H x H' → gD dc is g x (L2.wipe σ vs) H' fun σ2 H2 => L2.wipe σ2 vs = L2.wipe σ vs ∧ tDB dc dt σ2 H2 fun b H3 =>
        if b = true then tD dc de σ2 H3 fun y H4 => ∃ acc, H4 L = some (.lst acc) ∧ acc.length < sizeLine ∧ Nx (upd H4 L (.lst (acc ++ [y]))) else Nx H3) := by
  intro L nD
  have fD1 : F1 L = none := p1.nf nD
  have dD : dc ≠ some L := p1.nd nD
  refine lc_it (n := xs.length) (G := fun H' => ∀ a o, F1 a ≠ none → H1 a = some o → H' a = some o) (Y := fun i H' v H'' => ∀ F', Pre dc F' H' → (∀ a o, F1 a = some o → F' a = some o) → ∃ x F'', xs[i]? = some x ∧ Ext dc F' H' F'' H'' ∧ Rep dc F'' x v)
    ⟨fun i H' hi k => it.goes i H' hi k, fun H' k => it.stops H' k, fun i H' v H'' hi k y F' pr fs => it.yields i F' H' v H'' hi pr fs k y⟩
    (fun i H' => ∃ F' acc accD, Ext dc F1 H1 F' H' ∧ F' L = none ∧ H' L = some (.lst acc) ∧ Reps dc F' accD acc ∧ accD.length ≤ i ∧ lcL (lcF is g dt de vs ρ) (xs.drop i) (fun r => KV' dc F1 H1 Q (.lst (accD ++ r))))
    ⟨F1, [], [], (Ext.refl p1).put nD fD1 dD, fD1, upd_same, .nil, Nat.le_refl _, by rw [List.drop_zero]; exact hl⟩
    (fun i H' _ hP => let ⟨F', _, _, e, _⟩ := hP; e.of p1) (fun i v H' H'' hi hP y => ?_) (fun H' hP => ?_)
  · obtain ⟨F', acc, accD, e, fD, hD, ra, la, hl⟩ := hP
    obtain ⟨x, F2, hx, e2, rx⟩ := y F' e.pre e.fsub
    have hxe : x = xs[i] := by rw [List.getElem?_eq_getElem hi] at hx; exact (Option.some.inj hx).symm
    rw [List.drop_eq_getElem_cons hi, ← hxe] at hl
    have nt : ∀ us, HO.lst acc ≠ .tup us := fun us z => nomatch z
    have hD2 : H'' L = some (.lst acc) := e2.keep _ _ dD hD
    have fD2 : F2 L = none := e2.out fD hD nt
    refine ⟨F2, x, e2.pre, rx, mg _ _ _ (fun ys hy ws rw' => ⟨wipe_setAll his, ?_⟩) hl⟩
    have sl : Slots dc F2 (setAllD (wipeD ρ vs) is ys) (setAll (L2.wipe σ vs) is ws) := ((s.mono fun a o q => e2.fsub _ _ (e.fsub _ _ q)).wipe _).setAll is rw'
    refine ⟨_, F2, e2.pre, sl, mt _ _ _ (fun b hb F3 H3 e3 => ?_) hy⟩
    have hD3 : H3 L = some (.lst acc) := e3.keep _ _ dD hD2
    have fD3 : F3 L = none := e3.out fD2 hD2 nt
    cases b with
    | true =>
      refine iteT ⟨_, F3, e3.pre, sl.mono e3.fsub, me _ _ _ (fun yv hyv v F4 H4 e4 r4 => ?_) (by simpa using hb)⟩
      have hD4 : H4 L = some (.lst acc) := e4.keep _ _ dD hD3
      have fD4 : F4 L = none := e4.out fD3 hD3 nt
      refine ⟨acc, hD4, by rw [← ra.length]; omega, F4, acc ++ [v], accD ++ [yv], (((e.trans p1 e2).trans p1 e3).trans p1 e4).put nD fD4 dD, fD4, upd_same, (e4.reps (e3.reps (e2.reps ra))).app (.cons r4 .nil), by rw [List.length_append]; simp; omega, ?_⟩
      have : (fun r => KV' dc F1 H1 Q (D.lst (accD ++ [yv] ++ r))) = fun r => KV' dc F1 H1 Q (D.lst (accD ++ ([yv] ++ r))) := by
        funext r
        rw [List.append_assoc]
      rw [this]
      exact hyv
    | false =>
      refine iteF ⟨F3, acc, accD, (e.trans p1 e2).trans p1 e3, fD3, hD3, e3.reps (e2.reps ra), by omega, ?_⟩
      simpa using hb
  · obtain ⟨F', acc, accD, e, fD, hD, ra, la, hl⟩ := hP
    rw [List.drop_length] at hl
    have hl : KV' dc F1 H1 Q (.lst (accD ++ [])) := hl
    rw [List.append_nil] at hl
    have ec := e.close nD hD hD dD fD
    exact hl _ _ _ ec (.lst upd_same (ra.mono fun a o q => by rw [upd_ne (fun z => by rw [z, fD] at q; cases q)]; exact q))
theorem de_lc {elt tg iter : Expr} {ifs : List Expr} {scope : Scope} {own : List (Str × Nat)} {is : List Nat} {pos : Pos} {w : DTI} {g : DTG} {dt : DTB} {de : DT} (hc : X.calm = true) (hN : X.N.Nodup) (hi : DI X dc tg iter w) (ok : BlkOk X.N X.env.scope scope own)
    (hg : ∀ (s : Shared) (H : Hp) (C : Addr) (cl : List (Str × Addr)) (fp : List Addr), DG (X.blk s H scope (compEnvC scope cl C X.env) fp) dc tg is g) (ht : ∀ (s : Shared) (H : Hp) (C : Addr) (cl : List (Str × Addr)) (fp : List Addr), DTs (X.blk s H scope (compEnvC scope cl C X.env) fp) dc ifs dt)
    (he : ∀ (s : Shared) (H : Hp) (C : Addr) (cl : List (Str × Addr)) (fp : List Addr), DE (X.blk s H scope (compEnvC scope cl C X.env) fp) dc elt de) (his : ∀ i ∈ is, i ∈ own.map (·.2)) (hs : ∀ x, foldedSetIterable iter X.env x = pure x := by intro _; rfl) :
    DE X dc (.ListComp elt [⟨tg, iter, ifs, 0⟩] scope pos) (dLc w is g dt de (own.map (·.2))) := by
  have mw := hi.mono
  have mg := (hg {} (fun _ => none) 0 [] []).mono
  have mt := (ht {} (fun _ => none) 0 [] []).mono
  have me := (he {} (fun _ => none) 0 [] []).mono
  refine ⟨fun ρ P P' hP h => mw _ _ _ (fun xs h => ⟨h.1, lcL_mono (lcF_mono mg mt me) _ _ _ (fun ys q => hP _ q) h.2⟩) h, _, pe_lc hc hN hi.run ok (fun s H C cl fp => (hg s H C cl fp).run) (fun s H C cl fp => (ht s H C cl fp).run) (fun s H C cl fp => (he s H C cl fp).pe) hs, fun ρ σ F H Q p s h => ?_⟩
  refine ⟨ρ, F, p, s, mw _ _ _ (fun xs hx J F1 H1 e1 it => ?_) h⟩
  exact lc_read mg mt me his e1.pre (s.mono e1.fsub) it hx.1 (lcL_mono (lcF_mono mg mt me) _ _ _ (fun ys q => q.on p e1) hx.2)
end
/-! ### paths: what is read without a change -/
def kD : Key → D
  | .inl i => .int i
  | .inr x => .str x
theorem Rep.key {dc : Option Addr} {F : Hp} (k : Key) : Rep dc F (kD k) (kV k) := by cases k <;> constructor
theorem Reps.keys {dc : Option Addr} {F : Hp} : ∀ (ks : List Key), Reps dc F (ks.map kD) (ks.map kV)
  | [] => .nil
  | k :: r => .cons (.key k) (Reps.keys r)
/-- the value at a key -/
def lookD {κ : Type} [DecidableEq κ] : List κ → List D → κ → Option D
  | k :: ks, v :: vs, j => if k = j then some v else lookD ks vs j
  | _, _, _ => none
theorem lookD_rep {dc : Option Addr} {F : Hp} {κ : Type} [DecidableEq κ] : ∀ {ks : List κ} {xs : List D} {vs : List V} {j : κ} {y : D}, Reps dc F xs vs → lookD ks xs j = some y → ∃ v, valV (ks.zip vs) j = some v ∧ Rep dc F y v
  | k :: ks, _, _, j, y, .cons r t, h => by
    unfold lookD at h
    by_cases e : k = j
    · rw [if_pos e] at h
      cases h
      exact ⟨_, valV_pos e, r⟩
    · rw [if_neg e] at h
      obtain ⟨v, h1, h2⟩ := lookD_rep t h
      exact ⟨v, by rw [List.zip_cons_cons, valV_neg e]; exact h1, h2⟩
  | [], _, _, _, _, .cons _ _, h => by cases h
  | [], _, _, _, _, .nil, h => by cases h
  | _ :: _, _, _, _, _, .nil, h => by cases h
theorem lookD_none {dc : Option Addr} {F : Hp} {κ : Type} [DecidableEq κ] : ∀ {ks : List κ} {xs : List D} {vs : List V} {j : κ}, Reps dc F xs vs → lookD ks xs j = none → valV (ks.zip vs) j = none
  | k :: ks, _, _, j, .cons r t, h => by
    unfold lookD at h
    by_cases e : k = j
    · rw [if_pos e] at h
      cases h
    · rw [if_neg e] at h
      rw [List.zip_cons_cons, valV_neg e]
      exact lookD_none t h
  | [], _, _, _, .cons _ _, h => rfl
  | [], _, _, _, .nil, h => rfl
  | _ :: _, _, _, _, .nil, h => rfl
/-- the attribute of an object -/
def fldD : List Str → List D → Str → Option D
  | k :: ks, v :: vs, j => if j == k then some v else fldD ks vs j
  | _, _, _ => none
theorem fldD_rep {dc : Option Addr} {F : Hp} : ∀ {ks : List Str} {xs : List D} {vs : List V} {j : Str} {y : D}, Reps dc F xs vs → fldD ks xs j = some y → ∃ v, (ks.zip vs).lookup j = some v ∧ Rep dc F y v
  | k :: ks, _, _, j, y, .cons r t, h => by
    unfold fldD at h
    by_cases e : (j == k) = true
    · rw [if_pos e] at h
      cases h
      exact ⟨_, by rw [List.zip_cons_cons, List.lookup_cons, e], r⟩
    · rw [if_neg e] at h
      obtain ⟨v, h1, h2⟩ := fldD_rep t h
      exact ⟨v, by rw [List.zip_cons_cons, List.lookup_cons, Bool.eq_false_iff.mpr e]; exact h1, h2⟩
  | [], _, _, _, _, .cons _ _, h => by cases h
  | [], _, _, _, _, .nil, h => by cases h
  | _ :: _, _, _, _, _, .nil, h => by cases h
def onSome (o : Option D) (Q : D → Prop) : Prop := match o with | some y => Q y | none => False
theorem onSome.inv {o : Option D} {Q : D → Prop} (h : onSome o Q) : ∃ y, o = some y ∧ Q y := by cases o <;> first | exact ⟨_, rfl, h⟩ | exact h.elim
theorem onSome.mono {o : Option D} {P Q : D → Prop} (h : ∀ i, P i → Q i) (p : onSome o P) : onSome o Q := by cases o <;> first | exact h _ p | exact p
structure DP (X : Cx) (dc : Option Addr) (e : Expr) (d : DT) : Prop where
  mono : ∀ ρ P P', (∀ x, P x → P' x) → d ρ P → d ρ P'
  run : ∃ t, PE X e t ∧ ∀ ρ σ F K, Slots dc F ρ σ → d ρ K → ∃ x v, K x ∧ Rep dc F x v ∧ ∀ H Q, Pre dc F H → Q v H → t σ H Q
section
variable {X : Cx} {dc : Option Addr} {e : Expr} {d : DT} {pos : Pos}
theorem DP.de (h : DP X dc e d) : DE X dc e d := by
  obtain ⟨m, t, p, r⟩ := h
  refine ⟨m, t, p, fun ρ σ F H Q hp hs hd => ?_⟩
  obtain ⟨x, v, k, rx, g⟩ := r ρ σ F _ hs hd
  exact g H Q hp (k.now hp rx)
theorem dp_var (i : Nat) {x : Str} (hN : X.N[i]? = some x := by rfl) (hv : Vis X.env.scope x := by first | exact Or.inl rfl | exact Or.inr (Or.inl rfl) | exact Or.inr (Or.inr rfl)) (hd : (x == ("__debug__" : Str)) = false := by decide)
    (hcd : (x == ("__classdict__" : Str)) = false := by decide) : DP X dc (.Name x pos) (dVar i) := by
  refine ⟨(de_var (dc := dc) (pos := pos) i hN hv hd hcd).mono, _, pe_var hN hv hd hcd, fun ρ σ F K s h => ?_⟩
  obtain ⟨x, e, h⟩ := dVar_inv h
  obtain ⟨v, e2, r⟩ := s.2 i x e
  exact ⟨x, v, h, r, fun H Q p q => ⟨v, e2, q⟩⟩
/-- o["name"] of a dict with such keys -/
def dKey (k : Str) (d : DT) : DT := fun ρ Q => d ρ fun x => match x with | .dK ks vs => onSome (lookD ks vs (.inr k)) Q | _ => False
theorem dKey_mono {k : Str} (m : ∀ ρ P P', (∀ x, P x → P' x) → d ρ P → d ρ P') : ∀ ρ P P', (∀ x, P x → P' x) → dKey k d ρ P → dKey k d ρ P' := fun ρ P P' hP h => m _ _ _ (fun x q => by
  cases x <;> first | exact onSome.mono hP q | exact q) h
theorem dp_key {k : Str} {j pos2} (hu : X.A.units + 1 < cLine) (h : DP X dc e d) (hs : NoSl (.Constant (.str k) j pos2) := by exact fun _ _ => rfl) : DP X dc (.Subscript e (.Constant (.str k) j pos2) pos) (dKey k d) := by
  obtain ⟨m, t, p, r⟩ := h
  refine ⟨dKey_mono m, _, pe_dget hu p pe_str hs, fun ρ σ F K s h => ?_⟩
  obtain ⟨x, v, hx, rx, g⟩ := r ρ σ F _ s h
  cases x with
  | dK ks vs =>
    obtain ⟨y, hy, q⟩ := onSome.inv hx
    cases rx with
    | dK ef l rr =>
      obtain ⟨w, hw, rw'⟩ := lookD_rep rr hy
      refine ⟨y, w, q, rw', fun H Q p q => g H _ p ⟨_, w, rfl, .inl ⟨_, .inr k, p.sub _ _ ef, rfl, hw.symm⟩, q⟩⟩
  | _ => exact hx.elim
/-- o.f of an instance of the class at C -/
def dFld (C : Addr) (f : Str) (d : DT) : DT := fun ρ Q => d ρ fun x => asIns x fun C' ns vs => C' = C ∧ onSome (fldD ns vs f) Q
theorem dp_fld {C : Addr} {f : Str} (c : Cls X.K C) (n : NoAttr X.K C f) (h : DP X dc e d) (hb : attributeBase e f X.env (eval e X.env) = eval e X.env := by rfl) : DP X dc (.Attribute e f pos) (dFld C f d) := by
  obtain ⟨m, t, p, r⟩ := h
  refine ⟨fun ρ P P' hP h => m _ _ _ (fun x q => asIns.mono (fun C ns vs q => ⟨q.1, onSome.mono hP q.2⟩) q) h, _, pe_fld p hb, fun ρ σ F K s h => ?_⟩
  obtain ⟨x, v, hx, rx, g⟩ := r ρ σ F _ s h
  obtain ⟨C', ns, vs, rfl, rfl, hx2⟩ := hx.inv
  obtain ⟨y, hy, q⟩ := onSome.inv hx2
  cases rx with
  | ins ef l rr =>
    obtain ⟨w, hw, rw'⟩ := fldD_rep rr hy
    exact ⟨y, w, q, rw', fun H Q p q => g H _ p ⟨_, _, _, _, w, rfl, p.sub _ _ ef, c, n, hw, q⟩⟩
end
/-! ### a dict that is walked is locked meanwhile -/
section
variable {dc : Option Addr} {F H F1 H1 : Hp} {d : Addr} {o : Obj} {u : HO}
theorem Pre.lock (p : Pre dc F H) {kvs : List (List Key × V)} (ef : F d = some (.dT kvs)) (hd : H d = some (.dT kvs)) : Pre dc F (upd H d (.frz o (.dT kvs))) := by
  refine ⟨fun b u q => ?_, fun a z => ?_⟩
  · by_cases hb : b = d
    · subst hb
      rw [ef] at q
      cases q
      exact .inr ⟨o, upd_same⟩
    · exact (p.sub b u q).keep fun w h => by rw [upd_ne hb]; exact h
  · obtain ⟨⟨x, y, w, h⟩, n⟩ := p.dice a z
    exact ⟨⟨x, y, w, by rw [upd_ne (ne_of h hd fun z => nomatch z)]; exact h⟩, n⟩
theorem Ext.unlock {kvs : List (List Key × V)} (p : Pre dc F H) (ef : F d = some (.dT kvs)) (hd : H d = some (.dT kvs)) (e : Ext dc F (upd H d (.frz o (.dT kvs))) F1 H1) : Ext dc F H F1 (upd H1 d (.dT kvs)) := by
  have ndd : dc ≠ some d := fun z => by rw [(p.dice d z).2] at ef; cases ef
  refine ⟨⟨fun b u q => ?_, fun a z => ?_⟩, fun b u hb q => ?_, e.fsub, fun b u q => ?_⟩
  · by_cases hb : b = d
    · subst hb
      rw [e.fsub _ _ ef] at q
      cases q
      exact .inl upd_same
    · exact (e.pre.sub b u q).keep fun w h => by rw [upd_ne hb]; exact h
  · obtain ⟨⟨x, y, w, h⟩, n⟩ := e.pre.dice a z
    exact ⟨⟨x, y, w, by rw [upd_ne (fun q => ndd (by rw [← q, z]))]; exact h⟩, n⟩
  · by_cases hbd : b = d
    · subst hbd
      rw [upd_same, ← q, hd]
    · rw [upd_ne hbd]
      exact e.keep b u hb (by rw [upd_ne hbd]; exact q)
  · rcases e.fnew b u q with z | z | ⟨xs, z⟩
    · exact .inl z
    · by_cases hbd : b = d
      · subst hbd
        rw [upd_same] at z
        cases z
      · rw [upd_ne hbd] at z
        exact .inr (.inl z)
    · by_cases hbd : b = d
      · subst hbd
        rw [upd_same] at z
        cases z
      · rw [upd_ne hbd] at z
        exact .inr (.inr ⟨xs, z⟩)
/-- the key tuples -/
def keysD (ks : List (List Key)) : List D := ks.map fun k => .tup (k.map kD)
theorem iter_keysT {ks : List (List Key)} {vs : List V} (ef : F d = some (.dT (ks.zip vs))) (hd : H d = some (.frz o (.dT (ks.zip vs)))) (l : ks.length = vs.length) : IterOf dc F H (Itkt d o (ks.zip vs)) (keysD ks) := by
  have hl : (keysD ks).length = ks.length := List.length_map ..
  have hz : (ks.zip vs).length = ks.length := by rw [List.length_zip]; omega
  have nn : F d ≠ none := by rw [ef]; exact fun z => nomatch z
  refine ⟨fun i H' hi k => ⟨k _ _ nn hd, by omega⟩, fun H' k => ⟨k _ _ nn hd, by omega⟩, fun i F' H' v H'' hi pr fs k y => ?_⟩
  obtain ⟨rfl, kk, w, q, hk, rfl, hq⟩ := y
  have hki : ks[i]? = some kk := by
    have := congrArg (Option.map Prod.fst) hk
    rw [← List.getElem?_map, List.map_fst_zip (by omega)] at this
    exact this
  exact ⟨.tup (kk.map kD), _, by unfold keysD; rw [List.getElem?_map, hki]; rfl, Ext.seen pr hq, .tup upd_same (Reps.keys _)⟩
end
def dLcK (w : DT) (is : List Nat) (g : DTG) (dt : DTB) (de : DT) (vs : List Nat) : DT := fun ρ Q => w ρ fun x => asDT x fun ks _ => ks.length ≤ sizeLine ∧ lcL (lcF is g dt de vs ρ) (keysD ks) fun ys => Q (.lst ys)
section
variable {X : Cx} {dc : Option Addr}
/-- [.. for k in d if ..], d a dict with keys that are tuples -/
theorem de_lcK {elt tg iter : Expr} {ifs : List Expr} {scope : Scope} {own : List (Str × Nat)} {is : List Nat} {pos : Pos} {w : DT} {g : DTG} {dt : DTB} {de : DT} (hc : X.calm = true) (hN : X.N.Nodup) (hi : DP X dc iter w) (ok : BlkOk X.N X.env.scope scope own)
    (hg : ∀ (s : Shared) (H : Hp) (C : Addr) (cl : List (Str × Addr)) (fp : List Addr), DG (X.blk s H scope (compEnvC scope cl C X.env) fp) dc tg is g) (ht : ∀ (s : Shared) (H : Hp) (C : Addr) (cl : List (Str × Addr)) (fp : List Addr), DTs (X.blk s H scope (compEnvC scope cl C X.env) fp) dc ifs dt)
    (he : ∀ (s : Shared) (H : Hp) (C : Addr) (cl : List (Str × Addr)) (fp : List Addr), DE (X.blk s H scope (compEnvC scope cl C X.env) fp) dc elt de) (his : ∀ i ∈ is, i ∈ own.map (·.2)) (hs : ∀ x, foldedSetIterable iter X.env x = pure x := by intro _; rfl) :
    DE X dc (.ListComp elt [⟨tg, iter, ifs, 0⟩] scope pos) (dLcK w is g dt de (own.map (·.2))) := by
  obtain ⟨mw, tw, pw, rw'⟩ := hi
  have mg := (hg {} (fun _ => none) 0 [] []).mono
  have mt := (ht {} (fun _ => none) 0 [] []).mono
  have me := (he {} (fun _ => none) 0 [] []).mono
  have pl := pe_lc hc hN (pi_keys (tg := tg) pw) ok (fun s H C cl fp => (hg s H C cl fp).run) (fun s H C cl fp => (ht s H C cl fp).run) (fun s H C cl fp => (he s H C cl fp).pe) hs (pos := pos)
  refine ⟨fun ρ P P' hP h => mw _ _ _ (fun x h => asDT.mono (fun ks vs h => ⟨h.1, lcL_mono (lcF_mono mg mt me) _ _ _ (fun ys q => hP _ q) h.2⟩) h) h, _, pe_or2 (pe_lock pl) pl, fun ρ σ F H Q p s h => ?_⟩
  obtain ⟨x, v, hx, rx, gt⟩ := rw' ρ σ F _ s h
  obtain ⟨ks, vs, rfl, hz, hl⟩ := hx.inv
  have hl1 : (keysD ks).length ≤ sizeLine := by unfold keysD; rw [List.length_map]; exact hz
  cases rx with
  | @dT a _ _ ws ef l rr =>
    rcases p.sub _ _ ef with hd | ⟨o, hd⟩
    · refine .inl ⟨_, _, hd, trivial, fun od => gt _ _ (p.lock ef hd) ⟨_, od, rfl, .inr ⟨_, upd_same, ?_⟩⟩⟩
      refine lc_read (Q := fun v H' => H' a = some (.frz od (.dT (ks.zip ws))) ∧ Q v (upd H' a (.dT (ks.zip ws)))) mg mt me his (p.lock ef hd) s (iter_keysT ef upd_same l) hl1 (lcL_mono (lcF_mono mg mt me) _ _ _ (fun ys q v F1 H1 e1 r1 => ⟨?_, ?_⟩) hl)
      · exact e1.of (p.lock ef hd) _ _ (by rw [ef]; exact fun z => nomatch z) upd_same
      · exact q _ _ _ (Ext.unlock p ef hd e1) r1
    · refine .inr (gt _ _ p ⟨_, o, rfl, .inr ⟨_, hd, ?_⟩⟩)
      exact lc_read mg mt me his p s (iter_keysT ef hd l) hl1 hl
end
/-! ### operations -/
mutual
def pyD : D → Option PyData
  | .non => some .none
  | .bl b => some (.bool b)
  | .int i => some (.int i)
  | .str x => some (.str x)
  | .lst xs => (pyDs xs).map .list
  | .tup xs => (pyDs xs).map .tuple
  | _ => none
def pyDs : List D → Option (List PyData)
  | [] => some []
  | x :: xs => match pyD x, pyDs xs with
    | some d, some ds => some (d :: ds)
    | _, _ => none
end
mutual
theorem Rep.py {K : PySem.W.Frag} {dc : Option Addr} {F H : Hp} (p : Pre dc F H) : ∀ {x : D} {v : V} {d : PyData}, Rep dc F x v → pyD x = some d → Dp K H v d
  | _, _, _, .non, h => by cases h; exact .non
  | _, _, _, .bl _, h => by cases h; exact .bl _
  | _, _, _, .int _, h => by cases h; exact .int _
  | _, _, _, .str _, h => by cases h; exact .str _
  | _, _, _, .lst e r, h => by
    unfold pyD at h
    obtain ⟨ds, hd, e2⟩ := Option.map_eq_some_iff.mp h
    cases e2
    exact .lst (.of (p.sub _ _ e)) (Reps.py p r hd)
  | _, _, _, .tup e r, h => by
    unfold pyD at h
    obtain ⟨ds, hd, e2⟩ := Option.map_eq_some_iff.mp h
    cases e2
    exact .tup (.of (p.sub _ _ e)) (Reps.py p r hd)
  | _, _, _, .ty _, h => by cases h
  | _, _, _, .raw _, h => by cases h
  | _, _, _, .cell _, h => by cases h
  | _, _, _, .dK _ _ _, h => by cases h
  | _, _, _, .dT _ _ _, h => by cases h
  | _, _, _, .ins _ _ _, h => by cases h
theorem Reps.py {K : PySem.W.Frag} {dc : Option Addr} {F H : Hp} (p : Pre dc F H) : ∀ {x : List D} {v : List V} {d : List PyData}, Reps dc F x v → pyDs x = some d → DpAll K H v d
  | _, _, _, .nil, h => by cases h; exact .nil
  | _, _, _, .cons r t, h => by
    unfold pyDs at h
    split at h
    · cases h
      exact .cons (Rep.py p r (by assumption)) (Reps.py p t (by assumption))
    · cases h
end
def dPy (neg : Bool) (x y : D) (Q : D → Prop) : Prop := match pyD x, pyD y with
  | some d, some e => SeqAt.shaped d = true ∧ SeqAt.shaped e = true ∧ Q (.bl (neg ^^ PyData.eqv d e))
  | _, _ => False
theorem dPy_inv {neg : Bool} {x y : D} {Q : D → Prop} (h : dPy neg x y Q) : ∃ d e, pyD x = some d ∧ pyD y = some e ∧ SeqAt.shaped d = true ∧ SeqAt.shaped e = true ∧ Q (.bl (neg ^^ PyData.eqv d e)) := by
  unfold dPy at h
  split at h
  · exact ⟨_, _, by assumption, by assumption, h⟩
  · exact h.elim
theorem dPy_mono {neg : Bool} {x y : D} {P Q : D → Prop} (hP : ∀ z, P z → Q z) (h : dPy neg x y P) : dPy neg x y Q := by
  obtain ⟨d, e, h1, h2, h3, h4, h5⟩ := dPy_inv h
  unfold dPy
  rw [h1, h2]
  exact ⟨h3, h4, hP _ h5⟩
def dEq (x y : D) (Q : D → Prop) : Prop := match x, y with
  | .int i, .int j => Q (.bl (decide (i = j)))
  | .str i, .str j => Q (.bl (decide (i = j)))
  | .bl i, .bl j => Q (.bl (decide (i = j)))
  | x, y => dPy false x y Q
def dNe (x y : D) (Q : D → Prop) : Prop := match x, y with
  | .int i, .int j => Q (.bl (!decide (i = j)))
  | .str i, .str j => Q (.bl (!decide (i = j)))
  | .bl i, .bl j => Q (.bl (!decide (i = j)))
  | x, y => dPy true x y Q
/-- flat data, and their == -/
def flatD : D → Bool
  | .non => true | .bl _ => true | .int _ => true | .str _ => true | _ => false
def vOf : D → V
  | .non => .non | .bl b => .bl b | .int i => .int i | .str x => .str x | _ => .non
theorem Rep.flat {dc : Option Addr} {F : Hp} {x : D} {v : V} (r : Rep dc F x v) (h : flatD x = true) : v = vOf x ∧ flatV v = true := by
  cases r <;> first | exact ⟨rfl, rfl⟩ | cases h
theorem Reps.flat {dc : Option Addr} {F : Hp} : ∀ {xs : List D} {vs : List V}, Reps dc F xs vs → xs.all flatD = true → vs = xs.map vOf ∧ vs.all flatV = true
  | _, _, .nil, _ => ⟨rfl, rfl⟩
  | _, _, .cons r t, h => by
    rw [List.all_cons, Bool.and_eq_true] at h
    obtain ⟨e1, e2⟩ := r.flat h.1
    obtain ⟨e3, e4⟩ := Reps.flat t h.2
    exact ⟨by rw [List.map_cons, ← e1, ← e3], by rw [List.all_cons, e2, e4]; rfl⟩
def inD (x : D) (ys : List D) : Bool := inV (vOf x) (ys.map vOf)
def dIn (neg : Bool) (x y : D) (Q : D → Prop) : Prop := asSeq y fun ys => flatD x = true ∧ ys.all flatD = true ∧ Q (.bl (neg ^^ inD x ys))
section
variable {X : Cx} {dc : Option Addr}
theorem opd_eq (hu : X.A.units + 64 < cLine) : OpD X dc (compareOp .Eq) dEq := by
  have h1 : OpD X dc (compareOp .Eq) (fun x y Q => dPy false x y Q) := by
    refine ⟨fun x y P P' hP h => dPy_mono hP h, _, op_eqD hu, fun F H x y v u Q p rx ry h => ?_⟩
    obtain ⟨d, e, h1, h2, h3, h4, h5⟩ := dPy_inv h
    exact ⟨d, e, rx.py p h1, ry.py p h2, h3, h4, by simpa using h5.now p (.bl _)⟩
  have h2 : OpD X dc (compareOp .Eq) (fun x y Q => scal (vOf x) (vOf y) = true ∧ flatD x = true ∧ flatD y = true ∧ Q (.bl (decide (vOf x = vOf y)))) := by
    refine ⟨fun x y P P' hP h => ⟨h.1, h.2.1, h.2.2.1, hP _ h.2.2.2⟩, _, op_eq, fun F H x y v u Q p rx ry h => ?_⟩
    obtain ⟨h1, h2, h3, h4⟩ := h
    obtain ⟨rfl, _⟩ := rx.flat h2
    obtain ⟨rfl, _⟩ := ry.flat h3
    exact ⟨h1, h4.now p (.bl _)⟩
  refine (h1.or h2).imp (fun x y P P' hP h => ?_) fun x y Q h => ?_
  · unfold dEq at h ⊢
    split <;> first | exact hP _ h | exact dPy_mono hP (by simpa using h)
  · unfold dEq at h
    split at h
    · exact .inr ⟨rfl, rfl, rfl, by simpa [vOf] using h⟩
    · exact .inr ⟨rfl, rfl, rfl, by simpa [vOf] using h⟩
    · exact .inr ⟨rfl, rfl, rfl, by simpa [vOf] using h⟩
    · exact .inl h
theorem opd_ne (hu : X.A.units + 64 < cLine) : OpD X dc (compareOp .NotEq) dNe := by
  have h1 : OpD X dc (compareOp .NotEq) (fun x y Q => dPy true x y Q) := by
    refine ⟨fun x y P P' hP h => dPy_mono hP h, _, op_neD hu, fun F H x y v u Q p rx ry h => ?_⟩
    obtain ⟨d, e, h1, h2, h3, h4, h5⟩ := dPy_inv h
    exact ⟨d, e, rx.py p h1, ry.py p h2, h3, h4, by simpa using h5.now p (.bl _)⟩
  have h2 : OpD X dc (compareOp .NotEq) (fun x y Q => scal (vOf x) (vOf y) = true ∧ flatD x = true ∧ flatD y = true ∧ Q (.bl (!decide (vOf x = vOf y)))) := by
    refine ⟨fun x y P P' hP h => ⟨h.1, h.2.1, h.2.2.1, hP _ h.2.2.2⟩, _, op_ne, fun F H x y v u Q p rx ry h => ?_⟩
    obtain ⟨h1, h2, h3, h4⟩ := h
    obtain ⟨rfl, _⟩ := rx.flat h2
    obtain ⟨rfl, _⟩ := ry.flat h3
    exact ⟨h1, h4.now p (.bl _)⟩
  refine (h1.or h2).imp (fun x y P P' hP h => ?_) fun x y Q h => ?_
  · unfold dNe at h ⊢
    split <;> first | exact hP _ h | exact dPy_mono hP (by simpa using h)
  · unfold dNe at h
    split at h
    · exact .inr ⟨rfl, rfl, rfl, by simpa [vOf] using h⟩
    · exact .inr ⟨rfl, rfl, rfl, by simpa [vOf] using h⟩
    · exact .inr ⟨rfl, rfl, rfl, by simpa [vOf] using h⟩
    · exact .inl h
theorem opd_in : OpD X dc (compareOp .In) (dIn false) := by
  refine ⟨fun x y P P' hP h => asSeq.mono (fun ys h => ⟨h.1, h.2.1, hP _ h.2.2⟩) h, _, op_in_seq, fun F H x y v u Q p rx ry h => ?_⟩
  obtain ⟨ys, hy, h1, h2, h3⟩ := h.inv
  obtain ⟨a, vs, rfl, hs, rv⟩ := ry.seq p hy (K := X.K)
  obtain ⟨rfl, f1⟩ := rx.flat h1
  obtain ⟨rfl, f2⟩ := rv.flat h2
  exact ⟨a, _, rfl, hs, f1, f2, by simpa [inD] using h3.now p (.bl _)⟩
theorem opd_notin : OpD X dc (compareOp .NotIn) (dIn true) := by
  refine ⟨fun x y P P' hP h => asSeq.mono (fun ys h => ⟨h.1, h.2.1, hP _ h.2.2⟩) h, _, op_notIn_seq, fun F H x y v u Q p rx ry h => ?_⟩
  obtain ⟨ys, hy, h1, h2, h3⟩ := h.inv
  obtain ⟨a, vs, rfl, hs, rv⟩ := ry.seq p hy (K := X.K)
  obtain ⟨rfl, f1⟩ := rx.flat h1
  obtain ⟨rfl, f2⟩ := rv.flat h2
  exact ⟨a, _, rfl, hs, f1, f2, by simpa [inD] using h3.now p (.bl _)⟩
/-! numbers -/
theorem opd_sub : OpD X dc (binaryOp .Sub) (fun x y Q => asInt x fun i => asInt y fun j => Q (.int (i - j))) := .ints0 op_sub fun _ _ _ => .int _
theorem opd_mul : OpD X dc (binaryOp .Mult) (fun x y Q => asInt x fun i => asInt y fun j => CMul i j ∧ Q (.int (i * j))) := .ints op_mul fun _ _ _ => .int _
theorem opd_mod : OpD X dc (binaryOp .Mod) (fun x y Q => asInt x fun i => asInt y fun j => 0 < j ∧ Q (.int (i % j))) := .ints op_mod fun _ _ _ => .int _
theorem opd_gt : OpD X dc (compareOp .Gt) (fun x y Q => asInt x fun i => asInt y fun j => Q (.bl (decide (j < i)))) := .ints0 op_gt fun _ _ _ => .bl _
theorem opd_ge : OpD X dc (compareOp .GtE) (fun x y Q => asInt x fun i => asInt y fun j => Q (.bl (decide (j ≤ i)))) := .ints0 op_ge fun _ _ _ => .bl _
theorem opd_le : OpD X dc (compareOp .LtE) (fun x y Q => asInt x fun i => asInt y fun j => Q (.bl (decide (i ≤ j)))) := .ints0 op_le fun _ _ _ => .bl _
def dLt (x y : D) (Q : D → Prop) : Prop := match x, y with
  | .int i, .int j => Q (.bl (decide (i < j)))
  | .str i, .str j => Q (.bl (decide (i.cps.toList < j.cps.toList)))
  | _, _ => False
theorem opd_lt : OpD X dc (compareOp .Lt) dLt := by
  have h1 : OpD X dc (compareOp .Lt) (fun x y Q => asInt x fun i => asInt y fun j => Q (.bl (decide (i < j)))) := .ints0 op_lt fun _ _ _ => .bl _
  have h2 : OpD X dc (compareOp .Lt) (fun x y Q => asStr x fun i => asStr y fun j => Q (.bl (decide (i.cps.toList < j.cps.toList)))) := by
    refine ⟨fun x y P P' hP h => asStr.mono (fun i h => asStr.mono (fun j h => hP _ h) h) h, _, op_lt_str, fun F H x y v u Q p rx ry h => ?_⟩
    obtain ⟨i, rfl, h1⟩ := h.inv
    obtain ⟨j, rfl, h2⟩ := h1.inv
    cases rx
    cases ry
    exact ⟨i, j, rfl, rfl, h2.now p (.bl _)⟩
  refine (h1.or h2).imp (fun x y P P' hP h => ?_) fun x y Q h => ?_
  · unfold dLt at h ⊢
    split at h <;> first | exact hP _ h | exact False.elim h
  · unfold dLt at h
    split at h
    · exact .inl h
    · exact .inr h
    · exact h.elim
def dAdd (x y : D) (Q : D → Prop) : Prop := match x, y with
  | .int i, .int j => Q (.int (i + j))
  | .str i, .str j => i.length + j.length ≤ sizeLine ∧ Q (.str (i ++ j))
  | .lst a, .lst b => a.length + b.length ≤ sizeLine ∧ Q (.lst (a ++ b))
  | .tup a, .tup b => a.length + b.length ≤ sizeLine ∧ Q (.tup (a ++ b))
  | _, _ => False
theorem opd_add : OpD X dc (binaryOp .Add) dAdd := by
  have h1 : OpD X dc (binaryOp .Add) (fun x y Q => asInt x fun i => asInt y fun j => Q (.int (i + j))) := .ints0 op_add fun _ _ _ => .int _
  have h2 : OpD X dc (binaryOp .Add) (fun x y Q => asStr x fun i => asStr y fun j => i.length + j.length ≤ sizeLine ∧ Q (.str (i ++ j))) := by
    refine ⟨fun x y P P' hP h => asStr.mono (fun i h => asStr.mono (fun j h => ⟨h.1, hP _ h.2⟩) h) h, _, op_add_str, fun F H x y v u Q p rx ry h => ?_⟩
    obtain ⟨i, rfl, h1⟩ := h.inv
    obtain ⟨j, rfl, h2⟩ := h1.inv
    cases rx
    cases ry
    exact ⟨i, j, rfl, rfl, h2.1, h2.2.now p (.str _)⟩
  have h3 : OpD X dc (binaryOp .Add) (fun x y Q => asLst x fun i => asLst y fun j => i.length + j.length ≤ sizeLine ∧ Q (.lst (i ++ j))) := by
    refine ⟨fun x y P P' hP h => asLst.mono (fun i h => asLst.mono (fun j h => ⟨h.1, hP _ h.2⟩) h) h, _, op_cat, fun F H x y v u Q p rx ry h => ?_⟩
    obtain ⟨i, rfl, h1⟩ := h.inv
    obtain ⟨j, rfl, h2⟩ := h1.inv
    obtain ⟨a, vs, rfl, ha, rv⟩ := rx.seqL (K := X.K) p
    obtain ⟨b, us, rfl, hb, ru⟩ := ry.seqL (K := X.K) p
    refine ⟨a, b, vs, us, rfl, rfl, ha, hb, by rw [← rv.length, ← ru.length]; exact h2.1, fun q nq => ?_⟩
    obtain ⟨e, r⟩ := Ext.lst p nq (rv.app ru)
    exact h2.2 _ _ _ e r
  have h4 : OpD X dc (binaryOp .Add) (fun x y Q => asTup x fun i => asTup y fun j => i.length + j.length ≤ sizeLine ∧ Q (.tup (i ++ j))) := by
    refine ⟨fun x y P P' hP h => asTup.mono (fun i h => asTup.mono (fun j h => ⟨h.1, hP _ h.2⟩) h) h, _, op_catA, fun F H x y v u Q p rx ry h => ?_⟩
    obtain ⟨i, rfl, h1⟩ := h.inv
    obtain ⟨j, rfl, h2⟩ := h1.inv
    cases rx with
    | @tup a _ vs ea rv =>
    cases ry with
    | @tup b _ us eb ru =>
    refine ⟨a, b, vs, us, rfl, rfl, .of (p.sub _ _ ea), .of (p.sub _ _ eb), by rw [← rv.length, ← ru.length]; exact h2.1, fun z => ?_, fun z1 z => ?_, fun _ _ q nq => ?_⟩
    · subst z
      obtain rfl := rv.nil_iff
      exact h2.2.now p (by rw [List.nil_append]; exact .tup eb ru)
    · subst z
      obtain rfl := ru.nil_iff
      exact h2.2.now p (by rw [List.append_nil]; exact .tup ea rv)
    · obtain ⟨e, r⟩ := Ext.tup p nq (rv.app ru)
      exact h2.2 _ _ _ e r
  refine ((h1.or h2).or (h3.or h4)).imp (fun x y P P' hP h => ?_) fun x y Q h => ?_
  · unfold dAdd at h ⊢
    split at h <;> first | exact hP _ h | exact ⟨h.1, hP _ h.2⟩ | exact False.elim h
  · unfold dAdd at h
    split at h
    · exact .inl (.inl h)
    · exact .inl (.inr h)
    · exact .inr (.inl h)
    · exact .inr (.inr h)
    · exact h.elim
end
/-! ### subscripts -/
theorem Reps.atI {dc : Option Addr} {F : Hp} {xs : List D} {vs : List V} {i : Int} {x : D} (r : Reps dc F xs vs) (h : atI xs i = some x) : ∃ v, L2.atI vs i = some v ∧ Rep dc F x v := by
  unfold L2.atI at h ⊢
  rw [← r.length]
  cases e : ixN xs.length i with
  | none => rw [e] at h; cases h
  | some j =>
    rw [e] at h
    exact r.get h
def keyOf : D → Option Key
  | .int i => some (.inl i)
  | .str x => some (.inr x)
  | _ => none
def keysOf : List D → Option (List Key)
  | [] => some []
  | x :: xs => match keyOf x, keysOf xs with
    | some k, some ks => some (k :: ks)
    | _, _ => none
def keyT : D → Option (List Key)
  | .tup xs => keysOf xs
  | _ => none
theorem Rep.keyOf {dc : Option Addr} {F : Hp} {x : D} {v : V} {k : Key} (r : Rep dc F x v) (h : keyOf x = some k) : v = kV k := by
  cases r <;> first | (cases h; rfl) | cases h
theorem Reps.keysOf {dc : Option Addr} {F : Hp} : ∀ {x : List D} {v : List V} {k : List Key}, Reps dc F x v → keysOf x = some k → v = k.map kV
  | _, _, _, .nil, h => by cases h; rfl
  | _, _, _, .cons r t, h => by
    unfold KP.keysOf at h
    split at h
    · cases h
      rw [List.map_cons, ← r.keyOf (by assumption), ← Reps.keysOf t (by assumption)]
    · cases h
theorem keysOf_map : ∀ (k : List Key), keysOf (k.map kD) = some k
  | [] => rfl
  | k :: r => by
    unfold keysOf
    rw [List.map_cons]
    dsimp only
    rw [keysOf_map r]
    cases k <;> rfl
/-- what the dict x says at the key y -/
def dGetO (x y : D) (Q : Option D → Prop) : Prop := match x with
  | .dK ks vs => match keyOf y with | some k => Q (lookD ks vs k) | none => False
  | .dT ks vs => match keyT y with | some k => Q (lookD ks vs k) | none => False
  | _ => False
theorem dGetO_mono {x y : D} {P Q : Option D → Prop} (h : ∀ o, P o → Q o) (p : dGetO x y P) : dGetO x y Q := by
  unfold dGetO at p ⊢
  split at p
  · split at p <;> first | exact h _ p | exact False.elim p
  · split at p <;> first | exact h _ p | exact False.elim p
  · exact False.elim p
theorem dGetO_read {dc : Option Addr} {F H : Hp} {x y : D} {v u : V} {Q : Option D → Prop} (p : Pre dc F H) (rx : Rep dc F x v) (ry : Rep dc F y u) (h : dGetO x y Q) :
    ∃ a o ov, v = .ref a ∧ DGet H a u ov ∧ IsD H a ∧ Q o ∧ (∀ z, o = some z → ∃ w, ov = some w ∧ Rep dc F z w) ∧ (o = none → ov = none) := by
  unfold dGetO at h
  split at h
  · rename_i ks xs
    split at h
    · rename_i k hk
      cases rx with
      | @dK a _ _ ws ef l rr =>
        have hu := ry.keyOf hk
        subst hu
        have hr := p.sub _ _ ef
        refine ⟨a, _, valV (ks.zip ws) k, rfl, .inl ⟨_, k, hr, rfl, rfl⟩, .inl ⟨_, hr⟩, h, fun z e => ?_, fun e => lookD_none rr e⟩
        exact lookD_rep rr e
    · exact h.elim
  · rename_i ks xs
    split at h
    · rename_i k hk
      cases rx with
      | @dT a _ _ ws ef l rr =>
        have hr := p.sub _ _ ef
        cases ry with
        | @tup b ys us eb rb =>
          have hu := Reps.keysOf rb hk
          subst hu
          refine ⟨a, _, valV (ks.zip ws) k, rfl, .inr ⟨_, k, b, hr, rfl, p.sub _ _ eb, rfl⟩, .inr ⟨_, hr⟩, h, fun z e => ?_, fun e => lookD_none rr e⟩
          exact lookD_rep rr e
        | _ => cases hk
    · exact h.elim
  · exact h.elim
def dSub (x y : D) (Q : D → Prop) : Prop := match x with
  | .lst xs => asInt y fun i => onSome (atI xs i) Q
  | .tup xs => asInt y fun i => onSome (atI xs i) Q
  | .str z => asInt y fun i => ∃ c, z.length ≤ sizeLine ∧ atI z.cps.toList i = some c ∧ Q (.str ⟨#[c]⟩)
  | x => dGetO x y fun o => onSome o Q
section
variable {X : Cx} {dc : Option Addr} {a b : Expr} {da db : DT} {pos : Pos}
theorem dSub_mono : ∀ x y (P P' : D → Prop), (∀ z, P z → P' z) → dSub x y P → dSub x y P' := fun x y P P' hP h => by
  unfold dSub at h ⊢
  split at h
  · exact asInt.mono (fun i h => onSome.mono hP h) h
  · exact asInt.mono (fun i h => onSome.mono hP h) h
  · exact asInt.mono (fun i ⟨c, h1, h2, h3⟩ => ⟨c, h1, h2, hP _ h3⟩) h
  · exact dGetO_mono (fun o h => onSome.mono hP h) h
theorem de_sub (hu : X.A.units + 1 < cLine) (ha : DE X dc a da) (hb : DE X dc b db) (hs : PlainIx b := by exact fun _ _ => rfl) : DE X dc (.Subscript a b pos) (d2 dSub da db) := by
  have ma := ha.mono
  have mb := hb.mono
  obtain ⟨ta, pa, ra⟩ := ha.get
  obtain ⟨tb, pb, rb⟩ := hb.get
  have p1 := pe_ix (pos := pos) (ix_seq (X := X)) ha.pe hb.pe hs
  have p2 := pe_dget (pos := pos) hu ha.pe hb.pe hs
  -- the two readings, chosen behind the parts' evaluation: by the raw rules
  refine ⟨d2_mono dSub_mono ma mb, fun σ H Q => ta σ H fun x H1 => tb σ H1 fun y H2 => (rIx X.K x y H2 Q ∨ ∃ a v, x = .ref a ∧ DGet H2 a y (some v) ∧ Q v H2), ⟨fun pins s σ H Q I h => ?_⟩, fun ρ σ F H Q p s h => ?_⟩
  · refine Subscript_ (binT pa pb I h fun v u s2 x y H2 I2 rx ry q => ?_)
    rcases q with q | ⟨c, w, rfl, g, q⟩
    · exact ix_seq a b pins s2 σ H2 x y v u Q I2 rx ry q (hs _ _)
    · cases rx
      have hd : IsD H2 c := by
        rcases g with ⟨kvs, k, e, _⟩ | ⟨kvs, k, bb, e, _⟩
        · exact .inl ⟨_, e⟩
        · exact .inr ⟨_, e⟩
      obtain ⟨ht, _, _⟩ := isD_at I2 hd
      exact tail_any ht PySem.F.slot_dict_getitem.lookup (d_getItem hu I2 g ry fun w' s' I' rw' => ⟨w, H2, I', rw', q⟩) (hs _ _)
  · refine ra p s h fun x v F1 H1 h e1 r1 => rb e1.pre (s.mono e1.fsub) h fun y u F2 H2 h e2 r2 => ?_
    have r1' := e2.rep r1
    have e12 := e1.trans p e2
    unfold dSub at h
    split at h
    · rename_i xs
      obtain ⟨i, rfl, h1⟩ := h.inv
      obtain ⟨z, hz, q⟩ := h1.inv
      obtain ⟨c, vs, rfl, hc, rv⟩ := r1'.seqL (K := X.K) e2.pre
      obtain ⟨w, hw, rw'⟩ := rv.atI hz
      cases r2
      exact .inl (.inl ⟨c, vs, i, w, rfl, rfl, .of hc, hw, q _ _ _ e12 rw'⟩)
    · rename_i xs
      obtain ⟨i, rfl, h1⟩ := h.inv
      obtain ⟨z, hz, q⟩ := h1.inv
      obtain ⟨c, vs, rfl, hc, rv⟩ := r1'.seqT e2.pre
      obtain ⟨w, hw, rw'⟩ := rv.atI hz
      cases r2
      exact .inl (.inr (.inl ⟨c, vs, i, w, rfl, rfl, .of hc, hw, q _ _ _ e12 rw'⟩))
    · obtain ⟨i, rfl, c, h1, h2, q⟩ := h.inv
      cases r1'
      cases r2
      exact .inl (.inr (.inr ⟨_, i, c, rfl, rfl, h1, h2, q _ _ _ e12 (.str _)⟩))
    · obtain ⟨c, o, ov, rfl, g, _, q, h1, _⟩ := dGetO_read e2.pre r1' r2 h
      obtain ⟨z, rfl, q⟩ := q.inv
      obtain ⟨w, rfl, rw'⟩ := h1 z rfl
      exact .inr ⟨c, w, rfl, g, q _ _ _ e12 rw'⟩
/-- a dict, whatever its keys -/
def asD (x : D) (Q : Prop) : Prop := match x with | .dK _ _ => Q | .dT _ _ => Q | _ => False
theorem asD.mono {x : D} {P Q : Prop} (h : P → Q) (p : asD x P) : asD x Q := by cases x <;> first | exact h p | exact p
theorem asD.read {F H : Hp} {x : D} {v : V} {Q : Prop} (p : Pre dc F H) (rx : Rep dc F x v) (h : asD x Q) : ∃ a, v = .ref a ∧ IsD H a ∧ Q := by
  cases rx with
  | dK ef l r => exact ⟨_, rfl, .inl ⟨_, p.sub _ _ ef⟩, h⟩
  | dT ef l r => exact ⟨_, rfl, .inr ⟨_, p.sub _ _ ef⟩, h⟩
  | _ => exact False.elim h
/-- d.get(k, x) -/
theorem de_get2 {o e f : Expr} {td ty tx : DT} {apos cpos : Pos} (hu : X.A.units + 1 < cLine) (ho : DE X dc o td) (he : DE X dc e ty) (hf : DE X dc f tx) (m : M2 X o "get" apos e f cpos) :
    DE X dc (.Call (.Attribute o "get" apos) [e, f] [] cpos) (fun ρ Q => td ρ fun x => asD x (ty ρ fun y => tx ρ fun z => dGetO x y fun o => Q (o.getD z))) := by
  have m1 := ho.mono
  have m2 := he.mono
  have m3 := hf.mono
  obtain ⟨t1, p1, r1⟩ := ho.get
  obtain ⟨t2, p2, r2⟩ := he.get
  obtain ⟨t3, p3, r3⟩ := hf.get
  refine ⟨fun ρ P P' hP h => m1 _ _ _ (fun x h => asD.mono (fun h => m2 _ _ _ (fun y h => m3 _ _ _ (fun z h => dGetO_mono (fun o h => hP _ h) h) h) h) h) h, _, pe_dget2 hu p1 p2 p3 m, fun ρ σ F H Q p s h => ?_⟩
  refine r1 p s h fun x v F1 H1 h e1 q1 => ?_
  obtain ⟨a, rfl, hd, h⟩ := asD.read e1.pre q1 h
  refine ⟨a, rfl, hd, r2 e1.pre (s.mono e1.fsub) h fun y u F2 H2 h e2 q2 => r3 e2.pre ((s.mono e1.fsub).mono e2.fsub) h fun z w F3 H3 h e3 q3 => ?_⟩
  obtain ⟨c, o, ov, ec, g, _, q, h1, h2⟩ := dGetO_read e3.pre (e3.rep (e2.rep q1)) (e3.rep q2) h
  cases ec
  refine ⟨ov, g, ?_⟩
  have e13 := (e1.trans p e2).trans p e3
  cases o with
  | none =>
    rw [h2 rfl]
    exact q _ _ _ e13 q3
  | some z' =>
    obtain ⟨w', rfl, rw'⟩ := h1 z' rfl
    exact q _ _ _ e13 rw'
/-- k in d, k in a list or tuple -/
def dInA (neg : Bool) (x y : D) (Q : D → Prop) : Prop := match y with
  | .lst ys => flatD x = true ∧ ys.all flatD = true ∧ Q (.bl (neg ^^ inD x ys))
  | .tup ys => flatD x = true ∧ ys.all flatD = true ∧ Q (.bl (neg ^^ inD x ys))
  | y => dGetO y x fun o => Q (.bl (neg ^^ o.isSome))
theorem dInA_mono {neg : Bool} : ∀ x y (P P' : D → Prop), (∀ z, P z → P' z) → dInA neg x y P → dInA neg x y P' := fun x y P P' hP h => by
  unfold dInA at h ⊢
  split at h
  · exact ⟨h.1, h.2.1, hP _ h.2.2⟩
  · exact ⟨h.1, h.2.1, hP _ h.2.2⟩
  · exact dGetO_mono (fun o h => hP _ h) h
theorem op_dict_in (hu : X.A.units + 1 < cLine) : OpR X (compareOp .In) (fun x y H Q => ∃ a o, y = .ref a ∧ DGet H a x o ∧ Q (.bl o.isSome) H) := by
  intro pins s σ H x y v u Q I rx ry h
  obtain ⟨a, o, rfl, g, q⟩ := h
  cases ry
  exact d_in hu I g rx fun s' I' => ⟨.bl o.isSome, H, I', rfl, q⟩
theorem op_dict_notin (hu : X.A.units + 1 < cLine) : OpR X (compareOp .NotIn) (fun x y H Q => ∃ a o, y = .ref a ∧ DGet H a x o ∧ Q (.bl (!o.isSome)) H) := by
  intro pins s σ H x y v u Q I rx ry h
  obtain ⟨a, o, rfl, g, q⟩ := h
  cases ry
  exact d_notIn hu I g rx fun s' I' => ⟨.bl (!o.isSome), H, I', rfl, q⟩
theorem opd_inA (hu : X.A.units + 1 < cLine) : OpD X dc (compareOp .In) (dInA false) := by
  have h2 : OpD X dc (compareOp .In) (fun x y Q => dGetO y x fun o => Q (.bl o.isSome)) := by
    refine ⟨fun x y P P' hP h => dGetO_mono (fun o h => hP _ h) h, _, op_dict_in hu, fun F H x y v u Q p rx ry h => ?_⟩
    obtain ⟨c, o, ov, rfl, g, _, q, h1, h2⟩ := dGetO_read p ry rx h
    refine ⟨c, ov, rfl, g, ?_⟩
    have e : ov.isSome = o.isSome := by
      cases o with
      | none => rw [h2 rfl]; rfl
      | some z => obtain ⟨w, rfl, _⟩ := h1 z rfl; rfl
    rw [e]
    exact q.now p (.bl _)
  refine (opd_in.or h2).imp dInA_mono fun x y Q h => ?_
  unfold dInA at h
  split at h
  · exact .inl h
  · exact .inl h
  · exact .inr (dGetO_mono (fun o h => by simpa using h) h)
theorem opd_notinA (hu : X.A.units + 1 < cLine) : OpD X dc (compareOp .NotIn) (dInA true) := by
  have h2 : OpD X dc (compareOp .NotIn) (fun x y Q => dGetO y x fun o => Q (.bl (!o.isSome))) := by
    refine ⟨fun x y P P' hP h => dGetO_mono (fun o h => hP _ h) h, _, op_dict_notin hu, fun F H x y v u Q p rx ry h => ?_⟩
    obtain ⟨c, o, ov, rfl, g, _, q, h1, h2⟩ := dGetO_read p ry rx h
    refine ⟨c, ov, rfl, g, ?_⟩
    have e : ov.isSome = o.isSome := by
      cases o with
      | none => rw [h2 rfl]; rfl
      | some z => obtain ⟨w, rfl, _⟩ := h1 z rfl; rfl
    rw [e]
    exact q.now p (.bl _)
  refine (opd_notin.or h2).imp dInA_mono fun x y Q h => ?_
  unfold dInA at h
  split at h
  · exact .inl h
  · exact .inl h
  · exact .inr (dGetO_mono (fun o h => by simpa using h) h)
end
/-! ### calls of built-in things -/
structure CallD (X : Cx) (dc : Option Addr) (f : Value) (g : List D → (D → Prop) → Prop) : Prop where
  mono : ∀ xs P P', (∀ z, P z → P' z) → g xs P → g xs P'
  run : ∃ r, CallR X f r ∧ ∀ F H xs vs Q, Pre dc F H → Reps dc F xs vs → g xs (KV' dc F H Q) → r vs H Q
def dCall (g : List D → (D → Prop) → Prop) (d : DTA) : DT := fun ρ Q => d ρ fun xs => g xs Q
section
variable {X : Cx} {dc : Option Addr} {e : Expr} {es : List Expr} {d : DTA} {x : Str} {p pos : Pos} {g : List D → (D → Prop) → Prop}
theorem CallD.or {f : Value} {g g' : List D → (D → Prop) → Prop} (h : CallD X dc f g) (h' : CallD X dc f g') : CallD X dc f (fun xs Q => g xs Q ∨ g' xs Q) := by
  obtain ⟨m, r, o, q⟩ := h
  obtain ⟨m', r', o', q'⟩ := h'
  exact ⟨fun x P P' hP z => z.elim (fun z => .inl (m _ _ _ hP z)) fun z => .inr (m' _ _ _ hP z), fun x H Q => r x H Q ∨ r' x H Q, fun pins s σ H xs us Q I rx z => Or.elim z (o pins s σ H xs us Q I rx) (o' pins s σ H xs us Q I rx),
    fun F H x v Q p rx z => z.elim (fun z => .inl (q F H x v Q p rx z)) fun z => .inr (q' F H x v Q p rx z)⟩
theorem CallD.imp {f : Value} {g g' : List D → (D → Prop) → Prop} (h : CallD X dc f g) (m : ∀ xs P P', (∀ z, P z → P' z) → g' xs P → g' xs P') (i : ∀ xs Q, g' xs Q → g xs Q) : CallD X dc f g' := by
  obtain ⟨_, r, o, q⟩ := h
  exact ⟨m, r, o, fun F H x v Q p rx z => q F H x v Q p rx (i _ _ z)⟩
theorem de_callB {id : String} (hc : CallD X dc (.builtin id) g) (hg : Gl X x) (hm : X.mg x = none) (hv : bootBuiltins x = some (.builtin id)) (ha : DA X dc (e :: es) d) (hn : x ≠ "__name__" := by decide) (hdb : (x == ("__debug__" : Str)) = false := by decide)
    (he : starEach (e :: es) X.env = (false, eval e X.env) :: starEach es X.env := by rfl) (hpl : (backTo pos (starEach es X.env)).any (·.1) = false := by rfl) : DE X dc (.Call (.Name x p) (e :: es) [] pos) (dCall g d) := by
  obtain ⟨m, r, o, q⟩ := hc
  have ma := ha.mono
  obtain ⟨t, pt, rt⟩ := ha.get
  refine ⟨fun ρ P P' hP h => ma _ _ _ (fun xs h => m _ _ _ hP h) h, _, pe_callB o hg hm hv pt hn hdb he hpl, fun ρ σ F H Q pr s h => rt pr s h fun xs vs F1 H1 h e1 r1 => ?_⟩
  exact q _ _ _ _ _ e1.pre r1 (m _ _ _ (fun z hz => hz.on pr e1) h)
theorem de_callTy {T : String} (hc : CallD X dc (.type T) g) (hg : Gl X x) (hm : X.mg x = none) (hv : bootBuiltins x = some (.type T)) (ha : DA X dc (e :: es) d) (hn : x ≠ "__name__" := by decide) (hdb : (x == ("__debug__" : Str)) = false := by decide)
    (he : starEach (e :: es) X.env = (false, eval e X.env) :: starEach es X.env := by rfl) (hpl : (backTo pos (starEach es X.env)).any (·.1) = false := by rfl) : DE X dc (.Call (.Name x p) (e :: es) [] pos) (dCall g d) := by
  obtain ⟨m, r, o, q⟩ := hc
  have ma := ha.mono
  obtain ⟨t, pt, rt⟩ := ha.get
  refine ⟨fun ρ P P' hP h => ma _ _ _ (fun xs h => m _ _ _ hP h) h, _, pe_callTy o hg hm hv pt hn hdb he hpl, fun ρ σ F H Q pr s h => rt pr s h fun xs vs F1 H1 h e1 r1 => ?_⟩
  exact q _ _ _ _ _ e1.pre r1 (m _ _ _ (fun z hz => hz.on pr e1) h)
end
/-- the only argument -/
def arg1 (g : D → (D → Prop) → Prop) : List D → (D → Prop) → Prop := fun xs Q => match xs with | [x] => g x Q | _ => False
def arg2 (g : D → D → (D → Prop) → Prop) : List D → (D → Prop) → Prop := fun xs Q => match xs with | [x, y] => g x y Q | _ => False
theorem arg1.mono {g : D → (D → Prop) → Prop} (m : ∀ x P P', (∀ z, P z → P' z) → g x P → g x P') : ∀ xs P P', (∀ z, P z → P' z) → arg1 g xs P → arg1 g xs P' := fun xs P P' hP h => by
  unfold arg1 at h ⊢
  split at h
  · exact m _ _ _ hP h
  · exact False.elim h
theorem arg2.mono {g : D → D → (D → Prop) → Prop} (m : ∀ x y P P', (∀ z, P z → P' z) → g x y P → g x y P') : ∀ xs P P', (∀ z, P z → P' z) → arg2 g xs P → arg2 g xs P' := fun xs P P' hP h => by
  unfold arg2 at h ⊢
  split at h
  · exact m _ _ _ _ hP h
  · exact False.elim h
theorem arg1.inv {g : D → (D → Prop) → Prop} {xs : List D} {Q : D → Prop} (h : arg1 g xs Q) : ∃ x, xs = [x] ∧ g x Q := by
  unfold arg1 at h
  split at h
  · exact ⟨_, rfl, h⟩
  · exact False.elim h
theorem arg2.inv {g : D → D → (D → Prop) → Prop} {xs : List D} {Q : D → Prop} (h : arg2 g xs Q) : ∃ x y, xs = [x, y] ∧ g x y Q := by
  unfold arg2 at h
  split at h
  · exact ⟨_, _, rfl, h⟩
  · exact False.elim h
section
variable {X : Cx} {dc : Option Addr}
/-- a call of one thing -/
theorem CallD.one {f : Value} {r : List V → Hp → VK → Prop} {g : D → (D → Prop) → Prop} (m : ∀ x P P', (∀ z, P z → P' z) → g x P → g x P') (h : CallR X f r) (q : ∀ F H x v Q, Pre dc F H → Rep dc F x v → g x (KV' dc F H Q) → r [v] H Q) : CallD X dc f (arg1 g) := by
  refine ⟨arg1.mono m, r, h, fun F H xs vs Q p rx hq => ?_⟩
  obtain ⟨x, rfl, hq⟩ := hq.inv
  cases rx with
  | cons a b =>
    cases b
    exact q F H x _ Q p a hq
theorem CallD.two {f : Value} {r : List V → Hp → VK → Prop} {g : D → D → (D → Prop) → Prop} (m : ∀ x y P P', (∀ z, P z → P' z) → g x y P → g x y P') (h : CallR X f r) (q : ∀ F H x y v u Q, Pre dc F H → Rep dc F x v → Rep dc F y u → g x y (KV' dc F H Q) → r [v, u] H Q) : CallD X dc f (arg2 g) := by
  refine ⟨arg2.mono m, r, h, fun F H xs vs Q p rx hq => ?_⟩
  obtain ⟨x, y, rfl, hq⟩ := hq.inv
  cases rx with
  | cons a b =>
    cases b with
    | cons b c =>
      cases c
      exact q F H x y _ _ Q p a b hq
def intsOf : List D → Option (List Int)
  | [] => some []
  | .int i :: r => (intsOf r).map (i :: ·)
  | _ => none
def blsOf : List D → Option (List Bool)
  | [] => some []
  | .bl i :: r => (blsOf r).map (i :: ·)
  | _ => none
def strsOf : List D → Option (List Str)
  | [] => some []
  | .str i :: r => (strsOf r).map (i :: ·)
  | _ => none
theorem intsOf_eq : ∀ {xs : List D} {ns : List Int}, intsOf xs = some ns → xs = ns.map D.int
  | [], _, h => by cases h; rfl
  | .int i :: r, ns, h => by
    obtain ⟨ms, h1, rfl⟩ := Option.map_eq_some_iff.mp h
    rw [List.map_cons, intsOf_eq h1]
  | .non :: _, _, h => by cases h
  | .bl _ :: _, _, h => by cases h
  | .str _ :: _, _, h => by cases h
  | .ty _ :: _, _, h => by cases h
  | .cell :: _, _, h => by cases h
  | .lst _ :: _, _, h => by cases h
  | .tup _ :: _, _, h => by cases h
  | .dK _ _ :: _, _, h => by cases h
  | .dT _ _ :: _, _, h => by cases h
  | .ins _ _ _ :: _, _, h => by cases h
  | .raw _ :: _, _, h => by cases h
theorem blsOf_eq : ∀ {xs : List D} {ns : List Bool}, blsOf xs = some ns → xs = ns.map D.bl
  | [], _, h => by cases h; rfl
  | .bl i :: r, ns, h => by
    obtain ⟨ms, h1, rfl⟩ := Option.map_eq_some_iff.mp h
    rw [List.map_cons, blsOf_eq h1]
  | .non :: _, _, h => by cases h
  | .int _ :: _, _, h => by cases h
  | .str _ :: _, _, h => by cases h
  | .ty _ :: _, _, h => by cases h
  | .cell :: _, _, h => by cases h
  | .lst _ :: _, _, h => by cases h
  | .tup _ :: _, _, h => by cases h
  | .dK _ _ :: _, _, h => by cases h
  | .dT _ _ :: _, _, h => by cases h
  | .ins _ _ _ :: _, _, h => by cases h
  | .raw _ :: _, _, h => by cases h
theorem strsOf_eq : ∀ {xs : List D} {ns : List Str}, strsOf xs = some ns → xs = ns.map D.str
  | [], _, h => by cases h; rfl
  | .str i :: r, ns, h => by
    obtain ⟨ms, h1, rfl⟩ := Option.map_eq_some_iff.mp h
    rw [List.map_cons, strsOf_eq h1]
  | .non :: _, _, h => by cases h
  | .int _ :: _, _, h => by cases h
  | .bl _ :: _, _, h => by cases h
  | .ty _ :: _, _, h => by cases h
  | .cell :: _, _, h => by cases h
  | .lst _ :: _, _, h => by cases h
  | .tup _ :: _, _, h => by cases h
  | .dK _ _ :: _, _, h => by cases h
  | .dT _ _ :: _, _, h => by cases h
  | .ins _ _ _ :: _, _, h => by cases h
  | .raw _ :: _, _, h => by cases h
theorem intsOf_map : ∀ (ns : List Int), intsOf (ns.map D.int) = some ns
  | [] => rfl
  | i :: r => by rw [List.map_cons]; unfold intsOf; rw [intsOf_map r]; rfl
theorem blsOf_map : ∀ (ns : List Bool), blsOf (ns.map D.bl) = some ns
  | [] => rfl
  | i :: r => by rw [List.map_cons]; unfold blsOf; rw [blsOf_map r]; rfl
theorem strsOf_map : ∀ (ns : List Str), strsOf (ns.map D.str) = some ns
  | [] => rfl
  | i :: r => by rw [List.map_cons]; unfold strsOf; rw [strsOf_map r]; rfl
/-- a list of ints, .. -/
def asInts (x : D) (Q : List Int → Prop) : Prop := asLst x fun xs => match intsOf xs with | some ns => Q ns | none => False
def asBls (x : D) (Q : List Bool → Prop) : Prop := asLst x fun xs => match blsOf xs with | some ns => Q ns | none => False
def asStrs (x : D) (Q : List Str → Prop) : Prop := asLst x fun xs => match strsOf xs with | some ns => Q ns | none => False
theorem asInts.inv {x : D} {Q : List Int → Prop} (h : asInts x Q) : ∃ ns, x = .lst (ns.map D.int) ∧ Q ns := by
  have hh := asLst.inv h
  clear h
  obtain ⟨xs, rfl, h⟩ := hh
  split at h
  · rename_i e
    exact ⟨_, congrArg D.lst (intsOf_eq e), h⟩
  · exact False.elim h
theorem asBls.inv {x : D} {Q : List Bool → Prop} (h : asBls x Q) : ∃ ns, x = .lst (ns.map D.bl) ∧ Q ns := by
  have hh := asLst.inv h
  clear h
  obtain ⟨xs, rfl, h⟩ := hh
  split at h
  · rename_i e
    exact ⟨_, congrArg D.lst (blsOf_eq e), h⟩
  · exact False.elim h
theorem asStrs.inv {x : D} {Q : List Str → Prop} (h : asStrs x Q) : ∃ ns, x = .lst (ns.map D.str) ∧ Q ns := by
  have hh := asLst.inv h
  clear h
  obtain ⟨xs, rfl, h⟩ := hh
  split at h
  · rename_i e
    exact ⟨_, congrArg D.lst (strsOf_eq e), h⟩
  · exact False.elim h
theorem asInts.of {ns : List Int} {Q : List Int → Prop} (h : Q ns) : asInts (.lst (ns.map D.int)) Q := by
  show (match intsOf (ns.map D.int) with | some ns => Q ns | none => False)
  rw [intsOf_map]
  exact h
theorem asBls.of {ns : List Bool} {Q : List Bool → Prop} (h : Q ns) : asBls (.lst (ns.map D.bl)) Q := by
  show (match blsOf (ns.map D.bl) with | some ns => Q ns | none => False)
  rw [blsOf_map]
  exact h
theorem asStrs.of {ns : List Str} {Q : List Str → Prop} (h : Q ns) : asStrs (.lst (ns.map D.str)) Q := by
  show (match strsOf (ns.map D.str) with | some ns => Q ns | none => False)
  rw [strsOf_map]
  exact h
theorem asInts.mono {x : D} {P Q : List Int → Prop} (h : ∀ i, P i → Q i) (p : asInts x P) : asInts x Q := by obtain ⟨ns, rfl, q⟩ := p.inv; exact .of (h _ q)
theorem asBls.mono {x : D} {P Q : List Bool → Prop} (h : ∀ i, P i → Q i) (p : asBls x P) : asBls x Q := by obtain ⟨ns, rfl, q⟩ := p.inv; exact .of (h _ q)
theorem asStrs.mono {x : D} {P Q : List Str → Prop} (h : ∀ i, P i → Q i) (p : asStrs x P) : asStrs x Q := by obtain ⟨ns, rfl, q⟩ := p.inv; exact .of (h _ q)
theorem cd_sum (hc : X.calm = true) : CallD X dc (.builtin "sum") (arg1 fun x Q => asInts x fun ns => Q (.int ns.sum)) :=
  .one (fun x P P' hP h => asInts.mono (fun ns h => hP _ h) h) (cr_sum hc) fun F H x v Q p rx h => by
    have hh := h.inv
    clear h
    obtain ⟨ns, rfl, h⟩ := hh
    obtain ⟨a, vs, rfl, ha, rv⟩ := rx.seqL (K := X.K) p
    rw [rv.ints_eq] at ha
    exact ⟨a, ns, rfl, .of ha, h.now p (.int _)⟩
theorem cd_min (hc : X.calm = true) : CallD X dc (.builtin "min") (arg1 fun x Q => asInts x fun ns => 0 < ns.length ∧ ∀ m, m ∈ ns → (∀ y, y ∈ ns → m ≤ y) → Q (.int m)) :=
  .one (fun x P P' hP h => asInts.mono (fun ns h => ⟨h.1, fun m h1 h2 => hP _ (h.2 m h1 h2)⟩) h) (cr_min hc) fun F H x v Q p rx h => by
    have hh := h.inv
    clear h
    obtain ⟨ns, rfl, h⟩ := hh
    obtain ⟨a, vs, rfl, ha, rv⟩ := rx.seqL (K := X.K) p
    rw [rv.ints_eq] at ha
    exact ⟨a, ns, rfl, .of ha, h.1, fun m h1 h2 => (h.2 m h1 h2).now p (.int _)⟩
theorem cd_max (hc : X.calm = true) : CallD X dc (.builtin "max") (arg1 fun x Q => asInts x fun ns => 0 < ns.length ∧ ∀ m, m ∈ ns → (∀ y, y ∈ ns → y ≤ m) → Q (.int m)) :=
  .one (fun x P P' hP h => asInts.mono (fun ns h => ⟨h.1, fun m h1 h2 => hP _ (h.2 m h1 h2)⟩) h) (cr_max hc) fun F H x v Q p rx h => by
    have hh := h.inv
    clear h
    obtain ⟨ns, rfl, h⟩ := hh
    obtain ⟨a, vs, rfl, ha, rv⟩ := rx.seqL (K := X.K) p
    rw [rv.ints_eq] at ha
    exact ⟨a, ns, rfl, .of ha, h.1, fun m h1 h2 => (h.2 m h1 h2).now p (.int _)⟩
theorem cd_all (hc : X.calm = true) : CallD X dc (.builtin "all") (arg1 fun x Q => asBls x fun bs => Q (.bl (bs.all id))) :=
  .one (fun x P P' hP h => asBls.mono (fun ns h => hP _ h) h) (cr_all hc) fun F H x v Q p rx h => by
    have hh := h.inv
    clear h
    obtain ⟨ns, rfl, h⟩ := hh
    obtain ⟨a, vs, rfl, ha, rv⟩ := rx.seqL (K := X.K) p
    rw [rv.bls_eq] at ha
    exact ⟨a, ns, rfl, .of ha, h.now p (.bl _)⟩
theorem cd_any (hc : X.calm = true) : CallD X dc (.builtin "any") (arg1 fun x Q => asBls x fun bs => Q (.bl (bs.any id))) :=
  .one (fun x P P' hP h => asBls.mono (fun ns h => hP _ h) h) (cr_any hc) fun F H x v Q p rx h => by
    have hh := h.inv
    clear h
    obtain ⟨ns, rfl, h⟩ := hh
    obtain ⟨a, vs, rfl, ha, rv⟩ := rx.seqL (K := X.K) p
    rw [rv.bls_eq] at ha
    exact ⟨a, ns, rfl, .of ha, h.now p (.bl _)⟩
theorem cd_len : CallD X dc (.builtin "len") (arg1 fun x Q => asSeq x fun xs => Q (.int xs.length)) :=
  .one (fun x P P' hP h => asSeq.mono (fun ns h => hP _ h) h) call_len_seq fun F H x v Q p rx h => by
    obtain ⟨xs, hx, h⟩ := h.inv
    obtain ⟨a, vs, rfl, ha, rv⟩ := rx.seq p hx (K := X.K)
    exact ⟨a, vs, rfl, ha, by rw [← rv.length]; exact h.now p (.int _)⟩
theorem cd_list : CallD X dc (.type "list") (arg1 fun x Q => asSeq x fun xs => Q (.lst xs)) :=
  .one (fun x P P' hP h => asSeq.mono (fun ns h => hP _ h) h) call_list_of fun F H x v Q p rx h => by
    obtain ⟨xs, hx, h⟩ := h.inv
    obtain ⟨a, vs, rfl, ha, rv⟩ := rx.seq p hx (K := X.K)
    refine ⟨a, vs, rfl, ha, fun l nl => ?_⟩
    obtain ⟨e, r⟩ := Ext.lst p nl rv
    exact h _ _ _ e r
theorem cd_tuple : CallD X dc (.type "tuple") (arg1 fun x Q => asSeq x fun xs => Q (.tup xs)) :=
  .one (fun x P P' hP h => asSeq.mono (fun ns h => hP _ h) h) call_tuple_of fun F H x v Q p rx h => by
    obtain ⟨xs, hx, h⟩ := h.inv
    rcases hx with rfl | rfl
    · obtain ⟨a, vs, rfl, ha, rv⟩ := rx.seqL (K := X.K) p
      refine ⟨a, vs, rfl, .inl ⟨.of ha, fun l nl => ?_⟩⟩
      obtain ⟨e, r⟩ := Ext.tup p nl rv
      exact h _ _ _ e r
    · cases rx with
      | tup ea rv => exact ⟨_, _, rfl, .inr ⟨.of (p.sub _ _ ea), h.now p (.tup ea rv)⟩⟩
theorem cd_sortedS : CallD X dc (.builtin "sorted") (arg1 fun x Q => asStrs x fun ns => ns.length < 64 ∧ ∀ ms : List Str, ms.Perm ns → sortedS ms = true → Q (.lst (ms.map D.str))) :=
  .one (fun x P P' hP h => asStrs.mono (fun ns h => ⟨h.1, fun m h1 h2 => hP _ (h.2 m h1 h2)⟩) h) cr_sortedS fun F H x v Q p rx h => by
    have hh := h.inv
    clear h
    obtain ⟨ns, rfl, h⟩ := hh
    obtain ⟨a, vs, rfl, ha, rv⟩ := rx.seqL (K := X.K) p
    rw [rv.strs_eq] at ha
    refine ⟨a, ns, rfl, .of ha, h.1, fun ms q h1 h2 nq => ?_⟩
    obtain ⟨e, r⟩ := Ext.lst p nq (Reps.strs (dc := dc) (F := F) ms)
    exact h.2 ms h1 h2 _ _ _ e r
/-! isinstance -/
inductive TyD (K : PySem.W.Frag) : D → Value → Prop
  | non : TyD K .non (.type "NoneType")
  | bl (b : Bool) : TyD K (.bl b) (.type "bool")
  | int (i : Int) : TyD K (.int i) (.type "int")
  | str (x : Str) : TyD K (.str x) (.type "str")
  | lst (xs : List D) : TyD K (.lst xs) (.type "list")
  | tup (xs : List D) : TyD K (.tup xs) (.type "tuple")
  | ins {C : Addr} (c : C8.InsC K C) (ns : List Str) (vs : List D) : TyD K (.ins C ns vs) (.ref C)
inductive ClD : D → Value → Prop
  | ty (n : String) : ClD (.ty n) (.type n)
  | own (C : Addr) : ClD (.raw (.ref C)) (.ref C)
theorem cd_isi {K : PySem.W.Frag} (hK : X.K = K) : CallD X dc (.builtin "isinstance") (arg2 fun x c Q => ∃ t u b, TyD K x t ∧ ClD c u ∧ PySem.W.kitOne K t u = some b ∧ Q (.bl b)) := by
  subst hK
  exact .two (fun x y P P' hP ⟨t, u, b, h1, h2, h3, h4⟩ => ⟨t, u, b, h1, h2, h3, hP _ h4⟩) call_isi fun F H x y v w Q p rx ry h => by
    obtain ⟨t, u, b, h1, h2, h3, h4⟩ := h
    have hk : ClsV w u := by
      cases h2 with
      | ty n => cases ry; exact .ty n
      | own C => cases ry; exact .own C
    refine ⟨v, w, t, u, b, rfl, hk, ?_, h3, h4.now p (.bl _)⟩
    cases h1 with
    | non => cases rx; exact .base .non
    | bl b => cases rx; exact .base (.bl b)
    | int b => cases rx; exact .base (.int b)
    | str b => cases rx; exact .base (.str b)
    | lst xs => obtain ⟨a, vs, rfl, ha, _⟩ := rx.seqL (K := X.K) p; exact .base (.lst ha)
    | tup xs => obtain ⟨a, vs, rfl, ha, _⟩ := rx.seqT p; exact .base (.tup ha)
    | ins c ns vs => obtain ⟨a, dx, ws, rfl, _, ha, _⟩ := rx.insr p; exact .base (.ins ha c.cl c.ha c.hn c.htk c.hm)
end
/-! ### own defs by data -/
abbrev DSp := List D → (D → Prop) → Prop
/-- a promise by data -/
def spD (sp : DSp) : Sp := fun vs H Q _ => ∃ dc F xs, Pre dc F H ∧ Reps dc F xs vs ∧ sp xs (KV' dc F H Q)
def Mono (sp : DSp) : Prop := ∀ xs P P', (∀ y, P y → P' y) → sp xs P → sp xs P'
/-- the values of defaults -/
def Flats (dfl : List D) (dvs : List V) : Prop := ∀ dc F, Reps dc F dfl dvs
theorem flats_nil : Flats [] [] := fun _ _ => .nil
/-- a def of the module, called by its name -/
structure DFn (P : Program) (w : World) (K : PySem.W.Frag) (mg : Str → Option Value) (base : Heap) (k : Nat) (x : Str) (dfl : List D) (sp : DSp) : Prop where
  mono : Mono sp
  ex : ∃ (f : Addr) (fd : FuncData) (ps : List Str) (ds : List Value) (dvs : List V), FnOk P w K mg base CX0 k f fd ps (spD sp) ∧ mg x = some (.ref f) ∧ PySem.W.keepIn K (.ref f) = true ∧ Binds K fd ps ds ∧ Vals dvs ds ∧ Flats dfl dvs
/-- a method, a property of the class at C -/
structure DMt (P : Program) (w : World) (K : PySem.W.Frag) (mg : Str → Option Value) (base : Heap) (k : Nat) (C : Addr) (m : Str) (dfl : List D) (sp : DSp) : Prop where
  mono : Mono sp
  ex : ∃ (f : Addr) (fd : FuncData) (ps : List Str) (ds : List Value) (dvs : List V), FnOk P w K mg base CX0 k f fd ps (spD sp) ∧ Cls K C ∧ Meth K C m f ∧ Binds K fd ps ds ∧ Vals dvs ds ∧ Flats dfl dvs
structure DPr (P : Program) (w : World) (K : PySem.W.Frag) (mg : Str → Option Value) (base : Heap) (k : Nat) (C : Addr) (m : Str) (sp : DSp) : Prop where
  mono : Mono sp
  ex : ∃ (f p : Addr) (fd : FuncData) (ps : List Str), FnOk P w K mg base CX0 k f fd ps (spD sp) ∧ Cls K C ∧ PropOf K C m p f ∧ Binds K fd ps []
/-- a class that is made by its name; sp: what comes of the arguments (without the new object) -/
def spDI (C : Addr) (sp : DSp) : Sp := fun vs H Q _ => ∃ (x dx : Addr) (us : List V) (H0 : Hp), vs = .ref x :: us ∧ H0 x = none ∧ H0 dx = none ∧ dx ≠ x ∧ H = upd (upd H0 dx (.own x)) x (.ins C dx []) ∧
  ∃ dc F xs, Pre dc F H0 ∧ Reps dc F xs us ∧ sp xs fun y => ∀ F' H', Ext dc F H0 F' H' → Rep dc F' y (.ref x) → Q .non H'
structure DMk (P : Program) (w : World) (K : PySem.W.Frag) (mg : Str → Option Value) (base : Heap) (k : Nat) (x : Str) (C : Addr) (dfl : List D) (sp : DSp) : Prop where
  mono : Mono sp
  ex : ∃ (f : Addr) (fd : FuncData) (ps : List Str) (ds : List Value) (dvs : List V), Mk K C f ∧ FnOk P w K mg base CX0 k f fd ps (spDI C sp) ∧ mg x = some (.ref C) ∧ Binds K fd ps ds ∧ Vals dvs ds ∧ Flats dfl dvs
theorem spD_imp {sp sp' : DSp} (h : ∀ xs Q, sp' xs Q → sp xs Q) : ∀ vs H Q E, spD sp' vs H Q E → spD sp vs H Q E := fun vs H Q E ⟨dc, F, xs, p, r, q⟩ => ⟨dc, F, xs, p, r, h _ _ q⟩
section
variable {X : Cx} {dc : Option Addr} {e o : Expr} {es : List Expr} {d : DTA} {dt : DT} {x m : Str} {p pos apos : Pos} {sp : DSp} {dfl : List D} {k j : Nat} {C : Addr}
/-- f(e, ..) -/
def dFn (sp : DSp) (dfl : List D) (d : DTA) : DT := fun ρ Q => d ρ fun xs => sp (xs ++ dfl) Q
theorem de_fn (G : DFn X.prog X.w X.K X.mg X.base k x dfl sp) (hr : Room j X.A) (hk : k ≤ j) (hg : Gl X x) (ha : DA X dc (e :: es) d)
    (hdb : (x == ("__debug__" : Str)) = false := by decide) (he : starEach (e :: es) X.env = (false, eval e X.env) :: starEach es X.env := by rfl) (hpl : (backTo pos (starEach es X.env)).any (·.1) = false := by rfl) :
    DE X dc (.Call (.Name x p) (e :: es) [] pos) (dFn sp dfl d) := by
  obtain ⟨ms, f, fd, ps, ds, dvs, F, hm, kp, b, vd, fl⟩ := G
  have ma := ha.mono
  obtain ⟨t, pt, rt⟩ := ha.get
  refine ⟨fun ρ P P' hP h => ma _ _ _ (fun xs h => ms _ _ _ hP h) h, _, pe_call F (hr.mono hk) hg hm kp b vd pass0 pt hdb he hpl, fun ρ σ F H Q pr s h => rt pr s h fun xs vs F1 H1 h e1 r1 => ?_⟩
  exact ⟨dc, F1, xs ++ dfl, e1.pre, r1.app (fl _ _), ms _ _ _ (fun z hz => hz.on pr e1) h⟩
/-- e.f, a property -/
def dPr (C : Addr) (sp : DSp) (d : DT) : DT := fun ρ Q => d ρ fun x => asIns x fun C' ns vs => C' = C ∧ sp [x] Q
theorem de_prop (G : DPr X.prog X.w X.K X.mg X.base k C m sp) (hr : Room j X.A) (hk : k + 1 ≤ j) (ho : DE X dc o dt) (hab : attributeBase o m X.env (eval o X.env) = eval o X.env := by rfl) : DE X dc (.Attribute o m pos) (dPr C sp dt) := by
  obtain ⟨ms, f, pp, fd, ps, F, c, hp, b⟩ := G
  have ma := ho.mono
  obtain ⟨t, pt, rt⟩ := ho.get
  refine ⟨fun ρ P P' hP h => ma _ _ _ (fun xs h => asIns.mono (fun _ _ _ h => ⟨h.1, ms _ _ _ hP h.2⟩) h) h, _, pe_prop pt c hp F (hr.mono hk) b .nil pass0 hab, fun ρ σ F H Q pr s h => rt pr s h fun x v F1 H1 h e1 r1 => ?_⟩
  obtain ⟨C', ns, vs, rfl, rfl, hq⟩ := h.inv
  obtain ⟨a, dx, ws, rfl, _, ha, _⟩ := r1.insr e1.pre
  exact ⟨a, dx, _, rfl, ha, dc, F1, _, e1.pre, .cons r1 .nil, ms _ _ _ (fun z hz => hz.on pr e1) hq⟩
/-- o.m(e, ..), o.m() -/
def dMt (C : Addr) (m : Str) (sp : DSp) (dfl : List D) (d : DT) (da : DTA) : DT := fun ρ Q => d ρ fun x => asIns x fun C' ns vs => C' = C ∧ m ∉ ns ∧ da ρ fun xs => sp (x :: (xs ++ dfl)) Q
theorem lookup_none_of {ns : List Str} {m : Str} (h : m ∉ ns) (vs : List V) : (ns.zip vs).lookup m = none := by
  induction ns generalizing vs with
  | nil => rfl
  | cons n ns ih =>
    cases vs with
    | nil => rfl
    | cons v vs =>
      rw [List.zip_cons_cons, List.lookup_cons]
      have : (m == n) = false := by
        rw [beq_eq_false_iff_ne]
        exact fun z => h (by rw [z]; exact List.mem_cons_self)
      rw [this]
      exact ih (fun z => h (List.mem_cons_of_mem _ z)) vs
theorem de_meth {pl : Sem Bool} (G : DMt X.prog X.w X.K X.mg X.base k C m dfl sp) (hr : Room j X.A) (hk : k ≤ j) (ho : DE X dc o dt) (ha : DA X dc (e :: es) d)
    (hst : starEach (e :: es) X.env = (false, eval e X.env) :: starEach es X.env := by rfl) (hpl : (backTo pos (starEach es X.env)).any (·.1) = false := by rfl)
    (ht : eval (.Call (.Attribute o m apos) (e :: es) [] pos) X.env = (do
      let ov ← eval o X.env
      standAt apos.atName
      let (f, first) ← holding [ov] (getMethod ov m pl)
      callWith pos f first (backTo pos (starEach (e :: es) X.env)) (backToKw pos (keywordEach [] X.env))) := by rfl) :
    DE X dc (.Call (.Attribute o m apos) (e :: es) [] pos) (dMt C m sp dfl dt d) := by
  obtain ⟨ms, f, fd, ps, ds, dvs, F, c, hm, b, vd, fl⟩ := G
  have mo := ho.mono
  have ma := ha.mono
  obtain ⟨t1, p1, r1⟩ := ho.get
  obtain ⟨t2, p2, r2⟩ := ha.get
  refine ⟨fun ρ P P' hP h => mo _ _ _ (fun x h => asIns.mono (fun _ _ _ h => ⟨h.1, h.2.1, ma _ _ _ (fun xs h => ms _ _ _ hP h) h.2.2⟩) h) h, _, pe_meth (pl := pl) p1 c hm F (hr.mono hk) b vd pass0 p2 hst hpl ht, fun ρ σ F H Q pr s h => r1 pr s h fun x v F1 H1 h e1 q1 => ?_⟩
  obtain ⟨C', ns, vs, rfl, rfl, hn, hq⟩ := h.inv
  obtain ⟨a, dx, ws, rfl, _, hh, _⟩ := q1.insr e1.pre
  refine ⟨a, dx, _, rfl, hh, lookup_none_of hn _, r2 e1.pre (s.mono e1.fsub) hq fun xs us F2 H2 h e2 q2 => ?_⟩
  exact ⟨dc, F2, _ :: (xs ++ dfl), e2.pre, .cons (e2.rep q1) (q2.app (fl _ _)), ms _ _ _ (fun z hz => hz.on pr (e1.trans pr e2)) h⟩
theorem de_meth0 {pl : Sem Bool} (G : DMt X.prog X.w X.K X.mg X.base k C m dfl sp) (hr : Room j X.A) (hk : k ≤ j) (ho : DE X dc o dt)
    (ht : eval (.Call (.Attribute o m apos) [] [] pos) X.env = (do
      let ov ← eval o X.env
      standAt apos.atName
      let (f, first) ← holding [ov] (getMethod ov m pl)
      callWith pos f first (backTo pos (starEach [] X.env)) (backToKw pos (keywordEach [] X.env))) := by rfl) :
    DE X dc (.Call (.Attribute o m apos) [] [] pos) (dMt C m sp dfl dt dNil) := by
  obtain ⟨ms, f, fd, ps, ds, dvs, F, c, hm, b, vd, fl⟩ := G
  have mo := ho.mono
  obtain ⟨t1, p1, r1⟩ := ho.get
  refine ⟨fun ρ P P' hP h => mo _ _ _ (fun x h => asIns.mono (fun _ _ _ h => ⟨h.1, h.2.1, ms _ _ _ hP h.2.2⟩) h) h, _, pe_meth0 (pl := pl) p1 c hm F (hr.mono hk) b vd pass0 ht, fun ρ σ F H Q pr s h => r1 pr s h fun x v F1 H1 h e1 q1 => ?_⟩
  obtain ⟨C', ns, vs, rfl, rfl, hn, hq⟩ := h.inv
  obtain ⟨a, dx, ws, rfl, _, hh, _⟩ := q1.insr e1.pre
  refine ⟨a, dx, _, rfl, hh, lookup_none_of hn _, ?_⟩
  exact ⟨dc, F1, _ :: ([] ++ dfl), e1.pre, .cons q1 (Reps.nil.app (fl _ _)), ms _ _ _ (fun z hz => hz.on pr e1) hq⟩
/-- C(e, ..) -/
theorem de_make (G : DMk X.prog X.w X.K X.mg X.base k x C dfl sp) (hr : Room j X.A) (hk : k + 1 ≤ j) (hg : Gl X x) (ha : DA X dc (e :: es) d)
    (hdb : (x == ("__debug__" : Str)) = false := by decide) (he : starEach (e :: es) X.env = (false, eval e X.env) :: starEach es X.env := by rfl) (hpl : (backTo pos (starEach es X.env)).any (·.1) = false := by rfl) :
    DE X dc (.Call (.Name x p) (e :: es) [] pos) (dFn sp dfl d) := by
  obtain ⟨ms, f, fd, ps, ds, dvs, M, F, hm, b, vd, fl⟩ := G
  have ma := ha.mono
  obtain ⟨t, pt, rt⟩ := ha.get
  refine ⟨fun ρ P P' hP h => ma _ _ _ (fun xs h => ms _ _ _ hP h) h, _, pe_make M F (hr.mono hk) hg hm b vd pass0 pt hdb he hpl, fun ρ σ F H Q pr s h => rt pr s h fun xs vs F1 H1 h e1 r1 => ?_⟩
  intro a dx na ndx ne
  exact ⟨a, dx, vs ++ dvs, H1, rfl, na, ndx, ne, rfl, dc, F1, xs ++ dfl, e1.pre, r1.app (fl _ _), ms _ _ _ (fun z hz F' H' e2 r2 => ⟨rfl, hz _ _ _ (e1.trans pr e2) r2⟩) h⟩
end
/-! ### slots of a statement -/
inductive Sl where
  | emp | val (x : D) | own (x : D)
abbrev SEnv := List Sl
def Sl.seen : Sl → Option D
  | .val x => some x
  | _ => none
def visD (ρ : SEnv) : DEnv := ρ.map Sl.seen
/-- a list, a dict that is the def's own -/
inductive OwnO (dc : Option Addr) (F : Hp) : HO → D → Prop
  | lst {vs : List V} {xs : List D} : Reps dc F xs vs → OwnO dc F (.lst vs) (.lst xs)
  | dK {ks : List Key} {vs : List V} {xs : List D} : ks.length = vs.length → Reps dc F xs vs → OwnO dc F (.dK (ks.zip vs)) (.dK ks xs)
  | dT {ks : List (List Key)} {vs : List V} {xs : List D} : ks.length = vs.length → Reps dc F xs vs → OwnO dc F (.dT (ks.zip vs)) (.dT ks xs)
theorem OwnO.mono {dc : Option Addr} {F F' : Hp} {o : HO} {x : D} (h : ∀ a u, F a = some u → F' a = some u) (r : OwnO dc F o x) : OwnO dc F' o x := by
  cases r with
  | lst r => exact .lst (r.mono h)
  | dK l r => exact .dK l (r.mono h)
  | dT l r => exact .dT l (r.mono h)
theorem OwnO.nt {dc : Option Addr} {F : Hp} {o : HO} {x : D} (r : OwnO dc F o x) : ∀ us, o ≠ .tup us := by
  cases r <;> exact fun us z => nomatch z
theorem OwnO.sub {dc : Option Addr} {F H : Hp} {o : HO} {x : D} {a : Addr} (r : OwnO dc F o x) (h : H a = some o) : SubO H a o := by
  cases r with
  | lst r => exact h
  | dK l r => exact .inl h
  | dT l r => exact .inl h
theorem OwnO.rep {dc : Option Addr} {F : Hp} {o : HO} {x : D} {a : Addr} (r : OwnO dc F o x) (h : F a = some o) : Rep dc F x (.ref a) := by
  cases r with
  | lst r => exact .lst h r
  | dK l r => exact .dK h l r
  | dT l r => exact .dT h l r
/-- what holds between two statements: F0, H0 the entry -/
structure SInv (dc : Option Addr) (F0 H0 : Hp) (ρ : SEnv) (σ : L2.St) (F H : Hp) : Prop where
  pre0 : Pre dc F0 H0
  ext : Ext dc F0 H0 F H
  len : ρ.length = σ.length
  vals : ∀ (i : Nat) (x : D), ρ[i]? = some (.val x) → ∃ v, σ[i]? = some (some v) ∧ Rep dc F x v
  owns : ∀ (i : Nat) (x : D), ρ[i]? = some (.own x) → ∃ a o, σ[i]? = some (some (.ref a)) ∧ H a = some o ∧ OwnO dc F o x ∧ F a = none ∧ H0 a = none ∧ dc ≠ some a
  apart : ∀ (i j : Nat) (x y : D) (a : Addr), ρ[i]? = some (.own x) → ρ[j]? = some (.own y) → σ[i]? = some (some (.ref a)) → σ[j]? = some (some (.ref a)) → i = j
theorem SInv.slots {dc : Option Addr} {F0 H0 F H : Hp} {ρ : SEnv} {σ : L2.St} (I : SInv dc F0 H0 ρ σ F H) : Slots dc F (visD ρ) σ := by
  refine ⟨by unfold visD; rw [List.length_map]; exact I.len, fun i x e => ?_⟩
  unfold visD at e
  rw [List.getElem?_map] at e
  cases h : ρ[i]? with
  | none => rw [h] at e; cases e
  | some s =>
    rw [h] at e
    cases s with
    | val y => cases e; exact I.vals i _ h
    | emp => cases e
    | own y => cases e
/-- behind an expression -/
theorem SInv.step {dc : Option Addr} {F0 H0 F H F1 H1 : Hp} {ρ : SEnv} {σ : L2.St} (I : SInv dc F0 H0 ρ σ F H) (e : Ext dc F H F1 H1) : SInv dc F0 H0 ρ σ F1 H1 := by
  refine ⟨I.pre0, I.ext.trans I.pre0 e, I.len, fun i x h => let ⟨v, h1, h2⟩ := I.vals i x h; ⟨v, h1, h2.mono e.fsub⟩, fun i x h => ?_, I.apart⟩
  obtain ⟨a, o, h1, h2, h3, h4, h5, h6⟩ := I.owns i x h
  exact ⟨a, o, h1, e.keep a o h6 h2, h3.mono e.fsub, e.out h4 h2 h3.nt, h5, h6⟩
/-- behind an expression of which nothing is kept -/
theorem SInv.past {dc : Option Addr} {F0 H0 F H H1 : Hp} {ρ : SEnv} {σ : L2.St} (I : SInv dc F0 H0 ρ σ F H) (k : ∀ a o, dc ≠ some a → H a = some o → H1 a = some o) (hd : ∀ d, dc = some d → DiceAt H1 d) : SInv dc F0 H0 ρ σ F H1 := by
  have e : Ext dc F H F H1 := by
    refine ⟨⟨fun a o h => (I.ext.pre.sub a o h).keep fun u q => k a u (fun z => ?_) q, fun d z => ⟨hd d z, (I.ext.pre.dice d z).2⟩⟩, k, fun _ _ h => h, fun _ _ h => .inl h⟩
    rw [(I.ext.pre.dice a z).2] at h
    cases h
  exact I.step e
/-- a slot is set to a value -/
theorem SInv.set {dc : Option Addr} {F0 H0 F H : Hp} {ρ : SEnv} {σ : L2.St} {x : D} {v : V} (I : SInv dc F0 H0 ρ σ F H) (i : Nat) (r : Rep dc F x v) : SInv dc F0 H0 (ρ.set i (.val x)) (σ.set i (some v)) F H := by
  have ne : ∀ {j : Nat} {y : D}, (ρ.set i (.val x))[j]? = some (.own y) → i ≠ j ∧ ρ[j]? = some (.own y) := fun {j y} h => by
    by_cases hj : i = j
    · subst hj
      have hl : i < ρ.length := by
        have := (List.getElem?_eq_some_iff.mp h).1
        rwa [List.length_set] at this
      rw [List.getElem?_set_self hl] at h
      cases h
    · rw [List.getElem?_set_ne hj] at h
      exact ⟨hj, h⟩
  refine ⟨I.pre0, I.ext, by rw [List.length_set, List.length_set]; exact I.len, fun j y h => ?_, fun j y h => ?_, fun j k y z a h1 h2 h3 h4 => ?_⟩
  · by_cases hj : i = j
    · subst hj
      have hl : i < ρ.length := by
        have := (List.getElem?_eq_some_iff.mp h).1
        rwa [List.length_set] at this
      rw [List.getElem?_set_self hl] at h
      cases h
      exact ⟨v, List.getElem?_set_self (by rw [← I.len]; exact hl), r⟩
    · rw [List.getElem?_set_ne hj] at h ⊢
      exact I.vals j y h
  · obtain ⟨hj, h⟩ := ne h
    rw [List.getElem?_set_ne hj]
    exact I.owns j y h
  · obtain ⟨hj, h1⟩ := ne h1
    obtain ⟨hk, h2⟩ := ne h2
    rw [List.getElem?_set_ne hj] at h3
    rw [List.getElem?_set_ne hk] at h4
    exact I.apart j k y z a h1 h2 h3 h4
def setAllS (ρ : SEnv) : List Nat → List D → SEnv
  | i :: is, v :: vs => setAllS (ρ.set i (.val v)) is vs
  | _, _ => ρ
theorem SInv.setAll {dc : Option Addr} {F0 H0 F H : Hp} : ∀ (is : List Nat) {ρ : SEnv} {σ : L2.St} {xs : List D} {vs : List V}, SInv dc F0 H0 ρ σ F H → Reps dc F xs vs → SInv dc F0 H0 (setAllS ρ is xs) (setAll σ is vs) F H
  | [], _, _, _, _, s, _ => s
  | _ :: _, _, _, _, _, s, .nil => s
  | i :: is, _, _, _, _, s, .cons r t => by
    unfold setAllS KP.setAll
    exact SInv.setAll is (s.set i r) t
/-! ### statements -/
structure DEnds where
  nx : SEnv → Prop
  rt : D → Prop
  bk : SEnv → Prop := fun _ => False
  ct : SEnv → Prop := fun _ => False
structure DEnds.Le (E E' : DEnds) : Prop where
  nx : ∀ ρ, E.nx ρ → E'.nx ρ
  rt : ∀ ρ, E.rt ρ → E'.rt ρ
  bk : ∀ ρ, E.bk ρ → E'.bk ρ
  ct : ∀ ρ, E.ct ρ → E'.ct ρ
theorem DEnds.Le.refl (E : DEnds) : E.Le E := ⟨fun _ h => h, fun _ h => h, fun _ h => h, fun _ h => h⟩
abbrev DTS := DEnds → SEnv → Prop
structure Link (dc : Option Addr) (F0 H0 : Hp) (E : DEnds) (D' : Ends) : Prop where
  nx : ∀ ρ σ F H, SInv dc F0 H0 ρ σ F H → E.nx ρ → D'.nx σ H
  rt : ∀ x v F H, Ext dc F0 H0 F H → Rep dc F x v → E.rt x → D'.rt v H
  bk : ∀ ρ σ F H, SInv dc F0 H0 ρ σ F H → E.bk ρ → D'.bk σ H
  ct : ∀ ρ σ F H, SInv dc F0 H0 ρ σ F H → E.ct ρ → D'.ct σ H
def rdS (dc : Option Addr) (s : DTS) (t : TS) : Prop := ∀ F0 H0 ρ σ F H (E : DEnds) (D' : Ends), SInv dc F0 H0 ρ σ F H → Link dc F0 H0 E D' → s E ρ → t D' σ H
structure DS (X : Cx) (dc : Option Addr) (st : Stmt) (s : DTS) : Prop where
  mono : ∀ E E' ρ, E.Le E' → s E ρ → s E' ρ
  run : ∃ t, PS X st t ∧ rdS dc s t
structure DSs (X : Cx) (dc : Option Addr) (st : List Stmt) (s : DTS) : Prop where
  mono : ∀ E E' ρ, E.Le E' → s E ρ → s E' ρ
  run : ∃ t, PSs X st t ∧ rdS dc s t
section
variable {X : Cx} {dc : Option Addr} {st : Stmt} {rest : List Stmt} {s u : DTS} {e : Expr} {d : DT} {pos : Pos}
def sSeq (s u : DTS) : DTS := fun E ρ => s { E with nx := u E } ρ
theorem dss_nil : DSs X dc [] (fun E ρ => E.nx ρ) := ⟨fun E E' ρ l h => l.nx ρ h, _, pss_nil, fun F0 H0 ρ σ F H E D' I L h => L.nx _ _ _ _ I h⟩
theorem dss_one (h : DS X dc st s) : DSs X dc [st] s := ⟨h.mono, let ⟨t, p, r⟩ := h.run; ⟨t, pss_one p, r⟩⟩
theorem dss_cons (h1 : DS X dc st s) (h2 : DSs X dc rest u) : DSs X dc (st :: rest) (sSeq s u) := by
  obtain ⟨m1, t1, p1, r1⟩ := h1
  obtain ⟨m2, t2, p2, r2⟩ := h2
  refine ⟨fun E E' ρ l h => m1 { E with nx := u E } { E' with nx := u E' } _ ⟨fun ρ h => m2 _ _ _ l h, l.rt, l.bk, l.ct⟩ h, _, pss_cons p1 p2, fun F0 H0 ρ σ F H E D' I L h => ?_⟩
  exact r1 F0 H0 ρ σ F H { E with nx := u E } _ I ⟨fun ρ' σ' F' H' I' h' => r2 F0 H0 ρ' σ' F' H' E D' I' L h', L.rt, L.bk, L.ct⟩ h
def sSet (i : Nat) (d : DT) : DTS := fun E ρ => d (visD ρ) fun x => E.nx (ρ.set i (.val x))
theorem ds_set {i : Nat} {x : Str} {pos' : Pos} (hN : X.N.Nodup) (hi : X.N[i]? = some x) (hx : Loc X.env.scope x) (he : DE X dc e d) (hs : swapsWith e (some (.Name x pos')) pos.line X.env = pure false := by rfl)
    (hf : X.fn x = true ∨ X.env.scope.names.lookup x = some .local := by first | exact .inl rfl | exact .inr rfl | assumption) : DS X dc (.Assign [.Name x pos'] e pos) (sSet i d) := by
  have m := he.mono
  obtain ⟨t, p, r⟩ := he.get
  refine ⟨fun E E' ρ l h => m _ _ _ (fun x h => l.nx _ h) h, _, ps_set hN hi hx p hs hf, fun F0 H0 ρ σ F H E D' I L h => ?_⟩
  exact r I.ext.pre I.slots h fun x v F1 H1 h e1 r1 => L.nx _ _ _ _ ((I.step e1).set i r1) h
def sRet (d : DT) : DTS := fun E ρ => d (visD ρ) E.rt
theorem ds_ret (he : DE X dc e d) : DS X dc (.Return (some e) pos) (sRet d) := by
  have m := he.mono
  obtain ⟨t, p, r⟩ := he.get
  refine ⟨fun E E' ρ l h => m _ _ _ l.rt h, _, ps_ret p, fun F0 H0 ρ σ F H E D' I L h => ?_⟩
  exact r I.ext.pre I.slots h fun x v F1 H1 h e1 r1 => L.rt _ _ _ _ (I.ext.trans I.pre0 e1) r1 h
def sExpr (d : DT) : DTS := fun E ρ => d (visD ρ) fun _ => E.nx ρ
theorem ds_expr (he : DE X dc e d) (hs : swapsWith e none pos.line X.env = pure false := by rfl) : DS X dc (.Expr e pos) (sExpr d) := by
  have m := he.mono
  obtain ⟨t, p, r⟩ := he.get
  refine ⟨fun E E' ρ l h => m _ _ _ (fun _ h => l.nx _ h) h, _, ps_expr p hs, fun F0 H0 ρ σ F H E D' I L h => ?_⟩
  exact r I.ext.pre I.slots h fun x v F1 H1 h e1 r1 => L.nx _ _ _ _ (I.step e1) h
def sIf (c : DTB) (s u : DTS) : DTS := fun E ρ => c (visD ρ) fun b => if b = true then s E ρ else u E ρ
theorem ds_if {c : Expr} {dcn : DTB} {p q : List Stmt} (hc : DC X dc c dcn) (h1 : DSs X dc p s) (h2 : DSs X dc q u) : DS X dc (.If c p q pos) (sIf dcn s u) := by
  have m := hc.mono
  obtain ⟨t0, p0, r0⟩ := hc.get
  obtain ⟨m1, t1, p1, r1⟩ := h1
  obtain ⟨m2, t2, p2, r2⟩ := h2
  refine ⟨fun E E' ρ l h => m _ _ _ (fun b h => ?_) h, _, ps_if p0 p1 p2, fun F0 H0 ρ σ F H E D' I L h => r0 I.ext.pre I.slots h fun b F1 H1 h e1 => ?_⟩
  · cases b with
    | true => exact iteT (m1 _ _ _ l (by simpa using h))
    | false => exact iteF (m2 _ _ _ l (by simpa using h))
  · cases b with
    | true =>
      have h' : s E ρ := by simpa using h
      exact iteT (r1 _ _ _ _ _ _ _ _ (I.step e1) L h')
    | false =>
      have h' : u E ρ := by simpa using h
      exact iteF (r2 _ _ _ _ _ _ _ _ (I.step e1) L h')
theorem ds_never : DS X dc st (fun _ _ => False) := ⟨fun _ _ _ _ h => h, _, ps_never, fun _ _ _ _ _ _ _ _ _ _ h => h⟩
theorem dss_never : DSs X dc rest (fun _ _ => False) := ⟨fun _ _ _ _ h => h, _, pss_never, fun _ _ _ _ _ _ _ _ _ _ h => h⟩
/-- a target of any form -/
def sAsg (d : DT) (is : List Nat) (g : DTG) : DTS := fun E ρ => d (visD ρ) fun x => g x fun xs => E.nx (setAllS ρ is xs)
theorem ds_asg {tg : Expr} {is : List Nat} {g : DTG} (he : DE X dc e d) (hg : DG X dc tg is g) (hs : swapsWithSole [tg] e pos.line X.env = pure false := by rfl) (hw : swappedStores [tg] e X.env = pure none := by rfl)
    (h1 : (assignEach [tg] X.env).map (·.2) = [assign tg X.env] := by rfl) : DS X dc (.Assign [tg] e pos) (sAsg d is g) := by
  have m := he.mono
  obtain ⟨t, p, r⟩ := he.get
  refine ⟨fun E E' ρ l h => m _ _ _ (fun x h => hg.mono _ _ _ (fun xs h => l.nx _ h) h) h, _, ps_asg p hg.run hs hw h1, fun F0 H0 ρ σ F H E D' I L h => ?_⟩
  refine r I.ext.pre I.slots h fun x v F1 H1 h e1 r1 => ⟨F1, x, e1.pre, r1, hg.mono _ _ _ (fun xs h vs rv => ?_) h⟩
  exact L.nx _ _ _ _ ((I.step e1).setAll is rv) h
/-- a, b = e1, e2 -/
def sPar (i j : Nat) (d : DTA) : DTS := fun E ρ => d (visD ρ) fun xs => match xs with | [x, y] => E.nx ((ρ.set i (.val x)).set j (.val y)) | _ => False
end
/-! ### a, b = e1, e2; loops; a def by its body -/
section
variable {X : Cx} {dc : Option Addr} {e : Expr} {pos : Pos}
def pr2 (xs : List D) (Q : D → D → Prop) : Prop := match xs with | [x, y] => Q x y | _ => False
theorem pr2.inv {xs : List D} {Q : D → D → Prop} (h : pr2 xs Q) : ∃ x y, xs = [x, y] ∧ Q x y := by
  unfold pr2 at h
  split at h
  · exact ⟨_, _, rfl, h⟩
  · exact False.elim h
theorem pr2.mono {xs : List D} {P Q : D → D → Prop} (h : ∀ x y, P x y → Q x y) (p : pr2 xs P) : pr2 xs Q := by
  obtain ⟨x, y, rfl, q⟩ := p.inv
  exact h _ _ q
def sPar2 (i j : Nat) (d : DTA) : DTS := fun E ρ => d (visD ρ) fun xs => pr2 xs fun x y => E.nx ((ρ.set i (.val x)).set j (.val y))
theorem ds_par {i j : Nat} {x y : Str} {a b : Expr} {d : DTA} {px py pt : Pos} {kt k2 pt2} (hc : X.calm = true) (hN : X.N.Nodup) (hi : X.N[i]? = some x) (hj : X.N[j]? = some y) (hij : i ≠ j)
    (hx : X.env.scope.names.lookup x = some .local) (hy : X.env.scope.names.lookup y = some .local) (ha : DA X dc [a, b] d)
    (hw : swappedStores [.Tuple [.Name x px, .Name y py] kt pt] (.Tuple [a, b] k2 pt2) X.env = pure (some [x, y]))
    (hs : swapsWithSole [.Tuple [.Name x px, .Name y py] kt pt] (.Tuple [a, b] k2 pt2) pos.line X.env = pure false := by rfl) :
    DS X dc (.Assign [.Tuple [.Name x px, .Name y py] kt pt] (.Tuple [a, b] k2 pt2) pos) (sPar2 i j d) := by
  have m := ha.mono
  obtain ⟨t, p, r⟩ := ha.get
  refine ⟨fun E E' ρ l h => m _ _ _ (fun xs h => pr2.mono (fun x y h => l.nx _ h) h) h, _, ps_par hc hN hi hj hij hx hy p hw hs, fun F0 H0 ρ σ F H E D' I L h => ?_⟩
  refine r I.ext.pre I.slots h fun xs vs F1 H1 h e1 r1 => ?_
  obtain ⟨x, y, rfl, h⟩ := h.inv
  cases r1 with
  | cons q1 q2 =>
    cases q2 with
    | cons q2 q3 =>
      cases q3
      exact ⟨_, _, rfl, L.nx _ _ _ _ (((I.step e1).set i q1).set j q2) h⟩
/-- the base of a loop: what of H is not the def's own -/
def cutH (dc : Option Addr) (F1 H0 H1 : Hp) : Hp := fun a => if (F1 a).isSome = true ∨ (H0 a).isSome = true ∨ dc = some a then H1 a else none
theorem cutH_in {F1 H0 H1 : Hp} {a : Addr} {o : HO} (h : cutH dc F1 H0 H1 a = some o) : H1 a = some o ∧ ((F1 a).isSome = true ∨ (H0 a).isSome = true ∨ dc = some a) := by
  unfold cutH at h
  by_cases c : (F1 a).isSome = true ∨ (H0 a).isSome = true ∨ dc = some a
  · rw [if_pos c] at h
    exact ⟨h, c⟩
  · rw [if_neg c] at h
    cases h
theorem cutH_of {F1 H0 H1 : Hp} {a : Addr} (c : (F1 a).isSome = true ∨ (H0 a).isSome = true ∨ dc = some a) : cutH dc F1 H0 H1 a = H1 a := if_pos c
theorem SInv.rebase {F0 H0 F1 H1 : Hp} {ρ : SEnv} {σ : L2.St} (I : SInv dc F0 H0 ρ σ F1 H1) : SInv dc F1 (cutH dc F1 H0 H1) ρ σ F1 H1 := by
  have pr : Pre dc F1 (cutH dc F1 H0 H1) := ⟨fun a o h => (I.ext.pre.sub a o h).keep fun u q => by rw [cutH_of (.inl (by rw [h]; rfl))]; exact q, fun d z => by
    obtain ⟨⟨x, y, w, h⟩, n⟩ := I.ext.pre.dice d z
    exact ⟨⟨x, y, w, by rw [cutH_of (.inr (.inr z))]; exact h⟩, n⟩⟩
  refine ⟨pr, ⟨I.ext.pre, fun a o _ h => (cutH_in h).1, fun _ _ h => h, fun _ _ h => .inl h⟩, I.len, I.vals, fun i x h => ?_, I.apart⟩
  obtain ⟨a, o, h1, h2, h3, h4, h5, h6⟩ := I.owns i x h
  refine ⟨a, o, h1, h2, h3, h4, ?_, h6⟩
  unfold cutH
  rw [if_neg]
  rintro (z | z | z)
  · rw [h4] at z; cases z
  · rw [h5] at z; cases z
  · exact h6 z
theorem Ext.back {F0 H0 F1 H1 F H : Hp} (p0 : Pre dc F0 H0) (a : Ext dc F0 H0 F1 H1) (b : Ext dc F1 (cutH dc F1 H0 H1) F H) : Ext dc F0 H0 F H := by
  refine ⟨b.pre, fun c o hc h => ?_, fun c o h => b.fsub c o (a.fsub c o h), fun c o h => ?_⟩
  · refine b.keep c o hc ?_
    rw [cutH_of (.inr (.inl (by rw [h]; rfl)))]
    exact a.keep c o hc h
  · have key : (∀ xs, H1 c = some (.tup xs) → H0 c = none ∨ ∃ xs, H0 c = some (.tup xs)) := fun xs q => by
      cases z : H0 c with
      | none => exact .inl rfl
      | some u =>
        by_cases hd : dc = some c
        · obtain ⟨⟨x, y, w, hw⟩, _⟩ := a.pre.dice c hd
          rw [q] at hw
          cases hw
        · rw [a.keep c u hd z] at q
          cases q
          exact .inr ⟨xs, rfl⟩
    rcases b.fnew c o h with z | z | ⟨xs, z⟩
    · exact a.fnew c o z
    · cases q : H0 c with
      | none => exact .inr (.inl rfl)
      | some u =>
        rw [cutH_of (.inr (.inl (by rw [q]; rfl)))] at z
        by_cases hd : dc = some c
        · obtain ⟨⟨x, y, w, hw⟩, _⟩ := a.pre.dice c hd
          rw [z] at hw
          cases hw
        · rw [a.keep c u hd q] at z
          cases z
    · exact .inr (key xs (cutH_in z).1)
theorem SInv.back {F0 H0 F1 H1 F H : Hp} {ρ ρ1 : SEnv} {σ σ1 : L2.St} (I : SInv dc F0 H0 ρ1 σ1 F1 H1) (J : SInv dc F1 (cutH dc F1 H0 H1) ρ σ F H) : SInv dc F0 H0 ρ σ F H := by
  refine ⟨I.pre0, I.ext.back I.pre0 J.ext, J.len, J.vals, fun i x h => ?_, J.apart⟩
  obtain ⟨a, o, h1, h2, h3, h4, h5, h6⟩ := J.owns i x h
  refine ⟨a, o, h1, h2, h3, h4, ?_, h6⟩
  cases q : H0 a with
  | none => rfl
  | some u =>
    rw [cutH_of (.inr (.inl (by rw [q]; rfl)))] at h5
    rw [I.ext.keep a u h6 q] at h5
    cases h5
def dFor (is : List Nat) (g : DTG) (body : DTS) (E : DEnds) : List D → SEnv → Prop
  | [], ρ => E.nx ρ
  | x :: xs, ρ => g x fun ys => body { nx := dFor is g body E xs, rt := E.rt, bk := E.nx, ct := dFor is g body E xs } (setAllS ρ is ys)
def sFor (w : DTI) (is : List Nat) (g : DTG) (body : DTS) : DTS := fun E ρ => w (visD ρ) fun xs => dFor is g body E xs ρ
theorem dFor_mono {is : List Nat} {g : DTG} {body : DTS} {E E' : DEnds} (mg : ∀ x P P', (∀ xs, P xs → P' xs) → g x P → g x P') (mb : ∀ E E' ρ, E.Le E' → body E ρ → body E' ρ) (l : E.Le E') : ∀ xs ρ, dFor is g body E xs ρ → dFor is g body E' xs ρ
  | [], ρ, h => l.nx ρ h
  | x :: xs, ρ, h => mg _ _ _ (fun ys h => mb { nx := dFor is g body E xs, rt := E.rt, bk := E.nx, ct := dFor is g body E xs } { nx := dFor is g body E' xs, rt := E'.rt, bk := E'.nx, ct := dFor is g body E' xs } _ ⟨fun ρ h => dFor_mono mg mb l xs ρ h, l.rt, l.nx, fun ρ h => dFor_mono mg mb l xs ρ h⟩ h) h
theorem ds_for {tg iter : Expr} {body : List Stmt} {is : List Nat} {w : DTI} {g : DTG} {s : DTS} (hp : PassesOwn (model X.prog X.w) X.A X.env X.xe) (hc : X.calm = true) (hi : DI X dc tg iter w) (hg : DG X dc tg is g) (hb : DSs X dc body s)
    (hs : ∀ x, foldedSetIterable iter X.env x = pure x := by intro _; rfl) : DS X dc (.For tg iter body [] pos) (sFor w is g s) := by
  obtain ⟨mb, tb, pb, rb⟩ := hb
  have mg := hg.mono
  refine ⟨fun E E' ρ l h => hi.mono _ _ _ (fun xs h => dFor_mono mg mb l xs ρ h) h, _, ps_for hp hc hi.run hg.run pb hs, fun F0 H0 ρ σ F H E D' I L h => ?_⟩
  refine ⟨visD ρ, F, I.ext.pre, I.slots, hi.mono _ _ _ (fun xs hx J F1 H1 e1 it => ?_) h⟩
  have I1 := I.step e1
  have kF : ∀ {F' H' : Hp}, Ext dc F1 (cutH dc F1 H0 H1) F' H' → ∀ a o, F1 a ≠ none → H1 a = some o → H' a = some o := fun {F' H'} e' a o hF h => by
    have hs : (F1 a).isSome = true := by cases q : F1 a with | none => exact absurd q hF | some _ => rfl
    exact e'.keep a o (fun z => hF (I1.ext.pre.dice a z).2) (by rw [cutH_of (.inl hs)]; exact h)
  refine for_it (n := xs.length) (G := fun H' => ∀ a o, F1 a ≠ none → H1 a = some o → H' a = some o) (Y := fun i H' v H'' => ∀ F', Pre dc F' H' → (∀ a o, F1 a = some o → F' a = some o) → ∃ x F'', xs[i]? = some x ∧ Ext dc F' H' F'' H'' ∧ Rep dc F'' x v)
    ⟨fun i H' hi k => it.goes i H' hi k, fun H' k => it.stops H' k, fun i H' v H'' hi k y F' pr fs => it.yields i F' H' v H'' hi pr fs k y⟩
    (fun i σ' H' => ∃ ρ' F', SInv dc F1 (cutH dc F1 H0 H1) ρ' σ' F' H' ∧ dFor is g s E (xs.drop i) ρ') ⟨ρ, F1, I1.rebase, by rw [List.drop_zero]; exact hx⟩
    (fun i σ' H' _ ⟨ρ', F', J', _⟩ => kF J'.ext) (fun i v σ' H' H'' hi ⟨ρ', F', J', hd⟩ y => ?_) (fun σ' H' ⟨ρ', F', J', hd⟩ => ?_)
  · obtain ⟨x, F2, hxi, e2, rx⟩ := y F' J'.ext.pre J'.ext.fsub
    have hxe : x = xs[i] := by rw [List.getElem?_eq_getElem hi] at hxi; exact (Option.some.inj hxi).symm
    rw [List.drop_eq_getElem_cons hi, ← hxe] at hd
    refine ⟨F2, x, e2.pre, rx, mg _ _ _ (fun ys hy ws rw' => ?_) hd⟩
    refine rb F1 _ _ _ F2 H'' _ _ ((J'.step e2).setAll is rw') ⟨fun ρ2 σ2 F3 H3 J3 h3 => ⟨ρ2, F3, J3, h3⟩, fun z v F3 H3 e3 r3 h3 => ?_, fun ρ2 σ2 F3 H3 J3 h3 => ?_, fun ρ2 σ2 F3 H3 J3 h3 => ⟨ρ2, F3, J3, h3⟩⟩ hy
    · exact L.rt _ _ _ _ (I1.ext.back I.pre0 e3) r3 h3
    · exact L.nx _ _ _ _ (I1.back J3) h3
  · rw [List.drop_length] at hd
    exact L.nx _ _ _ _ (I1.back J') hd
theorem ds_retN : DS X dc (.Return none pos) (fun E _ => E.rt .non) := ⟨fun E E' ρ l h => l.rt _ h, _, ps_retN, fun F0 H0 ρ σ F H E D' I L h => L.rt _ _ _ _ I.ext .non h⟩
end
/-! a def -/
def startS (N : List Str) (xs : List D) : SEnv := xs.map Sl.val ++ List.replicate (N.length - xs.length) Sl.emp
theorem SInv.start {dc : Option Addr} {F H : Hp} {N : List Str} {xs : List D} {vs : List V} (p : Pre dc F H) (r : Reps dc F xs vs) : SInv dc F H (startS N xs) (L2.start N vs) F H := by
  have nov : ∀ {i : Nat} {x : D}, (startS N xs)[i]? = some (.own x) → False := fun {i x} h => by
    unfold startS at h
    rcases List.mem_append.mp (List.mem_of_getElem? h) with z | z
    · obtain ⟨y, _, e⟩ := List.mem_map.mp z
      cases e
    · cases (List.mem_replicate.mp z).2
  refine ⟨p, .refl p, ?_, fun i x h => ?_, fun i x h => (nov h).elim, fun i j x y a h => (nov h).elim⟩
  · unfold startS L2.start
    rw [List.length_append, List.length_append, List.length_map, List.length_map, List.length_replicate, List.length_replicate, r.length]
  · unfold startS at h
    by_cases hi : i < xs.length
    · rw [List.getElem?_append_left (by rw [List.length_map]; exact hi), List.getElem?_map] at h
      cases q : xs[i]? with
      | none => rw [q] at h; cases h
      | some y =>
        rw [q] at h
        cases h
        obtain ⟨v, hv, rv⟩ := r.get q
        refine ⟨v, ?_, rv⟩
        unfold L2.start
        rw [List.getElem?_append_left (by rw [List.length_map, ← r.length]; exact hi), List.getElem?_map, hv]
        rfl
    · rw [List.getElem?_append_right (by rw [List.length_map]; omega)] at h
      have := List.mem_of_getElem? h
      cases (List.mem_replicate.mp this).2
def retE (Q : D → Prop) : DEnds := { nx := fun _ => Q .non, rt := Q }
section
variable {P : Program} {w : World} {K : PySem.W.Frag} {mg : Str → Option Value} {base : Heap}
theorem fnD_ok {x qual : Str} {st : Stmt} {f : Addr} {fd : FuncData} {N ps : List Str} {k : Nat} {sp : DSp} {s : DTS} (F : Fun K x qual st f fd) (S : FnScope N ps (defScope st)) (len : ∀ xs Q, sp xs Q → xs.length = ps.length)
    (body : ∀ (dc : Option Addr) (cdv : Value) (A : Around) (outer : List Env) (s0 : Shared) (H : Hp) (E : XK), Room k (A.deeper (envOfC qual (defScope st) s0.heap.objs.size f cdv)) →
      DSs (cxOf CX0 P w K mg base N qual (defScope st) f cdv A outer s0 H E).nox dc (defBody st) s) (h : ∀ xs Q, sp xs Q → s (retE Q) (startS N xs)) : FnOk P w K mg base CX0 (k + 1) f fd ps (spD sp) := by
  refine F.ok S (fun vs H Q E ⟨dc, F, xs, p, r, q⟩ => by rw [← r.length]; exact len _ _ q) (fun cdv A outer s0 H vs Q E hr hq => ?_)
  obtain ⟨dc, F1, xs, p, r, q⟩ := hq
  obtain ⟨_, t, pt, rt⟩ := body dc cdv A outer s0 H E hr
  refine ⟨t, pt, rt F1 H _ _ F1 H (retE (KV' dc F1 H Q)) _ (SInv.start p r) ⟨fun ρ σ F' H' I hn => hn _ _ _ I.ext .non, fun y v F' H' e ry hy => hy _ _ _ e ry, fun _ _ _ _ _ hn => hn.elim, fun _ _ _ _ _ hn => hn.elim⟩ (h xs _ q)⟩
/-- the same where defaults may stand -/
theorem fnD_ok8 {x qual : Str} {st : Stmt} {f : Addr} {fd : FuncData} {N ps : List Str} {k : Nat} {sp : DSp} {s : DTS} (F : C8.Fun K x qual st f fd) (S : FnScope N ps (C8.fnScope st)) (len : ∀ xs Q, sp xs Q → xs.length = ps.length)
    (body : ∀ (dc : Option Addr) (cdv : Value) (A : Around) (outer : List Env) (s0 : Shared) (H : Hp) (E : XK), Room k (A.deeper (envOfC qual (C8.fnScope st) s0.heap.objs.size f cdv)) →
      DSs (cxOf CX0 P w K mg base N qual (C8.fnScope st) f cdv A outer s0 H E).nox dc (C8.fnBody st) s) (h : ∀ xs Q, sp xs Q → s (retE Q) (startS N xs)) : FnOk P w K mg base CX0 (k + 1) f fd ps (spD sp) := by
  refine C8.fn0 F S (fun vs H Q E ⟨dc, F, xs, p, r, q⟩ => by rw [← r.length]; exact len _ _ q) (fun cdv A outer s0 H vs Q E hr hq => ?_)
  obtain ⟨dc, F1, xs, p, r, q⟩ := hq
  obtain ⟨_, t, pt, rt⟩ := body dc cdv A outer s0 H E hr
  refine ⟨t, pt, rt F1 H _ _ F1 H (retE (KV' dc F1 H Q)) _ (SInv.start p r) ⟨fun ρ σ F' H' I hn => hn _ _ _ I.ext .non, fun y v F' H' e ry hy => hy _ _ _ e ry, fun _ _ _ _ _ hn => hn.elim, fun _ _ _ _ _ hn => hn.elim⟩ (h xs _ q)⟩
end
/-! ### slices, zip, two clauses -/
structure DO (X : Cx) (dc : Option Addr) (e : Option Expr) (d : DEnv → (Option Int → Prop) → Prop) : Prop where
  mono : ∀ ρ P P', (∀ x, P x → P' x) → d ρ P → d ρ P'
  run : ∃ t, PO X e t ∧ ∀ ρ σ F H Q, Pre dc F H → Slots dc F ρ σ → d ρ (fun o => ∀ F' H', Ext dc F H F' H' → Q o H') → t σ H Q
def cutD (xs : List D) (lo hi : Option Int) : List D := (xs.drop (HT.sIx xs.length 0 lo)).take (HT.sIx xs.length xs.length hi - HT.sIx xs.length 0 lo)
theorem Reps.cut {dc : Option Addr} {F : Hp} {xs : List D} {vs : List V} (r : Reps dc F xs vs) (lo hi : Option Int) : Reps dc F (cutD xs lo hi) (cutV vs lo hi) := by
  unfold cutD cutV
  rw [r.length]
  exact (r.drop _).take _
theorem cutD_whole {xs : List D} {lo hi : Option Int} (h : HT.sIx xs.length 0 lo = 0 ∧ HT.sIx xs.length xs.length hi = xs.length) : cutD xs lo hi = xs := by
  unfold cutD
  rw [h.1, h.2, List.drop_zero, Nat.sub_zero, List.take_length]
section
variable {X : Cx} {dc : Option Addr}
theorem do_none : DO X dc none (fun _ Q => Q none) := ⟨fun _ _ _ h => h _, _, po_none, fun ρ σ F H Q p s h => h _ _ (.refl p)⟩
theorem do_some {e : Expr} {d : DT} (h : DE X dc e d) : DO X dc (some e) (fun ρ Q => d ρ fun x => asInt x fun i => Q (some i)) := by
  have m := h.mono
  obtain ⟨t, p, r⟩ := h.get
  refine ⟨fun ρ P P' hP h => m _ _ _ (fun x h => asInt.mono (fun i h => hP _ h) h) h, _, po_some p, fun ρ σ F H Q pr s h => r pr s h fun x v F1 H1 h e1 r1 => ?_⟩
  obtain ⟨i, rfl, h1⟩ := h.inv
  cases r1
  exact ⟨i, rfl, h1 _ _ e1⟩
theorem de_slice {e : Expr} {lo hi : Option Expr} {p2 pos : Pos} {d : DT} {dl dh : DEnv → (Option Int → Prop) → Prop} (he : DE X dc e d) (hl : DO X dc lo dl) (hh : DO X dc hi dh) :
    DE X dc (.Subscript e (.Slice lo hi none p2) pos) (fun ρ Q => d ρ fun x => dl ρ fun l => dh ρ fun u => match x with | .lst xs => Q (.lst (cutD xs l u)) | .tup xs => Q (.tup (cutD xs l u)) | _ => False) := by
  have m := he.mono
  obtain ⟨t, p, r⟩ := he.get
  obtain ⟨ml, tl, pl, rl⟩ := hl
  obtain ⟨mh, th, ph, rh⟩ := hh
  refine ⟨fun ρ P P' hP h => m _ _ _ (fun x h => ml _ _ _ (fun l h => mh _ _ _ (fun u h => ?_) h) h) h, _, pe_slice (SlR.or sl_list sl_tupA) p pl ph, fun ρ σ F H Q pr s h => r pr s h fun x v F1 H1 h e1 r1 => ?_⟩
  · split at h <;> first | exact hP _ h | exact False.elim h
  · refine rl _ _ _ _ _ e1.pre (s.mono e1.fsub) (ml _ _ _ (fun l h F2 H2 e2 => rh _ _ _ _ _ e2.pre ((s.mono e1.fsub).mono e2.fsub) (mh _ _ _ (fun u h F3 H3 e3 => ?_) h)) h)
    have e13 := (e1.trans pr e2).trans pr e3
    have r3 := e3.rep (e2.rep r1)
    split at h
    · obtain ⟨a, vs, rfl, ha, rv⟩ := r3.seqL (K := X.K) e3.pre
      refine .inl ⟨a, vs, rfl, .of ha, fun q nq => ?_⟩
      obtain ⟨e4, r4⟩ := Ext.lst e3.pre nq (rv.cut l u)
      exact h _ _ _ (e13.trans pr e4) r4
    · rename_i xs
      cases r3 with
      | @tup a _ vs ea rv =>
        refine .inr ⟨a, vs, rfl, .of (e3.pre.sub _ _ ea), fun w => ?_, fun w q nq => ?_⟩
        · rw [← rv.length] at w
          refine h _ _ _ e13 ?_
          rw [cutD_whole w]
          exact .tup ea rv
        · obtain ⟨e4, r4⟩ := Ext.tup e3.pre nq (rv.cut l u)
          exact h _ _ _ (e13.trans pr e4) r4
    · exact False.elim h
end
/-! zip of two lists or two tuples -/
def zipD (a b : List D) : List D := (a.zip b).map fun p => .tup [p.1, p.2]
def onZip (x y : D) (Q : List D → Prop) : Prop := match x, y with
  | .lst a, .lst b => Q (zipD a b)
  | .tup a, .tup b => Q (zipD a b)
  | _, _ => False
def iZipD (d : DTA) : DTI := fun ρ Q => d ρ fun xs => pr2 xs fun x y => onZip x y Q
theorem Ext.tup2 {dc : Option Addr} {F H : Hp} {a : Addr} {x y : D} {v u : V} (p : Pre dc F H) (n : H a = none) (rx : Rep dc F x v) (ry : Rep dc F y u) : Ext dc F H (upd F a (.tup [v, u])) (upd H a (.tup [v, u])) ∧ Rep dc (upd F a (.tup [v, u])) (.tup [x, y]) (.ref a) :=
  Ext.tup p n (.cons rx (.cons ry .nil))
section
variable {X : Cx} {dc : Option Addr}
theorem zipD_len (a b : List D) : (zipD a b).length = min a.length b.length := by unfold zipD; rw [List.length_map, List.length_zip]
theorem zipD_get {a b : List D} {i : Nat} {x y : D} (h : a[i]? = some x) (g : b[i]? = some y) : (zipD a b)[i]? = some (.tup [x, y]) := by
  unfold zipD
  rw [List.getElem?_map, (List.getElem?_zip_eq_some (z := (x, y))).mpr ⟨h, g⟩]
  rfl
theorem di_zip {e e2 : Expr} {d : DTA} {p pos tpos : Pos} {elts : List Expr} {kk : Nat} (hg : Gl X "zip") (hm : X.mg "zip" = none) (ha : DA X dc [e, e2] d)
    (hs : starEach [e, e2] X.env = (false, eval e X.env) :: starEach [e2] X.env := by rfl) (hpl : (backTo pos (starEach [e2] X.env)).any (·.1) = false := by rfl) :
    DI X dc (.Tuple elts kk tpos) (.Call (.Name "zip" p) [e, e2] [] pos) (iZipD d) := by
  have m := ha.mono
  obtain ⟨t, pt, rt⟩ := ha.get
  refine DI.mk' (fun ρ P P' hP q => m _ _ _ (fun xs q => pr2.mono (fun x y q => ?_) q) q) (RZ.pi_zipA hg hm pt hs hpl) fun ρ σ F H R p s q => rt p s q fun xs vs F1 H1 h e1 r1 => ?_
  · unfold onZip at q ⊢
    split at q <;> first | exact hP _ q | exact False.elim q
  · have hh := h.inv
    clear h
    obtain ⟨x, y, rfl, h⟩ := hh
    cases r1 with
    | cons q1 q2 =>
    cases q2 with
    | cons q2 q3 =>
    cases q3
    unfold onZip at h
    split at h
    · rename_i as bs
      cases q1 with
      | @lst a _ vs ea ra =>
      cases q2 with
      | @lst b _ us eb rb =>
      have ha := e1.pre.sub _ _ ea
      have hb := e1.pre.sub _ _ eb
      have na : F1 a ≠ none := by rw [ea]; exact fun z => nomatch z
      have nb : F1 b ≠ none := by rw [eb]; exact fun z => nomatch z
      refine ⟨a, b, vs, us, rfl, .inl ⟨.of ha, .of hb, h _ _ _ e1 ⟨fun i H' hi k => ?_, fun H' k => ?_, fun i F' H' v H'' hi pr fs k yy => ?_⟩⟩⟩
      · rw [zipD_len] at hi
        obtain ⟨v, hv, _⟩ := ra.get (List.getElem?_eq_getElem (show i < as.length by omega))
        obtain ⟨u, hu, _⟩ := rb.get (List.getElem?_eq_getElem (show i < bs.length by omega))
        exact ⟨vs, us, v, u, .of (k _ _ na ha), .of (k _ _ nb hb), hv, hu⟩
      · rw [zipD_len, ra.length, rb.length]
        exact ⟨vs, us, .of (k _ _ na ha), .of (k _ _ nb hb), by omega⟩
      · obtain ⟨T, v1, v2, rfl, nT, rfl, h1, h2⟩ := yy
        obtain ⟨x1, hx1, rx1⟩ := ra.get' (h1 _ (.of (k _ _ na ha)))
        obtain ⟨x2, hx2, rx2⟩ := rb.get' (h2 _ (.of (k _ _ nb hb)))
        obtain ⟨e2, r2⟩ := Ext.tup2 pr nT (rx1.mono fs) (rx2.mono fs)
        exact ⟨_, _, zipD_get hx1 hx2, e2, r2⟩
    · rename_i as bs
      cases q1 with
      | @tup a _ vs ea ra =>
      cases q2 with
      | @tup b _ us eb rb =>
      have ha := e1.pre.sub _ _ ea
      have hb := e1.pre.sub _ _ eb
      have na : F1 a ≠ none := by rw [ea]; exact fun z => nomatch z
      have nb : F1 b ≠ none := by rw [eb]; exact fun z => nomatch z
      refine ⟨a, b, vs, us, rfl, .inr ⟨.of ha, .of hb, h _ _ _ e1 ⟨fun i H' hi k => ?_, fun H' k => ?_, fun i F' H' v H'' hi pr fs k yy => ?_⟩⟩⟩
      · rw [zipD_len] at hi
        obtain ⟨v, hv, _⟩ := ra.get (List.getElem?_eq_getElem (show i < as.length by omega))
        obtain ⟨u, hu, _⟩ := rb.get (List.getElem?_eq_getElem (show i < bs.length by omega))
        exact ⟨vs, us, v, u, .of (k _ _ na ha), .of (k _ _ nb hb), hv, hu⟩
      · rw [zipD_len, ra.length, rb.length]
        exact ⟨vs, us, .of (k _ _ na ha), .of (k _ _ nb hb), by omega⟩
      · obtain ⟨T, v1, v2, rfl, nT, rfl, h1, h2⟩ := yy
        obtain ⟨x1, hx1, rx1⟩ := ra.get' (h1 _ (.of (k _ _ na ha)))
        obtain ⟨x2, hx2, rx2⟩ := rb.get' (h2 _ (.of (k _ _ nb hb)))
        obtain ⟨e2, r2⟩ := Ext.tup2 pr nT (rx1.mono fs) (rx2.mono fs)
        exact ⟨_, _, zipD_get hx1 hx2, e2, r2⟩
    · exact False.elim h
end
/-! two clauses: at most 1000 turns each -/
theorem it_w {J : It} {n : Nat} {G : Hp → Prop} {Y : Nat → Hp → V → Hp → Prop} (w : Walk J n G Y) {Hs : Hp} {Qd : Hp → Prop} {B : (Hp → Prop) → V → Hp → Prop} (Pv : Nat → Hp → Prop) (h0 : Pv 0 Hs) (hG : ∀ i H, i ≤ n → Pv i H → G H)
    (hs : ∀ i x H H', i < n → Pv i H → Y i H x H' → B (Pv (i + 1)) x H') (hd : ∀ H, Pv n H → Qd H) :
    ∃ W : Nat → Nat → Hp → Prop, (∃ m, W 0 m Hs) ∧ ∀ i m H, W i m H → (J.stop i H ∧ Qd H) ∨ (J.go i H ∧ ∃ Nx : Hp → Prop, (∀ H', Nx H' → ∃ m', m' < m ∧ W (i + 1) m' H') ∧ ∀ x H', J.yld i H x H' → B Nx x H') := by
  refine ⟨fun i m H => m = n - i ∧ i ≤ n ∧ Pv i H, ⟨n, by simp, Nat.zero_le _, h0⟩, ?_⟩
  rintro i m H ⟨rfl, hi, p⟩
  have q := hG i H hi p
  by_cases hlt : i < n
  · exact .inr ⟨w.goes i H hlt q, Pv (i + 1), fun H' p' => ⟨n - (i + 1), by omega, rfl, hlt, p'⟩, fun x H' y => hs i x H H' hlt p (w.yields i H x H' hlt q y)⟩
  · have e : i = n := by omega
    subst e
    exact .inl ⟨w.stops H q, hd H p⟩
def lcF2 (is : List Nat) (g : DTG) (dt : DTB) (w1 : DTI) (is1 : List Nat) (g1 : DTG) (dt1 : DTB) (de : DT) (vs vs1 : List Nat) (ρ : DEnv) : D → (List D → Prop) → Prop := fun x K => g x fun ys => dt (setAllD (wipeD ρ vs) is ys) fun b =>
  if b = true then w1 (setAllD (wipeD ρ vs) is ys) fun xs1 => xs1.length ≤ 1000 ∧ lcL (lcF is1 g1 dt1 de vs1 (setAllD (wipeD ρ vs) is ys)) xs1 K else K []
def dLc2 (w : DTI) (is : List Nat) (g : DTG) (dt : DTB) (w1 : DTI) (is1 : List Nat) (g1 : DTG) (dt1 : DTB) (de : DT) (vs vs1 : List Nat) : DT := fun ρ Q => w ρ fun xs => xs.length ≤ 1000 ∧ lcL (lcF2 is g dt w1 is1 g1 dt1 de vs vs1 ρ) xs fun ys => Q (.lst ys)
section
variable {X : Cx} {dc : Option Addr}
theorem lcF2_mono {is is1 : List Nat} {g g1 : DTG} {dt dt1 : DTB} {w1 : DTI} {de : DT} {vs vs1 : List Nat} {ρ : DEnv} (mg : ∀ x P P', (∀ xs, P xs → P' xs) → g x P → g x P') (mt : ∀ ρ P P', (∀ x, P x → P' x) → dt ρ P → dt ρ P')
    (mw1 : ∀ ρ P P', (∀ x, P x → P' x) → w1 ρ P → w1 ρ P') (mg1 : ∀ x P P', (∀ xs, P xs → P' xs) → g1 x P → g1 x P') (mt1 : ∀ ρ P P', (∀ x, P x → P' x) → dt1 ρ P → dt1 ρ P') (me : ∀ ρ P P', (∀ x, P x → P' x) → de ρ P → de ρ P') :
    ∀ x P P', (∀ y, P y → P' y) → lcF2 is g dt w1 is1 g1 dt1 de vs vs1 ρ x P → lcF2 is g dt w1 is1 g1 dt1 de vs vs1 ρ x P' := fun x P P' h p => mg _ _ _ (fun ys p => mt _ _ _ (fun b p => by
  cases b with
  | true => exact iteT (mw1 _ (fun xs1 => xs1.length ≤ 1000 ∧ lcL (lcF is1 g1 dt1 de vs1 (setAllD (wipeD ρ vs) is ys)) xs1 P) _ (fun xs q => ⟨q.1, lcL_mono (lcF_mono mg1 mt1 me) _ _ _ h q.2⟩) (by simpa using p))
  | false => exact iteF (h _ (by simpa using p))) p) p
theorem de_lc2 {elt tg iter tg1 iter1 : Expr} {ifs ifs1 : List Expr} {scope : Scope} {own : List (Str × Nat)} {is is1 vs1 : List Nat} {pos : Pos} {w w1 : DTI} {g g1 : DTG} {dt dt1 : DTB} {de : DT} (hc : X.calm = true) (hN : X.N.Nodup) (hi : DI X dc tg iter w) (ok : BlkOk X.N X.env.scope scope own) (hv : ∀ i ∈ vs1, i ∈ own.map (·.2))
    (hg : ∀ (s : Shared) (H : Hp) (C : Addr) (cl : List (Str × Addr)) (fp : List Addr), DG (X.blk s H scope (compEnvC scope cl C X.env) fp) dc tg is g) (ht : ∀ (s : Shared) (H : Hp) (C : Addr) (cl : List (Str × Addr)) (fp : List Addr), DTs (X.blk s H scope (compEnvC scope cl C X.env) fp) dc ifs dt)
    (hi1 : ∀ (s : Shared) (H : Hp) (C : Addr) (cl : List (Str × Addr)) (fp : List Addr), DI (X.blk s H scope (compEnvC scope cl C X.env) fp) dc tg1 iter1 w1)
    (hg1 : ∀ (s : Shared) (H : Hp) (C : Addr) (cl : List (Str × Addr)) (fp : List Addr), DG (X.blk s H scope (compEnvC scope cl C X.env) fp) dc tg1 is1 g1) (ht1 : ∀ (s : Shared) (H : Hp) (C : Addr) (cl : List (Str × Addr)) (fp : List Addr), DTs (X.blk s H scope (compEnvC scope cl C X.env) fp) dc ifs1 dt1)
    (he : ∀ (s : Shared) (H : Hp) (C : Addr) (cl : List (Str × Addr)) (fp : List Addr), DE (X.blk s H scope (compEnvC scope cl C X.env) fp) dc elt de) (his : ∀ i ∈ is, i ∈ own.map (·.2)) (his1 : ∀ i ∈ is1, i ∈ vs1)
    (hs : ∀ x, foldedSetIterable iter X.env x = pure x := by intro _; rfl) (hs1 : ∀ env x, foldedSetIterable iter1 env x = pure x := by intro _ _; rfl) :
    DE X dc (.ListComp elt [⟨tg, iter, ifs, 0⟩, ⟨tg1, iter1, ifs1, 0⟩] scope pos) (dLc2 w is g dt w1 is1 g1 dt1 de (own.map (·.2)) vs1) := by
  have mw := hi.mono
  have mg := (hg {} (fun _ => none) 0 [] []).mono
  have mt := (ht {} (fun _ => none) 0 [] []).mono
  have mw1 := (hi1 {} (fun _ => none) 0 [] []).mono
  have mg1 := (hg1 {} (fun _ => none) 0 [] []).mono
  have mt1 := (ht1 {} (fun _ => none) 0 [] []).mono
  have me := (he {} (fun _ => none) 0 [] []).mono
  refine ⟨fun ρ P P' hP h => mw _ _ _ (fun xs h => ⟨h.1, lcL_mono (lcF2_mono mg mt mw1 mg1 mt1 me) _ _ _ (fun ys q => hP _ q) h.2⟩) h, _, pe_lc2 hc hN hi.run ok hv (fun s H C cl fp => (hg s H C cl fp).run) (fun s H C cl fp => (ht s H C cl fp).run) (fun s H C cl fp => (hi1 s H C cl fp).run)
    (fun s H C cl fp => (hg1 s H C cl fp).run) (fun s H C cl fp => (ht1 s H C cl fp).run) (fun s H C cl fp => (he s H C cl fp).pe) hs hs1, fun ρ σ F H Q p s h => ?_⟩
  refine ⟨ρ, F, p, s, mw _ _ _ (fun xs hx J F1 H1 e1 it L nD => ?_) h⟩
  obtain ⟨hz, hl⟩ := hx
  have p1 := e1.pre
  have s1 := s.mono e1.fsub
  have hl := lcL_mono (lcF2_mono mg mt mw1 mg1 mt1 me) _ _ (fun ys => KV' dc F1 H1 Q (.lst ys)) (fun ys q => q.on p e1) hl
  have fD1 : F1 L = none := p1.nf nD
  have dD : dc ≠ some L := p1.nd nD
  have big : (1000000 : Nat) < sizeLine := by decide
  refine it_w (n := xs.length) (G := fun H' => ∀ a o, F1 a ≠ none → H1 a = some o → H' a = some o) (Y := fun i H' v H'' => ∀ F', Pre dc F' H' → (∀ a o, F1 a = some o → F' a = some o) → ∃ x F'', xs[i]? = some x ∧ Ext dc F' H' F'' H'' ∧ Rep dc F'' x v)
    ⟨fun i H' hi k => it.goes i H' hi k, fun H' k => it.stops H' k, fun i H' v H'' hi k y F' pr fs => it.yields i F' H' v H'' hi pr fs k y⟩
    (fun i H' => ∃ F' acc accD, Ext dc F1 H1 F' H' ∧ F' L = none ∧ H' L = some (.lst acc) ∧ Reps dc F' accD acc ∧ accD.length ≤ 1000 * i ∧ lcL (lcF2 is g dt w1 is1 g1 dt1 de (own.map (·.2)) vs1 ρ) (xs.drop i) (fun r => KV' dc F1 H1 Q (.lst (accD ++ r))))
    ⟨F1, [], [], (Ext.refl p1).put nD fD1 dD, fD1, upd_same, .nil, Nat.zero_le _, by rw [List.drop_zero]; exact hl⟩
    (fun i H' _ hP => let ⟨F', _, _, e, _⟩ := hP; e.of p1) (fun i v H' H'' hi hP y => ?_) (fun H' hP => ?_)
  · obtain ⟨F', acc, accD, e, fD, hD, ra, la, hl⟩ := hP
    obtain ⟨x, F2, hx, e2, rx⟩ := y F' e.pre e.fsub
    have hxe : x = xs[i] := by rw [List.getElem?_eq_getElem hi] at hx; exact (Option.some.inj hx).symm
    rw [List.drop_eq_getElem_cons hi, ← hxe] at hl
    have nt : ∀ us, HO.lst acc ≠ .tup us := fun us z => nomatch z
    have hD2 : H'' L = some (.lst acc) := e2.keep _ _ dD hD
    have fD2 : F2 L = none := e2.out fD hD nt
    refine ⟨F2, x, e2.pre, rx, mg _ _ _ (fun ys hy ws rw' => ⟨wipe_setAll his, ?_⟩) hl⟩
    have sl : Slots dc F2 (setAllD (wipeD ρ (own.map (·.2))) is ys) (setAll (L2.wipe σ (own.map (·.2))) is ws) := ((s1.mono fun a o q => e2.fsub _ _ (e.fsub _ _ q)).wipe _).setAll is rw'
    refine ⟨_, F2, e2.pre, sl, mt _ _ _ (fun b hb F3 H3 e3 => ?_) hy⟩
    have hD3 : H3 L = some (.lst acc) := e3.keep _ _ dD hD2
    have fD3 : F3 L = none := e3.out fD2 hD2 nt
    have eA := (e.trans p1 e2).trans p1 e3
    have sl3 := sl.mono e3.fsub
    cases b with
    | false =>
      refine iteF ⟨F3, acc, accD, eA, fD3, hD3, e3.reps (e2.reps ra), by omega, ?_⟩
      simpa using hb
    | true =>
      refine iteT ⟨_, F3, e3.pre, sl3, mw1 _ (fun xs1 => xs1.length ≤ 1000 ∧ lcL (lcF is1 g1 dt1 de vs1 (setAllD (wipeD ρ (own.map (·.2))) is ys)) xs1 _) _ (fun xs1 hx1 J1 F4 H4 e4 it1 => ?_) (by simpa using hb)⟩
      obtain ⟨hz1, hl1⟩ := hx1
      have hD4 : H4 L = some (.lst acc) := e4.keep _ _ dD hD3
      have fD4 : F4 L = none := e4.out fD3 hD3 nt
      have p4 := e4.pre
      have sl4 := sl3.mono e4.fsub
      have eB := eA.trans p1 e4
      have ra4 := e4.reps (e3.reps (e2.reps ra))
      have kF : ∀ {F' H' : Hp}, Ext dc F1 H1 F' H' → (∀ a o, F4 a ≠ none → H4 a = some o → H' a = some o) → ∀ a o, F4 a ≠ none → H4 a = some o → H' a = some o := fun _ h => h
      refine it_w (n := xs1.length) (G := fun H' => ∀ a o, F4 a ≠ none → H4 a = some o → H' a = some o) (Y := fun i H' v H'' => ∀ F', Pre dc F' H' → (∀ a o, F4 a = some o → F' a = some o) → ∃ x F'', xs1[i]? = some x ∧ Ext dc F' H' F'' H'' ∧ Rep dc F'' x v)
        ⟨fun i H' hi k => it1.goes i H' hi k, fun H' k => it1.stops H' k, fun i H' v H'' hi k y F' pr fs => it1.yields i F' H' v H'' hi pr fs k y⟩
        (fun j H' => ∃ F' ac acD, Ext dc F1 H1 F' H' ∧ (∀ a o, F4 a = some o → F' a = some o) ∧ (∀ a o, F4 a ≠ none → H4 a = some o → H' a = some o) ∧ F' L = none ∧ H' L = some (.lst ac) ∧ Reps dc F' acD ac ∧ acD.length ≤ 1000 * i + j ∧
          lcL (lcF is1 g1 dt1 de vs1 (setAllD (wipeD ρ (own.map (·.2))) is ys)) (xs1.drop j) (fun r => lcL (lcF2 is g dt w1 is1 g1 dt1 de (own.map (·.2)) vs1 ρ) (xs.drop (i + 1)) (fun r2 => KV' dc F1 H1 Q (.lst (acD ++ r ++ r2)))))
        ⟨F4, acc, accD, eB, fun _ _ h => h, fun _ _ _ h => h, fD4, hD4, ra4, by omega, ?_⟩ (fun j H' _ hP => let ⟨F', _, _, _, _, k, _⟩ := hP; k) (fun j v1 H5 H6 hj hP y1 => ?_) (fun H' hP => ?_)
      · rw [List.drop_zero]
        refine lcL_mono (lcF_mono mg1 mt1 me) _ _ _ (fun r q => lcL_mono (lcF2_mono mg mt mw1 mg1 mt1 me) _ _ _ (fun r2 q => ?_) q) hl1
        rw [List.append_assoc]
        exact q
      · obtain ⟨F5, ac, acD, e5, fs5, k5, fL5, hL5, ra5, la5, hl5⟩ := hP
        obtain ⟨x1, F6, hx1, e6, rx1⟩ := y1 F5 e5.pre fs5
        have hxe1 : x1 = xs1[j] := by rw [List.getElem?_eq_getElem hj] at hx1; exact (Option.some.inj hx1).symm
        rw [List.drop_eq_getElem_cons hj, ← hxe1] at hl5
        have nt5 : ∀ us, HO.lst ac ≠ .tup us := fun us z => nomatch z
        have hL6 : H6 L = some (.lst ac) := e6.keep _ _ dD hL5
        have fL6 : F6 L = none := e6.out fL5 hL5 nt5
        have kT : ∀ {Fa Ha Fb Hb : Hp}, Ext dc Fa Ha Fb Hb → (∀ a o, F4 a = some o → Fa a = some o) → (∀ a o, F4 a ≠ none → H4 a = some o → Ha a = some o) → ∀ a o, F4 a ≠ none → H4 a = some o → Hb a = some o := fun {Fa Ha Fb Hb} ex f k a o h1 h2 => ex.keep a o (fun z => h1 (p4.dice a z).2) (k a o h1 h2)
        refine ⟨F6, x1, e6.pre, rx1, mg1 _ _ _ (fun ys1 hy1 ws1 rw1 => ⟨wipe_setAll his1, ?_⟩) hl5⟩
        have sl6 : Slots dc F6 (setAllD (wipeD (setAllD (wipeD ρ (own.map (·.2))) is ys) vs1) is1 ys1) (setAll (L2.wipe (setAll (L2.wipe σ (own.map (·.2))) is ws) vs1) is1 ws1) := ((sl4.mono fun a o q => e6.fsub _ _ (fs5 _ _ q)).wipe _).setAll is1 rw1
        refine ⟨_, F6, e6.pre, sl6, mt1 _ _ _ (fun b1 hb1 F7 H7 e7 => ?_) hy1⟩
        have hL7 : H7 L = some (.lst ac) := e7.keep _ _ dD hL6
        have fL7 : F7 L = none := e7.out fL6 hL6 nt5
        have e57 := (e5.trans p1 e6).trans p1 e7
        have fs7 : ∀ a o, F4 a = some o → F7 a = some o := fun a o q => e7.fsub _ _ (e6.fsub _ _ (fs5 _ _ q))
        have k7 := kT e7 (fun a o q => e6.fsub _ _ (fs5 _ _ q)) (kT e6 fs5 k5)
        cases b1 with
        | true =>
          refine iteT ⟨_, F7, e7.pre, sl6.mono e7.fsub, me _ _ _ (fun yv hyv v F8 H8 e8 r8 => ?_) (by simpa using hb1)⟩
          have hL8 : H8 L = some (.lst ac) := e8.keep _ _ dD hL7
          have fL8 : F8 L = none := e8.out fL7 hL7 nt5
          refine ⟨ac, hL8, by rw [← ra5.length]; omega, F8, ac ++ [v], acD ++ [yv], (e57.trans p1 e8).put nD fL8 dD, fun a o q => e8.fsub _ _ (fs7 _ _ q), fun a o h1 h2 => ?_, fL8, upd_same, (e8.reps (e7.reps (e6.reps ra5))).app (.cons r8 .nil), by rw [List.length_append]; simp; omega, ?_⟩
          · have : a ≠ L := fun z => h1 (by rw [z]; exact fD4)
            rw [upd_ne this]
            exact kT e8 fs7 k7 a o h1 h2
          · refine lcL_mono (lcF_mono mg1 mt1 me) _ _ _ (fun r q => lcL_mono (lcF2_mono mg mt mw1 mg1 mt1 me) _ _ _ (fun r2 q => ?_) q) hyv
            simpa using q
        | false =>
          refine iteF ⟨F7, ac, acD, e57, fs7, k7, fL7, hL7, e7.reps (e6.reps ra5), by omega, ?_⟩
          simpa using hb1
      · obtain ⟨F5, ac, acD, e5, fs5, k5, fL5, hL5, ra5, la5, hl5⟩ := hP
        rw [List.drop_length] at hl5
        refine ⟨F5, ac, acD, e5, fL5, hL5, ra5, by omega, ?_⟩
        have hl6 : lcL (lcF2 is g dt w1 is1 g1 dt1 de (own.map (·.2)) vs1 ρ) (xs.drop (i + 1)) (fun r2 => KV' dc F1 H1 Q (.lst (acD ++ [] ++ r2))) := hl5
        simpa using hl6
  · obtain ⟨F', acc, accD, e, fD, hD, ra, la, hl⟩ := hP
    rw [List.drop_length] at hl
    have hl : KV' dc F1 H1 Q (.lst (accD ++ [])) := hl
    rw [List.append_nil] at hl
    have ec := e.close nD hD hD dD fD
    exact hl _ _ _ ec (.lst upd_same (ra.mono fun a o q => by rw [upd_ne (fun z => by rw [z, fD] at q; cases q)]; exact q))
end
/-! ### readings reckoned -/
theorem inD_strs (a : Str) (l : List Str) : inD (.str a) (l.map D.str) = decide (a ∈ l) := by
  unfold inD inV
  induction l with
  | nil => rfl
  | cons b r ih =>
    rw [List.map_cons, List.map_cons, List.any_cons, ih]
    show ((b == a) || _) = _
    by_cases h : b = a
    · subst h; simp
    · have : a ≠ b := fun e => h e.symm
      simp [h, this]
theorem flatD_strs (l : List Str) : (l.map D.str).all flatD = true := by
  rw [List.all_map]
  exact List.all_eq_true.mpr fun _ _ => rfl
theorem dInA_strT {neg : Bool} {a : Str} {l : List Str} {Q : D → Prop} : dInA neg (.str a) (.tup (l.map D.str)) Q = Q (.bl (neg ^^ decide (a ∈ l))) := by
  show (true = true ∧ (l.map D.str).all flatD = true ∧ Q (.bl (neg ^^ inD (.str a) (l.map D.str)))) = _
  rw [inD_strs, flatD_strs]
  simp
theorem dInA_strL {neg : Bool} {a : Str} {l : List Str} {Q : D → Prop} : dInA neg (.str a) (.lst (l.map D.str)) Q = Q (.bl (neg ^^ decide (a ∈ l))) := by
  show (true = true ∧ (l.map D.str).all flatD = true ∧ Q (.bl (neg ^^ inD (.str a) (l.map D.str)))) = _
  rw [inD_strs, flatD_strs]
  simp
/-- a comprehension over what is a map -/
theorem lcL_map {α : Type} {h : α → D} {f : D → (List D → Prop) → Prop} {g : α → List D} : ∀ {xs : List α} {Q : List D → Prop}, (∀ a ∈ xs, ∀ K : List D → Prop, K (g a) → f (h a) K) → Q (xs.flatMap g) → lcL f (xs.map h) Q
  | [], Q, _, q => q
  | x :: xs, Q, hf, q => by
    rw [List.map_cons]
    refine hf x List.mem_cons_self _ ?_
    exact lcL_map (fun a ha => hf a (List.mem_cons_of_mem _ ha)) (by rw [List.flatMap_cons] at q; exact q)
theorem flatMap_if {α β : Type} {c : α → Bool} {g : α → β} : ∀ (xs : List α), (xs.flatMap fun a => if c a = true then [g a] else []) = (xs.filter c).map g
  | [] => rfl
  | x :: xs => by
    rw [List.flatMap_cons, flatMap_if xs, List.filter_cons]
    by_cases h : c x = true
    · rw [if_pos h, if_pos h]; rfl
    · rw [if_neg h, if_neg h]; rfl
theorem lcL_filter {α : Type} {h : α → D} {f : D → (List D → Prop) → Prop} {c : α → Bool} {g : α → D} {xs : List α} {Q : List D → Prop} (hf : ∀ a ∈ xs, ∀ K : List D → Prop, (if c a = true then K [g a] else K []) → f (h a) K) (q : Q ((xs.filter c).map g)) : lcL f (xs.map h) Q := by
  refine lcL_map (g := fun a => if c a = true then [g a] else []) (fun a ha K hk => hf a ha K ?_) (by rw [flatMap_if]; exact q)
  by_cases hc : c a = true
  · rw [if_pos hc] at hk ⊢; exact hk
  · rw [if_neg hc] at hk ⊢; exact hk
theorem lcL_all {α : Type} {h : α → D} {f : D → (List D → Prop) → Prop} {g : α → D} {xs : List α} {Q : List D → Prop} (hf : ∀ a ∈ xs, ∀ K : List D → Prop, K [g a] → f (h a) K) (q : Q (xs.map g)) : lcL f (xs.map h) Q := by
  refine lcL_map (g := fun a => [g a]) hf ?_
  have e : ∀ ys : List α, ys.flatMap (fun a => [g a]) = ys.map g := fun ys => by
    induction ys with
    | nil => rfl
    | cons x r ih => rw [List.flatMap_cons, ih]; rfl
  rw [e]
  exact q
theorem keysD_map {α : Type} {k : α → List Key} (xs : List α) : keysD (xs.map k) = xs.map fun a => D.tup ((k a).map kD) := by
  unfold keysD
  rw [List.map_map]
  rfl
theorem ite_id {c : Bool} {A B : Prop} : (if c = true then A else B) → (if c = true then A else B) := id
theorem cut_tail (l : List D) : cutD l (some 1) none = l.tail := by
  unfold cutD
  have h1 : HT.sIx l.length 0 (some 1) = min 1 l.length := by
    unfold HT.sIx
    first | rfl | (simp; omega)
  have h2 : HT.sIx l.length l.length none = l.length := rfl
  rw [h1, h2]
  cases l with
  | nil => rfl
  | cons x r =>
    rw [List.length_cons, Nat.min_eq_left (by omega)]
    show List.take (r.length + 1 - 1) r = r
    exact List.take_of_length_le (by omega)
/-! the forms, where they are known -/
section
variable {Q : D → Prop} {i j : Int} {a b : Str} {c d : Bool} {xs ys : List D} {x y z : D}
theorem asInt_int {Q : Int → Prop} : asInt (.int i) Q = Q i := rfl
theorem asStr_str {Q : Str → Prop} : asStr (.str a) Q = Q a := rfl
theorem asBl_bl {Q : Bool → Prop} : asBl (.bl c) Q = Q c := rfl
theorem asLst_lst {Q : List D → Prop} : asLst (.lst xs) Q = Q xs := rfl
theorem asTup_tup {Q : List D → Prop} : asTup (.tup xs) Q = Q xs := rfl
theorem asSeq_lst {Q : List D → Prop} : asSeq (.lst xs) Q = Q xs := rfl
theorem asSeq_tup {Q : List D → Prop} : asSeq (.tup xs) Q = Q xs := rfl
theorem asDT_dT {ks : List (List Key)} {Q : List (List Key) → List D → Prop} : asDT (.dT ks xs) Q = Q ks xs := rfl
theorem asIns_ins {C : Addr} {ns : List Str} {Q : Addr → List Str → List D → Prop} : asIns (.ins C ns xs) Q = Q C ns xs := rfl
theorem asD_dK {ks : List Key} {Q : Prop} : asD (.dK ks xs) Q = Q := rfl
theorem asD_dT {ks : List (List Key)} {Q : Prop} : asD (.dT ks xs) Q = Q := rfl
theorem pr2_two {Q : D → D → Prop} : pr2 [x, y] Q = Q x y := rfl
theorem arg1_one {g : D → (D → Prop) → Prop} : arg1 g [x] Q = g x Q := rfl
theorem arg2_two {g : D → D → (D → Prop) → Prop} : arg2 g [x, y] Q = g x y Q := rfl
theorem onSome_some : onSome (some x) Q = Q x := rfl
theorem dSub_lst : dSub (.lst xs) (.int i) Q = onSome (atI xs i) Q := rfl
theorem dSub_tup : dSub (.tup xs) (.int i) Q = onSome (atI xs i) Q := rfl
theorem dSub_dT {ks : List (List Key)} : dSub (.dT ks xs) y Q = dGetO (.dT ks xs) y fun o => onSome o Q := rfl
theorem dSub_dK {ks : List Key} {k : Str} : dSub (.dK ks xs) (.str k) Q = onSome (lookD ks xs (.inr k)) Q := rfl
theorem dEq_int : dEq (.int i) (.int j) Q = Q (.bl (decide (i = j))) := rfl
theorem dEq_str : dEq (.str a) (.str b) Q = Q (.bl (decide (a = b))) := rfl
theorem dEq_bl : dEq (.bl c) (.bl d) Q = Q (.bl (decide (c = d))) := rfl
theorem dNe_int : dNe (.int i) (.int j) Q = Q (.bl (!decide (i = j))) := rfl
theorem dNe_str : dNe (.str a) (.str b) Q = Q (.bl (!decide (a = b))) := rfl
theorem dNe_bl : dNe (.bl c) (.bl d) Q = Q (.bl (!decide (c = d))) := rfl
theorem dAdd_int : dAdd (.int i) (.int j) Q = Q (.int (i + j)) := rfl
theorem dAdd_lst : dAdd (.lst xs) (.lst ys) Q = (xs.length + ys.length ≤ sizeLine ∧ Q (.lst (xs ++ ys))) := rfl
theorem dAdd_tup : dAdd (.tup xs) (.tup ys) Q = (xs.length + ys.length ≤ sizeLine ∧ Q (.tup (xs ++ ys))) := rfl
theorem dLt_int : dLt (.int i) (.int j) Q = Q (.bl (decide (i < j))) := rfl
theorem onZip_tup {Q : List D → Prop} : onZip (.tup xs) (.tup ys) Q = Q (zipD xs ys) := rfl
theorem onZip_lst {Q : List D → Prop} : onZip (.lst xs) (.lst ys) Q = Q (zipD xs ys) := rfl
theorem atI_two0 : atI [x, y] 0 = some x := rfl
theorem atI_two1 : atI [x, y] 1 = some y := rfl
theorem gTupD_tup {n : Nat} {g : List D → (List D → Prop) → Prop} {Q : List D → Prop} : gTupD n g (.tup xs) Q = (xs.length = n ∧ g xs Q) := rfl
theorem dKey_at {k : Str} {dd : DT} {ρ : DEnv} : dKey k dd ρ Q = dd ρ fun x => match x with | .dK ks vs => onSome (lookD ks vs (.inr k)) Q | _ => False := rfl
theorem bl_ne (c d : Bool) : (!decide (c = d)) = (c != d) := by cases c <;> cases d <;> rfl
end
/-! ### further rules -/
section
variable {X : Cx} {dc : Option Addr} {a b c e : Expr} {da db d3 : DT} {pos : Pos}
/-- a < b < c -/
def dChain (g h : D → D → (D → Prop) → Prop) (da db d3 : DT) : DT := fun ρ Q => da ρ fun x => db ρ fun y => g x y fun z => asBl z fun k => if k = true then d3 ρ fun w => h y w Q else Q (.bl false)
theorem de_chain {op op' : CmpOp} {g h : D → D → (D → Prop) → Prop} (h1 : OpD X dc (compareOp op) g) (h2 : OpD X dc (compareOp op') h) (ha : DE X dc a da) (hb : DE X dc b db) (hc : DE X dc c d3)
    (hm : lastMarks [op, op'] [b, c] = false := by with_unfolding_all rfl) : DE X dc (.Compare a [op, op'] [b, c] pos) (dChain g h da db d3) := by
  obtain ⟨mg, r, o, q⟩ := h1
  obtain ⟨mg', r', o', q'⟩ := h2
  have m1 := ha.mono
  have m2 := hb.mono
  have m3 := hc.mono
  obtain ⟨t1, p1, r1⟩ := ha.get
  obtain ⟨t2, p2, r2⟩ := hb.get
  obtain ⟨t3, p3, r3⟩ := hc.get
  refine ⟨fun ρ P P' hP hh => m1 _ _ _ (fun x hh => m2 _ _ _ (fun y hh => mg _ _ _ _ (fun z hh => asBl.mono (fun k hh => ?_) hh) hh) hh) hh, _, pe_chain o o' p1 p2 p3 hm, fun ρ σ F H Q p s hh => ?_⟩
  · cases k with
    | true => exact iteT (m3 _ _ _ (fun w hh => mg' _ _ _ _ hP hh) (by simpa using hh))
    | false => exact iteF (hP _ (by simpa using hh))
  · refine r1 p s hh fun x v F1 H1 hh e1 q1 => r2 e1.pre (s.mono e1.fsub) hh fun y u F2 H2 hh e2 q2 => ?_
    refine q F2 H2 x y v u _ e2.pre (e2.rep q1) q2 (mg _ _ _ _ (fun z hz w F3 H3 e3 q3 => ?_) hh)
    obtain ⟨k, rfl, hk⟩ := hz.inv
    cases q3
    have e13 := (e1.trans p e2).trans p e3
    cases k with
    | true =>
      have hk2 : d3 ρ fun w => h y w (KV' dc F H Q) := by simpa using hk
      refine ⟨true, rfl, iteT (r3 e3.pre (((s.mono e1.fsub).mono e2.fsub).mono e3.fsub) hk2 fun w v4 F4 H4 hw e4 q4 => ?_)⟩
      exact q' _ _ _ _ _ _ _ e4.pre (e4.rep (e3.rep q2)) q4 (mg' _ _ _ _ (fun z hz => hz.on p (e13.trans p e4)) hw)
    | false => exact ⟨false, rfl, iteF ((show KV' dc F H Q (.bl false) by simpa using hk) _ _ _ e13 (.bl _))⟩
/-- the truth of a list or tuple as a test -/
theorem dc_truth (ha : DE X dc a da) (he : ∀ whole, isTrue a X.env whole = (do let v ← whole; standAt a.pos; holding [v] (truthy v)) := by intro _; rfl) : DC X dc a (fun ρ Q => da ρ fun x => asSeq x fun xs => Q (!xs.isEmpty)) := by
  have m := ha.mono
  obtain ⟨t, p, r⟩ := ha.get
  refine ⟨fun ρ P P' hP h => m _ _ _ (fun x h => asSeq.mono (fun xs h => hP _ h) h) h, _, pt_truth p he, fun ρ σ F H Q pr s h => r pr s h fun x v F1 H1 h e1 r1 => ?_⟩
  obtain ⟨xs, hx, h1⟩ := h.inv
  have hemp : ∀ {vs : List V}, Reps dc F1 xs vs → xs.isEmpty = vs.isEmpty := fun {vs} rv => by cases rv <;> rfl
  rcases hx with rfl | rfl
  · obtain ⟨q, vs, rfl, hq, rv⟩ := r1.seqL (K := X.K) e1.pre
    exact ⟨_, .inl ⟨vs, .of hq, by rw [← hemp rv]⟩, h1 _ _ e1⟩
  · obtain ⟨q, vs, rfl, hq, rv⟩ := r1.seqT e1.pre
    exact ⟨_, .inr (.inl ⟨vs, .of hq, by rw [← hemp rv]⟩), h1 _ _ e1⟩
def dNeg (d : DT) : DT := fun ρ Q => d ρ fun x => asInt x fun i => Q (.int (-i))
theorem de_neg (ha : DE X dc a da) : DE X dc (.UnaryOp .USub a pos) (dNeg da) := by
  have m := ha.mono
  obtain ⟨t, p, r⟩ := ha.get
  refine ⟨fun ρ P P' hP h => m _ _ _ (fun x h => asInt.mono (fun i h => hP _ h) h) h, _, pe_un un_neg p, fun ρ σ F H Q pr s h => r pr s h fun x v F1 H1 h e1 r1 => ?_⟩
  obtain ⟨i, rfl, h1⟩ := h.inv
  cases r1
  exact ⟨i, rfl, h1 _ _ _ e1 (.int _)⟩
theorem cd_max2 (hc : X.calm = true) : CallD X dc (.builtin "max") (arg2 fun x y Q => asInt x fun i => asInt y fun j => Q (.int (if j > i then j else i))) :=
  .two (fun x y P P' hP h => asInt.mono (fun i h => asInt.mono (fun j h => hP _ h) h) h) (call_max2 hc) fun F H x y v u Q p rx ry h => by
    obtain ⟨i, rfl, h1⟩ := h.inv
    obtain ⟨j, rfl, h2⟩ := h1.inv
    cases rx
    cases ry
    exact ⟨i, j, rfl, h2.now p (.int _)⟩
theorem cd_min2 (hc : X.calm = true) : CallD X dc (.builtin "min") (arg2 fun x y Q => asInt x fun i => asInt y fun j => Q (.int (if j < i then j else i))) :=
  .two (fun x y P P' hP h => asInt.mono (fun i h => asInt.mono (fun j h => hP _ h) h) h) (call_min2 hc) fun F H x y v u Q p rx ry h => by
    obtain ⟨i, rfl, h1⟩ := h.inv
    obtain ⟨j, rfl, h2⟩ := h1.inv
    cases rx
    cases ry
    exact ⟨i, j, rfl, h2.now p (.int _)⟩
end
section
variable {P : Program} {w : World} {K : PySem.W.Frag} {mg : Str → Option Value} {base : Heap} {k j : Nat} {x : Str} {dfl : List D} {sp : DSp} {C : Addr} {f : Addr} {fd : FuncData} {ps : List Str}
theorem DFn.up (G : DFn P w K mg base k x dfl sp) (h : k ≤ j) : DFn P w K mg base j x dfl sp := by
  obtain ⟨m, f, fd, ps, ds, dvs, F, r⟩ := G
  exact ⟨m, f, fd, ps, ds, dvs, F.mono h, r⟩
theorem DMt.up (G : DMt P w K mg base k C x dfl sp) (h : k ≤ j) : DMt P w K mg base j C x dfl sp := by
  obtain ⟨m, f, fd, ps, ds, dvs, F, r⟩ := G
  exact ⟨m, f, fd, ps, ds, dvs, F.mono h, r⟩
theorem DPr.up (G : DPr P w K mg base k C x sp) (h : k ≤ j) : DPr P w K mg base j C x sp := by
  obtain ⟨m, f, p, fd, ps, F, r⟩ := G
  exact ⟨m, f, p, fd, ps, F.mono h, r⟩
theorem DFn.of (m : Mono sp) (F : FnOk P w K mg base CX0 k f fd ps (spD sp)) (h1 : mg x = some (.ref f)) (h2 : PySem.W.keepIn K (.ref f) = true) (h3 : Binds K fd ps []) : DFn P w K mg base k x [] sp := ⟨m, f, fd, ps, [], [], F, h1, h2, h3, .nil, flats_nil⟩
theorem DMt.of (m : Mono sp) (F : FnOk P w K mg base CX0 k f fd ps (spD sp)) (h1 : Cls K C) (h2 : Meth K C x f) (h3 : Binds K fd ps []) : DMt P w K mg base k C x [] sp := ⟨m, f, fd, ps, [], [], F, h1, h2, h3, .nil, flats_nil⟩
theorem DPr.of {p : Addr} (m : Mono sp) (F : FnOk P w K mg base CX0 k f fd ps (spD sp)) (h1 : Cls K C) (h2 : PropOf K C x p f) (h3 : Binds K fd ps []) : DPr P w K mg base k C x sp := ⟨m, f, p, fd, ps, F, h1, h2, h3⟩
end
/-! ### dict(list(d.items())) of a dict under tuples, locked or not; tuple(sorted(set(t))) -/
section
variable {X : Cx}
theorem call_listItR (hc : X.calm = true) : CallR X (.type "list") (fun xs H Q => ∃ (p a : Addr) (kvs : List (List Key × V)), xs = [.ref p] ∧ H p = some (L2.DX.itemsO p a) ∧ Rd H a (.dT kvs) ∧
    ∀ (H' : Hp) (l : Addr) (ts : List Addr), Same H H' → H l = none → H' l = some (.lst (ts.map V.ref)) → PairsT H' ts kvs → Q (.ref l) H') := by
  intro pins s σ H xs us Q I r h
  obtain ⟨p, a, kvs, rfl, hp, ha, q⟩ := h
  obtain ⟨u, rfl, rx⟩ := vals1 r
  cases (show u = Value.ref p from rx)
  have view : s.heap.IsItemsView p a := (show ObjOk X.prog X.w H s.heap p (L2.DX.itemsO p a) from I.hok p _ hp).1
  obtain ⟨z, hd, ks, rel, o, es, ep, ho, hx, hdat, hes, his, hn⟩ := dt_rd I.hok ha
  have l1 : kvs.length = ks.length := Paired.length rel
  have l2 : es.size = ks.length := size_of_entries hes
  refine list_view (I.ok.hd hc) view ⟨o, ho, hx, hdat⟩ (by omega) fun h' tk acc c as hk hS hl hG hacc => ?_
  have nd : as.Nodup := List.Pairwise.imp (fun h => Nat.ne_of_lt h) hG.rise
  have newS : H s.heap.objs.size = none := I.hok.fresh (Nat.le_refl _)
  have I1 : Inv X pins σ (upd H s.heap.objs.size (.lst (as.map V.ref))) { s with heap := h', toks := tk } :=
    I.laid (t' := tk) hk (Nat.le_refl _) (show ObjOk X.prog X.w _ h' _ (.lst (as.map V.ref)) from ⟨by rw [List.length_map]; omega, acc.toList, c, by rw [hacc]; exact refs_vals as, by simpa using hS⟩)
  obtain ⟨H2, I2, g, tq⟩ := L2.DX.takeT (P := fun b vs => ∃ (j : Nat) (kv : List Key × V) (kq : Addr), as[j]? = some b ∧ kvs[j]? = some kv ∧ H kq = some (.tup (kv.1.map kV)) ∧ vs = [.ref kq, kv.2]) I as _ I1 nd fun b hb => by
    obtain ⟨j, hj⟩ := List.mem_iff_getElem?.mp hb
    obtain ⟨en, he, hg⟩ := hG.pairs j b hj
    have hb0 := hG.above b hb
    refine ⟨Nat.le_of_lt hb0, ?_, ?_⟩
    · rw [upd_ne (Nat.ne_of_gt hb0)]
      exact I.hok.fresh (Nat.le_of_lt hb0)
    · rw [entry_at hes j] at he
      cases hkj : ks[j]? with
      | none => rw [hkj] at he; cases he
      | some x =>
        rw [hkj] at he
        cases (show entryOfKey (tupleKind (mixKind X.prog X.w)) x = en from Option.some.inj he)
        have hjl : j < kvs.length := by
          rw [l1]
          exact (List.getElem?_eq_some_iff.mp hkj).1
        obtain ⟨r1, r2, r3⟩ := paired_at rel (List.getElem?_eq_getElem hjl) hkj
        exact ⟨_, ⟨j, kvs[j], x.2.1, hj, List.getElem?_eq_getElem hjl, r2, rfl⟩, fun _ => ⟨by show 2 ≤ sizeLine; decide, [Value.ref x.2.1, x.2.2], .cons rfl (.cons r3 .nil), ⟨_, hg, rfl, 0, rfl⟩⟩⟩
  have sm : Same H H2 := fun b o e => g b o (by rw [upd_ne (ne_of_none e newS)]; exact e)
  refine ⟨.ref s.heap.objs.size, H2, I2, rfl, q H2 _ as sm newS (g _ _ upd_same) (paired_of (by omega) fun j b kv hb hkv => ?_)⟩
  obtain ⟨vs, ⟨i, kv', kq, hi, hkv', hq, rfl⟩, e2⟩ := tq b (List.mem_of_getElem? hb)
  have := nodup_ix nd hi hb
  subst this
  rw [hkv] at hkv'
  cases hkv'
  exact ⟨kq, e2, sm _ _ hq⟩
variable {o : Expr} {to : TE} {apos cpos : Pos}
theorem pe_itemsR (ho : PE X o to)
    (hbase : attributeBase o "items" X.env (eval o X.env) = eval o X.env := by rfl) (hline : (apos.endLine == cpos.line) = true := by rfl) : PE X (.Call (.Attribute o "items" apos) [] [] cpos)
      (fun σ H Q => to σ H fun x H1 => ∃ a kvs, x = .ref a ∧ Rd H1 a (.dT kvs) ∧ ∀ p, H1 p = none → Q (.ref p) (upd H1 p (L2.DX.itemsO p a))) := by
  refine ⟨fun pins s σ H Q I h => ?_⟩
  refine wpAny_Call_method0_late hbase hline (thn (ho.run pins s σ H _ I h) fun v s1 ⟨x, H1, I1, r1, a, kvs, ex, rd, q1⟩ => ?_)
  subst ex
  cases (show v = Value.ref a from r1)
  obtain ⟨z, hd, xs', rel, o, es, ep, ho, hx, hdat, _⟩ := dt_rd I1.hok rd
  refine ⟨"dict", "dict.items", PySem.F.plainAttrs_dict, PySem.F.slot_dict_items, PySem.F.type_dict_items, ⟨o, ho, hx.1⟩, fun b e2 => ?_, Calls.callWith_builtin rfl (PySem.evalArgs_none ?_)⟩
  · cases e2
    exact ⟨o, ho, hx.2.1⟩
  · refine DT.callItems (es := es) (ep := ep) hd ⟨o, ho, hx, hdat⟩ ?_
    have hf : H1 s1.heap.objs.size = none := I1.hok.fresh (Nat.le_refl _)
    exact ⟨.ref s1.heap.objs.size, upd H1 s1.heap.objs.size (L2.DX.itemsO s1.heap.objs.size a), I1.laid (t' := s1.toks) (fun b u e => Heap.get?_push_of_some _ e) (Nat.le_refl _) (L2.DX.itemsO_ok (Heap.get?_push_size _ rfl)), rfl, q1 _ hf⟩
end
/-- a dict under tuples, each once -/
def asDTn (x : D) (Q : List (List Key) → List D → Prop) : Prop := match x with
  | .dT ks vs => ks.Nodup ∧ Q ks vs
  | _ => False
theorem asDTn.inv {x : D} {Q : List (List Key) → List D → Prop} (h : asDTn x Q) : ∃ ks vs, x = .dT ks vs ∧ ks.Nodup ∧ Q ks vs := by
  cases x <;> first | exact ⟨_, _, rfl, h⟩ | exact h.elim
theorem asDTn.mono {x : D} {P Q : List (List Key) → List D → Prop} (h : ∀ a b, P a b → Q a b) (p : asDTn x P) : asDTn x Q := by
  obtain ⟨ks, vs, rfl, n, q⟩ := p.inv
  exact ⟨n, h _ _ q⟩
theorem zip_keys {α β : Type} : ∀ (ks : List α) (vs : List β), ks.length = vs.length → (ks.zip vs).map (·.1) = ks
  | [], [], _ => rfl
  | [], _ :: _, h => by simp at h
  | _ :: _, [], h => by simp at h
  | k :: ks, v :: vs, h => by
    rw [List.zip_cons_cons, List.map_cons, zip_keys ks vs (by simpa using h)]
section
variable {X : Cx} {dc : Option Addr} {e : Expr} {d : DT}
theorem de_dictItems {p0 p1 p2 p3 p4 p5 : Pos} (hc : X.calm = true) (hu : X.A.units + 3 < cLine) (he : DE X dc e d) (gd : Gl X "dict") (md : X.mg "dict" = none) (gl : Gl X "list") (ml : X.mg "list" = none)
    (hbase : attributeBase e "items" X.env (eval e X.env) = eval e X.env := by rfl) (hline : (p4.endLine == p5.line) = true := by rfl) :
    DE X dc (.Call (.Name "dict" p1) [.Call (.Name "list" p2) [.Call (.Attribute e "items" p4) [] [] p5] [] p3] [] p0) (fun ρ Q => d ρ fun x => asDTn x fun ks vs => Q (.dT ks vs)) := by
  have m := he.mono
  obtain ⟨t, p, r⟩ := he.get
  refine ⟨fun ρ P P' hP h => m _ _ _ (fun x h => asDTn.mono (fun _ _ => hP _) h) h, _, pe_callTy (call_dictT hc hu) gd md (by decide +kernel) (pa_cons (pe_callTy (call_listItR hc) gl ml (by decide +kernel) (pa_cons (pe_itemsR p hbase hline) pa_nil)) pa_nil), fun ρ σ F H Q pr s h => ?_⟩
  refine r pr s h fun x v F1 H1 h e1 r1 => ?_
  obtain ⟨ks, xs, rfl, nd, q⟩ := h.inv
  cases r1 with
  | @dT a _ _ vs ef l rr =>
    have rd : Rd H1 a (.dT (ks.zip vs)) := e1.pre.sub _ _ ef
    refine ⟨a, _, rfl, rd, fun vw nv => ?_⟩
    have g1 := same_upd (H := H1) (o := L2.DX.itemsO vw a) nv
    have rd2 : Rd (upd H1 vw (L2.DX.itemsO vw a)) a (.dT (ks.zip vs)) := rd.elim (fun h => .inl (g1 _ _ h)) fun ⟨o, h⟩ => .inr ⟨o, g1 _ _ h⟩
    refine ⟨vw, a, _, rfl, upd_same, rd2, fun H2 l2 ts sm nl el prs => ⟨l2, ts, _, rfl, el, prs, fun td ntd => ?_⟩⟩
    have g2 : Same H1 H2 := g1.trans sm
    rw [mergeT_nil (by rw [zip_keys _ _ l]; exact nd)]
    have e2 := Ext.grow e1.pre g2
    have e3 := Ext.new (o := .dT (ks.zip vs)) e2.pre ntd (.inl upd_same)
    have e23 := e2.trans e1.pre e3
    exact q _ _ _ (e1.trans pr e23) (.dT upd_same l (rr.mono e3.fsub))
end
/-! ### nets by data -/
def lotD (l : List Str) : D := .tup (l.map D.str)
def pairD (k : Str × Str) : D := .tup [.str k.1, .str k.2]
def tiesD (ts : Ties) : D := .dT (ts.map fun e => kP e.1) (ts.map fun e => .int e.2)
def netD (ps : List Str) (ts : Ties) : D := .dK [.inr "places", .inr "ties"] [.lst (ps.map D.str), tiesD ts]
def madeD (C : Addr) (ps : List Str) (ts : Ties) : D := .ins C ["_places", "_ties"] [lotD ps, tiesD ts]
def ascS (l : List Str) : Bool := (l.zip l.tail).all fun p => ltS p.1 p.2
def isLot (p l : List Str) : Bool := (l.all fun s => decide (s ∈ p)) && ascS l
def parts (l : List Str) (k : Str × Str) : Bool := decide (k.1 ∈ l) != decide (k.2 ∈ l)
def cutT (ts : Ties) (l : List Str) : Int := ((ts.filter fun e => parts l e.1).map (·.2)).sum
def outS (p l : List Str) : List Str := p.filter fun s => !decide (s ∈ l)
def inS (p l : List Str) : List Str := p.filter fun s => decide (s ∈ l)
def tbS (ts : Ties) (a b : List Str) : Int := (a.flatMap fun x => b.map fun y => getT ts (ordP x y)).sum
theorem find_of {ts : Ties} {e : (Str × Str) × Int} (nd : (ts.map (·.1)).Nodup) (h : e ∈ ts) : (ts.find? fun f => decide (f.1 = e.1)) = some e := by
  induction ts with
  | nil => cases h
  | cons f r ih =>
    rw [List.map_cons, List.nodup_cons] at nd
    rw [List.find?_cons]
    rcases List.mem_cons.mp h with rfl | h
    · simp
    · have : f.1 ≠ e.1 := fun z => nd.1 (by rw [z]; exact List.mem_map.mpr ⟨e, h, rfl⟩)
      rw [decide_eq_false this]
      exact ih nd.2 h
theorem getT_of {ts : Ties} {e : (Str × Str) × Int} (nd : (ts.map (·.1)).Nodup) (h : e ∈ ts) : getT ts e.1 = e.2 := by
  unfold getT
  rw [find_of nd h]
  rfl
theorem kP_inj' {a b : Str × Str} (h : kP a = kP b) : a = b := by
  unfold kP at h
  injection h with h1 h2
  injection h2 with h2 _
  injection h1 with h1
  injection h2 with h2
  exact Prod.ext h1 h2
theorem look_ties : ∀ (ts : Ties) (k : Str × Str), lookD (ts.map fun e => kP e.1) (ts.map fun e => D.int e.2) (kP k) = (ts.find? fun e => decide (e.1 = k)).map fun e => D.int e.2
  | [], _ => rfl
  | e :: r, k => by
    show (if kP e.1 = kP k then some (D.int e.2) else lookD (r.map fun e => kP e.1) (r.map fun e => D.int e.2) (kP k)) = _
    rw [List.find?_cons]
    by_cases h : e.1 = k
    · rw [if_pos (by rw [h]), decide_eq_true h]
      rfl
    · rw [if_neg (fun z => h (kP_inj' z)), decide_eq_false h]
      exact look_ties r k
theorem keyT_pair (k : Str × Str) : keyT (pairD k) = some (kP k) := rfl
theorem look_getD (ts : Ties) (k : Str × Str) : ((lookD (ts.map fun e => kP e.1) (ts.map fun e => D.int e.2) (kP k)).getD (.int 0)) = .int (getT ts k) := by
  rw [look_ties]
  unfold getT
  cases ts.find? fun e => decide (e.1 = k) <;> rfl
theorem look_at {ts : Ties} {e : (Str × Str) × Int} (nd : (ts.map (·.1)).Nodup) (h : e ∈ ts) : lookD (ts.map fun e => kP e.1) (ts.map fun e => D.int e.2) (kP e.1) = some (.int e.2) := by
  rw [look_ties, find_of nd h]
  rfl
theorem dLt_str {a b : Str} {Q : D → Prop} : dLt (.str a) (.str b) Q = Q (.bl (ltS a b)) := rfl
theorem keysD_ties (ts : Ties) : keysD (ts.map fun e => kP e.1) = ts.map fun e => pairD e.1 := by rw [keysD_map]; rfl
theorem fld_places {x y : D} : fldD ["_places", "_ties"] [x, y] "_places" = some x := by rfl
theorem fld_ties {x y : D} : fldD ["_places", "_ties"] [x, y] "_ties" = some y := by rfl
theorem look_pl {x y : D} : lookD [(Sum.inr "places" : Key), .inr "ties"] [x, y] (.inr "places") = some x := by rfl
theorem look_ti {x y : D} : lookD [(Sum.inr "places" : Key), .inr "ties"] [x, y] (.inr "ties") = some y := by rfl
section
variable {Q : D → Prop} {k : Str × Str}
theorem dSub_pair0 : dSub (pairD k) (.int 0) Q = Q (.str k.1) := rfl
theorem dSub_pair1 : dSub (pairD k) (.int 1) Q = Q (.str k.2) := rfl
theorem dGetO_pair {ks : List (List Key)} {vs : List D} {Q : Option D → Prop} : dGetO (.dT ks vs) (pairD k) Q = Q (lookD ks vs (kP k)) := rfl
theorem dInA_strTup {neg : Bool} {a : Str} {l : List Str} : dInA neg (.str a) (lotD l) Q = Q (.bl (neg ^^ decide (a ∈ l))) := dInA_strT
theorem asSeq_lot {l : List Str} {Q : List D → Prop} : asSeq (lotD l) Q = Q (l.map D.str) := rfl
theorem asTup_lot {l : List Str} {Q : List D → Prop} : asTup (lotD l) Q = Q (l.map D.str) := rfl
theorem asDT_ties {ts : Ties} {Q : List (List Key) → List D → Prop} : asDT (tiesD ts) Q = Q (ts.map fun e => kP e.1) (ts.map fun e => .int e.2) := rfl
theorem dSub_ties {ts : Ties} : dSub (tiesD ts) (pairD k) Q = onSome (lookD (ts.map fun e => kP e.1) (ts.map fun e => .int e.2) (kP k)) Q := rfl
theorem dGet_ties {ts : Ties} {Q : Option D → Prop} : dGetO (tiesD ts) (pairD k) Q = Q (lookD (ts.map fun e => kP e.1) (ts.map fun e => .int e.2) (kP k)) := rfl
theorem asD_ties {ts : Ties} {Q : Prop} : asD (tiesD ts) Q = Q := rfl
theorem asIns_made {C : Addr} {ps : List Str} {ts : Ties} {Q : Addr → List Str → List D → Prop} : asIns (madeD C ps ts) Q = Q C ["_places", "_ties"] [lotD ps, tiesD ts] := rfl
theorem dSub_netp {ps : List Str} {ts : Ties} : dSub (netD ps ts) (.str "places") Q = Q (.lst (ps.map D.str)) := by rfl
theorem dSub_nett {ps : List Str} {ts : Ties} : dSub (netD ps ts) (.str "ties") Q = Q (tiesD ts) := by rfl
end
theorem dKey_ties {ps : List Str} {ts : Ties} {ρ : DEnv} {Q : D → Prop} {i : Nat} (h : ρ[i]? = some (some (netD ps ts))) : dKey "ties" (dVar i) ρ Q = Q (tiesD ts) := by
  unfold dKey dVar
  rw [h]
  rfl
local macro_rules | `(tactic| walk_at "dred") => `(tactic| try simp only [sRet, sSet, sIf, sSeq, sExpr, sAsg, sPar2, dCall, dCons, dNil, dLc, dLcK, dLc2, iSeq, iZipD, dVar, dB, d2, dC, dTup, dLst, dAnd, dOr, dNot, dAndV, dOrV, dNotV, dIf, dYes, dFn, dPr, dMt, dFld, retE, visD, startS, Sl.seen, setAllS,
  lcF, lcF2, gN, gsN, gsC, setAllD, wipeD, arg1_one, arg2_two, asSeq_lst, asSeq_tup, asSeq_lot, asTup_tup, asTup_lot, asLst_lst, asInt_int, asStr_str, asBl_bl, asIns_ins, asIns_made, asDT_dT, asDT_ties, asD_dK, asD_dT, asD_ties, pr2_two, onSome_some, dSub_lst, dSub_tup, dSub_dT, dSub_dK, dSub_pair0, dSub_pair1, dSub_ties, dSub_netp, dSub_nett, dGetO_pair, dGet_ties,
  dEq_int, dEq_str, dEq_bl, dNe_int, dNe_str, dNe_bl, dLt_str, dLt_int, dAdd_int, dAdd_lst, dAdd_tup, onZip_tup, onZip_lst, atI_two0, atI_two1, gTupD_tup, fld_places, fld_ties, look_pl, look_ti, dInA_strT, dInA_strL, dInA_strTup,
  List.map_cons, List.map_nil, List.length_cons, List.length_nil, List.replicate, List.cons_append, List.nil_append, List.append_nil, List.getElem?_cons_zero, List.getElem?_cons_succ, List.set_cons_zero, List.set_cons_succ, Nat.reduceAdd, Nat.reduceSub, Bool.false_xor, Bool.true_xor, Nat.sub_self, Nat.add_one_sub_one, reduceIte, if_true, if_false, true_and, and_true])
abbrev s_ordered : Stmt := topS 27
theorem sc_ordered : FnScope ["one", "other"] ["one", "other"] (defScope s_ordered) := ⟨rfl, rfl, rfl, by decide +kernel, rfl, by decide +kernel, by decide +kernel⟩
abbrev s_ascends : Stmt := topS 14
theorem sc_ascends : FnScope ["items", "one", "other"] ["items"] (defScope s_ascends) := ⟨rfl, rfl, rfl, by decide +kernel, rfl, by decide +kernel, by decide +kernel⟩
abbrev s_makes_lot : Stmt := topS 29
theorem sc_makes_lot : FnScope ["places", "value", "place"] ["places", "value"] (defScope s_makes_lot) := ⟨rfl, rfl, rfl, by decide +kernel, rfl, by decide +kernel, by decide +kernel⟩
abbrev s_check_net : Stmt := topS 36
theorem sc_check_net : FnScope ["value"] ["value"] (defScope s_check_net) := ⟨rfl, rfl, rfl, by decide +kernel, rfl, by decide +kernel, by decide +kernel⟩
abbrev s_check_lot : Stmt := topS 37
theorem sc_check_lot : FnScope ["net", "lot"] ["net", "lot"] (defScope s_check_lot) := ⟨rfl, rfl, rfl, by decide +kernel, rfl, by decide +kernel, by decide +kernel⟩
abbrev s_Net_places : Stmt := inClass (topS 38) 2
theorem sc_Net_places : FnScope ["self"] ["self"] (defScope s_Net_places) := ⟨rfl, rfl, rfl, by decide +kernel, rfl, by decide +kernel, by decide +kernel⟩
abbrev s_Net__check_place : Stmt := inClass (topS 38) 37
theorem sc_Net__check_place : FnScope ["self", "place"] ["self", "place"] (defScope s_Net__check_place) := ⟨rfl, rfl, rfl, by decide +kernel, rfl, by decide +kernel, by decide +kernel⟩
abbrev s_Net__check_lot : Stmt := inClass (topS 38) 39
theorem sc_Net__check_lot : FnScope ["self", "lot", "least"] ["self", "lot", "least"] (defScope s_Net__check_lot) := ⟨rfl, rfl, rfl, by decide +kernel, rfl, by decide +kernel, by decide +kernel⟩
abbrev s_Net__many : Stmt := inClass (topS 38) 40
theorem sc_Net__many : FnScope ["self", "pair"] ["self", "pair"] (defScope s_Net__many) := ⟨rfl, rfl, rfl, by decide +kernel, rfl, by decide +kernel, by decide +kernel⟩
abbrev s_Net_tied : Stmt := inClass (topS 38) 10
theorem sc_Net_tied : FnScope ["self", "one", "other"] ["self", "one", "other"] (defScope s_Net_tied) := ⟨rfl, rfl, rfl, by decide +kernel, rfl, by decide +kernel, by decide +kernel⟩
abbrev s_Net_cut : Stmt := inClass (topS 38) 13
theorem sc_Net_cut : FnScope ["self", "lot", "pair"] ["self", "lot"] (defScope s_Net_cut) := ⟨rfl, rfl, rfl, by decide +kernel, rfl, by decide +kernel, by decide +kernel⟩
section
variable {P : Program} {w : World} {K : PySem.W.Frag} {mg : Str → Option Value} {base : Heap}
def spOrdered : DSp := fun xs Q => ∃ a b, xs = [.str a, .str b] ∧ Q (pairD (ordP a b))
theorem ok_ordered {f : Addr} {fd : FuncData} {k : Nat} (F : Fun K "ordered" "ordered" s_ordered f fd)  : FnOk P w K mg base CX0 (k + 1) f fd ["one", "other"] (spD spOrdered) := by
  refine fnD_ok F sc_ordered (fun xs Q h => ?_) (fun dc cdv A outer s0 H E hr =>
    (dss_one (ds_ret (de_if (dc_cmp opd_lt (de_var 0) (de_var 1) (nomark _)) (de_tup (da_cons (de_var 0) (da_cons (de_var 1) da_nil))) (de_tup (da_cons (de_var 1) (da_cons (de_var 0) da_nil))))))) (fun xs Q h => ?_)
  · obtain ⟨a, b, rfl, _⟩ := h; rfl
  · obtain ⟨a, b, rfl, q⟩ := h
    walk_at "dred"
    unfold ordP pairD at q
    by_cases c : ltS a b = true
    · rw [if_pos c] at q ⊢; exact ⟨by decide, q⟩
    · rw [if_neg c] at q ⊢; exact ⟨by decide, q⟩
def spInside : DSp := fun xs Q => ∃ p l : List Str, xs = [lotD p, lotD l] ∧ p.length ≤ 1000 ∧ Q (lotD (inS p l))
def spOutside : DSp := fun xs Q => ∃ p l : List Str, xs = [lotD p, lotD l] ∧ p.length ≤ 1000 ∧ Q (lotD (outS p l))
end
section
variable {P : Program} {w : World} {K : PySem.W.Frag} {mg : Str → Option Value} {base : Heap}
theorem zip_strs (l m : List Str) : zipD (l.map D.str) (m.map D.str) = (l.zip m).map fun p => D.tup [.str p.1, .str p.2] := by
  unfold zipD
  rw [List.zip_map, List.map_map]
  rfl
def spAscends : DSp := fun xs Q => ∃ l : List Str, xs = [lotD l] ∧ l.length ≤ 1000 ∧ Q (.bl (ascS l))
theorem ok_ascends {f : Addr} {fd : FuncData} {k : Nat} (F : Fun K "ascends" "ascends" s_ascends f fd) (m_all : mg "all" = none) (m_zip : mg "zip" = none) : FnOk P w K mg base CX0 (k + 1) f fd ["items"] (spD spAscends) := by
  refine fnD_ok F sc_ascends (fun xs Q h => ?_) (fun dc cdv A outer s0 H E hr =>
    (dss_one (ds_ret (de_callB (cd_all rfl) (by rfl) m_all (by decide +kernel) (da_cons (de_lc (own := [("one", 1), ("other", 2)]) rfl sc_ascends.nd (di_zip (by rfl) m_zip (da_cons (de_var 0) (da_cons (de_slice (de_var 0) (do_some de_int) do_none) da_nil))) (blkOk_by (N := ["items", "one", "other"]) (sc := defScope s_ascends) (by decide +kernel)) (fun _ _ _ _ _ => (dg_tup (n := 2) rfl (dgs_cons (dg_name (i := 1) sc_ascends.nd rfl (Or.inl rfl)) (dgs_cons (dg_name (i := 2) sc_ascends.nd rfl (Or.inl rfl)) dgs_nil)))) (fun _ _ _ _ _ => dts_nil) (fun _ _ _ _ _ => (de_cmp opd_lt (de_var 1) (de_var 2) (nomark _))) (by decide)) da_nil))))) (fun xs Q h => ?_)
  · obtain ⟨l, rfl, _⟩ := h; rfl
  · obtain ⟨l, rfl, hl, q⟩ := h
    unfold lotD
    walk_at "dred"
    rw [cut_tail, ← List.map_tail]
    rw [zip_strs]
    refine ⟨?_, lcL_all (g := fun p : Str × Str => D.bl (ltS p.1 p.2)) (fun p hp K hk => ?_) ?_⟩
    · rw [List.length_map, List.length_zip]
      exact Nat.le_of_lt (small1000 (by omega))
    · walk_at "dred"
      exact hk
    · have e : (l.zip l.tail).map (fun p : Str × Str => D.bl (ltS p.1 p.2)) = ((l.zip l.tail).map fun p : Str × Str => ltS p.1 p.2).map D.bl := by rw [List.map_map]; rfl
      rw [e]
      refine asBls.of ?_
      rw [List.all_map]
      exact q
def spMakesLot : DSp := fun xs Q => ∃ p l : List Str, xs = [lotD p, lotD l] ∧ l.length ≤ 1000 ∧ Q (.bl (isLot p l))
theorem ok_makes_lot {f : Addr} {fd : FuncData} {k : Nat} (F : Fun K "makes_lot" "makes_lot" s_makes_lot f fd) (m_all : mg "all" = none) (m_isinstance : mg "isinstance" = none) (m_tuple : mg "tuple" = none) (G_ascends : DFn P w K mg base k "ascends" [] spAscends) : FnOk P w K mg base CX0 (k + 1) f fd ["places", "value"] (spD spMakesLot) := by
  refine fnD_ok F sc_makes_lot (fun xs Q h => ?_) (fun dc cdv A outer s0 H E hr =>
    (dss_one (ds_ret (de_and (de_callB (cd_isi (K := K) rfl) (by rfl) m_isinstance (by decide +kernel) (da_cons (de_var 1) (da_cons (de_ty (n := "tuple") (by rfl) m_tuple (by decide +kernel)) da_nil))) (de_and (de_callB (cd_all rfl) (by rfl) m_all (by decide +kernel) (da_cons (de_lc (own := [("place", 2)]) rfl sc_makes_lot.nd (di_seq (de_var 1)) (blkOk_by (N := ["places", "value", "place"]) (sc := defScope s_makes_lot) (by decide +kernel)) (fun _ _ _ _ _ => (dg_name (i := 2) sc_makes_lot.nd rfl (Or.inl rfl))) (fun _ _ _ _ _ => dts_nil) (fun _ _ _ _ _ => (de_cmp (opd_inA (hu_of hr)) (de_var 2) (de_var 0) (by rfl))) (by decide)) da_nil)) (de_one (de_fn G_ascends hr (Nat.le_refl _) (by rfl) (da_cons (de_var 1) da_nil)))))))) (fun xs Q h => ?_)
  · obtain ⟨p, l, rfl, _⟩ := h; rfl
  · obtain ⟨p, l, rfl, hl, q⟩ := h
    unfold lotD
    walk_at "dred"
    refine ⟨_, _, true, .tup _, .ty _, kit_ty (by decide +kernel), ?_⟩
    walk_at "dred"
    refine ⟨by rw [List.length_map]; exact Nat.le_of_lt (small1000 hl), lcL_all (g := fun s : Str => D.bl (decide (s ∈ p))) (fun s hs K hk => ?_) ?_⟩
    · walk_at "dred"
      exact hk
    · have e : l.map (fun s : Str => D.bl (decide (s ∈ p))) = (l.map fun s => decide (s ∈ p)).map D.bl := by rw [List.map_map]; rfl
      rw [e]
      refine asBls.of ?_
      rw [List.all_map]
      unfold isLot at q
      by_cases c : l.all (id ∘ fun s => decide (s ∈ p)) = true
      · walk_at "dred"
        rw [c]
        have c' : (l.all fun s => decide (s ∈ p)) = true := c
        rw [c', Bool.true_and] at q
        exact iteT ⟨l, rfl, hl, q⟩
      · walk_at "dred"
        have c' : (l.all fun s => decide (s ∈ p)) = false := Bool.eq_false_iff.mpr c
        rw [Bool.eq_false_iff.mpr c]
        rw [c', Bool.false_and] at q
        exact iteF q

/-! the net's own methods -/
variable {C : Addr}
def spPlaces (C : Addr) : DSp := fun xs Q => ∃ ps ts, xs = [madeD C ps ts] ∧ Q (lotD ps)
theorem ok_Net_places {f : Addr} {fd : FuncData} {k : Nat} (F : Fun K "places" "Net.places" s_Net_places f fd) (c0 : Cls K C) (n_places : NoAttr K C "_places") : FnOk P w K mg base CX0 (k + 1) f fd ["self"] (spD (spPlaces C)) := by
  refine fnD_ok F sc_Net_places (fun xs Q h => ?_) (fun dc cdv A outer s0 H E hr =>
    (dss_one (ds_ret (dp_fld c0 n_places (dp_var 0)).de))) (fun xs Q h => ?_)
  · obtain ⟨ps, ts, rfl, _⟩ := h; rfl
  · obtain ⟨ps, ts, rfl, q⟩ := h
    walk_at "dred"
    exact q
def spMany (C : Addr) : DSp := fun xs Q => ∃ ps ts k, xs = [madeD C ps ts, pairD k] ∧ Q (.int (getT ts k))
theorem ok_Net__many {f : Addr} {fd : FuncData} {k : Nat} (F : Fun K "_many" "Net._many" s_Net__many f fd) (c0 : Cls K C) (n_ties : NoAttr K C "_ties") : FnOk P w K mg base CX0 (k + 1) f fd ["self", "pair"] (spD (spMany C)) := by
  refine fnD_ok F sc_Net__many (fun xs Q h => ?_) (fun dc cdv A outer s0 H E hr =>
    (dss_one (ds_ret (de_get2 (hu_of hr) (dp_fld c0 n_ties (dp_var 0)).de (de_var 1) de_int ⟨by rfl, by rfl, by rfl, by rfl⟩)))) (fun xs Q h => ?_)
  · obtain ⟨ps, ts, k, rfl, _⟩ := h; rfl
  · obtain ⟨ps, ts, k, rfl, q⟩ := h
    walk_at "dred"
    rw [look_getD]
    exact q
def spCheckPlace (C : Addr) : DSp := fun xs Q => ∃ ps ts a, xs = [madeD C ps ts, .str a] ∧ a ∈ ps ∧ Q .non
theorem ok_Net__check_place {f : Addr} {fd : FuncData} {k : Nat} (F : Fun K "_check_place" "Net._check_place" s_Net__check_place f fd) (c0 : Cls K C) (n_places : NoAttr K C "_places") : FnOk P w K mg base CX0 (k + 1) f fd ["self", "place"] (spD (spCheckPlace C)) := by
  refine fnD_ok F sc_Net__check_place (fun xs Q h => ?_) (fun dc cdv A outer s0 H E hr =>
    (dss_one (ds_if (dc_cmp (opd_notinA (hu_of hr)) (de_var 1) (dp_fld c0 n_places (dp_var 0)).de (by rfl)) (dss_one ds_never) dss_nil))) (fun xs Q h => ?_)
  · obtain ⟨ps, ts, k, rfl, _⟩ := h; rfl
  · obtain ⟨ps, ts, a, rfl, ha, q⟩ := h
    walk_at "dred"
    rw [decide_eq_true ha]
    exact iteF q
def spCheckLotM (C : Addr) : DSp := fun xs Q => ∃ ps ts l, xs = [madeD C ps ts, lotD l, .int 0] ∧ isLot ps l = true ∧ l.length ≤ 1000 ∧ Q .non
theorem ok_Net__check_lot {f : Addr} {fd : FuncData} {k : Nat} (F : Fun K "_check_lot" "Net._check_lot" s_Net__check_lot f fd) (c0 : Cls K C) (n_places : NoAttr K C "_places") (m_len : mg "len" = none) (G_makes_lot : DFn P w K mg base k "makes_lot" [] spMakesLot) : FnOk P w K mg base CX0 (k + 1) f fd ["self", "lot", "least"] (spD (spCheckLotM C)) := by
  refine fnD_ok F sc_Net__check_lot (fun xs Q h => ?_) (fun dc cdv A outer s0 H E hr =>
    (dss_one (ds_if ((dw_or (dc_not (dc_val (de_fn G_makes_lot hr (Nat.le_refl _) (by rfl) (da_cons (dp_fld c0 n_places (dp_var 0)).de (da_cons (de_var 1) da_nil))))) (dw_or1 (dc_cmp opd_lt (de_callB cd_len (by rfl) m_len (by decide +kernel) (da_cons (de_var 1) da_nil)) (de_var 2) (nomark _))))).toC (dss_one ds_never) dss_nil))) (fun xs Q h => ?_)
  · obtain ⟨ps, ts, k, rfl, _⟩ := h; rfl
  · obtain ⟨ps, ts, l, rfl, hl, hz, q⟩ := h
    walk_at "dred"
    refine ⟨ps, l, rfl, hz, ?_⟩
    rw [hl]
    walk_at "dred"
    refine iteF ?_
    show if decide (((l.map D.str).length : Int) < 0) = true then False else Q .non
    rw [decide_eq_false (by omega)]
    exact iteF q
def spTied (C : Addr) : DSp := fun xs Q => ∃ ps ts a b, xs = [madeD C ps ts, .str a, .str b] ∧ a ∈ ps ∧ b ∈ ps ∧ Q (.int (getT ts (ordP a b)))
theorem ok_Net_tied {f : Addr} {fd : FuncData} {k : Nat} (F : Fun K "tied" "Net.tied" s_Net_tied f fd) (G_ordered : DFn P w K mg base k "ordered" [] spOrdered) (Mt__check_place : DMt P w K mg base k C "_check_place" [] (spCheckPlace C)) (Mt__many : DMt P w K mg base k C "_many" [] (spMany C)) : FnOk P w K mg base CX0 (k + 1) f fd ["self", "one", "other"] (spD (spTied C)) := by
  refine fnD_ok F sc_Net_tied (fun xs Q h => ?_) (fun dc cdv A outer s0 H E hr =>
    (dss_cons (ds_expr (de_meth Mt__check_place hr (Nat.le_refl _) (de_var 0) (da_cons (de_var 1) da_nil)))
      (dss_cons (ds_expr (de_meth Mt__check_place hr (Nat.le_refl _) (de_var 0) (da_cons (de_var 2) da_nil)))
      (dss_one (ds_ret (de_meth Mt__many hr (Nat.le_refl _) (de_var 0) (da_cons (de_fn G_ordered hr (Nat.le_refl _) (by rfl) (da_cons (de_var 1) (da_cons (de_var 2) da_nil))) da_nil))))))) (fun xs Q h => ?_)
  · obtain ⟨ps, ts, a, b, rfl, _⟩ := h; rfl
  · obtain ⟨ps, ts, a, b, rfl, ha, hb, q⟩ := h
    walk_at "dred"
    refine ⟨by decide, ⟨ps, ts, a, rfl, ha, ?_⟩⟩
    refine ⟨by decide, ⟨ps, ts, b, rfl, hb, ?_⟩⟩
    refine ⟨by decide, ⟨a, b, rfl, ?_⟩⟩
    exact ⟨ps, ts, _, rfl, q⟩
def spCut (C : Addr) : DSp := fun xs Q => ∃ ps ts l, xs = [madeD C ps ts, lotD l] ∧ isLot ps l = true ∧ l.length ≤ 1000 ∧ ts.length ≤ 1000 ∧ (ts.map (·.1)).Nodup ∧ Q (.int (cutT ts l))
theorem ok_Net_cut {f : Addr} {fd : FuncData} {k : Nat} (F : Fun K "cut" "Net.cut" s_Net_cut f fd) (c0 : Cls K C) (n_ties : NoAttr K C "_ties") (m_sum : mg "sum" = none) (Mt__check_lot : DMt P w K mg base k C "_check_lot" [] (spCheckLotM C)) : FnOk P w K mg base CX0 (k + 1) f fd ["self", "lot"] (spD (spCut C)) := by
  refine fnD_ok F sc_Net_cut (fun xs Q h => ?_) (fun dc cdv A outer s0 H E hr =>
    (dss_cons (ds_expr (de_meth Mt__check_lot hr (Nat.le_refl _) (de_var 0) (da_cons (de_var 1) (da_cons de_int da_nil))))
      (dss_one (ds_ret (de_callB (cd_sum rfl) (by rfl) m_sum (by decide +kernel) (da_cons (de_lcK (own := [("pair", 2)]) rfl sc_Net_cut.nd (dp_fld c0 n_ties (dp_var 0)) (blkOk_by (N := ["self", "lot", "pair"]) (sc := defScope s_Net_cut) (by decide +kernel)) (fun _ _ _ _ _ => (dg_name (i := 2) sc_Net_cut.nd rfl (Or.inl rfl))) (fun _ _ _ _ _ => (dts_one (dc_cmp (opd_ne (hr.units)) (de_cmp (opd_inA (hu_of hr)) (de_sub (hu_of hr) (de_var 2) de_int) (de_var 1) (by rfl)) (de_cmp (opd_inA (hu_of hr)) (de_sub (hu_of hr) (de_var 2) de_int) (de_var 1) (by rfl)) (nomark _)))) (fun _ _ _ _ _ => (de_sub (hu_of hr) (dp_fld c0 n_ties (dp_var 0)).de (de_var 2))) (by decide)) da_nil)))))) (fun xs Q h => ?_)
  · obtain ⟨ps, ts, l, rfl, _⟩ := h; rfl
  · obtain ⟨ps, ts, l, rfl, hl, hz, ht, nd, q⟩ := h
    walk_at "dred"
    refine ⟨by decide, ⟨ps, ts, l, rfl, hl, hz, ?_⟩⟩
    refine ⟨by rw [List.length_map]; exact Nat.le_of_lt (small1000 ht), ?_⟩
    rw [keysD_ties]
    refine lcL_filter (g := fun e => D.int e.2) (c := fun e => parts l e.1) (fun e he K hk => ?_) ?_
    · walk_at "dred"
      rw [bl_ne, look_at nd he]
      exact hk
    · have e : (ts.filter fun e => parts l e.1).map (fun e => D.int e.2) = ((ts.filter fun e => parts l e.1).map (·.2)).map D.int := by rw [List.map_map]; rfl
      rw [e]
      exact asInts.of q
end
abbrev s__check_two : Stmt := topS 40
theorem sc__check_two : FnScope ["net", "one", "other"] ["net", "one", "other"] (defScope s__check_two) := ⟨rfl, rfl, rfl, by decide +kernel, rfl, by decide +kernel, by decide +kernel⟩
section
variable {P : Program} {w : World} {K : PySem.W.Frag} {mg : Str → Option Value} {base : Heap} {C : Addr}
def spCheckNet (C : Addr) : DSp := fun xs Q => ∃ ps ts, xs = [madeD C ps ts] ∧ Q .non
theorem ok_check_net {f : Addr} {fd : FuncData} {k : Nat} (F : Fun K "check_net" "check_net" s_check_net f fd) (cI : C8.InsC K C) (m_isinstance : mg "isinstance" = none) (m_Net : mg "Net" = some (.ref C)) : FnOk P w K mg base CX0 (k + 1) f fd ["value"] (spD (spCheckNet C)) := by
  refine fnD_ok F sc_check_net (fun xs Q h => ?_) (fun dc cdv A outer s0 H E hr =>
    (dss_one (ds_if (dc_not (dc_val (de_callB (cd_isi (K := K) rfl) (by rfl) m_isinstance (by decide +kernel) (da_cons (de_var 0) (da_cons (de_globR (by rfl) m_Net) da_nil))))) (dss_one ds_never) dss_nil))) (fun xs Q h => ?_)
  · obtain ⟨ps, ts, rfl, _⟩ := h; rfl
  · obtain ⟨ps, ts, rfl, q⟩ := h
    walk_at "dred"
    refine ⟨_, _, true, .ins cI _ _, .own _, cI.me, ?_⟩
    walk_at "dred"
    exact iteF q
def spCheckLot (C : Addr) : DSp := fun xs Q => ∃ ps ts l, xs = [madeD C ps ts, lotD l] ∧ isLot ps l = true ∧ l.length ≤ 1000 ∧ Q .non
theorem ok_check_lot {f : Addr} {fd : FuncData} {k : Nat} (F : Fun K "check_lot" "check_lot" s_check_lot f fd) (Pr_places : DPr P w K mg base k C "places" (spPlaces C)) (G_makes_lot : DFn P w K mg base (k + 1) "makes_lot" [] spMakesLot) : FnOk P w K mg base CX0 (k + 1 + 1) f fd ["net", "lot"] (spD (spCheckLot C)) := by
  refine fnD_ok F sc_check_lot (fun xs Q h => ?_) (fun dc cdv A outer s0 H E hr =>
    (dss_one (ds_if (dc_not (dc_val (de_fn G_makes_lot hr (Nat.le_refl _) (by rfl) (da_cons (de_prop Pr_places hr (Nat.le_refl _) (de_var 0)) (da_cons (de_var 1) da_nil))))) (dss_one ds_never) dss_nil))) (fun xs Q h => ?_)
  · obtain ⟨ps, ts, k, rfl, _⟩ := h; rfl
  · obtain ⟨ps, ts, l, rfl, hl, hz, q⟩ := h
    walk_at "dred"
    refine ⟨ps, ts, rfl, ?_⟩
    refine ⟨ps, l, rfl, hz, ?_⟩
    rw [hl]
    walk_at "dred"
    exact iteF q
def spOpposite (C : Addr) : DSp := fun xs Q => ∃ ps ts l, xs = [madeD C ps ts, lotD l] ∧ isLot ps l = true ∧ l.length ≤ 1000 ∧ ps.length ≤ 1000 ∧ Q (lotD (outS ps l))
def spCheckTwo (C : Addr) : DSp := fun xs Q => ∃ ps ts a b, xs = [madeD C ps ts, lotD a, lotD b] ∧ isLot ps a = true ∧ isLot ps b = true ∧ a.length ≤ 1000 ∧ b.length ≤ 1000 ∧ Q .non
theorem ok__check_two {f : Addr} {fd : FuncData} {k : Nat} (F : Fun K "_check_two" "_check_two" s__check_two f fd) (G_check_net : DFn P w K mg base k "check_net" [] (spCheckNet C)) (G_check_lot : DFn P w K mg base k "check_lot" [] (spCheckLot C)) : FnOk P w K mg base CX0 (k + 1) f fd ["net", "one", "other"] (spD (spCheckTwo C)) := by
  refine fnD_ok F sc__check_two (fun xs Q h => ?_) (fun dc cdv A outer s0 H E hr =>
    (dss_cons (ds_expr (de_fn G_check_net hr (Nat.le_refl _) (by rfl) (da_cons (de_var 0) da_nil)))
      (dss_cons (ds_expr (de_fn G_check_lot hr (Nat.le_refl _) (by rfl) (da_cons (de_var 0) (da_cons (de_var 1) da_nil))))
      (dss_one (ds_expr (de_fn G_check_lot hr (Nat.le_refl _) (by rfl) (da_cons (de_var 0) (da_cons (de_var 2) da_nil)))))))) (fun xs Q h => ?_)
  · obtain ⟨ps, ts, a, b, rfl, _⟩ := h; rfl
  · obtain ⟨ps, ts, a, b, rfl, ha, hb, za, zb, q⟩ := h
    walk_at "dred"
    exact ⟨ps, ts, rfl, ⟨ps, ts, a, rfl, ha, za, ⟨ps, ts, b, rfl, hb, zb, q⟩⟩⟩
def spCorners (C : Addr) : DSp := fun xs Q => ∃ ps ts a b, xs = [madeD C ps ts, lotD a, lotD b] ∧ isLot ps a = true ∧ isLot ps b = true ∧ a.length ≤ 1000 ∧ b.length ≤ 1000 ∧ ps.length ≤ 1000 ∧
  Q (.tup [lotD (inS a b), lotD (outS a b), lotD (outS b a), lotD (outS (outS ps a) b)])
theorem outS_len (p l : List Str) : (outS p l).length ≤ p.length := List.length_filter_le _ _
theorem inS_len (p l : List Str) : (inS p l).length ≤ p.length := List.length_filter_le _ _
def spTiesBetween (C : Addr) : DSp := fun xs Q => ∃ ps ts a b, xs = [madeD C ps ts, lotD a, lotD b] ∧ (∀ x ∈ a, x ∈ ps) ∧ (∀ x ∈ b, x ∈ ps) ∧ a.length ≤ 1000 ∧ b.length ≤ 1000 ∧ Q (.int (tbS ts a b))
def spBetween (C : Addr) : DSp := fun xs Q => ∃ ps ts a b, xs = [madeD C ps ts, lotD a, lotD b] ∧ isLot ps a = true ∧ isLot ps b = true ∧ a.length ≤ 1000 ∧ b.length ≤ 1000 ∧ inS a b = [] ∧ Q (.int (tbS ts a b))
theorem isLot_mem {p l : List Str} (h : isLot p l = true) : ∀ x ∈ l, x ∈ p := fun x hx => by
  unfold isLot at h
  rw [Bool.and_eq_true, List.all_eq_true] at h
  exact of_decide_eq_true (h.1 x hx)
def spExcesses (C : Addr) : DSp := fun xs Q => ∃ ps ts a b, xs = [madeD C ps ts, lotD a, lotD b] ∧ isLot ps a = true ∧ isLot ps b = true ∧ a.length ≤ 1000 ∧ b.length ≤ 1000 ∧ ps.length ≤ 1000 ∧
  Q (.tup [.int (2 * tbS ts (outS a b) (outS b a)), .int (2 * tbS ts (inS a b) (outS (outS ps a) b))])
theorem outS_sub {p l : List Str} : ∀ x ∈ outS p l, x ∈ p := fun x h => (List.mem_filter.mp h).1
theorem inS_sub {p l : List Str} : ∀ x ∈ inS p l, x ∈ p := fun x h => (List.mem_filter.mp h).1
end
/-! ### the law's own defs that are proved over the heap, by data -/
theorem Ext.sd {dc : Option Addr} {F H H' : Hp} {d : Addr} (p : Pre dc F H) (e : dc = some d) (s : Sd d H H') : Ext dc F H F H' := by
  have k : ∀ a o, dc ≠ some a → H a = some o → H' a = some o := fun a o hd h => s.keep a o (fun z => hd (by rw [e, z])) h
  refine ⟨⟨fun a o h => (p.sub a o h).keep fun u q => k a u (fun z => ?_) q, fun a z => ?_⟩, k, fun _ _ h => h, fun _ _ h => .inl h⟩
  · rw [(p.dice a z).2] at h
    cases h
  · rw [e] at z
    cases z
    exact ⟨s.dice, (p.dice d e).2⟩
def spRollD : DSp := fun xs Q => ∃ n, xs = [.cell, .int n] ∧ 0 < n ∧ n < 1073741824 ∧ ∀ r, 0 ≤ r → r < n → Q (.int r)
theorem roll_imp : ∀ vs H Q E, spD spRollD vs H Q E → spRoll vs H Q E := fun vs H Q E ⟨dc, F, xs, p, r, n, e, h0, h1, q⟩ => by
  subst e
  cases r with
  | cons a b =>
  cases b with
  | cons b c =>
  cases c
  cases b
  cases a with
  | @cell d e =>
  refine ⟨d, n, rfl, (p.dice d e).1, h0, h1, fun r x y z r0 r1 => q r r0 r1 _ F _ (Ext.sd p e (sd_put x y z)) (.int r)⟩
def spPickD : DSp := fun xs Q => ∃ items, xs = [.cell, .lst items] ∧ 0 < items.length ∧ items.length < 1073741824 ∧ ∀ x ∈ items, Q x
theorem pick_imp : ∀ vs H Q E, spD spPickD vs H Q E → spPick vs H Q E := fun vs H Q E ⟨dc, F, xs, p, r, items, e, h0, h1, q⟩ => by
  subst e
  cases r with
  | cons a b =>
  cases b with
  | cons b c =>
  cases c
  cases a with
  | @cell d e =>
  cases b with
  | @lst a _ ws ef rr =>
  have hl := rr.length
  refine ⟨d, a, ws, rfl, (p.dice d e).1, p.sub _ _ ef, fun z => ?_, by omega, by omega, fun v H' hv s => ?_⟩
  · rw [z, (p.dice d e).2] at ef
    cases ef
  · obtain ⟨i, hi, hv⟩ := List.mem_iff_getElem.mp hv
    obtain ⟨x, hx, rx⟩ := rr.get' (i := i) (v := v) (by rw [List.getElem?_eq_getElem hi, hv])
    exact q x (List.mem_of_getElem? hx) _ F _ (Ext.sd p e s) rx
theorem tk_zip (ts : Ties) : (ts.map fun e => kP e.1).zip (ts.map fun e => V.int e.2) = tk ts := by
  unfold tk
  rw [List.zip_map', ]
theorem Reps.tints {dc : Option Addr} {F : Hp} : ∀ (ts : Ties), Reps dc F (ts.map fun e => D.int e.2) (ts.map fun e => V.int e.2)
  | [] => .nil
  | e :: r => .cons (.int _) (Reps.tints r)
theorem Rep.ties {dc : Option Addr} {F : Hp} {ti : Addr} {ts : Ties} (h : F ti = some (.dT (tk ts))) : Rep dc F (tiesD ts) (.ref ti) := by
  refine .dT (vs := ts.map fun e => V.int e.2) ?_ (by rw [List.length_map, List.length_map]) (Reps.tints ts)
  rw [tk_zip]
  exact h
theorem Rep.ties_inv {dc : Option Addr} {F : Hp} {v : V} {ts : Ties} (r : Rep dc F (tiesD ts) v) : ∃ ti, v = .ref ti ∧ F ti = some (.dT (tk ts)) := by
  have key : ∀ {ks : List (List Key)} {xs : List D}, Rep dc F (.dT ks xs) v → xs = (ts.map fun e => D.int e.2) → ks = (ts.map fun e => kP e.1) → ∃ ti, v = .ref ti ∧ F ti = some (.dT (tk ts)) := fun {ks xs} r e1 e2 => by
    cases r with
    | @dT a _ _ ws ef l rr =>
      subst e1 e2
      have hw : ws = (ts.map fun e => V.int e.2) := by
        have e3 : (ts.map fun e => D.int e.2) = (ts.map (·.2)).map D.int := by rw [List.map_map]; rfl
        rw [e3] at rr
        rw [rr.ints_eq, List.map_map]
        rfl
      subst hw
      rw [tk_zip] at ef
      exact ⟨a, rfl, ef⟩
  exact key r rfl rfl
def spNetD : DSp := fun xs Q => xs = [.cell] ∧ ∀ ps ts, GoodN ps ts → Q (netD ps ts)
theorem net_imp : ∀ vs H Q E, spD spNetD vs H Q E → spNet vs H Q E := fun vs H Q E ⟨dc, F, xs, p, r, e, q⟩ => by
  subst e
  cases r with
  | cons a b =>
  cases b
  cases a with
  | @cell d e =>
  refine ⟨d, rfl, (p.dice d e).1, fun H' N ps ts pl ti s na g nN npl nti => ?_⟩
  have e0 := Ext.sd p e s
  have h1 := p.nf nN
  have d1 := p.nd nN
  have n12 : pl ≠ N := ne_of na.pl na.net (fun z => nomatch z)
  have n13 : ti ≠ N := ne_of na.ti na.net (fun z => nomatch z)
  have n23 : ti ≠ pl := ne_of na.ti na.pl (fun z => nomatch z)
  have e1 := e0.close nN na.net (show SubO H' N (.dK _) from .inl na.net) d1 h1
  have e2 := e1.close npl na.pl (show SubO H' pl (.lst _) from na.pl) (p.nd npl) (by rw [upd_ne n12]; exact p.nf npl)
  have e3 := e2.close nti na.ti (show SubO H' ti (.dT _) from .inl na.ti) (p.nd nti) (by rw [upd_ne n23, upd_ne n13]; exact p.nf nti)
  refine q ps ts g _ _ _ e3 ?_
  refine .dK (vs := [.ref pl, .ref ti]) ?_ rfl (.cons (.lst ?_ (Reps.strs ps)) (.cons (Rep.ties upd_same) .nil))
  · rw [upd_ne n13.symm, upd_ne n12.symm, upd_same]
    rfl
  · rw [upd_ne n23.symm, upd_same]
abbrev s__law_cut : Stmt := topS 55
theorem sc__law_cut : FnScope ["net", "lot", "pair"] ["net", "lot"] (defScope s__law_cut) := ⟨rfl, rfl, rfl, by decide +kernel, rfl, by decide +kernel, by decide +kernel⟩
abbrev s__law_lot : Stmt := topS 57
theorem sc__law_lot : FnScope ["dice", "net", "place"] ["dice", "net"] (defScope s__law_lot) := ⟨rfl, rfl, rfl, by decide +kernel, rfl, by decide +kernel, by decide +kernel⟩
section
variable {P : Program} {w : World} {K : PySem.W.Frag} {mg : Str → Option Value} {base : Heap} {C : Addr}
def spLawCut : DSp := fun xs Q => ∃ ps ts l, xs = [netD ps ts, lotD l] ∧ ts.length ≤ 1000 ∧ (ts.map (·.1)).Nodup ∧ Q (.int (cutT ts l))
theorem ok__law_cut {f : Addr} {fd : FuncData} {k : Nat} (F : Fun K "_law_cut" "_law_cut" s__law_cut f fd) (m_sum : mg "sum" = none) : FnOk P w K mg base CX0 (k + 1) f fd ["net", "lot"] (spD spLawCut) := by
  refine fnD_ok F sc__law_cut (fun xs Q h => ?_) (fun dc cdv A outer s0 H E hr =>
    (dss_one (ds_ret (de_callB (cd_sum rfl) (by rfl) m_sum (by decide +kernel) (da_cons (de_lcK (own := [("pair", 2)]) rfl sc__law_cut.nd (dp_key (hu_of hr) (dp_var 0)) (blkOk_by (N := ["net", "lot", "pair"]) (sc := defScope s__law_cut) (by decide +kernel)) (fun _ _ _ _ _ => (dg_name (i := 2) sc__law_cut.nd rfl (Or.inl rfl))) (fun _ _ _ _ _ => (dts_one (dc_cmp (opd_ne (hr.units)) (de_cmp (opd_inA (hu_of hr)) (de_sub (hu_of hr) (de_var 2) de_int) (de_var 1) (by rfl)) (de_cmp (opd_inA (hu_of hr)) (de_sub (hu_of hr) (de_var 2) de_int) (de_var 1) (by rfl)) (nomark _)))) (fun _ _ _ _ _ => (de_sub (hu_of hr) (de_sub (hu_of hr) (de_var 0) de_str) (de_var 2))) (by decide)) da_nil))))) (fun xs Q h => ?_)
  · obtain ⟨ps, ts, l, rfl, _⟩ := h; rfl
  · obtain ⟨ps, ts, l, rfl, ht, nd, q⟩ := h
    walk_at "dred"
    rw [dKey_ties (ps := ps) (ts := ts) rfl]
    walk_at "dred"
    refine ⟨by rw [List.length_map]; exact Nat.le_of_lt (small1000 ht), ?_⟩
    rw [keysD_ties]
    refine lcL_filter (g := fun e => D.int e.2) (c := fun e => parts l e.1) (fun e he K hk => ?_) ?_
    · walk_at "dred"
      rw [bl_ne, look_at nd he]
      exact hk
    · have e : (ts.filter fun e => parts l e.1).map (fun e => D.int e.2) = ((ts.filter fun e => parts l e.1).map (·.2)).map D.int := by rw [List.map_map]; rfl
      rw [e]
      exact asInts.of q
/-- a comprehension that picks some, whichever -/
theorem lcL_any {α : Type} {h : α → D} {f : D → (List D → Prop) → Prop} {g : α → D} : ∀ {xs : List α} {Q : List D → Prop}, (∀ a ∈ xs, ∀ K : List D → Prop, K [g a] → K [] → f (h a) K) → (∀ ys : List α, ys.Sublist xs → Q (ys.map g)) → lcL f (xs.map h) Q
  | [], Q, _, q => q [] (List.Sublist.refl _)
  | x :: xs, Q, hf, q => by
    rw [List.map_cons]
    refine hf x List.mem_cons_self _ ?_ ?_
    · exact lcL_any (fun a ha => hf a (List.mem_cons_of_mem _ ha)) fun ys hy => q (x :: ys) (hy.cons₂ x)
    · exact lcL_any (fun a ha => hf a (List.mem_cons_of_mem _ ha)) fun ys hy => q ys (hy.cons x)
def spLawLot : DSp := fun xs Q => ∃ ps ts, xs = [.cell, netD ps ts] ∧ ps.length ≤ 1000 ∧ ∀ l, l.Sublist ps → Q (lotD l)
theorem ok__law_lot {f : Addr} {fd : FuncData} {k : Nat} (F : Fun K "_law_lot" "_law_lot" s__law_lot f fd) (m_tuple : mg "tuple" = none) (G__law_roll : DFn P w K mg base k "_law_roll" [] spRollD) : FnOk P w K mg base CX0 (k + 1) f fd ["dice", "net"] (spD spLawLot) := by
  refine fnD_ok F sc__law_lot (fun xs Q h => ?_) (fun dc cdv A outer s0 H E hr =>
    (dss_one (ds_ret (de_callTy cd_tuple (by rfl) m_tuple (by decide +kernel) (da_cons (de_lc (own := [("place", 2)]) rfl sc__law_lot.nd (di_seq (de_sub (hu_of hr) (de_var 1) de_str)) (blkOk_by (N := ["dice", "net", "place"]) (sc := defScope s__law_lot) (by decide +kernel)) (fun _ _ _ _ _ => (dg_name (i := 2) sc__law_lot.nd rfl (Or.inl rfl))) (fun _ _ _ _ _ => (dts_one (dc_cmp (opd_eq (hr.units)) (de_fn G__law_roll hr (Nat.le_refl _) (by rfl) (da_cons (de_var 0) (da_cons de_int da_nil))) de_int (nomark _)))) (fun _ _ _ _ _ => (de_var 2)) (by decide)) da_nil))))) (fun xs Q h => ?_)
  · obtain ⟨ps, ts, rfl, _⟩ := h; rfl
  · obtain ⟨ps, ts, rfl, hp, q⟩ := h
    walk_at "dred"
    refine ⟨by rw [List.length_map]; exact Nat.le_of_lt (small1000 hp), lcL_any (g := D.str) (fun s hs K k1 k2 => ?_) fun ys hy => ?_⟩
    · walk_at "dred"
      refine ⟨2, rfl, by decide, by decide, fun r r0 r1 => ?_⟩
      walk_at "dred"
      by_cases c : r = 0
      · rw [decide_eq_true c]
        exact iteT k1
      · rw [decide_eq_false c]
        exact iteF k2
    · exact q ys hy
end
/-! ### the net of a plain one -/
structure MadeOk (ps : List Str) (ts : Ties) : Prop where
  len : ts.length < 900
  nodup : (ts.map (·.1)).Nodup
  okp : ∀ p ∈ ps, okStr p
  okt : ∀ e ∈ ts, okStr e.1.1 ∧ okStr e.1.2
  pb : placesB ps = true
  tb : tiesB ps ts = true

theorem nodup_kP {ts : Ties} (h : (ts.map (·.1)).Nodup) : (ts.map fun e => kP e.1).Nodup := by
  have e : (ts.map fun e => kP e.1) = (ts.map (·.1)).map kP := by rw [List.map_map]; rfl
  rw [e]
  exact List.Pairwise.map _ (fun a b hab z => hab (kP_inj z)) h
theorem tup_strs {dc : Option Addr} {F : Hp} {u : V} {ps : List Str} (r : Rep dc F (lotD ps) u) : ∃ t, u = .ref t ∧ F t = some (.tup (ps.map V.str)) := by
  have key : ∀ {xs : List D}, Rep dc F (.tup xs) u → xs = ps.map D.str → ∃ t, u = .ref t ∧ F t = some (.tup (ps.map V.str)) := fun {xs} r e => by
    cases r with
    | tup ef rr =>
      subst e
      rw [rr.strs_eq] at ef
      exact ⟨_, rfl, ef⟩
  exact key r rfl
def dMade (C : Addr) (d1 d2 : DT) : DT := fun ρ Q => d1 ρ fun y => d2 ρ fun x => ∃ ps ts, y = lotD ps ∧ x = tiesD ts ∧ MadeOk ps ts ∧ ∀ qs, qs.Perm ps → sortedS qs = true → Q (madeD C qs (sortTi ts))
section
variable {X : Cx} {dc : Option Addr} {e1 e : Expr} {d1 d : DT} {k : Nat} {f C : Addr} {fd : FuncData}
theorem Ext.ok {F H F' H' : Hp} {a : Addr} {o : HO} (e : Ext dc F H F' H') (hd : dc ≠ some a) (h : H a = some o) : H' a = some o := e.keep a o hd h
/-- Net(places, dict(list(ties.items()))) -/
theorem de_made {p0 p1 p2 p3 p4 p5 pn pc : Pos} (M : Mk X.K C f) (G : FnOk X.prog X.w X.K X.mg X.base CX0 k f fd ["self", "places", "ties"] (spInit C)) (hr : Room (k + 1) X.A) (gn : Gl X "Net") (hm : X.mg "Net" = some (.ref C)) (hb : Binds X.K fd ["self", "places", "ties"] [])
    (hc : X.calm = true) (hu : X.A.units + 3 < cLine) (he1 : DE X dc e1 d1) (he : DE X dc e d) (gd : Gl X "dict") (md : X.mg "dict" = none) (gl : Gl X "list") (ml : X.mg "list" = none)
    (hs : starEach [e1, .Call (.Name "dict" p1) [.Call (.Name "list" p2) [.Call (.Attribute e "items" p4) [] [] p5] [] p3] [] p0] X.env = (false, eval e1 X.env) :: starEach [.Call (.Name "dict" p1) [.Call (.Name "list" p2) [.Call (.Attribute e "items" p4) [] [] p5] [] p3] [] p0] X.env := by rfl)
    (hpl : (backTo pc (starEach [.Call (.Name "dict" p1) [.Call (.Name "list" p2) [.Call (.Attribute e "items" p4) [] [] p5] [] p3] [] p0] X.env)).any (·.1) = false := by rfl)
    (hbase : attributeBase e "items" X.env (eval e X.env) = eval e X.env := by rfl) (hline : (p4.endLine == p5.line) = true := by rfl) :
    DE X dc (.Call (.Name "Net" pn) [e1, .Call (.Name "dict" p1) [.Call (.Name "list" p2) [.Call (.Attribute e "items" p4) [] [] p5] [] p3] [] p0] [] pc) (dMade C d1 d) := by
  have m1 := he1.mono
  have m := he.mono
  obtain ⟨t1, q1, r1⟩ := he1.get
  obtain ⟨t, p, r⟩ := he.get
  refine ⟨fun ρ P P' hP h => m1 _ _ _ (fun y h => m _ _ _ (fun x ⟨ps, ts, a, b, c, q⟩ => ⟨ps, ts, a, b, c, fun qs h1 h2 => hP _ (q qs h1 h2)⟩) h) h, _,
    pe_make M G hr gn hm hb .nil pass0 (pa_cons q1 (pa_cons (pe_callTy (call_dictT hc hu) gd md (by decide +kernel) (pa_cons (pe_callTy (call_listItR hc) gl ml (by decide +kernel) (pa_cons (pe_itemsR p hbase hline) pa_nil)) pa_nil)) pa_nil) hs) (by decide) hs hpl, fun ρ σ F H Q pr s h => ?_⟩
  refine r1 pr s h fun y u F1 H1 h e1' r1' => ?_
  refine r e1'.pre (s.mono e1'.fsub) h fun x v F2 H2 h e2' r2' => ?_
  obtain ⟨ps, ts, rfl, rfl, ok, q⟩ := h
  obtain ⟨ti, rfl, ef⟩ := r2'.ties_inv
  obtain ⟨t', rfl, eft⟩ := tup_strs (e2'.rep r1')
  have rd : Rd H2 ti (.dT (tk ts)) := e2'.pre.sub _ _ ef
  have ht : H2 t' = some (.tup (ps.map V.str)) := e2'.pre.sub _ _ eft
  refine ⟨ti, _, rfl, rd, fun vw nv => ?_⟩
  have g1 := same_upd (H := H2) (o := L2.DX.itemsO vw ti) nv
  have rd2 : Rd (upd H2 vw (L2.DX.itemsO vw ti)) ti (.dT (tk ts)) := rd.elim (fun h => .inl (g1 _ _ h)) fun ⟨o, h⟩ => .inr ⟨o, g1 _ _ h⟩
  refine ⟨vw, ti, _, rfl, upd_same, rd2, fun H3 l2 cs sm nl el prs => ⟨l2, cs, _, rfl, el, prs, fun td ntd => ?_⟩⟩
  have g2 : Same H2 H3 := g1.trans sm
  rw [mergeT_nil (tk_nodup ok.nodup)]
  have g3 : Same H2 (upd H3 td (.dT (tk ts))) := g2.trans (same_upd ntd)
  have etd : (upd H3 td (.dT (tk ts))) td = some (.dT (tk ts)) := upd_same
  generalize upd H3 td (.dT (tk ts)) = H4 at g3 etd ⊢
  intro x dx nx ndx nxd
  have g4 : Same H4 (upd (upd H4 dx (.own x)) x (.ins C dx [])) := (same_upd ndx).trans (same_upd (by rw [upd_ne nxd.symm]; exact nx))
  refine ⟨x, dx, t', td, ps, ts, rfl, upd_same, g4 _ _ (g3 _ _ ht), g4 _ _ etd, ok.len, ok.nodup, ok.okp, ok.okt, ok.pb, ok.tb, fun H5 qs pm srt kp no => ⟨rfl, ?_⟩⟩
  obtain ⟨t5, d5, ex, et5, ed5, nt5, nd5⟩ := no.ex
  have g5 : Same H2 H5 := fun a o h => kp a o (fun z => by
    rw [z] at h
    rw [g3 _ _ h] at nx
    cases nx) (g4 _ _ (g3 _ _ h))
  have fr : ∀ a, (upd (upd H4 dx (.own x)) x (.ins C dx [])) a = none → H2 a = none := fun a z => by
    cases w : H2 a with
    | none => rfl
    | some o =>
      rw [g4 _ _ (g3 _ _ w)] at z
      cases z
  have nx2 : H2 x = none := by
    cases w : H2 x with
    | none => rfl
    | some o =>
      rw [g3 _ _ w] at nx
      cases nx
  have pr2 := e2'.pre
  have E0 := Ext.grow pr2 g5
  have E1 := E0.close nx2 ex (show SubO H5 x (.ins C dx _) from ex) (pr2.nd nx2) (pr2.nf nx2)
  have n1 : t5 ≠ x := ne_of et5 ex (fun z => nomatch z)
  have n2 : d5 ≠ x := ne_of ed5 ex (fun z => nomatch z)
  have n3 : d5 ≠ t5 := ne_of ed5 et5 (fun z => nomatch z)
  have E2 := E1.close (fr _ nt5) et5 (show SubO H5 t5 (.tup _) from et5) (pr2.nd (fr _ nt5)) (by rw [upd_ne n1]; exact pr2.nf (fr _ nt5))
  have E3 := E2.close (fr _ nd5) ed5 (show SubO H5 d5 (.dT _) from .inl ed5) (pr2.nd (fr _ nd5)) (by rw [upd_ne n3, upd_ne n2]; exact pr2.nf (fr _ nd5))
  refine q qs pm srt _ _ _ ((e1'.trans pr e2').trans pr E3) ?_
  refine .ins (dx := dx) (vs := [.ref t5, .ref d5]) ?_ rfl (.cons (.tup ?_ (Reps.strs qs)) (.cons (Rep.ties upd_same) .nil))
  · rw [upd_ne n2.symm, upd_ne n1.symm, upd_same]
    rfl
  · rw [upd_ne n3.symm, upd_same]
end
section
variable {P : Program} {w : World} {K : PySem.W.Frag} {mg : Str → Option Value} {base : Heap} {C : Addr}
abbrev s__law_made : Stmt := topS 54
theorem sc__law_made : FnScope ["net"] ["net"] (defScope s__law_made) := ⟨rfl, rfl, rfl, by decide +kernel, rfl, by decide +kernel, by decide +kernel⟩
def spLawMade (C : Addr) : DSp := fun xs Q => ∃ ps ts, xs = [netD ps ts] ∧ MadeOk ps ts ∧ ∀ qs, qs.Perm ps → sortedS qs = true → Q (madeD C qs (sortTi ts))
theorem ok__law_made {f g : Addr} {fd gd : FuncData} {k : Nat} (F : Fun K "_law_made" "_law_made" s__law_made f fd) (M : Mk K C g) (G : FnOk P w K mg base CX0 k g gd ["self", "places", "ties"] (spInit C)) (hm : mg "Net" = some (.ref C)) (hb : Binds K gd ["self", "places", "ties"] [])
    (md : mg "dict" = none) (ml : mg "list" = none) (mt : mg "tuple" = none) : FnOk P w K mg base CX0 (k + 1 + 1) f fd ["net"] (spD (spLawMade C)) := by
  refine fnD_ok F sc__law_made (fun xs Q h => ?_) (fun dc cdv A outer s0 H E hr =>
    (dss_one (ds_ret (de_made M G hr (by rfl) hm hb rfl (room3 hr) (de_callTy cd_tuple (by rfl) mt (by decide +kernel) (da_cons (de_sub (hu_of hr) (de_var 0) de_str) da_nil)) (de_sub (hu_of hr) (de_var 0) de_str) (by rfl) md (by rfl) ml)))) (fun xs Q h => ?_)
  · obtain ⟨ps, ts, rfl, _⟩ := h; rfl
  · obtain ⟨ps, ts, rfl, ok, q⟩ := h
    unfold sRet dMade
    walk_at "dred"
    exact ⟨ps, ts, rfl, rfl, ok, q⟩
end
/-! ### set(t) of a tuple of texts, and sorted of it -/
section
variable {P : Program} {w : World}
def keyE (e : Int × Value) : Str := match e.2 with | .str x _ => x | _ => ⟨#[]⟩
def GoodS (w : World) (e : Int × Value) : Prop := ∃ x tk, e.2 = Value.str x tk ∧ e.1 = hashStr w x
/-- the set of texts at a -/
def SetRS (w : World) (h : Heap) (a : Addr) (S : Str → Bool) (n : Nat) : Prop :=
  ∃ o es ep t, h.get? a = some o ∧ o.ExactSet ∧ o.data = .set es ep t ∧ (∀ e ∈ es.toList, GoodS w e) ∧ (es.toList.map keyE).Nodup ∧ (∀ k, S k = true ↔ k ∈ es.toList.map keyE) ∧
    es.size < scanBound ∧ t.fits es.size = true ∧ es.size = n ∧ L2.Ris t.place.toList ∧ (w.params.followText "set-order" = true ∨ t.led = true)
variable {h h' : Heap} {a : Addr} {S : Str → Bool} {n : Nat}
theorem SetRS.at (R : SetRS w h a S n) (k : ∀ o, h.get? a = some o → h'.get? a = some o) : SetRS w h' a S n := by
  obtain ⟨o, es, ep, t, ho, r⟩ := R
  exact ⟨o, es, ep, t, k o ho, r⟩
theorem goodS_elems {l : List (Int × Value)} (g : ∀ e ∈ l, GoodS w e) : ElemsOf (strKind P w) l := fun e he => by
  obtain ⟨k, tk, h1, h2⟩ := g e he
  exact ⟨⟨k, by rw [h1]; exact strKind_is P w k tk, h2⟩, by rw [h1] <;> rfl⟩
theorem goodS_is {e : Int × Value} (g : GoodS w e) (k : Str) : (strKind P w).is k e.2 = true ↔ keyE e = k := by
  obtain ⟨k0, tk, h1, _⟩ := g
  unfold keyE
  rw [h1]
  constructor
  · intro z
    obtain ⟨t', e2⟩ := Value.isStrOf_shape (x := k) (v := Value.str k0 tk) z
    cases e2
    rfl
  · intro z
    cases z
    exact strKind_is P w k0 tk
theorem goodS_mem {l : List (Int × Value)} (g : ∀ e ∈ l, GoodS w e) (k : Str) : k ∈ l.map keyE ↔ ∃ e ∈ l, (strKind P w).is k e.2 = true := by
  rw [List.mem_map]
  constructor
  · rintro ⟨e, he, q⟩
    exact ⟨e, he, (goodS_is (g e he) k).2 q⟩
  · rintro ⟨e, he, q⟩
    exact ⟨e, he, (goodS_is (g e he) k).1 q⟩
theorem SetRS.congr {S' : Str → Bool} (R : SetRS w h a S n) (e : ∀ k, S' k = S k) : SetRS w h a S' n := by
  have q : S' = S := funext e
  rw [q]; exact R
end
section
variable {P : Program} {w : World} {A : Around} {E : Value → Shared → Prop} {s : Shared} {a : Addr} {S : Str → Bool} {n : Nat}
theorem setRS_add_tail {g : Bool → Sem Unit} (hg : ∀ (b : Bool) (s₁ : Shared) (Q' : Unit → Shared → Prop), Q' () s₁ → wpAny (model P w) A (g b) Q' E s₁)
    {o : Obj} {es : Array (Int × Value)} {ep : Nat} {t : SetTable} (ho : s.heap.get? a = some o) (hex : o.ExactSet) (hd : o.data = .set es ep t)
    {es1 : Array (Int × Value)} {t2 : SetTable} {S' : Str → Bool} (g1 : ∀ e ∈ es1.toList, GoodS w e) (nd1 : (es1.toList.map keyE).Nodup) (m1 : ∀ k, S' k = true ↔ k ∈ es1.toList.map keyE)
    (hb1 : es1.size < scanBound) (hf2 : t2.fits es1.size = true) (hr : L2.Ris t2.place.toList) (hl : w.params.followText "set-order" = true ∨ t2.led = true) {wasDummy : Bool} {R : Option Bool → Shared → Prop}
    (hR : ∀ h', Heap.SameBut a s.heap h' → SetRS w h' a S' es1.size → R (some true) { s with heap := h' }) :
    wpAny (model P w) A (do
        storeSet a es1 t2
        if (!wasDummy && t2.tooFull) = true then do
            g (relayAll t2 es1 (SetTable.grown es1.size)).2.2
            storeSet a (relayAll t2 es1 (SetTable.grown es1.size)).1 (relayAll t2 es1 (SetTable.grown es1.size)).2.1
            pure (some true)
          else pure (some true)) R E s := by
  refine wpAny_bind (wpAny_storeSet_of ho hd ?_ (fits_of_scanBound hb1))
  have ho1 := L2.store_at (es' := es1) (t' := t2) ho hd
  have sb1 := Heap.SameBut.update s.heap a (Obj.putSet es1 t2)
  split
  · have pm := relayAll_perm t2 es1 (SetTable.grown es1.size)
    have hf3 := relayAll_fits t2 es1 (SetTable.grown es1.size)
    have hr3 := L2.relayAll_ris t2 es1 (SetTable.grown es1.size)
    have hl3 := L2.relayAll_led t2 es1 (SetTable.grown es1.size)
    generalize relayAll t2 es1 (SetTable.grown es1.size) = Z at pm hf3 hr3 hl3 ⊢
    obtain ⟨es2, t3, gave⟩ := Z
    dsimp only at pm hf3 hr3 hl3 ⊢
    have hsz : es2.size = es1.size := by rw [← Array.length_toList, pm.length_eq, Array.length_toList]
    have hb2 : es2.size < scanBound := by rw [hsz]; exact hb1
    refine wpAny_bind (hg _ _ _ ?_)
    refine wpAny_bind (wpAny_storeSet_of ho1 rfl ?_ (fits_of_scanBound hb2))
    have ho2 := L2.store_at (es' := es2) (t' := t3) ho1 rfl
    refine wpAny_pure (hR _ (sb1.trans (Heap.SameBut.update _ a _)) ?_)
    exact ⟨_, es2, _, t3, ho2, hex, rfl, fun e he => g1 e (pm.mem_iff.mp he), (pm.map keyE).nodup_iff.mpr nd1, fun k => (m1 k).trans (pm.map keyE).mem_iff.symm, hb2, hf3, hsz, hr3,
      hl.imp id fun z => by rw [hl3]; exact z⟩
  · exact wpAny_pure (hR _ sb1 ⟨_, es1, _, t2, ho1, hex, rfl, g1, nd1, m1, hb1, hf2, rfl, hr, hl⟩)
theorem setRS_add_hashed {k : Str} {tk : Tok} {Q : Bool → Shared → Prop} (R : SetRS w s.heap a S n) (room : n + 1 < scanBound)
    (hQ : ∀ h', Heap.SameBut a s.heap h' → SetRS w h' a (fun j => S j || decide (j = k)) (if S k = true then n else n + 1) → Q (!S k) { s with heap := h' }) :
    wpAny (model P w) A (setAddHashed a (.str k tk) ((strKind P w).hash k)) Q E s := by
  obtain ⟨o, es, ep, t, ho, hex, hd, g, nd, hm, hb, hf, hn, hr, hl⟩ := R
  have hkey : (strKind P w).is k (.str k tk) = true := strKind_is P w k tk
  have hsc : (Value.str k tk).scannable = true := rfl
  have hel : ElemsOf (strKind P w) es.toList := goodS_elems g
  unfold setAddHashed setAddHashedIn
  refine wpAny_holding (wpAny_bind (wpAny_setState_of ho hd hf ?_))
  dsimp only
  rw [byScan_of hsc hb hel]
  simp only [↓reduceIte]
  unfold setAddByScan
  refine wpAny_bind ?_
  refine wpAny_bind (wpAny_rule ?_)
  refine wpAny_bind (wpAny_setScan_of hkey ho hd hf hel ?_)
  cases hfi : List.findIdx? (fun e => (strKind P w).is k e.2) es.toList with
  | some j =>
    dsimp only
    obtain ⟨hj, pj, _⟩ := List.findIdx?_eq_some_iff_getElem.mp hfi
    have hSk : S k = true := (hm k).2 ((goodS_mem (P := P) (w := w) g k).2 ⟨es.toList[j], List.getElem_mem hj, pj⟩)
    refine wpAny_pure (wpAny_pure ?_)
    have q := hQ s.heap (Heap.SameBut.refl a s.heap) ⟨o, es, ep, t, ho, hex, hd, g, nd, fun i => by
      rw [Bool.or_eq_true, decide_eq_true_eq, ← hm i]
      exact ⟨fun z => z.elim id (fun e => e ▸ hSk), .inl⟩, hb, hf, by rw [if_pos hSk]; exact hn, hr, hl⟩
    rw [hSk] at q
    exact q
  | none =>
    dsimp only
    have hnk : k ∉ es.toList.map keyE := fun z => by
      obtain ⟨e, he, q⟩ := (goodS_mem (P := P) (w := w) g k).1 z
      have c := List.findIdx?_eq_none_iff.mp hfi e he
      rw [q] at c
      cases c
    have hSk : S k = false := by
      cases q : S k with
      | false => rfl
      | true => exact absurd ((hm k).1 q) hnk
    have hgw : ∀ (b : Bool) {s₁ : Shared} {Q' : Unit → Shared → Prop}, Q' () s₁ → wpAny (model P w) A (match b with | true => rule "set.scan.the-table-gave-way" | false => pure ()) Q' E s₁ :=
      fun b s₁ Q' q => by cases b <;> first | exact wpAny_pure q | exact wpAny_rule q
    have pm := layNew_perm t es ((strKind P w).hash k) (.str k tk)
    have hf1 := layNew_fits t es ((strKind P w).hash k) (.str k tk)
    have hr1 := L2.layNew_ris t es ((strKind P w).hash k) (.str k tk) hr
    have hl1 := L2.layNew_led t es ((strKind P w).hash k) (.str k tk)
    generalize layNew t es ((strKind P w).hash k) (.str k tk) = Z at pm hf1 hr1 hl1 ⊢
    obtain ⟨es1, t1, wasDummy, gave⟩ := Z
    dsimp only at pm hf1 hr1 hl1 ⊢
    rw [Array.toList_push] at pm
    have pc : es1.toList.Perm (((strKind P w).hash k, Value.str k tk) :: es.toList) := pm.trans (List.perm_append_singleton _ _)
    have pk : (es1.toList.map keyE).Perm (k :: es.toList.map keyE) := pc.map keyE
    have g1 : ∀ e ∈ es1.toList, GoodS w e := fun e he => by
      rcases List.mem_cons.mp (pc.mem_iff.mp he) with z | z
      · rw [z]; exact ⟨k, tk, rfl, rfl⟩
      · exact g e z
    have nd1 : (es1.toList.map keyE).Nodup := pk.nodup_iff.mpr (List.nodup_cons.mpr ⟨hnk, nd⟩)
    have m1 : ∀ i, (S i || decide (i = k)) = true ↔ i ∈ es1.toList.map keyE := fun i => by
      rw [Bool.or_eq_true, decide_eq_true_eq, hm i, pk.mem_iff, List.mem_cons]
      exact Or.comm
    have hsz : es1.size = n + 1 := by rw [← Array.length_toList, pc.length_eq, List.length_cons, Array.length_toList, hn]
    have hb1 : es1.size < scanBound := by rw [hsz]; exact room
    have hled : w.params.followText "set-order" = true ∨ t1.led = true := hl.imp id fun z => by rw [hl1]; exact z
    have fin : ∀ h', Heap.SameBut a s.heap h' → SetRS w h' a (fun j => S j || decide (j = k)) es1.size → Q true { s with heap := h' } := fun h' sb r => by
      have q := hQ h' sb
      rw [hSk] at q
      rw [hsz] at r
      exact q r
    refine wpAny_bind (hgw _ ?_)
    split
    · refine wpAny_bind ?_
      rw [hashByValue_scannable 8 hsc]
      refine wpAny_pure ?_
      refine setRS_add_tail ?_ ho hex hd g1 nd1 m1 hb1 ?_ ?_ ?_ ?_
      · intro b s₁ Q' q; cases b <;> first | exact wpAny_pure q | exact wpAny_rule q
      · first | (split <;> first | exact hf1 | exact SetTable.fits_plain_off hf1) | exact hf1
      · first | (split <;> exact hr1) | exact hr1
      · first | (split <;> exact hled) | exact hled
      · intro h' sb r; dsimp only; exact wpAny_pure (fin h' sb r)
    · refine wpAny_bind (wpAny_pure ?_)
      simp only [↓reduceIte]
      refine setRS_add_tail ?_ ho hex hd g1 nd1 m1 hb1 hf1 hr1 hled ?_
      · intro b s₁ Q' q; cases b <;> first | exact wpAny_pure q | exact wpAny_rule q
      · intro h' sb r; dsimp only; exact wpAny_pure (fin h' sb r)
end
section
variable {P : Program} {w : World} {A : Around} {E : Value → Shared → Prop} {s : Shared}
def hasS (ks : List Str) (j : Str) : Bool := ks.any fun k => decide (k = j)
theorem hasS_iff {ks : List Str} {j : Str} : hasS ks j = true ↔ j ∈ ks := by
  unfold hasS
  rw [List.any_eq_true]
  constructor
  · rintro ⟨k, hk, e⟩
    rw [← of_decide_eq_true e]
    exact hk
  · intro h
    exact ⟨j, h, decide_eq_true rfl⟩
theorem set_loop_strs {I : Addr} {fp wr : List Addr} {G : Array GenState → Array GenState → Prop} {n : Nat} {Pv : Nat → Value → Prop} {St : Nat → Shared → Prop} {R : Result → Shared → Prop}
    (W : WalksS P w A.in1 I fp wr G n Pv St) (S : Addr) (hSf : S ∉ fp) (ks : List Str) (hn : n = ks.length) (hb : ks.length + 1 < scanBound)
    (hval : ∀ i v, Pv i v → ∃ k tk, ks[i]? = some k ∧ v = .str k tk) :
    ∀ (k i : Nat) (s : Shared), n - i = k → i ≤ n → St i s → (∃ c, c ≤ i ∧ SetRS w s.heap S (hasS (ks.take i)) c) →
      (∀ s' c, Moved (S :: wr) G s s' → c ≤ n → SetRS w s'.heap S (hasS ks) c → R (.ok (.ret .none)) s') →
      codeAny (model P w) A (.builtin "set.update.loop" ⟨[.ref S, .ref I], []⟩) R s := by
  have hSw : S ∉ wr := fun h => hSf (W.sub _ h)
  have hsub : ∀ b ∈ wr, b ∈ S :: wr := fun b hb => List.mem_cons_of_mem _ hb
  intro k
  induction k with
  | zero =>
    intro i s hk hi hst ⟨c, hc, hS⟩ hR
    obtain rfl : i = n := by omega
    refine codeAny_builtin PyProof.Rows.F.entry_set_update_loop ?_
    rw [Around.under_plainId PyProof.Rows.F.plain_set_update_loop _]
    show wpAny _ A.in1 (pyNext (.ref I) >>= _) _ _ s
    refine wpAny_bind (W.done s _ _ hst fun s' hm => ?_)
    show wpAny _ A.in1 (ret Value.none) _ _ s'
    have e : ks.take i = ks := List.take_of_length_le (by omega)
    rw [e] at hS
    exact wpAny_pure (hR s' c (hm.mono hsub) hc (hS.at fun o e => hm.heap S o hSw e))
  | succ k ih =>
    intro i s hk hi hst ⟨c, hc, hS⟩ hR
    have hlt : i < n := by omega
    refine codeAny_builtin PyProof.Rows.F.entry_set_update_loop ?_
    rw [Around.under_plainId PyProof.Rows.F.plain_set_update_loop _]
    show wpAny _ A.in1 (pyNext (.ref I) >>= _) _ _ s
    refine wpAny_bind (W.item i s _ _ hlt hst fun v s' hP hst' hm => ?_)
    obtain ⟨z, tk, hz, rfl⟩ := hval i v hP
    have hS' : SetRS w s'.heap S (hasS (ks.take i)) c := hS.at fun o e => hm.heap S o hSw e
    show wpAny _ A.in1 (holding [Value.str z tk] (setAdd S (Value.str z tk)) >>= _) _ _ s'
    refine wpAny_bind (wpAny_holding ?_)
    unfold setAdd
    refine wpAny_holding ?_
    refine wpAny_bind ((strKind P w).pyHash (k := z) (strKind_is P w z tk) ?_)
    refine setRS_add_hashed (P := P) (s := { s' with toks := s'.toks + 1 }) hS' (by omega) fun h' hsb hS2 => ?_
    have et : ks.take (i + 1) = ks.take i ++ [z] := by
      rw [List.take_add_one, hz]
      rfl
    have hS3 : SetRS w h' S (hasS (ks.take (i + 1))) (if hasS (ks.take i) z = true then c else c + 1) := hS2.congr fun j => by
      rw [et]
      unfold hasS
      rw [List.any_append]
      simp [eq_comm]
    have hc3 : (if hasS (ks.take i) z = true then c else c + 1) ≤ i + 1 := by split <;> omega
    refine wpAny_pure ⟨plainId_quiet PyProof.Rows.F.plain_set_update_loop _, ih (i + 1) _ (by omega) hlt (W.frame _ s' _ _ hst' (Nat.le_succ _) fun b hb o e => ?_) ⟨_, hc3, hS3⟩ fun s'' c2 hm'' hc'' hS'' => ?_⟩
    · rw [hsb.2 b (fun h : b = S => hSf (by rw [← h]; exact hb))]
      exact e
    · refine hR s'' c2 (Moved.trans W.gtrans ((hm.mono hsub).then_heap (Nat.le_succ _) fun b o hb e => ?_) hm'') hc'' hS''
      rw [hsb.2 b (fun h : b = S => hb (by rw [h]; exact List.mem_cons_self))]
      exact e
theorem call_set_tupS {l : Addr} {items : Array Value} (ks : List Str) {Q : Value → Shared → Prop} (hh : A.handled = none) (hl : s.heap.IsTuple l items) (hit : Vals (ks.map V.str) items.toList) (hb : ks.length + 1 < scanBound)
    (h : ∀ (h' : Heap) (tk c : Nat), SetRS w h' s.heap.objs.size (hasS ks) c → c ≤ ks.length → (∀ b o, s.heap.get? b = some o → h'.get? b = some o) → Q (.ref s.heap.objs.size) { s with heap := h', toks := tk }) :
    wpAny (model P w) A (call (.type "set") [.ref l]) Q E s := by
  have hisz : items.size = ks.length := by
    have q := hit.length
    rw [List.length_map, Array.length_toList] at q
    exact q.symm
  refine call_set_by ?_
  have hS : (s.heap.push (set0 w)).get? s.heap.objs.size = some (set0 w) := Heap.get?_push_size _ rfl
  obtain ⟨ol, hol, hcl, nl, hdl⟩ := hl
  obtain ⟨ocls, odict, odata, oslots⟩ := ol
  simp only at hcl hdl
  subst hcl; subst hdl
  have hol' : (s.heap.push (set0 w)).get? l = some { cls := .type "tuple", dict := odict, data := .seq items nl, slots := oslots } := Heap.get?_push_of_some _ hol
  have hsls := F.sub_tuple_set
  have hslf := F.sub_tuple_frozenset
  have hne : (Value.type "tuple" == Value.type "dict") = false := by decide
  have hl1 : (s.heap.push (set0 w)).IsTuple l items := ⟨_, hol', rfl, nl, rfl⟩
  have hlS : l < s.heap.objs.size := Heap.lt_size hol
  have hval : ∀ (i : Nat) (v : Value), items[i]? = some v → ∃ k tk, ks[i]? = some k ∧ v = .str k tk := fun i v hv => by
    have hi : i < ks.length := by
      rw [← hisz]
      exact (Array.getElem?_eq_some_iff.mp hv).1
    obtain ⟨u, hu, r⟩ := hit.get (i := i) (x := V.str ks[i]) (by rw [List.getElem?_map, List.getElem?_eq_getElem hi]; rfl)
    rw [Array.getElem?_toList, hv] at hu
    cases hu
    obtain ⟨tk, rfl⟩ := r
    exact ⟨ks[i], tk, List.getElem?_eq_getElem hi, rfl⟩
  unfold Builtin.«set.__init__» noKeywords Builtin.Frozenset.updateFrom
  generalize hPI : pyIter = PI
  wp_walk
  subst hPI
  refine wpAny_pyIter_tuple hl1 ?_
  refine wpAny_bind (wpAny_runValue ?_)
  have hh3 : A.in1.in1.in1.handled = none := by simp [hh]
  have hz : (s.heap.push (set0 w)).objs.size = s.heap.objs.size + 1 := Heap.size_push ..
  have hneI : l ≠ (s.heap.push (set0 w)).objs.size := by
    rw [hz]
    exact Nat.ne_of_lt (Nat.lt_succ_of_lt hlS)
  have hSf : s.heap.objs.size ∉ [(s.heap.push (set0 w)).objs.size, l] := by
    rw [hz]
    simp only [List.mem_cons, List.mem_singleton, List.not_mem_nil, or_false, not_or]
    exact ⟨Nat.ne_of_lt (Nat.lt_succ_self _), Nat.ne_of_gt hlS⟩
  refine set_loop_strs ((Walks.tuple hh3 _ l hneI items).toS) s.heap.objs.size hSf ks hisz hb hval (items.size - 0) 0 _ (by omega) (Nat.zero_le _)
    ⟨⟨_, Heap.get?_push_size _ rfl, rfl, rfl⟩, (hl1.push _)⟩ ⟨0, Nat.le_refl 0, _, #[], 0, _, Heap.get?_push_of_some _ hS, ⟨rfl, rfl, rfl⟩, rfl, (fun e he => by simp at he), (by simp), (fun k => by simp [hasS]), (by decide), (by rfl), rfl, List.Pairwise.nil, by
      show _ ∨ (!w.params.followText "set-order") = true
      cases w.params.followText "set-order"
      · exact .inr rfl
      · exact .inl rfl⟩ ?_
  intro s' c' hm hc' hS'
  obtain ⟨h', g2, d', tk', os'⟩ := s'
  obtain rfl : g2 = s.gens := hm.gens
  obtain rfl : d' = s.drawn := hm.drawn
  obtain rfl : os' = s.os := hm.os
  refine wpAny_pure ?_
  show wpAny _ _ (ret Value.none) _ _ _
  rw [hisz] at hc'
  refine wpAny_pure ⟨rfl, h h' tk' c' hS' hc' fun b o e => ?_⟩
  have hb0 : b < s.heap.objs.size := Heap.lt_size e
  refine hm.heap b o ?_ (Heap.get?_push_of_some _ (Heap.get?_push_of_some _ e))
  rw [hz]
  simp only [List.mem_cons, List.mem_singleton, List.not_mem_nil, or_false, not_or]
  exact ⟨Nat.ne_of_lt hb0, Nat.ne_of_lt (Nat.lt_succ_of_lt hb0)⟩
theorem strs_of : ∀ (l : List Value), (∀ v ∈ l, ∃ k tk, v = Value.str k tk) → StrsAre l (l.map fun v => match v with | .str x _ => x | _ => ⟨#[]⟩)
  | [], _ => .nil
  | v :: l, h => by
    obtain ⟨k, tk, rfl⟩ := h v List.mem_cons_self
    exact .cons k tk (strs_of l fun u hu => h u (List.mem_cons_of_mem _ hu))
theorem sorted_setS {a : Addr} {S : Str → Bool} {n : Nat} {Q : Value → Shared → Prop} (R : SetRS w s.heap a S n) (hh : A.handled = none) (h64 : n < 64)
    (hQ : ∀ s' p (out : Array Value) (c : Nat) (ys : List Str), (∀ b o, s.heap.get? b = some o → s'.heap.get? b = some o) → s'.gens = s.gens → s'.os = s.os → s.heap.objs.size ≤ p →
      s'.heap.get? p = some (seqObj "list" out c) → StrsAre out.toList ys → sortedS ys = true → ys.Nodup → (∀ k, k ∈ ys ↔ S k = true) → ys.length = n → Q (.ref p) s') :
    wpAny (model P w) A (call (.builtin "sorted") [.ref a]) Q E s := by
  obtain ⟨o, es, ep, t, ho, hex, hd, g, nd, hm, hb, hf, hn, hr, hl⟩ := R
  refine Calls.call_function_entry kind_sorted plain_sorted entry_sorted (args_sorted1 _) ?_
  unfold Builtin.«sorted»
  refine wpAny_bind (m := checkCount "sorted" 1 1 _) (wpAny_pure ?_)
  refine wpAny_bind (L2.collect_set (A := A.in1) hh ⟨o, ho, hex.1, hd⟩ hf hb hr hl fun s1 vs k1 hz g1 o1 pm => ?_)
  have hvl : vs.length = n := by rw [pm.length_eq, List.length_map, Array.length_toList]; exact hn
  have hI := strs_of vs fun v hv => by
    obtain ⟨e, he, q⟩ := List.mem_map.mp (pm.mem_iff.mp hv)
    obtain ⟨k, tk, h1, _⟩ := g e he
    exact ⟨k, tk, by rw [← q]; exact h1⟩
  have pk : (vs.map fun v => match v with | .str x _ => x | _ => (⟨#[]⟩ : Str)).Perm (es.toList.map keyE) := by
    have q := pm.map (fun v => match v with | .str x _ => x | _ => (⟨#[]⟩ : Str))
    rw [List.map_map] at q
    exact q
  refine wpAny_bind (wpAny_newList ?_ (by rw [hvl, sizeLine_eq]; omega))
  have hoL : (s1.heap.push (seqObj "list" vs.toArray 0)).get? s1.heap.objs.size = some (seqObj "list" vs.toArray 0) := Heap.get?_push_size _ rfl
  refine wpAny_bind (wpAny_holding (wpAny_call_entry PyProof.Rows.slot_list_sort ⟨_, hoL, rfl⟩ PyProof.Rows.entry_list_sort
    (list_sort_treeK strKind_oneLt hoL hI.keysOf (fun v₁ v₂ rest e => keyKind_strs (by rw [← e]; exact hI)) (by rw [hvl]; exact h64) fun st' hp hso => ⟨_, rfl, ?_⟩) (PyProof.Rows.args_list_sort _)))
  obtain ⟨ys, h1, h2, h3⟩ := sorted_out_str hI hp hso
  obtain ⟨c, hc⟩ := PyProof.Rows.sortedHeap_at (vs := vs) (out := (arrOf st').map (·.2)) hoL
  have pn : ys.Perm (es.toList.map keyE) := h2.trans pk
  refine wpAny_pure ⟨_, rfl, hQ _ s1.heap.objs.size _ c ys (fun b u e => ?_) g1 o1 hz hc h1 h3 (pn.nodup_iff.mpr nd) (fun k => by rw [pn.mem_iff, ← hm k]) ?_⟩
  · have q := k1 b u e
    have hlt := Heap.lt_size q
    show (PyProof.Rows.sortedHeap (s1.heap.push (seqObj "list" vs.toArray 0)) s1.heap.objs.size vs _).get? b = some u
    rw [PyProof.Rows.sortedHeap_old (Nat.ne_of_lt hlt) (by rw [size_push']; exact Nat.lt_succ_of_lt hlt)]
    exact Heap.get?_push_of_some _ q
  · rw [pn.length_eq, List.length_map, Array.length_toList]; exact hn
end
/-- the set of texts, as an object of the heap -/
def SetSO (w : World) (a : Addr) (S : Str → Bool) (n : Nat) : HO := .ext fun h => SetRS w h a S n
section
variable {X : Cx}
theorem call_setTupS (hc : X.calm = true) : CallR X (.type "set") (fun xs H Q => ∃ (t : Addr) (ks : List Str), xs = [.ref t] ∧ SqT X.K H t (ks.map V.str) ∧ ks.length < 1000 ∧
    ∀ (p : Addr) (c : Nat), H p = none → c ≤ ks.length → Q (.ref p) (upd H p (SetSO X.w p (hasS ks) c))) := by
  intro pins s σ H xs us Q I r h
  obtain ⟨t, ks, rfl, ht, hl, q⟩ := h
  obtain ⟨u, rfl, rx⟩ := vals1 r
  cases (show u = Value.ref t from rx)
  obtain ⟨its, rv, ⟨o, e, hcl, n, hd⟩, hz⟩ := I.tuple ht
  have hf : H s.heap.objs.size = none := I.hok.fresh (Nat.le_refl _)
  have hsb : scanBound = 4096 := rfl
  refine call_set_tupS ks (I.ok.hd hc) ⟨o, e, hcl, n, hd⟩ rv (by omega) fun h' tk c hS hcl hk => ?_
  have new : ObjOk X.prog X.w (upd H s.heap.objs.size (SetSO X.w s.heap.objs.size (hasS ks) c)) h' s.heap.objs.size (SetSO X.w s.heap.objs.size (hasS ks) c) := by
    have ⟨o, _, _, _, ho, _⟩ := hS
    exact ⟨hS, ⟨o, ho⟩, fun h1 h2 p k => SetRS.at p k⟩
  exact ⟨.ref s.heap.objs.size, upd H s.heap.objs.size (SetSO X.w s.heap.objs.size (hasS ks) c), I.laid (t' := tk) hk (Nat.le_refl _) new, rfl, q _ c hf hcl⟩
theorem call_sortedSetS (hc : X.calm = true) : CallR X (.builtin "sorted") (fun vs H Q => ∃ (a : Addr) (S : Str → Bool) (n : Nat), vs = [V.ref a] ∧ H a = some (SetSO X.w a S n) ∧ n < 64 ∧
    ∀ (ys : List Str) (p : Addr), sortedS ys = true → ys.Nodup → (∀ k, k ∈ ys ↔ S k = true) → ys.length = n → H p = none → Q (.ref p) (upd H p (.lst (ys.map V.str)))) := by
  intro pins s σ H vs us Q I r h
  obtain ⟨a, S, n, rfl, ha, h64, q⟩ := h
  have R : SetRS X.w s.heap a S n := (I.hok a _ ha).1
  rw [Vals.ref1 r]
  refine sorted_setS R (I.ok.hd hc) h64 fun s' p out c ys k g o hp hg hi hs nd hm hl => ?_
  have hlen : (ys.map V.str).length ≤ sizeLine := by rw [List.length_map, hl, sizeLine_eq]; omega
  have hn : H p = none := I.hok.fresh hp
  have J : Inv X pins σ (upd H p (.lst (ys.map V.str))) { s with heap := s'.heap, gens := s'.gens, drawn := s'.drawn, toks := s'.toks } :=
    I.call (ch := []) (Un.laid k hp hn) (I.hok.laid k hp ⟨hlen, out.toList, c, vals_of_strs hi, hg⟩) (by rw [g]; exact I.bare) (fun _ z => nomatch z)
  have e : s' = { s with heap := s'.heap, gens := s'.gens, drawn := s'.drawn, toks := s'.toks } := by
    cases s'
    cases s
    cases o
    rfl
  rw [e]
  exact ⟨.ref p, _, J, rfl, q ys p hs nd hm hl hn⟩
end
section
variable {X : Cx} {dc : Option Addr} {e : Expr} {d : DT}
/-- sorted(set(t)), t a tuple of texts -/
theorem de_sortedSet {p0 p1 p2 p3 : Pos} (hc : X.calm = true) (he : DE X dc e d) (gs : Gl X "sorted") (ms : X.mg "sorted" = none) (gt : Gl X "set") (mt : X.mg "set" = none)
    (hs : starEach [e] X.env = (false, eval e X.env) :: starEach [] X.env := by rfl) :
    DE X dc (.Call (.Name "sorted" p1) [.Call (.Name "set" p2) [e] [] p3] [] p0) (fun ρ Q => d ρ fun x => ∃ l : List Str, x = lotD l ∧ l.length < 64 ∧ ∀ ys : List Str, sortedS ys = true → ys.Nodup → (∀ k, k ∈ ys ↔ k ∈ l) → Q (.lst (ys.map D.str))) := by
  have m := he.mono
  obtain ⟨t, p, r⟩ := he.get
  refine ⟨fun ρ P P' hP h => m _ _ _ (fun x ⟨l, a, b, c⟩ => ⟨l, a, b, fun ys h1 h2 h3 => hP _ (c ys h1 h2 h3)⟩) h, _, pe_callB (call_sortedSetS hc) gs ms (by decide +kernel) (pa_cons (pe_callTy (call_setTupS hc) gt mt (by decide +kernel) (pa_cons p pa_nil hs) (by decide) (by decide) hs) pa_nil), fun ρ σ F H Q pr s h => ?_⟩
  refine r pr s h fun x v F1 H1 h e1 r1 => ?_
  obtain ⟨l, rfl, h64, q⟩ := h
  obtain ⟨t', rfl, eft⟩ := tup_strs r1
  have ht : H1 t' = some (.tup (l.map V.str)) := e1.pre.sub _ _ eft
  refine ⟨t', l, rfl, .of ht, by omega, fun p1 c np hcl => ?_⟩
  refine ⟨p1, _, c, rfl, upd_same, by omega, fun ys p2 hs nd hm hl np2 => ?_⟩
  have g1 := same_upd (H := H1) (o := SetSO X.w p1 (hasS l) c) np
  have e2 := Ext.grow e1.pre g1
  obtain ⟨e3, r3⟩ := Ext.lst e2.pre np2 (Reps.strs (dc := dc) (F := F1) ys)
  exact q ys hs nd (fun k => (hm k).trans hasS_iff) _ _ _ ((e1.trans pr e2).trans pr e3) r3
end
section
variable {S : Type} [DecidableEq S]
abbrev Tz (S : Type) := List ((S × S) × Int)
def getTz (ts : Tz S) (k : S × S) : Int := ((ts.find? fun e => decide (e.1 = k)).map (·.2)).getD 0
theorem getTz_cons {e : (S × S) × Int} {r : Tz S} {k : S × S} (h : e.1 ∉ r.map (·.1)) : getTz (e :: r) k = (if e.1 = k then e.2 else 0) + getTz r k := by
  unfold getTz
  rw [List.find?_cons]
  by_cases c : e.1 = k
  · subst c
    have : (r.find? fun f => decide (f.1 = e.1)) = none := by
      rw [List.find?_eq_none]
      intro f hf z
      exact h (List.mem_map.mpr ⟨f, hf, of_decide_eq_true z⟩)
    rw [this]
    simp
  · simp [c]
theorem sum_flat_add {α β : Type} (A : List α) (B : List β) (f g : α → β → Int) : (A.flatMap fun x => B.map fun y => f x y + g x y).sum = (A.flatMap fun x => B.map (f x)).sum + (A.flatMap fun x => B.map (g x)).sum := by
  have one : ∀ (x : α) (B : List β), (B.map fun y => f x y + g x y).sum = (B.map (f x)).sum + (B.map (g x)).sum := by
    intro x B
    induction B with
    | nil => rfl
    | cons y r ih => simp only [List.map_cons, List.sum_cons, ih]; omega
  induction A with
  | nil => rfl
  | cons x r ih => simp only [List.flatMap_cons, List.sum_append, one, ih]; omega
theorem sum_flat_zero {α β : Type} (A : List α) (B : List β) : (A.flatMap fun _ => B.map fun _ => (0 : Int)).sum = 0 := by
  have one : ∀ (B : List β), (B.map fun _ => (0 : Int)).sum = 0 := by
    intro B
    induction B with
    | nil => rfl
    | cons y r ih => simp only [List.map_cons, List.sum_cons, ih]; omega
  induction A with
  | nil => rfl
  | cons x r ih => simp only [List.flatMap_cons, List.sum_append, one, ih]; omega
/-- one pair among the pairs -/
theorem sum_one {α : Type} [DecidableEq α] {β : Type} [DecidableEq β] (u : α) (v : β) (w : Int) : ∀ (A : List α) (B : List β), A.Nodup → B.Nodup → (A.flatMap fun x => B.map fun y => if x = u ∧ y = v then w else 0).sum = if u ∈ A ∧ v ∈ B then w else 0 := by
  intro A B na nb
  have z : ∀ (B : List β), (B.map fun _ => (0 : Int)).sum = 0 := by
    intro B
    induction B with
    | nil => rfl
    | cons y r ih => simp only [List.map_cons, List.sum_cons, ih]; omega
  have one : ∀ (B : List β), B.Nodup → (B.map fun y => if y = v then w else 0).sum = if v ∈ B then w else 0 := by
    intro B nb
    induction B with
    | nil => simp
    | cons y r ih =>
      rw [List.nodup_cons] at nb
      simp only [List.map_cons, List.sum_cons, ih nb.2, List.mem_cons]
      by_cases c : y = v
      · subst c
        simp [nb.1]
      · have c' : ¬ v = y := fun h => c h.symm
        simp [c, c']
  induction A with
  | nil => simp
  | cons x r ih =>
    rw [List.nodup_cons] at na
    simp only [List.flatMap_cons, List.sum_append, ih na.2, List.mem_cons]
    by_cases c : x = u
    · subst c
      have : (B.map fun y => if x = x ∧ y = v then w else 0) = B.map fun y => if y = v then w else 0 := by simp
      rw [this, one B nb]
      by_cases d : v ∈ B <;> simp [d, na.1]
    · have : (B.map fun y => if x = u ∧ y = v then w else 0) = B.map fun _ => (0 : Int) := by simp [c]
      have c' : ¬ u = x := fun h => c h.symm
      rw [this, z]
      simp [c']
variable (lt : S → S → Bool)
def ordz (x y : S) : S × S := if lt x y = true then (x, y) else (y, x)
def tbz (ts : Tz S) (a b : List S) : Int := (a.flatMap fun x => b.map fun y => getTz ts (ordz lt x y)).sum
def joins (a b : List S) (k : S × S) : Bool := (decide (k.1 ∈ a) && decide (k.2 ∈ b)) || (decide (k.2 ∈ a) && decide (k.1 ∈ b))
theorem tbz_sum (hlt : ∀ x y, lt x y = true → lt y x = false) : ∀ (ts : Tz S) (a b : List S), (ts.map (·.1)).Nodup → (∀ e ∈ ts, lt e.1.1 e.1.2 = true) → (htot : ∀ x y, x ≠ y → lt x y = false → lt y x = true) → a.Nodup → b.Nodup → (∀ x ∈ a, x ∉ b) → tbz lt ts a b = (ts.map fun e => if joins a b e.1 = true then e.2 else 0).sum
  | [], a, b, _, _, _, _, _, _ => by
    have : tbz lt ([] : Tz S) a b = (a.flatMap fun _ => b.map fun _ => (0 : Int)).sum := rfl
    rw [this, sum_flat_zero]
    rfl
  | e :: r, a, b, nd, ho, htot, na, nb, hd => by
    rw [List.map_cons, List.nodup_cons] at nd
    have ih := tbz_sum hlt r a b nd.2 (fun f hf => ho f (List.mem_cons_of_mem _ hf)) htot na nb hd
    have h1 : tbz lt (e :: r) a b = (a.flatMap fun x => b.map fun y => if e.1 = ordz lt x y then e.2 else 0).sum + tbz lt r a b := by
      unfold tbz
      rw [← sum_flat_add]
      congr 1
      congr 1
      funext x
      congr 1
      funext y
      exact getTz_cons nd.1
    rw [h1, ih, List.map_cons, List.sum_cons]
    congr 1
    have ho' := ho e List.mem_cons_self
    obtain ⟨⟨u, v⟩, w⟩ := e
    simp only at ho' ⊢
    have hne : u ≠ v := fun z => by subst z; have := hlt _ _ ho'; rw [ho'] at this; cases this
    have h2 : (a.flatMap fun x => b.map fun y => if (u, v) = ordz lt x y then w else 0).sum = (a.flatMap fun x => b.map fun y => (if x = u ∧ y = v then w else 0) + (if x = v ∧ y = u then w else 0)).sum := by
      congr 1
      rw [List.flatMap_def, List.flatMap_def]
      congr 1
      refine List.map_congr_left fun x hx => List.map_congr_left fun y hy => ?_
      have hxy : x ≠ y := fun z => hd x hx (by rw [z]; exact hy)
      unfold ordz
      by_cases c : lt x y = true
      · rw [if_pos c]
        have n : ¬ (x = v ∧ y = u) := fun ⟨h1, h2⟩ => by subst h1 h2; rw [hlt _ _ ho'] at c; cases c
        rw [if_neg n]
        by_cases d : x = u ∧ y = v
        · obtain ⟨rfl, rfl⟩ := d; simp
        · rw [if_neg d, if_neg (fun z => d (by injection z with z1 z2; exact ⟨z1.symm, z2.symm⟩))]
          rfl
      · rw [if_neg c]
        have c' : lt y x = true := htot x y hxy (by simpa using c)
        have n : ¬ (x = u ∧ y = v) := fun ⟨h1, h2⟩ => by subst h1 h2; exact c ho'
        rw [if_neg n]
        by_cases d : x = v ∧ y = u
        · obtain ⟨rfl, rfl⟩ := d; simp
        · rw [if_neg d, if_neg (fun z => d (by injection z with z1 z2; exact ⟨z2.symm, z1.symm⟩))]
          rfl
    rw [h2, sum_flat_add, sum_one u v w a b na nb, sum_one v u w a b na nb]
    unfold joins
    by_cases p1 : u ∈ a
    · have p1' := hd u p1
      by_cases p2 : v ∈ a
      · have p2' := hd v p2
        simp [p1, p2, p1', p2']
      · by_cases p3 : v ∈ b <;> simp [p1, p2, p1', p3]
    · by_cases p2 : v ∈ a
      · have p2' := hd v p2
        by_cases p3 : u ∈ b <;> simp [p1, p2, p2', p3]
      · simp [p1, p2]
end
/-! ### reckoning with ties -/
def sumT (f : (Str × Str) × Int → Int) (ts : Ties) : Int := (ts.map f).sum
theorem sumT_congr {f g : (Str × Str) × Int → Int} {ts : Ties} (h : ∀ e ∈ ts, f e = g e) : sumT f ts = sumT g ts := by
  unfold sumT
  rw [List.map_congr_left h]
theorem sumT_add {f g : (Str × Str) × Int → Int} : ∀ {ts : Ties}, sumT (fun e => f e + g e) ts = sumT f ts + sumT g ts
  | [] => rfl
  | e :: r => by
    have := sumT_add (f := f) (g := g) (ts := r)
    unfold sumT at this ⊢
    simp only [List.map_cons, List.sum_cons, this]
    omega
theorem sumT_sub {f g : (Str × Str) × Int → Int} : ∀ {ts : Ties}, sumT (fun e => f e - g e) ts = sumT f ts - sumT g ts
  | [] => rfl
  | e :: r => by
    have := sumT_sub (f := f) (g := g) (ts := r)
    unfold sumT at this ⊢
    simp only [List.map_cons, List.sum_cons, this]
    omega
theorem sumT_two {f : (Str × Str) × Int → Int} : ∀ {ts : Ties}, sumT (fun e => 2 * f e) ts = 2 * sumT f ts
  | [] => rfl
  | e :: r => by
    have := sumT_two (f := f) (ts := r)
    unfold sumT at this ⊢
    simp only [List.map_cons, List.sum_cons, this]
    omega
theorem sumT_nn {f : (Str × Str) × Int → Int} : ∀ {ts : Ties}, (∀ e ∈ ts, 0 ≤ f e) → 0 ≤ sumT f ts
  | [], _ => Int.le_refl 0
  | e :: r, h => by
    have := sumT_nn (f := f) (ts := r) fun e he => h e (List.mem_cons_of_mem _ he)
    have h1 := h e List.mem_cons_self
    unfold sumT at this ⊢
    simp only [List.map_cons, List.sum_cons]
    omega
theorem sumT_perm {f : (Str × Str) × Int → Int} {ts us : Ties} (h : ts.Perm us) : sumT f ts = sumT f us := by
  unfold sumT
  induction h with
  | nil => rfl
  | cons x _ ih => simp only [List.map_cons, List.sum_cons, ih]
  | swap x y l => simp only [List.map_cons, List.sum_cons]; omega
  | trans _ _ h1 h2 => exact h1.trans h2
def cutI (l : List Str) (e : (Str × Str) × Int) : Int := if parts l e.1 = true then e.2 else 0
def joinI (a b : List Str) (e : (Str × Str) × Int) : Int := if joins a b e.1 = true then e.2 else 0
theorem cutT_sum (l : List Str) : ∀ ts : Ties, cutT ts l = sumT (cutI l) ts
  | [] => rfl
  | e :: r => by
    have := cutT_sum l r
    unfold cutT sumT at this ⊢
    rw [List.filter_cons, List.map_cons, List.sum_cons, ← this]
    unfold cutI
    by_cases c : parts l e.1 = true
    · rw [if_pos c, if_pos c]; rfl
    · rw [if_neg c, if_neg c]; omega
/-- ties of a made net -/
structure MG (ps : List Str) (ts : Ties) : Prop where
  asc : ps.Pairwise fun a b => ltS a b = true
  keys : ∀ e ∈ ts, e.1.1 ∈ ps ∧ e.1.2 ∈ ps ∧ ltS e.1.1 e.1.2 = true
  nodup : (ts.map (·.1)).Nodup
  pos : ∀ e ∈ ts, 1 ≤ e.2
theorem tbS_sum {ps : List Str} {ts : Ties} (g : MG ps ts) {a b : List Str} (na : a.Nodup) (nb : b.Nodup) (hd : ∀ x ∈ a, x ∉ b) : tbS ts a b = sumT (joinI a b) ts :=
  tbz_sum ltS (fun x y h => ltS_asymm h) ts a b g.nodup (fun e he => (g.keys e he).2.2) (fun x y hne h => by
    rcases ltS_tri hne with z | z
    · rw [h] at z; cases z
    · exact z) na nb hd
theorem mem_inS {p l : List Str} {x : Str} : x ∈ inS p l ↔ x ∈ p ∧ x ∈ l := by unfold inS; rw [List.mem_filter, decide_eq_true_eq]
theorem mem_outS {p l : List Str} {x : Str} : x ∈ outS p l ↔ x ∈ p ∧ x ∉ l := by unfold outS; rw [List.mem_filter]; simp
section
variable {ps a b j : List Str} {e : (Str × Str) × Int}
theorem pw_one (hj : ∀ x, x ∈ j ↔ x ∈ a ∨ x ∈ b) : 2 * joinI (outS a b) (outS b a) e = cutI a e + cutI b e - cutI (inS a b) e - cutI j e := by
  unfold joinI cutI joins parts
  simp only [mem_inS, mem_outS, hj]
  by_cases h1 : e.1.1 ∈ a <;> by_cases h2 : e.1.2 ∈ a <;> by_cases h3 : e.1.1 ∈ b <;> by_cases h4 : e.1.2 ∈ b <;> simp [h1, h2, h3, h4] <;> omega
theorem pw_two (hp : e.1.1 ∈ ps ∧ e.1.2 ∈ ps) : 2 * joinI (inS a b) (outS (outS ps a) b) e = cutI a e + cutI b e - cutI (outS a b) e - cutI (outS b a) e := by
  unfold joinI cutI joins parts
  simp only [mem_inS, mem_outS]
  by_cases h1 : e.1.1 ∈ a <;> by_cases h2 : e.1.2 ∈ a <;> by_cases h3 : e.1.1 ∈ b <;> by_cases h4 : e.1.2 ∈ b <;> simp [h1, h2, h3, h4, hp] <;> omega
theorem pw_opp (hp : e.1.1 ∈ ps ∧ e.1.2 ∈ ps) : cutI (outS ps a) e = cutI a e := by
  unfold cutI parts
  simp only [mem_outS]
  by_cases h1 : e.1.1 ∈ a <;> by_cases h2 : e.1.2 ∈ a <;> simp [h1, h2, hp]
theorem pw_sum (hd : ∀ x ∈ a, x ∉ b) (hj : ∀ x, x ∈ j ↔ x ∈ a ∨ x ∈ b) : cutI a e + cutI b e - 2 * joinI a b e = cutI j e := by
  unfold joinI cutI joins parts
  simp only [hj]
  have d1 := hd e.1.1
  have d2 := hd e.1.2
  by_cases h1 : e.1.1 ∈ a <;> by_cases h2 : e.1.2 ∈ a <;> by_cases h3 : e.1.1 ∈ b <;> by_cases h4 : e.1.2 ∈ b <;> simp [h1, h2, h3, h4] at d1 d2 ⊢ <;> omega
theorem pw_swap1 : joinI (outS b a) (outS a b) e = joinI (outS a b) (outS b a) e := by
  unfold joinI joins
  rw [Bool.or_comm, Bool.and_comm (decide (e.1.2 ∈ outS b a)), Bool.and_comm (decide (e.1.1 ∈ outS b a))]
theorem pw_swap2 : joinI (inS b a) (outS (outS ps b) a) e = joinI (inS a b) (outS (outS ps a) b) e := by
  unfold joinI joins
  simp only [mem_inS, mem_outS]
  by_cases h1 : e.1.1 ∈ a <;> by_cases h2 : e.1.2 ∈ a <;> by_cases h3 : e.1.1 ∈ b <;> by_cases h4 : e.1.2 ∈ b <;> simp [h1, h2, h3, h4]
end
section
variable {ps : List Str} {ts : Ties} {a b j : List Str}
theorem asc_nodup {l : List Str} (h : l.Pairwise fun a b => ltS a b = true) : l.Nodup := h.imp fun {x y} hx z => by
  subst z
  have := ltS_asymm hx
  rw [hx] at this
  cases this
theorem ascS_iff : ∀ {l : List Str}, ascS l = true ↔ l.Pairwise fun a b => ltS a b = true
  | [] => ⟨fun _ => .nil, fun _ => rfl⟩
  | [x] => ⟨fun _ => List.pairwise_singleton _ _, fun _ => rfl⟩
  | x :: y :: r => by
    have ih := ascS_iff (l := y :: r)
    have e : ascS (x :: y :: r) = (ltS x y && ascS (y :: r)) := rfl
    rw [e, Bool.and_eq_true, ih]
    constructor
    · rintro ⟨h1, h2⟩
      refine .cons (fun z hz => ?_) h2
      rcases List.mem_cons.mp hz with rfl | hz
      · exact h1
      · exact ltS_trans h1 (List.rel_of_pairwise_cons h2 hz)
    · intro h
      exact ⟨List.rel_of_pairwise_cons h List.mem_cons_self, (List.pairwise_cons.mp h).2⟩
structure LotOk (ps l : List Str) : Prop where
  mem : ∀ x ∈ l, x ∈ ps
  asc : l.Pairwise fun a b => ltS a b = true
theorem LotOk.is {ps l : List Str} (h : LotOk ps l) : isLot ps l = true := by
  unfold isLot
  rw [Bool.and_eq_true, List.all_eq_true]
  exact ⟨fun x hx => decide_eq_true (h.mem x hx), ascS_iff.mpr h.asc⟩
theorem LotOk.nd {ps l : List Str} (h : LotOk ps l) : l.Nodup := asc_nodup h.asc
theorem LotOk.ins {ps a : List Str} (h : LotOk ps a) (b : List Str) : LotOk ps (inS a b) := ⟨fun x hx => h.mem x (mem_inS.mp hx).1, h.asc.filter _⟩
theorem LotOk.out {ps a : List Str} (h : LotOk ps a) (b : List Str) : LotOk ps (outS a b) := ⟨fun x hx => h.mem x (mem_outS.mp hx).1, h.asc.filter _⟩
theorem LotOk.all {ps : List Str} (h : ps.Pairwise fun a b => ltS a b = true) : LotOk ps ps := ⟨fun _ h => h, h⟩
theorem len_sub : ∀ {l ps : List Str}, l.Nodup → (∀ x ∈ l, x ∈ ps) → l.length ≤ ps.length
  | [], _, _, _ => Nat.zero_le _
  | x :: r, ps, nd, h => by
    rw [List.nodup_cons] at nd
    have hx := h x List.mem_cons_self
    have ih := len_sub (l := r) (ps := ps.erase x) nd.2 fun y hy => (List.mem_erase_of_ne (fun z => nd.1 (by rw [← z]; exact hy))).mpr (h y (List.mem_cons_of_mem _ hy))
    rw [List.length_erase_of_mem hx] at ih
    have : 0 < ps.length := List.length_pos_of_mem hx
    rw [List.length_cons]
    omega
theorem LotOk.len {ps l : List Str} (h : LotOk ps l) : l.length ≤ ps.length := len_sub h.nd h.mem
variable (g : MG ps ts) (ha : LotOk ps a) (hb : LotOk ps b)
include g ha hb
theorem ex_one (hj : ∀ x, x ∈ j ↔ x ∈ a ∨ x ∈ b) : 2 * tbS ts (outS a b) (outS b a) = cutT ts a + cutT ts b - cutT ts (inS a b) - cutT ts j := by
  rw [tbS_sum g (ha.out b).nd (hb.out a).nd (fun x hx z => (mem_outS.mp hx).2 (mem_outS.mp z).1), cutT_sum, cutT_sum, cutT_sum, cutT_sum, ← sumT_two, ← sumT_add, ← sumT_sub, ← sumT_sub]
  exact sumT_congr fun e _ => pw_one hj
theorem ex_two : 2 * tbS ts (inS a b) (outS (outS ps a) b) = cutT ts a + cutT ts b - cutT ts (outS a b) - cutT ts (outS b a) := by
  have r := ((LotOk.all g.asc).out a).out b
  rw [tbS_sum g (ha.ins b).nd r.nd (fun x hx z => (mem_outS.mp z).2 (mem_inS.mp hx).2), cutT_sum, cutT_sum, cutT_sum, cutT_sum, ← sumT_two, ← sumT_add, ← sumT_sub, ← sumT_sub]
  exact sumT_congr fun e he => pw_two ⟨(g.keys e he).1, (g.keys e he).2.1⟩
omit hb in
theorem ex_opp : cutT ts (outS ps a) = cutT ts a := by
  rw [cutT_sum, cutT_sum]
  exact sumT_congr fun e he => pw_opp ⟨(g.keys e he).1, (g.keys e he).2.1⟩
theorem ex_sum (hd : ∀ x ∈ a, x ∉ b) (hj : ∀ x, x ∈ j ↔ x ∈ a ∨ x ∈ b) : cutT ts a + cutT ts b - 2 * tbS ts a b = cutT ts j := by
  rw [tbS_sum g ha.nd hb.nd hd, cutT_sum, cutT_sum, cutT_sum, ← sumT_two, ← sumT_add, ← sumT_sub]
  exact sumT_congr fun e he => pw_sum hd hj
theorem ex_sw1 : tbS ts (outS b a) (outS a b) = tbS ts (outS a b) (outS b a) := by
  rw [tbS_sum g (ha.out b).nd (hb.out a).nd (fun x hx z => (mem_outS.mp hx).2 (mem_outS.mp z).1), tbS_sum g (hb.out a).nd (ha.out b).nd (fun x hx z => (mem_outS.mp hx).2 (mem_outS.mp z).1)]
  exact sumT_congr fun e _ => pw_swap1
theorem ex_sw2 : tbS ts (inS b a) (outS (outS ps b) a) = tbS ts (inS a b) (outS (outS ps a) b) := by
  have r := ((LotOk.all g.asc).out a).out b
  have r' := ((LotOk.all g.asc).out b).out a
  rw [tbS_sum g (ha.ins b).nd r.nd (fun x hx z => (mem_outS.mp z).2 (mem_inS.mp hx).2), tbS_sum g (hb.ins a).nd r'.nd (fun x hx z => (mem_outS.mp z).2 (mem_inS.mp hx).2)]
  exact sumT_congr fun e _ => pw_swap2
omit ha hb in
theorem tbS_nn (na : a.Nodup) (nb : b.Nodup) (hd : ∀ x ∈ a, x ∉ b) : 0 ≤ tbS ts a b := by
  rw [tbS_sum g na nb hd]
  refine sumT_nn fun e he => ?_
  have := g.pos e he
  unfold joinI
  split <;> omega
end
/-! ### enumerate(t, start=k), t a tuple -/
def IteT (K : PySem.W.Frag) (a : Addr) (k : Int) : It :=
  ⟨fun i H => ∃ (xs : List V) (x : V), SqT K H a xs ∧ xs[i]? = some x, fun i H v H' => ∃ T x, v = .ref T ∧ H T = none ∧ H' = upd H T (.tup [.int (k + (i : Int)), x]) ∧ ∀ xs, SqT K H a xs → xs[i]? = some x, fun i H => ∃ xs : List V, SqT K H a xs ∧ xs.length ≤ i⟩
theorem turn_enumT {P : Program} {w : World} {K : PySem.W.Frag} {elts : List Expr} {kk : Nat} {tpos : Pos} (a e it : Addr) (k : Int) :
    Turn P w K (.Tuple elts kk tpos) (IteT K a k) [e, it] e (fun i h => (∃ old, IsEnum h e it (k + ((i : Nat) : Int)) old) ∧ h.IsTupleIter it a i ∧ e ≠ it) where
  mem := by simp
  obj := fun i h st b hb => by
    obtain ⟨⟨old, he⟩, ⟨o, ho, hc, hd⟩, _⟩ := st
    have e' : b = e ∨ b = it := by simpa using hb
    rcases e' with z | z
    · rw [z]; exact ⟨_, he, fun v q => nomatch q⟩
    · rw [z]; exact ⟨o, ho, fun v q => by rw [hd] at q; cases q⟩
  keep := fun i h h' st k => let ⟨⟨old, he⟩, hi, hne⟩ := st; ⟨⟨old, k e (by simp) _ he⟩, hi.at fun o q => k it (by simp) o q, hne⟩
  item := by
    intro X hP hw hK hc i pins s σ H E I hf st hg
    subst hP hw hK
    obtain ⟨⟨old, he⟩, hit, hne⟩ := st
    obtain ⟨xs, x, hq, hx⟩ := hg
    obtain ⟨its, rv, p, hz⟩ := I.tuple hq
    obtain ⟨u, hu, ru⟩ := rv.get hx
    have hel : e < s.heap.objs.size := Heap.lt_size he
    have hil : it < s.heap.objs.size := by obtain ⟨_, q, _⟩ := hit; exact Heap.lt_size q
    have hea : e ≠ a := fun z => by
      obtain ⟨o, ho, hc', _⟩ := p
      rw [← z] at ho
      have he' : s.heap.get? e = some _ := he
      rw [he'] at ho
      cases ho
      exact absurd (Value.type.inj hc') (by decide)
    have hia : a ≠ it := fun z => by
      obtain ⟨o, ho, hc', _⟩ := p
      obtain ⟨o2, ho2, hc2, _⟩ := hit
      rw [z, ho2] at ho
      cases ho
      rw [hc2] at hc'
      exact absurd (Value.type.inj hc') (by decide)
    have hl : its.toArray.size = its.length := by simp
    have hi : i < its.toArray.size := by
      have := (List.getElem?_eq_some_iff.mp hu).1
      omega
    have D := Draws.tuple (prog := X.prog) (w := X.w) (A := X.A.in1) (by simpa using I.ok.hd hc) it a hia its.toArray
    refine wpAny_pyNext_enum_itemC D he ⟨hit, p⟩ hi hne (by simp only [List.mem_cons, List.mem_singleton, List.not_mem_nil, or_false, not_or]; exact ⟨hne, hea⟩) fun u' h' tk hP ho hit' hT hsz hk => ?_
    have eu : u' = u := by
      have hP' : its.toArray[i]? = some u' := hP
      rw [show its.toArray[i]? = its[i]? by simp, hu] at hP'
      exact (Option.some.inj hP').symm
    subst eu
    refine ⟨_, rfl, wpAny_letOwnedTupleGo_enum (s := { s with heap := h', toks := tk + 1 }) ho fun h'' he' sb => ?_⟩
    have hT2 : h''.get? s.heap.objs.size = some { cls := .type "tuple", data := .seq #[.int (k + (i : Int)) tk, u'] } := (sb.2 _ (Nat.ne_of_gt hel)).trans hT
    have new : ObjOk X.prog X.w (upd H s.heap.objs.size (.tup [.int (k + (i : Int)), x])) h'' s.heap.objs.size (.tup [.int (k + (i : Int)), x]) :=
      ⟨by show 2 ≤ sizeLine; decide, [.int (k + (i : Int)) tk, u'], .cons ⟨_, rfl⟩ (.cons ru .nil), ⟨_, hT2, rfl, _, rfl⟩⟩
    have I1 : Inv X pins σ (upd H s.heap.objs.size (.tup [.int (k + (i : Int)), x])) { s with heap := h'', toks := tk + 1 } :=
      I.turnedNew (ch := [e, it]) (fun b ob hb q => (sb.2 b (fun z => hb (by simp [z]))).trans (hk b ob (fun z => hb (by simp [z])) (fun z => hb (by simp [z])) q)) hf (Nat.le_refl _) new
    refine ⟨.ref s.heap.objs.size, _, I1, rfl, ⟨_, x, rfl, I.hok.fresh (Nat.le_refl _), rfl, fun ys hy => by rw [I.tuple_inj hy hq]; exact hx⟩, ⟨⟨u', ?_⟩, hit'.1.at fun o q => (sb.2 it (Ne.symm hne)).trans q, hne⟩, fun b hb => ?_⟩
    · have e1 : k + ((i + 1 : Nat) : Int) = k + (i : Int) + 1 := by omega
      rw [e1]; exact he'
    · have hb' : b < s.heap.objs.size := by
        have e' : b = e ∨ b = it := by simpa using hb
        rcases e' with z | z
        · rw [z]; exact hel
        · rw [z]; exact hil
      rw [upd_ne (Nat.ne_of_lt hb')]
      exact (hf b hb).1
  done := by
    intro X hP hw hK hc i pins s σ H E I hf st hg
    subst hP hw hK
    obtain ⟨⟨old, he⟩, hit, hne⟩ := st
    obtain ⟨xs, hq, hx⟩ := hg
    obtain ⟨its, rv, p, hz⟩ := I.tuple hq
    obtain ⟨f0, f1, f2, f3, f4, f5⟩ := hf it (by simp)
    have hl := rv.length
    have hia : a ≠ it := fun z => by
      obtain ⟨o, ho, hc', _⟩ := p
      obtain ⟨o2, ho2, hc2, _⟩ := hit
      rw [z, ho2] at ho
      cases ho
      rw [hc2] at hc'
      exact absurd (Value.type.inj hc') (by decide)
    have en : its.toArray.size ≤ i := by simp; omega
    have hT : s.TypeIs (.ref e) "enumerate" := ⟨_, he, rfl⟩
    unfold pyNext
    refine wpAny_bind (wpAny_attempt (wpAny_callSpecial?_slot (name := Str.ofString "__next__") hT PySem.F.slot_enumerate_next
      (wpAny_call_entry PySem.F.slot_enumerate_next hT PySem.F.entry_enumerate_next ?_ (PySem.F.args_enumerate_next_1 _))))
    show wpAny _ _ (field (.ref e) 2 >>= _) _ _ _
    refine wpAny_bind (wpAny_field he rfl (x := .ref it) rfl ?_)
    refine wpAny_bind (wpAny_nextOf_tuple_end (by simpa using I.ok.hd hc) hit p (by simp; omega) fun h' x eb hx' => ?_)
    obtain ⟨o, ho, hc'⟩ := hx'
    refine wpAny_bind (wpAny_isInstance (T := "StopIteration") (b := true) ⟨o, ho, hc'⟩ isSubtype_stop ?_)
    exact wpAny_pure ⟨rfl, I.turned (t' := s.toks) (fun b o hb q => eb b o hb q) f0 f1 f3 f4 f5⟩
  self := fun A i s Q E st h => let ⟨⟨_, he⟩, _⟩ := st; wpAny_pyIter_enum he h
section
variable {M : Model} {A : Around} {E : Value → Shared → Prop} {s : Shared} {env : Env}
theorem callWith_typeKw {pos : Pos} {T : String} {e : Expr} {rest : List Expr} {kws : List Keyword} {Q : Value → Shared → Prop}
    (h : wpAny M A (spliced (backTo pos (starEach (e :: rest) env))) (fun vs s₁ => wpAny M A (evalAll ((backToKw pos (keywordEach kws env)).map (·.2)))
      (fun kvs s₂ => wpAny M A (call (.type T) vs (((backToKw pos (keywordEach kws env)).filterMap (·.1)).zip kvs)) Q E s₂) E s₁) E s)
    (he : backTo pos (starEach (e :: rest) env) = (false, eval e env) :: backTo pos (starEach rest env) := by rfl)
    (hplain : (backTo pos (starEach (e :: rest) env)).any (·.1) = false := by rfl)
    (hall : (backToKw pos (keywordEach kws env)).all (·.1.isSome) = true := by rfl)
    (hkw : (backToKw pos (keywordEach kws env)).any (·.1.isNone) = false := by rfl) :
    wpAny M A (callWith pos (.type T) [] (backTo pos (starEach (e :: rest) env)) (backToKw pos (keywordEach kws env))) Q E s := by
  have h2 : wpAny M A (evalArgs (.type T) true (backTo pos (starEach (e :: rest) env)) (backToKw pos (keywordEach kws env))) (fun a s₁ => wpAny M A (call (.type T) ([] ++ a.pos) a.kw) Q E s₁) E s := by
    rw [he] at h ⊢
    exact evalArgs_kwB hall h
  unfold callWith
  refine wpAny_bind (wpAny_holding (wpAny_mono h2 (fun a s₁ h₁ => wpAny_bind (wpAny_standAt ?_)) fun _ _ x => x))
  simp only [hplain, hkw, Bool.or_false]
  refine wpAny_bind (wpAny_pure ?_)
  exact wpAny_bind (wpAny_mono h₁ (fun r s₂ hr => wpAny_bind (wpAny_holding (wpAny_point (wpAny_pure hr)))) fun _ _ x => x)
end
def iEnumT (K : PySem.W.Frag) (ta tk : TA) : TI := fun σ H R => ta σ H fun vs H1 => tk σ H1 fun zs H2 => ∃ a xs k, vs = [.ref a] ∧ zs = [.int k] ∧ -(2 ^ 63) ≤ k ∧ k < 2 ^ 63 ∧ SqT K H2 a xs ∧ R (IteT K a k) H2
theorem pi_enumT {X : Cx} {e e2 : Expr} {ta tk : TA} {p pos tpos kp : Pos} {elts : List Expr} {kk : Nat} (hg : Gl X "enumerate") (hm : X.mg "enumerate" = none) (ha : PA X [e] ta) (hk : PK X [⟨some "start", e2, kp⟩] tk)
    (he : backTo pos (starEach [e] X.env) = (false, eval e X.env) :: backTo pos (starEach [] X.env) := by rfl) (hpl : (backTo pos (starEach [e] X.env)).any (·.1) = false := by rfl)
    (hks : (backToKw pos (keywordEach [⟨some "start", e2, kp⟩] X.env)).filterMap (·.1) = [Str.ofString "start"] := by rfl) :
    PI X (.Tuple elts kk tpos) (.Call (.Name "enumerate" p) [e] [⟨some "start", e2, kp⟩] pos) (iEnumT X.K ta tk) := by
  refine ⟨fun pins s σ H R I h => ?_⟩
  refine wpAny_Call_Name_kw (ld_blt I hg hm boot_enumerate ?_ (by decide) (by decide))
  refine callWith_typeKw (thn (ha.run pos pins s σ H _ I h) fun us s1 ⟨vs, H1, I1, r1, q1⟩ => thn (hk.run pos pins s1 σ H1 _ I1 q1) fun ws s2 ⟨zs, H2, I2, r2, q2⟩ => ?_) he hpl
  rw [hks]
  obtain ⟨a, xs, k, ex, ez, k0, k1, hq, q⟩ := q2
  subst ex ez
  cases r1 with
  | cons r rr =>
  cases rr
  cases r
  cases r2 with
  | cons r rr =>
  cases rr
  obtain ⟨t, rfl⟩ := r
  obtain ⟨its, rv, p', hz⟩ := I2.tuple hq
  refine enum_begins_start (begins_tuple a its.toArray) p' k0 k1 fun h' he hit hsz hkk => wpAny_pyIter_enum he ?_
  have I3 : Inv X pins σ H2 { s2 with heap := h' } := I2.kept (t' := s2.toks) hkk
  refine ⟨s2.heap.objs.size + 1, [s2.heap.objs.size + 1, s2.heap.objs.size], _, _, H2, rfl, I3, turn_enumT a (s2.heap.objs.size + 1) s2.heap.objs.size k, ⟨⟨.none, ?_⟩, ⟨_, hit, rfl, rfl⟩, Nat.succ_ne_self _⟩, fun b hb => ?_, q⟩
  · rw [show k + ((0 : Nat) : Int) = k by omega]
    exact he
  have e' : b = s2.heap.objs.size + 1 ∨ b = s2.heap.objs.size := by simpa using hb
  have hle : s2.heap.objs.size ≤ b := by
    rcases e' with z | z
    · rw [z]; exact Nat.le_add_right _ _
    · rw [z]; exact Nat.le_refl _
  exact I2.fpOk hle (I2.hok.fresh hle)
/-! ### own dicts: made, filled, handed on -/
section
variable {dc : Option Addr} {F0 H0 F H : Hp} {ρ : SEnv} {σ : L2.St}
theorem Ext.past {p : Addr} {o : HO} (e : Ext dc F0 H0 F H) (n0 : H0 p = none) (nF : F p = none) (nd : dc ≠ some p) : Ext dc F0 H0 F (upd H p o) := by
  refine ⟨⟨fun b u q => ?_, fun d z => ?_⟩, fun b u hb q => ?_, e.fsub, e.fnew⟩
  · have hb : b ≠ p := fun z => by rw [z, nF] at q; cases q
    exact (e.pre.sub b u q).keep fun u' h => by rw [upd_ne hb]; exact h
  · obtain ⟨⟨x, y, w, h⟩, n⟩ := e.pre.dice d z
    have hb : d ≠ p := fun q => nd (by rw [z, q])
    exact ⟨⟨x, y, w, by rw [upd_ne hb]; exact h⟩, n⟩
  · have hb' : b ≠ p := fun z => by rw [z, n0] at q; cases q
    rw [upd_ne hb']
    exact e.keep b u hb q
theorem set_own {i j : Nat} {s : Sl} {y : Sl} (h : (ρ.set i s)[j]? = some y) : (i = j ∧ y = s ∧ i < ρ.length) ∨ (i ≠ j ∧ ρ[j]? = some y) := by
  by_cases hj : i = j
  · subst hj
    have hl : i < ρ.length := by
      have := (List.getElem?_eq_some_iff.mp h).1
      rwa [List.length_set] at this
    rw [List.getElem?_set_self hl] at h
    exact .inl ⟨rfl, (Option.some.inj h).symm, hl⟩
  · rw [List.getElem?_set_ne hj] at h
    exact .inr ⟨hj, h⟩
theorem SInv.newOwn {p : Addr} {o : HO} {x : D} {i : Nat} (I : SInv dc F0 H0 ρ σ F H) (np : H p = none) (ho : OwnO dc F o x) : SInv dc F0 H0 (ρ.set i (.own x)) (σ.set i (some (.ref p))) F (upd H p o) := by
  have nF : F p = none := I.ext.pre.nf np
  have n0 : H0 p = none := I.ext.free I.pre0 np
  have nd : dc ≠ some p := I.ext.pre.nd np
  refine ⟨I.pre0, I.ext.past n0 nF nd, by rw [List.length_set, List.length_set]; exact I.len, fun j y h => ?_, fun j y h => ?_, fun j k y z a h1 h2 h3 h4 => ?_⟩
  · rcases set_own h with ⟨_, z, _⟩ | ⟨hj, h⟩
    · cases z
    · rw [List.getElem?_set_ne hj]
      exact I.vals j y h
  · rcases set_own h with ⟨hj, z, hl⟩ | ⟨hj, h⟩
    · subst hj
      cases z
      exact ⟨p, o, List.getElem?_set_self (by rw [← I.len]; exact hl), upd_same, ho, nF, n0, nd⟩
    · obtain ⟨a, u, h1, h2, h3, h4, h5, h6⟩ := I.owns j y h
      exact ⟨a, u, by rw [List.getElem?_set_ne hj]; exact h1, by rw [upd_ne (ne_of_none h2 np)]; exact h2, h3, h4, h5, h6⟩
  · have key : ∀ {j : Nat} {y : D}, (ρ.set i (.own x))[j]? = some (.own y) → (σ.set i (some (.ref p)))[j]? = some (some (.ref a)) → (i = j ∧ a = p) ∨ (i ≠ j ∧ ρ[j]? = some (.own y) ∧ σ[j]? = some (some (.ref a)) ∧ a ≠ p) := fun {j y} h g => by
      rcases set_own h with ⟨hj, z, hl⟩ | ⟨hj, h⟩
      · subst hj
        rw [List.getElem?_set_self (by rw [← I.len]; exact hl)] at g
        cases g
        exact .inl ⟨rfl, rfl⟩
      · rw [List.getElem?_set_ne hj] at g
        obtain ⟨a', u, h1, h2, _⟩ := I.owns j y h
        rw [g] at h1
        cases h1
        exact .inr ⟨hj, h, g, ne_of_none h2 np⟩
    rcases key h1 h3 with ⟨e1, e2⟩ | ⟨e1, e2, e3, e4⟩ <;> rcases key h2 h4 with ⟨g1, g2⟩ | ⟨g1, g2, g3, g4⟩
    · rw [← e1, g1]
    · exact absurd e2 g4
    · exact absurd g2 e4
    · exact I.apart j k y z a e2 g2 e3 g3
theorem SInv.put {a : Addr} {o : HO} {x x' : D} {i : Nat} (I : SInv dc F0 H0 ρ σ F H) (hi : ρ[i]? = some (.own x)) (hs : σ[i]? = some (some (.ref a))) (nF : F a = none) (n0 : H0 a = none) (nd : dc ≠ some a) (ho : OwnO dc F o x') : SInv dc F0 H0 (ρ.set i (.own x')) σ F (upd H a o) := by
  refine ⟨I.pre0, I.ext.past n0 nF nd, by rw [List.length_set]; exact I.len, fun j y h => ?_, fun j y h => ?_, fun j k y z b h1 h2 h3 h4 => ?_⟩
  · rcases set_own h with ⟨_, z, _⟩ | ⟨hj, h⟩
    · cases z
    · exact I.vals j y h
  · rcases set_own h with ⟨hj, z, hl⟩ | ⟨hj, h⟩
    · subst hj
      cases z
      exact ⟨a, o, hs, upd_same, ho, nF, n0, nd⟩
    · obtain ⟨b, u, h1, h2, h3, h4, h5, h6⟩ := I.owns j y h
      have hb : b ≠ a := fun z => hj (I.apart i j x y a hi h hs (by rw [← z]; exact h1))
      exact ⟨b, u, h1, by rw [upd_ne hb]; exact h2, h3, h4, h5, h6⟩
  · have key : ∀ {j : Nat} {y : D}, (ρ.set i (.own x'))[j]? = some (.own y) → ∃ w, ρ[j]? = some (.own w) := fun {j y} h => by
      rcases set_own h with ⟨hj, _, _⟩ | ⟨_, h⟩
      · exact ⟨x, by rw [← hj]; exact hi⟩
      · exact ⟨y, h⟩
    obtain ⟨w1, g1⟩ := key h1
    obtain ⟨w2, g2⟩ := key h2
    exact I.apart j k w1 w2 b g1 g2 h3 h4
theorem SInv.freeze {x : D} {i : Nat} (I : SInv dc F0 H0 ρ σ F H) (hi : ρ[i]? = some (.own x)) : ∃ F', SInv dc F0 H0 (ρ.set i (.val x)) σ F' H := by
  obtain ⟨a, o, h1, h2, h3, h4, h5, h6⟩ := I.owns i x hi
  have fs : ∀ b u, F b = some u → (upd F a o) b = some u := fun b u h => by
    rw [upd_ne (fun z => by rw [z, h4] at h; cases h)]
    exact h
  refine ⟨upd F a o, I.pre0, I.ext.close h5 h2 (h3.sub h2) h6 h4, by rw [List.length_set]; exact I.len, fun j y h => ?_, fun j y h => ?_, fun j k y z b g1 g2 g3 g4 => ?_⟩
  · rcases set_own h with ⟨hj, z, hl⟩ | ⟨hj, h⟩
    · subst hj
      cases z
      exact ⟨_, h1, (h3.mono fs).rep upd_same⟩
    · obtain ⟨v, q1, q2⟩ := I.vals j y h
      exact ⟨v, q1, q2.mono fs⟩
  · rcases set_own h with ⟨_, z, _⟩ | ⟨hj, h⟩
    · cases z
    · obtain ⟨b, u, q1, q2, q3, q4, q5, q6⟩ := I.owns j y h
      have hb : b ≠ a := fun z => hj (I.apart i j x y a hi h h1 (by rw [← z]; exact q1))
      exact ⟨b, u, q1, q2, q3.mono fs, by rw [upd_ne hb]; exact q4, q5, q6⟩
  · rcases set_own g1 with ⟨_, z, _⟩ | ⟨_, g1⟩
    · cases z
    · rcases set_own g2 with ⟨_, z, _⟩ | ⟨_, g2⟩
      · cases z
      · exact I.apart j k y z b g1 g2 g3 g4
end
section
variable {X : Cx} {dc : Option Addr} {rest : List Stmt} {s : DTS} {pos pos' pn dpos : Pos}
/-- x = {} -/
theorem ds_newT {i : Nat} {x : Str} (hN : X.N.Nodup) (hi : X.N[i]? = some x) (hx : Loc X.env.scope x) (hs : swapsWith (.Dict [] [] dpos) (some (.Name x pos')) pos.line X.env = pure false := by rfl)
    (hf : X.fn x = true ∨ X.env.scope.names.lookup x = some .local := by first | exact .inl rfl | exact .inr rfl | assumption) : DS X dc (.Assign [.Name x pos'] (.Dict [] [] dpos) pos) (fun E ρ => E.nx (ρ.set i (.own (.dT [] [])))) := by
  refine ⟨fun E E' ρ l h => l.nx _ h, _, ps_set hN hi hx pe_dnewT hs hf, fun F0 H0 ρ σ F H E D' I L h p np => ?_⟩
  exact L.nx _ _ _ _ (I.newOwn np (.dT (ks := []) (vs := []) rfl .nil)) h
/-- what is the def's own is handed on -/
theorem dss_freeze (i : Nat) (h : DSs X dc rest s) : DSs X dc rest (fun E ρ => ∃ x, ρ[i]? = some (.own x) ∧ s E (ρ.set i (.val x))) := by
  obtain ⟨m, t, p, r⟩ := h
  refine ⟨fun E E' ρ l ⟨x, h1, h2⟩ => ⟨x, h1, m _ _ _ l h2⟩, t, p, fun F0 H0 ρ σ F H E D' I L ⟨x, h1, h2⟩ => ?_⟩
  obtain ⟨F', J⟩ := I.freeze h1
  exact r _ _ _ _ _ _ _ _ J L h2
def sPutT (i : Nat) (dk dv : DT) : DTS := fun E ρ => ∃ ks vs, ρ[i]? = some (.own (.dT ks vs)) ∧ dv (visD ρ) fun y => dk (visD ρ) fun k => ∃ kk, keyT k = some kk ∧ kk ∉ ks ∧ ks.length < sizeLine ∧ E.nx (ρ.set i (.own (.dT (ks ++ [kk]) (vs ++ [y]))))
/-- x[k] = v, x the def's own dict under tuples, the key new -/
theorem ds_putT {i : Nat} {x : Str} {ek ev : Expr} {dk dv : DT} (hu : X.A.units + 1 < cLine) (hN : X.N[i]? = some x) (hv : Vis X.env.scope x) (hk : DE X dc ek dk) (he : DE X dc ev dv) (hdb : (x == ("__debug__" : Str)) = false := by decide) (hcd : (x == ("__classdict__" : Str)) = false := by decide)
    (hs : swapsWith ev (some (.Subscript (.Name x pn) ek pos')) pos.line X.env = pure false := by rfl) : DS X dc (.Assign [.Subscript (.Name x pn) ek pos'] ev pos) (sPutT i dk dv) := by
  have mk := hk.mono
  have mv := he.mono
  obtain ⟨t1, p1, r1⟩ := hk.get
  obtain ⟨t2, p2, r2⟩ := he.get
  refine ⟨fun E E' ρ l ⟨ks, vs, a, h⟩ => ⟨ks, vs, a, mv _ _ _ (fun y h => mk _ _ _ (fun k ⟨kk, b, c, d, e⟩ => ⟨kk, b, c, d, l.nx _ e⟩) h) h⟩, _, ps_dput hu (pe_var (pos := pn) hN hv hdb hcd) p1 p2 hs, fun F0 H0 ρ σ F H E D' I L ⟨ks, vs, hi, h⟩ => ?_⟩
  refine r2 I.ext.pre I.slots h fun y v F1 H1 h e1 q1 => ?_
  have I1 := I.step e1
  obtain ⟨a, o, hs, ha, ho, _, _, nd⟩ := I1.owns i _ hi
  refine ⟨.ref a, hs, ?_⟩
  refine r1 I1.ext.pre I1.slots h fun k u F2 H2 h e2 q2 => ?_
  have I2 := I1.step e2
  obtain ⟨kk, hk, hn, hz, h⟩ := h
  obtain ⟨a', o', hs', ha', ho', nF, n0, nd'⟩ := I2.owns i _ hi
  rw [hs] at hs'
  cases hs'
  generalize hx : D.dT ks vs = xx at ho'
  cases ho' with
  | lst _ => cases hx
  | dK _ _ => cases hx
  | @dT ks' ws vs' l rr =>
  cases hx
  cases q2 with
  | @tup b xs us eb rb =>
    have hu' := Reps.keysOf rb hk
    subst hu'
    refine ⟨a, _, rfl, .t ha' (I2.ext.pre.sub _ _ eb) ?_, L.nx _ _ _ _ (I2.put hi hs nF n0 nd' ?_) h⟩
    · rw [List.length_zip, ← l, Nat.min_self]
      exact hz
    · rw [putK_new (by rw [zip_keys _ _ l]; exact hn)]
      have e3 : ks.zip ws ++ [(kk, v)] = (ks ++ [kk]).zip (ws ++ [v]) := by rw [List.zip_append l]; rfl
      rw [e3]
      exact .dT (by rw [List.length_append, List.length_append, l]; rfl) (rr.app (.cons (e2.rep q1) .nil))
  | _ => cases hk
end
/-! ### texts: split, str(i), int(t); <= of tuples of texts; enumerate; a list unpacked -/
section
variable {X : Cx} {dc : Option Addr} {e e2 : Expr} {d d2' : DT} {pos : Pos}
def gLstD (n : Nat) (g : List D → (List D → Prop) → Prop) : DTG := fun x Q => asLst x fun xs => xs.length = n ∧ g xs Q
theorem dg_lst {es : List Expr} {k : Nat} {pos : Pos} {is : List Nat} {g : List D → (List D → Prop) → Prop} {n : Nat} (hc : X.calm = true) (h : DGs X dc es is g) (hn : (assignEach es X.env).length = n := by rfl) (hst : (assignEach es X.env).findIdx? (·.1) = none := by rfl) :
    DG X dc (.Tuple es k pos) is (gLstD n g) := by
  refine ⟨fun x P P' hP p => asLst.mono (fun xs q => ⟨q.1, h.mono _ _ _ hP q.2⟩) p, ⟨fun pins s σ H v u Q I r hq => ?_⟩⟩
  obtain ⟨F, x, p, rx, hq⟩ := hq
  obtain ⟨xs, rfl, hl, hg⟩ := hq.inv
  obtain ⟨a, vs, rfl, ha, rv⟩ := rx.seqL (K := X.K) p
  exact (pg_lst hc h.run hn hst).run pins s σ H _ u Q I r ⟨a, vs, rfl, .of ha, by rw [← rv.length]; exact hl, F, xs, p, rv, hg⟩
theorem gLstD_lst {n : Nat} {g : List D → (List D → Prop) → Prop} {xs : List D} {Q : List D → Prop} : gLstD n g (.lst xs) Q = (xs.length = n ∧ g xs Q) := rfl
/-- x.split(sep) -/
def dSplit (da db : DT) : DT := fun ρ Q => da ρ fun x => asStr x fun a => db ρ fun y => asStr y fun b => (b.length == 0) = false ∧ a.length + 2 ≤ sizeLine ∧ Q (.lst ((Txt.split a b).map D.str))
theorem de_split {apos : Pos} (ha : DE X dc e d) (hb : DE X dc e2 d2') (hs : starEach [e2] X.env = [(false, eval e2 X.env)] := by rfl) (hbase : attributeBase e "split" X.env (eval e X.env) = eval e X.env := by rfl) (hline : (apos.endLine == pos.line) = true := by rfl) :
    DE X dc (.Call (.Attribute e "split" apos) [e2] [] pos) (dSplit d d2') := by
  have ma := ha.mono
  have mb := hb.mono
  obtain ⟨t1, p1, r1⟩ := ha.get
  obtain ⟨t2, p2, r2⟩ := hb.get
  refine ⟨fun ρ P P' hP h => ma _ _ _ (fun x h => asStr.mono (fun a h => mb _ _ _ (fun y h => asStr.mono (fun b h => ⟨h.1, h.2.1, hP _ h.2.2⟩) h) h) h) h, _, pe_split p1 p2 hs hbase hline, fun ρ σ F H Q p s h => ?_⟩
  refine r1 p s h fun x v F1 H1 h e1 q1 => ?_
  obtain ⟨a, rfl, h1⟩ := h.inv
  cases q1
  refine ⟨⟨a, rfl⟩, r2 e1.pre (s.mono e1.fsub) h1 fun y u F2 H2 h e2 q2 => ?_⟩
  obtain ⟨b, rfl, h2, h3, h4⟩ := h.inv
  cases q2
  refine ⟨a, b, rfl, rfl, h2, h3, fun p' np => ?_⟩
  obtain ⟨e3, r3⟩ := Ext.lst e2.pre np (Reps.strs (dc := dc) (F := F2) (Txt.split a b))
  exact h4 _ _ _ ((e1.trans p e2).trans p e3) r3
theorem cd_strI : CallD X dc (.type "str") (arg1 fun x Q => asInt x fun i => i.natAbs.log2 < 1920 ∧ Q (.str (toString i))) :=
  .one (fun x P P' hP h => asInt.mono (fun i h => ⟨h.1, hP _ h.2⟩) h) call_str_int fun F H x v Q p rx h => by
    obtain ⟨i, rfl, h1, h2⟩ := h.inv
    cases rx
    exact ⟨i, rfl, h1, h2.now p (.str _)⟩
theorem cd_intS : CallD X dc (.type "int") (arg1 fun x Q => asStr x fun a => ∃ n, PySem.intText? a = some n ∧ a.length ≤ 640 ∧ Q (.int n)) :=
  .one (fun x P P' hP h => asStr.mono (fun i ⟨n, h1, h2, h3⟩ => ⟨n, h1, h2, hP _ h3⟩) h) call_int_str fun F H x v Q p rx h => by
    obtain ⟨a, rfl, n, h1, h2, h3⟩ := h.inv
    cases rx
    exact ⟨a, n, rfl, h1, h2, h3.now p (.int _)⟩
/-- t <= u, tuples of texts -/
def leTS (ks ms : List Str) : Bool := Ob.lexAt (fun j => decide (ks.getD j ⟨#[]⟩ = ms.getD j ⟨#[]⟩)) (fun j => !decide ((ms.getD j ⟨#[]⟩).cps.toList < (ks.getD j ⟨#[]⟩).cps.toList)) (decide (ks.length ≤ ms.length)) 0 (min ks.length ms.length)
theorem str_at : ∀ {its : List Value} {ks : List Str}, StrsAre its ks → ∀ (j : Nat) (v : Value), its[j]? = some v → ∃ t, v = .str (ks.getD j ⟨#[]⟩) t
  | _, _, .nil, j, v, h => by simp at h
  | _, _, .cons k t r, 0, v, h => by simp at h; subst h; exact ⟨t, rfl⟩
  | _, _, .cons k t r, j + 1, v, h => by
    obtain ⟨t', e⟩ := str_at r j v (by simpa using h)
    exact ⟨t', by rw [e]; rfl⟩
theorem op_leTS (hu : X.A.units < cLine) : OpR X (compareOp .LtE) (fun x y H Q => ∃ (a b : Addr) (ks ms : List Str), x = .ref a ∧ y = .ref b ∧ SqT X.K H a (ks.map V.str) ∧ SqT X.K H b (ms.map V.str) ∧ Q (.bl (leTS ks ms)) H) := by
  intro pins s σ H x y v u Q I rx ry h
  obtain ⟨a, b, ks, ms, rfl, rfl, ha, hb, q⟩ := h
  cases rx
  cases ry
  obtain ⟨its, r1, p1, _⟩ := I.tuple ha
  obtain ⟨its2, r2, p2, _⟩ := I.tuple hb
  have i1 : StrsAre its ks := r1.strs
  have i2 : StrsAre its2 ms := r2.strs
  have e1 : its.toArray.size = ks.length := by rw [List.size_toArray]; exact i1.length
  have e2 : its2.toArray.size = ms.length := by rw [List.size_toArray]; exact i2.length
  have at1 : ∀ j (h1 : j < its.toArray.size), ∃ t, its.toArray[j] = .str (ks.getD j ⟨#[]⟩) t := fun j h1 => str_at i1 j _ (by simp at h1; simp [h1])
  have at2 : ∀ j (h1 : j < its2.toArray.size), ∃ t, its2.toArray[j] = .str (ms.getD j ⟨#[]⟩) t := fun j h1 => str_at i2 j _ (by simp at h1; simp [h1])
  have R := Ob.RcOp.tuples_le (A := X.A) (s := s) (e := fun j => decide (ks.getD j ⟨#[]⟩ = ms.getD j ⟨#[]⟩)) (r := fun j => !decide ((ms.getD j ⟨#[]⟩).cps.toList < (ks.getD j ⟨#[]⟩).cps.toList)) p1 p2 hu (fun j h1 h2 => by
    obtain ⟨t, et⟩ := at1 j h1
    obtain ⟨t', et'⟩ := at2 j h2
    rw [et, et']
    have z : (ks.getD j ⟨#[]⟩ == ms.getD j ⟨#[]⟩) = decide (ks.getD j ⟨#[]⟩ = ms.getD j ⟨#[]⟩) := by
      by_cases q : ks.getD j ⟨#[]⟩ = ms.getD j ⟨#[]⟩
      · rw [decide_eq_true q]; exact beq_iff_eq.mpr q
      · rw [decide_eq_false q]; exact beq_eq_false_iff_ne.mpr q
    rw [← z]
    exact SeqAt.EqAt.str_str _ _ _ _) (fun j h1 h2 _ => by
    obtain ⟨t, et⟩ := at1 j h1
    obtain ⟨t', et'⟩ := at2 j h2
    rw [et, et']
    exact fun prog w E Q h => (PySem.P.le_str h : wpAny (model prog w) _ (compareOp .LtE _ _) Q E _))
  rw [e1, e2] at R
  have z : wpAny (model X.prog X.w) X.A (compareOp .LtE (.ref a) (.ref b)) (EP X pins σ Q) X.xe s := R X.prog X.w X.xe (EP X pins σ Q) ⟨.bl _, H, I, rfl, q⟩
  exact z
theorem opd_leTS (hu : X.A.units < cLine) : OpD X dc (compareOp .LtE) (fun x y Q => ∃ ks ms : List Str, x = lotD ks ∧ y = lotD ms ∧ Q (.bl (leTS ks ms))) := by
  refine ⟨fun x y P P' hP ⟨ks, ms, a, b, c⟩ => ⟨ks, ms, a, b, hP _ c⟩, _, op_leTS hu, fun F H x y v u Q p rx ry h => ?_⟩
  obtain ⟨ks, ms, rfl, rfl, h⟩ := h
  obtain ⟨t, rfl, e1⟩ := tup_strs rx
  obtain ⟨t', rfl, e2⟩ := tup_strs ry
  exact ⟨t, t', ks, ms, rfl, rfl, .of (p.sub _ _ e1), .of (p.sub _ _ e2), h.now p (.bl _)⟩
/-- enumerate(t, start=k) -/
def enumD (k : Int) : List D → List D
  | [] => []
  | x :: r => .tup [.int k, x] :: enumD (k + 1) r
theorem enumD_len : ∀ (k : Int) (xs : List D), (enumD k xs).length = xs.length
  | _, [] => rfl
  | k, x :: r => by rw [enumD, List.length_cons, List.length_cons, enumD_len]
theorem enumD_get : ∀ (k : Int) (xs : List D) (i : Nat) (x : D), xs[i]? = some x → (enumD k xs)[i]? = some (.tup [.int (k + i), x])
  | _, [], _, _, h => by simp at h
  | k, y :: r, 0, x, h => by
    simp at h
    subst h
    show some (D.tup [.int k, y]) = _
    rw [show k + ((0 : Nat) : Int) = k by omega]
  | k, y :: r, i + 1, x, h => by
    have := enumD_get (k + 1) r i x (by simpa using h)
    show (enumD (k + 1) r)[i]? = _
    rw [this, show k + 1 + (i : Int) = k + ((i + 1 : Nat) : Int) by omega]
def iEnumD (k : Int) (d : DT) : DTI := fun ρ Q => d ρ fun x => asTup x fun xs => Q (enumD k xs)
theorem di_enumT {p tpos kp cp : Pos} {elts : List Expr} {kk jj : Nat} {k : Int} (hg : Gl X "enumerate") (hm : X.mg "enumerate" = none) (ha : DE X dc e d) (k0 : -(2 ^ 63) ≤ k) (k1 : k < 2 ^ 63)
    (hs : starEach [e] X.env = (false, eval e X.env) :: starEach [] X.env := by rfl)
    (he : backTo pos (starEach [e] X.env) = (false, eval e X.env) :: backTo pos (starEach [] X.env) := by rfl) (hpl : (backTo pos (starEach [e] X.env)).any (·.1) = false := by rfl)
    (hks : (backToKw pos (keywordEach [⟨some "start", .Constant (.int k) jj cp, kp⟩] X.env)).filterMap (·.1) = [Str.ofString "start"] := by rfl) :
    DI X dc (.Tuple elts kk tpos) (.Call (.Name "enumerate" p) [e] [⟨some "start", .Constant (.int k) jj cp, kp⟩] pos) (iEnumD k d) := by
  have m := ha.mono
  obtain ⟨t, pt, rt⟩ := ha.get
  refine DI.mk' (fun ρ P P' hP q => m _ _ _ (fun x q => asTup.mono (fun xs q => hP _ q) q) q) (pi_enumT hg hm (pa_cons pt pa_nil hs) (pk_cons pe_int pk_nil) he hpl hks) fun ρ σ F H R p s q => rt p s q fun x v F1 H1 h e1 r1 => ?_
  obtain ⟨xs, rfl, h⟩ := h.inv
  cases r1 with
  | @tup a _ vs ea ra =>
  have ha := e1.pre.sub _ _ ea
  have na : F1 a ≠ none := by rw [ea]; exact fun z => nomatch z
  refine ⟨a, vs, k, rfl, rfl, k0, k1, .of ha, h _ _ _ e1 ⟨fun i H' hi kp => ?_, fun H' kp => ?_, fun i F' H' v H'' hi pr fs kp yy => ?_⟩⟩
  · rw [enumD_len] at hi
    obtain ⟨v, hv, _⟩ := ra.get (List.getElem?_eq_getElem hi)
    exact ⟨vs, v, .of (kp _ _ na ha), hv⟩
  · rw [enumD_len, ra.length]
    exact ⟨vs, .of (kp _ _ na ha), Nat.le_refl _⟩
  · obtain ⟨T, v1, rfl, nT, rfl, h1⟩ := yy
    obtain ⟨x1, hx1, rx1⟩ := ra.get' (h1 _ (.of (kp _ _ na ha)))
    obtain ⟨e2, r2⟩ := Ext.tup2 pr nT (.int (k + (i : Int))) (rx1.mono fs)
    exact ⟨_, _, enumD_get _ _ _ _ hx1, e2, r2⟩
end
/-! ### a net made through a name; return cls(places, ties) -/
section
variable {dc : Option Addr} {F H F2 H4 : Hp} {C t' td : Addr} {ps : List Str} {ts : Ties} {Qv : VK} {E : XK}
theorem made_core (pr : Pre dc F H) (e : Ext dc F H F2 H4) (ht : H4 t' = some (.tup (ps.map V.str))) (etd : H4 td = some (.dT (tk ts))) (ok : MadeOk ps ts)
    (q : ∀ qs, qs.Perm ps → sortedS qs = true → KV' dc F H Qv (madeD C qs (sortTi ts))) :
    ∀ x dx, H4 x = none → H4 dx = none → dx ≠ x → spInit C (.ref x :: ([.ref t', .ref td] ++ [])) (upd (upd H4 dx (.own x)) x (.ins C dx [])) (fun v H2 => v = .non ∧ Qv (.ref x) H2) E := by
  intro x dx nx ndx nxd
  have g4 : Same H4 (upd (upd H4 dx (.own x)) x (.ins C dx [])) := (same_upd ndx).trans (same_upd (by rw [upd_ne nxd.symm]; exact nx))
  refine ⟨x, dx, t', td, ps, ts, rfl, upd_same, g4 _ _ ht, g4 _ _ etd, ok.len, ok.nodup, ok.okp, ok.okt, ok.pb, ok.tb, fun H5 qs pm srt kp no => ⟨rfl, ?_⟩⟩
  obtain ⟨t5, d5, ex, et5, ed5, nt5, nd5⟩ := no.ex
  have g5 : Same H4 H5 := fun a o h => kp a o (fun z => by
    rw [z, nx] at h
    cases h) (g4 _ _ h)
  have fr : ∀ a, (upd (upd H4 dx (.own x)) x (.ins C dx [])) a = none → H4 a = none := fun a z => by
    cases w : H4 a with
    | none => rfl
    | some o =>
      rw [g4 _ _ w] at z
      cases z
  have pr2 := e.pre
  have E0 := Ext.grow pr2 g5
  have E1 := E0.close nx ex (show SubO H5 x (.ins C dx _) from ex) (pr2.nd nx) (pr2.nf nx)
  have n1 : t5 ≠ x := ne_of et5 ex (fun z => nomatch z)
  have n2 : d5 ≠ x := ne_of ed5 ex (fun z => nomatch z)
  have n3 : d5 ≠ t5 := ne_of ed5 et5 (fun z => nomatch z)
  have E2 := E1.close (fr _ nt5) et5 (show SubO H5 t5 (.tup _) from et5) (pr2.nd (fr _ nt5)) (by rw [upd_ne n1]; exact pr2.nf (fr _ nt5))
  have E3 := E2.close (fr _ nd5) ed5 (show SubO H5 d5 (.dT _) from .inl ed5) (pr2.nd (fr _ nd5)) (by rw [upd_ne n3, upd_ne n2]; exact pr2.nf (fr _ nd5))
  refine q qs pm srt _ _ _ (e.trans pr E3) ?_
  refine .ins (dx := dx) (vs := [.ref t5, .ref d5]) ?_ rfl (.cons (.tup ?_ (Reps.strs qs)) (.cons (Rep.ties upd_same) .nil))
  · rw [upd_ne n2.symm, upd_ne n1.symm, upd_same]
    rfl
  · rw [upd_ne n3.symm, upd_same]
end
section
variable {X : Cx} {dc : Option Addr} {e1 : Expr} {d1 : DT} {k i j : Nat} {f C : Addr} {fd : FuncData} {x y : Str} {p py pc pos : Pos}
def tMakeL (i : Nat) (C : Addr) (sp : Sp) (dvs : List V) (E : XK) (t : TA) : TE := fun σ H Q => σ[i]? = some (some (.ref C)) ∧ tMake C sp dvs E t σ H Q
theorem pe_makeL {CX : CXT} {ps : List Str} {sp : Sp} {dvs : List V} {ds : List Value} {E : XK} {e : Expr} {es : List Expr} {t : TA} {pos : Pos} (M : Mk X.K C f) (F : FnOk X.prog X.w X.K X.mg X.base CX k f fd ps sp) (hr : Room (k + 1) X.A) (hN : X.N[i]? = some x) (hv : Vis X.env.scope x) (hb : Binds X.K fd ps ds) (hd : Vals dvs ds) (hx : Passes CX X E)
    (ha : PA X (e :: es) t) (hdb : (x == ("__debug__" : Str)) = false := by decide) (hcd : (x == ("__classdict__" : Str)) = false := by decide) (he : starEach (e :: es) X.env = (false, eval e X.env) :: starEach es X.env := by rfl) (hpl : (backTo pos (starEach es X.env)).any (·.1) = false := by rfl) :
    PE X (.Call (.Name x p) (e :: es) [] pos) (tMakeL i C sp dvs E t) := by
  refine ⟨fun pins s σ H Q I h => ?_⟩
  obtain ⟨hs, ht⟩ := h
  refine wpAny_Call_Name_kw (thn ((pe_var (pos := p) hN hv hdb hcd).run pins s σ H (fun v H1 => v = .ref C ∧ H1 = H) I ⟨.ref C, hs, rfl, rfl⟩) fun u s1 ⟨v, H1, I1, r1, q1⟩ => ?_)
  obtain ⟨rfl, rfl⟩ := q1
  cases r1
  refine PySem.W.callWith_K (h₀ := X.base) I.ok.mod.kin M.kp (thn (ha.run pos pins s1 σ _ _ I1 ht) fun us s2 ⟨vs, H2, I2, r, q⟩ => ⟨I2.kIn, ?_⟩) he hpl
  exact run_make M F hr hb hd hx I2 r q
theorem own_ties {F : Hp} {o : HO} {ts : Ties} (h : OwnO dc F o (tiesD ts)) : o = .dT (tk ts) := by
  generalize hx : tiesD ts = z at h
  cases h with
  | lst _ => cases hx
  | dK _ _ => cases hx
  | @dT ks vs xs l rr =>
    unfold tiesD at hx
    injection hx with h1 h2
    subst h1 h2
    have e3 : (ts.map fun e => D.int e.2) = (ts.map (·.2)).map D.int := by rw [List.map_map]; rfl
    rw [e3] at rr
    have hv : vs = ts.map fun e => V.int e.2 := by rw [rr.ints_eq, List.map_map]; rfl
    rw [hv, tk_zip]
/-- return cls(e, d), d the def's own -/
theorem ds_retMake (M : Mk X.K C f) (G : FnOk X.prog X.w X.K X.mg X.base CX0 k f fd ["self", "places", "ties"] (spInit C)) (hr : Room (k + 1) X.A) (hN : X.N[i]? = some x) (hv : Vis X.env.scope x) (hN2 : X.N[j]? = some y) (hv2 : Vis X.env.scope y) (hb : Binds X.K fd ["self", "places", "ties"] []) (he : DE X dc e1 d1)
    (h1 : (x == ("__debug__" : Str)) = false := by decide) (h2 : (x == ("__classdict__" : Str)) = false := by decide) (h3 : (y == ("__debug__" : Str)) = false := by decide) (h4 : (y == ("__classdict__" : Str)) = false := by decide)
    (hs : starEach [e1, .Name y py] X.env = (false, eval e1 X.env) :: starEach [.Name y py] X.env := by rfl) (hpl : (backTo pc (starEach [.Name y py] X.env)).any (·.1) = false := by rfl) :
    DS X dc (.Return (some (.Call (.Name x p) [e1, .Name y py] [] pc)) pos) (fun E ρ => ρ[i]? = some (.val (.raw (.ref C))) ∧ d1 (visD ρ) fun z => ∃ ps ts, z = lotD ps ∧ ρ[j]? = some (.own (tiesD ts)) ∧ MadeOk ps ts ∧ ∀ qs, qs.Perm ps → sortedS qs = true → E.rt (madeD C qs (sortTi ts))) := by
  have m := he.mono
  obtain ⟨t, pt, rt⟩ := he.get
  refine ⟨fun E E' ρ l ⟨a, h⟩ => ⟨a, m _ _ _ (fun z ⟨ps, ts, b, c, d, q⟩ => ⟨ps, ts, b, c, d, fun qs u v => l.rt _ (q qs u v)⟩) h⟩, _, ps_ret (pe_makeL M G hr hN hv hb .nil pass0 (pa_cons pt (pa_cons (pe_var (pos := py) hN2 hv2 h3 h4) pa_nil) hs) h1 h2 hs hpl), fun F0 H0 ρ σ F H E D' I L ⟨hi, h⟩ => ?_⟩
  obtain ⟨v0, hv0, r0⟩ := I.vals i _ hi
  cases r0
  refine ⟨hv0, ?_⟩
  refine rt I.ext.pre I.slots h fun z v F1 H1 h e1' q1 => ?_
  obtain ⟨ps, ts, rfl, hj, ok, q⟩ := h
  have I1 := I.step e1'
  obtain ⟨a, o, hs', ha, ho, nF, n0, nd⟩ := I1.owns j _ hj
  obtain rfl := own_ties ho
  obtain ⟨t', rfl, eft⟩ := tup_strs q1
  refine ⟨.ref a, hs', ?_⟩
  refine made_core I.pre0 I1.ext (I1.ext.pre.sub _ _ eft) ha ok fun qs u v w F' H' e' r' => ?_
  exact L.rt _ _ _ _ e' r' (q qs u v)
end
/-! ### a classmethod with a star parameter -/
/-- a promise by data, met by an address -/
structure DCm (P : Program) (w : World) (K : PySem.W.Frag) (mg : Str → Option Value) (base : Heap) (k : Nat) (C : Addr) (m : Str) (sp : DSp) : Prop where
  mono : Mono sp
  ex : ∃ (mc : Value) (p g : Addr), ClX.CRead K C mc ∧ ClX.CMet K C mc m p g ∧ FnR P w K mg base CX0 k g (spD sp)
section
variable {P : Program} {w : World} {K : PySem.W.Frag} {mg : Str → Option Value} {base : Heap}
theorem fnD_star {x qual : Str} {st : Stmt} {f : Addr} {fd : FuncData} {N : List Str} {p1 pv : Str} {k : Nat} {sp : D → List D → (D → Prop) → Prop} {s : DTS} (F : Fun K x qual st f fd) (S : FnScope N [p1, pv] (defScope st))
    (hm : ∀ c xs P P', (∀ z, P z → P' z) → sp c xs P → sp c xs P')
    (hb : ∀ (kV doc pm : Value) (an : Option Addr) (cdv ct : Value) (us rest : List Value), us.length = [p1].length → bindArgs (PySem.W.fnOf x qual (defArgs st) (defBody st) (defScope st) .none kV doc pm an cdv ct) ⟨us ++ rest, []⟩ = (newTuple rest >>= fun t => pure ([p1].zip us ++ [(pv, t)])))
    (body : ∀ (dc : Option Addr) (cdv : Value) (A : Around) (outer : List Env) (s0 : Shared) (H : Hp) (E : XK), Room k (A.deeper (envOfC qual (defScope st) s0.heap.objs.size f cdv)) →
      DSs (cxOf CX0 P w K mg base N qual (defScope st) f cdv A outer s0 H E).nox dc (defBody st) s) (h : ∀ c xs Q, sp c xs Q → xs.length ≤ sizeLine ∧ s (retE Q) (startS N [c, .tup xs])) :
    FnR P w K mg base CX0 (k + 1) f (spD fun xs Q => ∃ c r, xs = c :: r ∧ sp c r Q) := by
  obtain ⟨oc, od, kV, doc, pm, an, cdv, ct, osl, rfl, lk, hcd⟩ := F.ex
  refine FnR.imp (StX.fn_star (CX := CX0) (ps := [p1]) (pv := pv) (sp := spD fun xs Q => ∃ c r, xs = [c, .tup r] ∧ sp c r Q) lk hcd S StX.cxUp_none (hb kV doc pm an cdv ct) fun A outer s0 H vs Q E hr hsp => ?_) fun vs H Q E ⟨dc, F1, xs, p, r, c, ds, ex, hq⟩ => ?_
  · obtain ⟨dc, F1, xs, p, r, c, ds, rfl, hq⟩ := hsp
    obtain ⟨_, t, pt, rt⟩ := body dc cdv A outer s0 H E hr
    exact ⟨t, pt.nox, rt F1 H _ _ F1 H (retE (KV' dc F1 H Q)) _ (SInv.start p r) ⟨fun ρ σ F' H' I hn => hn _ _ _ I.ext .non, fun y v F' H' e ry hy => hy _ _ _ e ry, fun _ _ _ _ _ hn => hn.elim, fun _ _ _ _ _ hn => hn.elim⟩ (h c ds _ hq).2⟩
  · subst ex
    cases r with
    | @cons _ v _ us ra rb =>
    refine ⟨[v], us, rfl, rfl, by rw [← rb.length]; exact (h c ds _ hq).1, fun q nq => ?_⟩
    obtain ⟨e1, r1⟩ := Ext.tup p nq rb
    exact ⟨dc, _, [c, .tup ds], e1.pre, .cons (e1.rep ra) (.cons r1 .nil), c, ds, rfl, hm _ _ _ _ (fun z hz => hz.on p e1) hq⟩
end
section
variable {X : Cx} {dc : Option Addr} {e o : Expr} {es : List Expr} {d : DTA} {dt : DT} {m : Str} {pos apos : Pos} {sp : DSp} {k j : Nat} {C : Addr}
def dCm (C : Addr) (sp : DSp) (d : DT) (da : DTA) : DT := fun ρ Q => d ρ fun x => x = .raw (.ref C) ∧ da ρ fun xs => sp (x :: xs) Q
theorem de_cmeth {pl : Sem Bool} (G : DCm X.prog X.w X.K X.mg X.base k C m sp) (hr : Room j X.A) (hk : k ≤ j) (ho : DE X dc o dt) (ha : DA X dc (e :: es) d)
    (hst : starEach (e :: es) X.env = (false, eval e X.env) :: starEach es X.env := by rfl) (hpl : (backTo pos (starEach es X.env)).any (·.1) = false := by rfl)
    (ht : eval (.Call (.Attribute o m apos) (e :: es) [] pos) X.env = (do
      let ov ← eval o X.env
      standAt apos.atName
      let (f, first) ← holding [ov] (getMethod ov m pl)
      callWith pos f first (backTo pos (starEach (e :: es) X.env)) (backToKw pos (keywordEach [] X.env))) := by rfl) :
    DE X dc (.Call (.Attribute o m apos) (e :: es) [] pos) (dCm C sp dt d) := by
  obtain ⟨ms, mc, p, g, r, c, F⟩ := G
  have mo := ho.mono
  have ma := ha.mono
  obtain ⟨t1, p1, r1⟩ := ho.get
  obtain ⟨t2, p2, r2⟩ := ha.get
  refine ⟨fun ρ P P' hP h => mo _ _ _ (fun x h => ⟨h.1, ma _ _ _ (fun xs h => ms _ _ _ hP h) h.2⟩) h, _, ClX.pe_cmeth (pl := pl) p1 r c F (hr.mono hk) pass0 p2 hst hpl ht, fun ρ σ F H Q pr s h => r1 pr s h fun x v F1 H1 h e1 q1 => ?_⟩
  obtain ⟨rfl, h⟩ := h
  cases q1
  refine ⟨rfl, r2 e1.pre (s.mono e1.fsub) h fun xs us F2 H2 h e2 q2 => ?_⟩
  exact ⟨dc, F2, _, e2.pre, .cons (.raw _) q2, ms _ _ _ (fun z hz => hz.on pr (e1.trans pr e2)) h⟩
end
abbrev s__tells_places : Stmt := topS 32
theorem sc__tells_places : FnScope ["line", "words", "word"] ["line"] (defScope s__tells_places) := ⟨rfl, rfl, rfl, by decide +kernel, rfl, by decide +kernel, by decide +kernel⟩
abbrev s__tells_ties : Stmt := topS 33
theorem sc__tells_ties : FnScope ["line", "parts", "many"] ["line"] (defScope s__tells_ties) := ⟨rfl, rfl, rfl, by decide +kernel, rfl, by decide +kernel, by decide +kernel⟩
abbrev s_Net_read : Stmt := inClass (topS 38) 1
theorem sc_Net_read : FnScope ["cls", "lines", "ties", "ahead", "index", "line", "one", "other", "many"] ["cls", "lines"] (defScope s_Net_read) := ⟨rfl, rfl, rfl, by decide +kernel, rfl, by decide +kernel, by decide +kernel⟩
section
variable {P : Program} {w : World} {K : PySem.W.Frag} {mg : Str → Option Value} {base : Heap} {C : Addr}
theorem zip_strsL (l m : List Str) : zipD (l.map D.str) (m.map D.str) = (l.zip m).map fun p => D.tup [.str p.1, .str p.2] := zip_strs l m
def spAscendsL : DSp := fun xs Q => ∃ l : List Str, xs = [.lst (l.map D.str)] ∧ l.length ≤ 1000 ∧ Q (.bl (ascS l))
theorem ok2_ascends {f : Addr} {fd : FuncData} {k : Nat} (F : Fun K "ascends" "ascends" s_ascends f fd) (m_all : mg "all" = none) (m_zip : mg "zip" = none) : FnOk P w K mg base CX0 (k + 1) f fd ["items"] (spD spAscendsL) := by
  refine fnD_ok F sc_ascends (fun xs Q h => ?_) (fun dc cdv A outer s0 H E hr =>
    (dss_one (ds_ret (de_callB (cd_all rfl) (by rfl) m_all (by decide +kernel) (da_cons (de_lc (own := [("one", 1), ("other", 2)]) rfl sc_ascends.nd (di_zip (by rfl) m_zip (da_cons (de_var 0) (da_cons (de_slice (de_var 0) (do_some de_int) do_none) da_nil))) (blkOk_by (N := ["items", "one", "other"]) (sc := defScope s_ascends) (by decide +kernel)) (fun _ _ _ _ _ => (dg_tup (n := 2) rfl (dgs_cons (dg_name (i := 1) sc_ascends.nd rfl (Or.inl rfl)) (dgs_cons (dg_name (i := 2) sc_ascends.nd rfl (Or.inl rfl)) dgs_nil)))) (fun _ _ _ _ _ => dts_nil) (fun _ _ _ _ _ => (de_cmp opd_lt (de_var 1) (de_var 2) (nomark _))) (by decide)) da_nil))))) (fun xs Q h => ?_)
  · obtain ⟨l, rfl, _⟩ := h; rfl
  · obtain ⟨l, rfl, hl, q⟩ := h
    walk_at "dred"
    rw [cut_tail, ← List.map_tail]
    walk_at "dred"
    rw [zip_strs]
    refine ⟨?_, lcL_all (g := fun p : Str × Str => D.bl (ltS p.1 p.2)) (fun p hp K hk => ?_) ?_⟩
    · rw [List.length_map, List.length_zip]
      exact Nat.le_of_lt (small1000 (by omega))
    · walk_at "dred"
      exact hk
    · have e : (l.zip l.tail).map (fun p : Str × Str => D.bl (ltS p.1 p.2)) = ((l.zip l.tail).map fun p : Str × Str => ltS p.1 p.2).map D.bl := by rw [List.map_map]; rfl
      rw [e]
      refine asBls.of ?_
      rw [List.all_map]
      exact q
/-! is_word, is_pair by data -/
def spWordD : DSp := fun xs Q => ∃ z, xs = [.str z] ∧ okStr z ∧ Q (.bl (wordS z))
theorem word_imp : ∀ vs H Q E, spD spWordD vs H Q E → spWord K vs H Q E := fun vs H Q E ⟨dc, F, xs, p, r, z, e, hz, q⟩ => by
  subst e
  cases r with
  | cons a b =>
  cases b
  cases a
  have dv : Dv H (.str z) := .str hz
  exact ⟨.str z, rfl, dv.tv, fun H' s => q _ F H' (Ext.grow p s) (.bl _)⟩
def spPairD : DSp := fun xs Q => ∃ a b, xs = [pairD (a, b)] ∧ okStr a ∧ okStr b ∧ Q (.bl (wordS a && (wordS b && ltS a b)))
theorem pair_two {dc : Option Addr} {F : Hp} {v : V} {k : Str × Str} (r : Rep dc F (pairD k) v) : ∃ t, v = .ref t ∧ F t = some (.tup [.str k.1, .str k.2]) := tup_strs (ps := [k.1, k.2]) r
theorem pair_imp : ∀ vs H Q E, spD spPairD vs H Q E → spPair vs H Q E := fun vs H Q E ⟨dc, F, xs, p, r, a, b, e, ha, hb, q⟩ => by
  subst e
  cases r with
  | cons ra rb =>
  cases rb
  obtain ⟨t, rfl, ef⟩ := pair_two ra
  exact ⟨.ref t, _, rfl, .two (p.sub _ _ ef) (.str ha) (.str hb) rfl, fun H' s => q _ F H' (Ext.grow p s) (.bl _)⟩
def spTellsP : DSp := fun xs Q => ∃ z, xs = [.str z] ∧ z.length ≤ 900 ∧ (Txt.split z " ").length ≤ 1000 ∧ (∀ x ∈ Txt.split z " ", okStr x) ∧ Q (.bl ((Txt.split z " ").all wordS && ascS (Txt.split z " ")))
theorem ok__tells_places {f : Addr} {fd : FuncData} {k : Nat} (F : Fun K "_tells_places" "_tells_places" s__tells_places f fd) (m_all : mg "all" = none) (m_isinstance : mg "isinstance" = none) (m_str : mg "str" = none) (G_is_word : DFn P w K mg base k "is_word" [] spWordD) (G_ascends : DFn P w K mg base k "ascends" [] spAscendsL) : FnOk P w K mg base CX0 (k + 1) f fd ["line"] (spD spTellsP) := by
  refine fnD_ok F sc__tells_places (fun xs Q h => ?_) (fun dc cdv A outer s0 H E hr =>
    (dss_cons (ds_if (dc_not (dc_val (de_callB (cd_isi (K := K) rfl) (by rfl) m_isinstance (by decide +kernel) (da_cons (de_var 0) (da_cons (de_ty (n := "str") (by rfl) m_str (by decide +kernel)) da_nil))))) (dss_one (ds_ret de_bl)) dss_nil)
      (dss_cons (ds_set (i := 1) sc__tells_places.nd rfl (by first | exact Or.inl rfl | exact Or.inr rfl) (de_split (de_var 0) de_str))
      (dss_one (ds_ret (de_and (de_callB (cd_all rfl) (by rfl) m_all (by decide +kernel) (da_cons (de_lc (own := [("word", 2)]) rfl sc__tells_places.nd (di_seq (de_var 1)) (blkOk_by (N := ["line", "words", "word"]) (sc := defScope s__tells_places) (by decide +kernel)) (fun _ _ _ _ _ => (dg_name (i := 2) sc__tells_places.nd rfl (Or.inl rfl))) (fun _ _ _ _ _ => dts_nil) (fun _ _ _ _ _ => (de_fn G_is_word hr (Nat.le_refl _) (by rfl) (da_cons (de_var 2) da_nil))) (by decide)) da_nil)) (de_one (de_fn G_ascends hr (Nat.le_refl _) (by rfl) (da_cons (de_var 1) da_nil))))))))) (fun xs Q h => ?_)
  · obtain ⟨z, rfl, _⟩ := h; rfl
  · obtain ⟨z, rfl, hz, hl, ho, q⟩ := h
    walk_at "dred"
    refine ⟨_, _, true, .str _, .ty _, kit_ty (by decide +kernel), ?_⟩
    walk_at "dred"
    refine iteF ?_
    unfold dSplit
    walk_at "dred"
    refine ⟨by decide, Nat.le_of_lt (small1000 (by omega)), ?_⟩
    walk_at "dred"
    generalize Txt.split z " " = ws at hl ho q ⊢
    refine ⟨by rw [List.length_map]; exact Nat.le_of_lt (small1000 hl), lcL_all (g := fun s : Str => D.bl (wordS s)) (fun s hs K hk => ?_) ?_⟩
    · walk_at "dred"
      exact ⟨s, rfl, ho s hs, hk⟩
    · have e : ws.map (fun s : Str => D.bl (wordS s)) = (ws.map wordS).map D.bl := by rw [List.map_map]; rfl
      rw [e]
      refine asBls.of ?_
      rw [List.all_map]
      have e2 : ws.all (id ∘ wordS) = ws.all wordS := rfl
      rw [e2]
      walk_at "dred"
      by_cases c : ws.all wordS = true
      · rw [c] at q ⊢
        rw [Bool.true_and] at q
        exact iteT ⟨ws, rfl, hl, q⟩
      · rw [Bool.eq_false_iff.mpr c] at q ⊢
        rw [Bool.false_and] at q
        exact iteF q
def numsS : List Str := (List.range 99).map fun (i : Nat) => (Str.ofString (toString (1 + (i : Int))) : Str)
theorem atI3_0 {x y z : D} : atI [x, y, z] 0 = some x := rfl
theorem atI3_1 {x y z : D} : atI [x, y, z] 1 = some y := rfl
theorem atI3_2 {x y z : D} : atI [x, y, z] 2 = some z := rfl
theorem log_small (i : Nat) (h : i < 99) : (1 + (i : Int)).natAbs.log2 < 1920 := by
  have e : (1 + (i : Int)).natAbs = 1 + i := by omega
  rw [e]
  have : (1 + i).log2 ≤ 1 + i := Nat.log2_le_self _
  omega
structure TieLine (z a b c : Str) (n : Int) : Prop where
  len : z.length ≤ 900
  sp : Txt.split z " " = [a, b, c]
  oa : okStr a
  ob : okStr b
  wa : wordS a = true
  wb : wordS b = true
  lt : ltS a b = true
  cn : c ∈ numsS
  int : PySem.intText? c = some n
  cl : c.length ≤ 640
def spTellsT : DSp := fun xs Q => ∃ z a b c n, xs = [.str z] ∧ TieLine z a b c n ∧ Q (.bl true)
theorem ok__tells_ties {f : Addr} {fd : FuncData} {k : Nat} (F : Fun K "_tells_ties" "_tells_ties" s__tells_ties f fd) (m_len : mg "len" = none) (m_range : mg "range" = none) (m_isinstance : mg "isinstance" = none) (m_str : mg "str" = none) (G_is_pair : DFn P w K mg base k "is_pair" [] spPairD) : FnOk P w K mg base CX0 (k + 1) f fd ["line"] (spD spTellsT) := by
  refine fnD_ok F sc__tells_ties (fun xs Q h => ?_) (fun dc cdv A outer s0 H E hr =>
    (dss_cons (ds_if (dc_not (dc_val (de_callB (cd_isi (K := K) rfl) (by rfl) m_isinstance (by decide +kernel) (da_cons (de_var 0) (da_cons (de_ty (n := "str") (by rfl) m_str (by decide +kernel)) da_nil))))) (dss_one (ds_ret de_bl)) dss_nil)
      (dss_cons (ds_set (i := 1) sc__tells_ties.nd rfl (by first | exact Or.inl rfl | exact Or.inr rfl) (de_split (de_var 0) de_str))
      (dss_one (ds_ret (de_and (de_cmp (opd_eq (hr.units)) (de_callB cd_len (by rfl) m_len (by decide +kernel) (da_cons (de_var 1) da_nil)) de_int (nomark _)) (de_and (de_fn G_is_pair hr (Nat.le_refl _) (by rfl) (da_cons (de_tup (da_cons (de_sub (hu_of hr) (de_var 1) de_int) (da_cons (de_sub (hu_of hr) (de_var 1) de_int) da_nil))) da_nil)) (de_one (de_cmp (opd_inA (hu_of hr)) (de_sub (hu_of hr) (de_var 1) de_int) (de_lc (own := [("many", 2)]) rfl sc__tells_ties.nd (di_range2 (by rfl) m_range (da_cons de_int (da_cons de_int da_nil))) (blkOk_by (N := ["line", "parts", "many"]) (sc := defScope s__tells_ties) (by decide +kernel)) (fun _ _ _ _ _ => (dg_name (i := 2) sc__tells_ties.nd rfl (Or.inl rfl))) (fun _ _ _ _ _ => dts_nil) (fun _ _ _ _ _ => (de_callTy cd_strI (by rfl) m_str (by decide +kernel) (da_cons (de_var 2) da_nil))) (by decide)) (by rfl)))))))))) (fun xs Q h => ?_)
  · obtain ⟨z, a, b, c, n, rfl, _⟩ := h; rfl
  · obtain ⟨z, a, b, c, n, rfl, g, q⟩ := h
    walk_at "dred"
    refine ⟨_, _, true, .str _, .ty _, kit_ty (by decide +kernel), ?_⟩
    walk_at "dred"
    refine iteF ?_
    unfold dSplit
    walk_at "dred"
    have hz := g.len
    refine ⟨by decide, Nat.le_of_lt (small1000 (by omega)), ?_⟩
    rw [g.sp]
    walk_at "dred"
    refine iteT ?_
    rw [atI3_0, atI3_1, atI3_2]
    walk_at "dred"
    refine ⟨by decide, ⟨a, b, rfl, g.oa, g.ob, ?_⟩⟩
    rw [g.wa, g.wb, g.lt]
    walk_at "dred"
    show ((-(2 ^ 62) ≤ (1 : Int) ∧ (1 : Int) < 2 ^ 62 ∧ -(2 ^ 62) ≤ (100 : Int) ∧ (100 : Int) < 2 ^ 62) ∧ _)
    refine ⟨by decide, ?_⟩
    refine ⟨by decide, lcL_all (α := Nat) (h := fun k => D.int (1 + (k : Int))) (xs := List.range 99) (g := fun k => D.str (Str.ofString (toString (1 + (k : Int))))) (fun i hi K hk => ?_) ?_⟩
    · walk_at "dred"
      exact ⟨log_small i (List.mem_range.mp hi), hk⟩
    · have e : (List.range 99).map (fun k : Nat => D.str (Str.ofString (toString (1 + (k : Int))))) = numsS.map D.str := by
        unfold numsS
        rw [List.map_map]
        rfl
      rw [e]
      walk_at "dred"
      rw [decide_eq_true g.cn]
      exact q
end
/-- a line of ties, told -/
structure RowT where
  z : Str
  a : Str
  b : Str
  c : Str
  n : Int
def RowT.ok (r : RowT) : Prop := TieLine r.z r.a r.b r.c r.n
def rowsTs (rs : List RowT) : Ties := rs.map fun r => ((r.a, r.b), r.n)
/-- each row comes behind the one ahead -/
def rowsAsc : List Str → List RowT → Prop
  | _, [] => True
  | ahead, r :: rs => leTS [r.a, r.b] ahead = false ∧ rowsAsc [r.a, r.b] rs
theorem read_loop {is : List Nat} {g : DTG} {body : DTS} {E : DEnds} {c l : D}
    (step : ∀ (k : Int) (r : RowT) (ts : Ties) (ahead : List Str) (s4 s5 s6 s7 s8 : Sl) (E2 : DEnds), r.ok → leTS [r.a, r.b] ahead = false → (r.a, r.b) ∉ ts.map (·.1) → ts.length < 500 →
      (∀ s4 s5 s6 s7 s8, E2.nx [.val c, .val l, .own (tiesD (ts ++ [((r.a, r.b), r.n)])), .val (lotD [r.a, r.b]), s4, s5, s6, s7, s8]) →
      g (.tup [.int k, .str r.z]) fun ys => body E2 (setAllS [.val c, .val l, .own (tiesD ts), .val (lotD ahead), s4, s5, s6, s7, s8] is ys)) :
    ∀ (rs : List RowT) (k : Int) (ts : Ties) (ahead : List Str) (s4 s5 s6 s7 s8 : Sl), (∀ r ∈ rs, r.ok) → rowsAsc ahead rs → ((ts ++ rowsTs rs).map (·.1)).Nodup → ts.length + rs.length < 500 →
      (∀ ahead s4 s5 s6 s7 s8, E.nx [.val c, .val l, .own (tiesD (ts ++ rowsTs rs)), .val (lotD ahead), s4, s5, s6, s7, s8]) →
      dFor is g body E (enumD k (rs.map fun r => D.str r.z)) [.val c, .val l, .own (tiesD ts), .val (lotD ahead), s4, s5, s6, s7, s8]
  | [], k, ts, ahead, s4, s5, s6, s7, s8, _, _, _, _, h => by
    have e : ts ++ rowsTs [] = ts := List.append_nil _
    rw [e] at h
    exact h ahead s4 s5 s6 s7 s8
  | r :: rs, k, ts, ahead, s4, s5, s6, s7, s8, ok, asc, nd, hl, h => by
    have hn : (r.a, r.b) ∉ ts.map (·.1) := by
      rw [List.map_append, List.nodup_append] at nd
      intro z
      exact nd.2.2 _ z (r.a, r.b) (by unfold rowsTs; rw [List.map_cons, List.map_cons]; exact List.mem_cons_self) rfl
    have e : ts ++ rowsTs (r :: rs) = (ts ++ [((r.a, r.b), r.n)]) ++ rowsTs rs := by unfold rowsTs; rw [List.map_cons, List.append_assoc]; rfl
    rw [e] at nd h
    refine step k r ts ahead s4 s5 s6 s7 s8 _ (ok r List.mem_cons_self) asc.1 hn (by rw [List.length_cons] at hl; omega) fun t4 t5 t6 t7 t8 => ?_
    exact read_loop step rs (k + 1) _ _ t4 t5 t6 t7 t8 (fun q hq => ok q (List.mem_cons_of_mem _ hq)) asc.2 nd (by rw [List.length_append]; rw [List.length_cons] at hl; simp only [List.length_cons, List.length_nil]; omega) h
section
variable {P : Program} {w : World} {K : PySem.W.Frag} {mg : Str → Option Value} {base : Heap} {C : Addr}
theorem atI_head {x : D} {r : List D} : atI (x :: r) 0 = some x := by
  unfold L2.atI ixN
  simp
structure ReadOk (z0 : Str) (ps : List Str) (rs : List RowT) : Prop where
  len : z0.length ≤ 900
  sp : Txt.split z0 " " = ps
  pl : ps.length ≤ 1000
  okp : ∀ x ∈ ps, okStr x
  words : ps.all wordS = true
  asc : ascS ps = true
  rows : ∀ r ∈ rs, r.ok
  rasc : rowsAsc [] rs
  nd : ((rowsTs rs).map (·.1)).Nodup
  rl : rs.length < 500
  made : MadeOk ps (rowsTs rs)
def spReadC (C : Addr) : D → List D → (D → Prop) → Prop := fun c xs Q => c = .raw (.ref C) ∧ ∃ z0 ps rs, xs = .str z0 :: rs.map (fun r => D.str r.z) ∧ ReadOk z0 ps rs ∧ ∀ qs, qs.Perm ps → sortedS qs = true → Q (madeD C qs (sortTi (rowsTs rs)))
theorem ok_read {f g : Addr} {fd gd : FuncData} {k : Nat} (F : Fun K "read" "Net.read" s_Net_read f fd) (M_Net : Mk K C g) (GI : FnOk P w K mg base CX0 k g gd ["self", "places", "ties"] (spInit C)) (b_Net : Binds K gd ["self", "places", "ties"] [])
    (m_enumerate : mg "enumerate" = none) (m_int : mg "int" = none) (m_tuple : mg "tuple" = none) (G__tells_places : DFn P w K mg base (k + 1) "_tells_places" [] spTellsP) (G__tells_ties : DFn P w K mg base (k + 1) "_tells_ties" [] spTellsT) :
    FnR P w K mg base CX0 (k + 1 + 1) f (spD fun xs Q => ∃ c r, xs = c :: r ∧ spReadC C c r Q) := by
  refine fnD_star F sc_Net_read (fun c xs P' P'' hP ⟨a, z0, ps, rs, b, d, e⟩ => ⟨a, z0, ps, rs, b, d, fun qs u v => hP _ (e qs u v)⟩) (fun kV doc pm an cdv ct => StX.bind_star1 (B := fun l => bindArgs (PySem.W.fnOf "read" "Net.read" (defArgs s_Net_read) (defBody s_Net_read) (defScope s_Net_read) .none kV doc pm an cdv ct) ⟨l, []⟩) (p1 := "cls") (pv := "lines") (fun _ => rfl) (fun _ _ _ => rfl)) (fun dc cdv A outer s0 H E hr =>
    (dss_cons (ds_if ((dw_or (dc_not (dc_truth (de_var 1))) (dw_or1 (dc_not (dc_val (de_fn G__tells_places hr (Nat.le_refl _) (by rfl) (da_cons (de_sub (hu_of hr) (de_var 1) de_int) da_nil))))))).toC (dss_one ds_never) dss_nil)
      (dss_cons (ds_newT (i := 2) sc_Net_read.nd rfl (by first | exact Or.inl rfl | exact Or.inr rfl))
      (dss_cons (ds_set (i := 3) sc_Net_read.nd rfl (by first | exact Or.inl rfl | exact Or.inr rfl) (de_tup da_nil))
      (dss_cons (ds_for PassesOwn.never rfl (di_enumT (by rfl) m_enumerate (de_slice (de_var 1) (do_some de_int) do_none) (by decide) (by decide)) (dg_tup (n := 2) rfl (dgs_cons (dg_name (i := 4) sc_Net_read.nd rfl (by first | exact Or.inl rfl | exact Or.inr rfl)) (dgs_cons (dg_name (i := 5) sc_Net_read.nd rfl (by first | exact Or.inl rfl | exact Or.inr rfl)) dgs_nil))) (dss_cons (ds_if (dc_not (dc_val (de_fn G__tells_ties hr (Nat.le_refl _) (by rfl) (da_cons (de_var 5) da_nil)))) (dss_one ds_never) dss_nil)
      (dss_cons (ds_asg (de_split (de_var 5) de_str) (dg_lst (n := 3) rfl (dgs_cons (dg_name (i := 6) sc_Net_read.nd rfl (by first | exact Or.inl rfl | exact Or.inr rfl)) (dgs_cons (dg_name (i := 7) sc_Net_read.nd rfl (by first | exact Or.inl rfl | exact Or.inr rfl)) (dgs_cons (dg_name (i := 8) sc_Net_read.nd rfl (by first | exact Or.inl rfl | exact Or.inr rfl)) dgs_nil)))))
      (dss_cons (ds_if (dc_cmp (opd_leTS (Nat.lt_of_succ_lt (hu_of hr))) (de_tup (da_cons (de_var 6) (da_cons (de_var 7) da_nil))) (de_var 3) (nomark _)) (dss_one ds_never) dss_nil)
      (dss_cons (ds_set (i := 3) sc_Net_read.nd rfl (by first | exact Or.inl rfl | exact Or.inr rfl) (de_tup (da_cons (de_var 6) (da_cons (de_var 7) da_nil))))
      (dss_one (ds_putT (i := 2) (hu_of hr) rfl (by first | exact Or.inl rfl | exact Or.inr rfl | rfl) (de_var 3) (de_callTy cd_intS (by rfl) m_int (by decide +kernel) (da_cons (de_var 8) da_nil)))))))))
      (dss_one (ds_retMake (i := 0) (j := 2) M_Net GI hr rfl (by first | exact Or.inl rfl | exact Or.inr rfl | rfl) rfl (by first | exact Or.inl rfl | exact Or.inr rfl | rfl) b_Net (de_callTy cd_tuple (by rfl) m_tuple (by decide +kernel) (da_cons (de_split (de_sub (hu_of hr) (de_var 1) de_int) de_str) da_nil))))))))) (fun c xs Q h => ?_)
  obtain ⟨rfl, z0, ps, rs, rfl, ok, q⟩ := h
  have rl := ok.rl
  have zl := ok.len
  have pl := ok.pl
  refine ⟨by rw [List.length_cons, List.length_map]; exact Nat.le_of_lt (small1000 (by omega)), ?_⟩
  walk_at "dred"
  refine iteF ?_
  rw [atI_head]
  walk_at "dred"
  refine ⟨z0, rfl, zl, by rw [ok.sp]; exact pl, by rw [ok.sp]; exact ok.okp, ?_⟩
  rw [ok.sp, ok.words, ok.asc]
  walk_at "dred"
  refine iteF ⟨Nat.zero_le _, ?_⟩
  unfold sFor iEnumD
  show asTup (D.tup (cutD (D.str z0 :: List.map (fun r => D.str r.z) rs) (some 1) none)) _
  rw [cut_tail]
  refine read_loop (fun k' r ts ahead s4 s5 s6 s7 s8 E2 rok hle hn htl hx => ?_) rs 1 [] [] _ _ _ _ _ ok.rows ok.rasc ok.nd (by simpa using rl) fun ahead s4 s5 s6 s7 s8 => ?_
  · have hz := rok.len
    walk_at "dred"
    refine ⟨r.z, r.a, r.b, r.c, r.n, rfl, rok, ?_⟩
    walk_at "dred"
    refine iteF ?_
    unfold dSplit
    walk_at "dred"
    refine ⟨by decide, Nat.le_of_lt (small1000 (by omega)), ?_⟩
    rw [rok.sp, List.map_cons, List.map_cons, List.map_cons, List.map_nil, gLstD_lst]
    walk_at "dred"
    refine ⟨by decide, [r.a, r.b], ahead, rfl, rfl, ?_⟩
    rw [hle]
    refine iteF ⟨by decide, ?_⟩
    unfold sPutT
    refine ⟨ts.map fun e => kP e.1, ts.map fun e => .int e.2, rfl, ?_⟩
    walk_at "dred"
    refine ⟨r.n, rok.int, rok.cl, kP (r.a, r.b), rfl, ?_, ?_, ?_⟩
    · intro z
      obtain ⟨e, he, ee⟩ := List.mem_map.mp z
      exact hn (List.mem_map.mpr ⟨e, he, kP_inj ee⟩)
    · rw [List.length_map]
      exact small1000 (by omega)
    · have e1 : (ts.map (fun e => kP e.1) ++ [kP (r.a, r.b)]) = (ts ++ [((r.a, r.b), r.n)]).map fun e => kP e.1 := by rw [List.map_append]; rfl
      have e2 : (ts.map (fun e => D.int e.2) ++ [D.int r.n]) = (ts ++ [((r.a, r.b), r.n)]).map fun e => D.int e.2 := by rw [List.map_append]; rfl
      rw [e1, e2]
      exact hx _ _ _ _ _
  · walk_at "dred"
    unfold dSplit
    walk_at "dred"
    rw [atI_head]
    walk_at "dred"
    refine ⟨by decide, Nat.le_of_lt (small1000 (by omega)), ?_⟩
    rw [ok.sp]
    exact ⟨ps, rowsTs rs, rfl, rfl, ok.made, q⟩
end
/-! ### a good net is one -/
theorem inP_of {ps : List Str} {x : Str} (h : x ∈ ps) : inP ps x = true := by
  unfold inP inV
  rw [List.any_eq_true]
  refine ⟨.str x, List.mem_map.mpr ⟨x, h, rfl⟩, ?_⟩
  show eqV (.str x) (.str x) = true
  first | rfl | (unfold eqV; simp) | simp
theorem okStr8 {x : Str} (h : x.length ≤ 8 ∧ ∀ c ∈ x.cps.toList, c < 128) : okStr x := ⟨by omega, h.2⟩
theorem val_le : ∀ {ts : Ties}, (∀ e ∈ ts, 1 ≤ e.2) → ∀ e ∈ ts, e.2 ≤ (ts.map (·.2)).sum
  | [], _, _, h => by cases h
  | f :: r, h, e, he => by
    have h1 := h f List.mem_cons_self
    have h2 : ∀ e ∈ r, 1 ≤ e.2 := fun e he => h e (List.mem_cons_of_mem _ he)
    have nn : ∀ {ts : Ties}, (∀ e ∈ ts, 1 ≤ e.2) → 0 ≤ (ts.map (·.2)).sum := by
      intro ts h
      induction ts with
      | nil => simp
      | cons e r ih =>
        have a := h e List.mem_cons_self
        have b := ih fun f hf => h f (List.mem_cons_of_mem _ hf)
        rw [List.map_cons, List.sum_cons]
        omega
    rw [List.map_cons, List.sum_cons]
    rcases List.mem_cons.mp he with rfl | he
    · have := nn h2
      omega
    · have := val_le h2 e he
      omega
theorem tiesB_of {n : Int} {ps : List Str} {ts : Ties} (g : GoodB n ps ts) (hw : ∀ p ∈ ps, wordS p = true) (hn : n ≤ 60) : tiesB ps ts = true := by
  unfold tiesB
  rw [Bool.and_eq_true, Bool.and_eq_true, List.all_eq_true, List.all_eq_true]
  have hs := g.sum
  refine ⟨fun e he => ?_, fun e he => ?_, decide_eq_true (by omega)⟩
  · obtain ⟨k1, k2, k3⟩ := g.keys e he
    unfold pairOk
    have e3 : ltB (.str e.1.1) (.str e.1.2) = true := k3
    have e1 : wordB (.str e.1.1) = true := hw _ k1
    have e2 : wordB (.str e.1.2) = true := hw _ k2
    rw [e1, e2, e3, inP_of k1, inP_of k2]
    rfl
  · have h1 := g.pos e he
    have h2 := val_le g.pos e he
    unfold tieOk
    rw [Bool.and_eq_true]
    refine ⟨?_, decide_eq_true h1⟩
    show decide ((if e.2 < 0 then -e.2 else e.2) < topInt) = true
    rw [if_neg (by omega)]
    have ht : (61 : Int) < topInt := by decide +kernel
    exact decide_eq_true (by omega)
theorem GoodN.b {ps : List Str} {ts : Ties} (g : GoodN ps ts) : GoodB 22 ps ts := ⟨g.keys, g.nodup, g.pos, g.sum⟩
theorem made_of {n : Int} {ps : List Str} {ts : Ties} (asc : ps.Pairwise fun a b => ltS a b = true) (hw : ∀ p ∈ ps, wordS p = true ∧ p.length ≤ 8 ∧ ∀ c ∈ p.cps.toList, c < 128) (h1 : 1 ≤ ps.length) (h9 : ps.length ≤ 9) (g : GoodB n ps ts) (hn : n ≤ 60) : MadeOk ps ts := by
  have tl := g.len
  refine ⟨by omega, g.nodup, fun p hp => okStr8 (hw p hp).2, fun e he => ?_, ?_, tiesB_of g (fun p hp => (hw p hp).1) hn⟩
  · obtain ⟨k1, k2, _⟩ := g.keys e he
    exact ⟨okStr8 (hw _ k1).2, okStr8 (hw _ k2).2⟩
  · unfold placesB
    rw [decide_eq_true h1, decide_eq_true h9, decide_eq_true (asc_nodup asc), Bool.true_and, Bool.true_and, Bool.and_true, List.all_eq_true]
    exact fun p hp => (hw p hp).1
theorem GoodN.made {ps : List Str} {ts : Ties} (g : GoodN ps ts) : MadeOk ps ts := by
  have h2 := g.two
  have h6 := g.six
  exact made_of g.asc g.words (by omega) (by omega) g.b (by omega)
theorem sortTi_perm {ts : Ties} (nd : (ts.map (·.1)).Nodup) : (sortTi ts).Perm ts := by
  have e : ts = (ts.map (·.1)).map fun k => (k, getT ts k) := by
    rw [List.map_map]
    conv => lhs; rw [← List.map_id ts]
    exact List.map_congr_left fun e he => by
      show e = (e.1, getT ts e.1)
      rw [getT_of nd he]
  unfold sortTi
  conv => rhs; rw [e]
  exact (List.mergeSort_perm _ _).map _
theorem made_mg {n : Int} {ps qs : List Str} {ts : Ties} (asc : ps.Pairwise fun a b => ltS a b = true) (g : GoodB n ps ts) (pm : qs.Perm ps) (srt : sortedS qs = true) : MG qs (sortTi ts) := by
  have p := sortTi_perm g.nodup
  refine ⟨sorted_asc srt (pm.nodup_iff.mpr (asc_nodup asc)), fun e he => ?_, (p.map _).nodup_iff.mpr g.nodup, fun e he => g.pos e (p.mem_iff.mp he)⟩
  obtain ⟨k1, k2, k3⟩ := g.keys e (p.mem_iff.mp he)
  exact ⟨pm.mem_iff.mpr k1, pm.mem_iff.mpr k2, k3⟩
/-! ### loops and comprehensions of which only a property is kept -/
theorem dFor_inv {is : List Nat} {g : DTG} {body : DTS} {E : DEnds} (P : SEnv → Prop) :
    ∀ (xs : List D) (ρ : SEnv), (∀ x ∈ xs, ∀ ρ, P ρ → ∀ E2 : DEnds, (∀ ρ, P ρ → E2.nx ρ) → E2.rt = E.rt → g x fun ys => body E2 (setAllS ρ is ys)) → P ρ → (∀ ρ, P ρ → E.nx ρ) → dFor is g body E xs ρ
  | [], ρ, _, hp, q => q ρ hp
  | x :: xs, ρ, st, hp, q => st x List.mem_cons_self ρ hp _ (fun ρ' hp' => dFor_inv P xs ρ' (fun y hy => st y (List.mem_cons_of_mem _ hy)) hp' q) rfl
theorem lcL_each {f : D → (List D → Prop) → Prop} (P : D → Prop) : ∀ {xs : List D} {Q : List D → Prop}, (∀ a ∈ xs, ∀ K : List D → Prop, (∀ y, P y → K [y]) → f a K) → (∀ ys : List D, ys.length = xs.length → (∀ y ∈ ys, P y) → Q ys) → lcL f xs Q
  | [], Q, _, q => q [] rfl fun _ h => by cases h
  | x :: xs, Q, hf, q => hf x List.mem_cons_self _ fun y hy => lcL_each P (fun a ha => hf a (List.mem_cons_of_mem _ ha)) fun ys hl hys => q (y :: ys) (by rw [List.length_cons, List.length_cons, hl]) fun z hz => (List.mem_cons.mp hz).elim (fun e => by rw [e]; exact hy) (hys z)
theorem lcL_none {f : D → (List D → Prop) → Prop} : ∀ {xs : List D} {Q : List D → Prop}, (∀ a ∈ xs, ∀ K : List D → Prop, K [] → f a K) → Q [] → lcL f xs Q
  | [], Q, _, q => q
  | x :: xs, Q, hf, q => hf x List.mem_cons_self _ (lcL_none (fun a ha => hf a (List.mem_cons_of_mem _ ha)) q)
theorem dNe_nil {Q : D → Prop} (h : Q (.bl false)) : dNe (.lst []) (.lst []) Q := by
  show dPy true (.lst []) (.lst []) Q
  unfold dPy
  exact ⟨rfl, rfl, h⟩
/-! ### a statement by data within one that is not -/
def tAny (X : Cx) (st : Stmt) : TS := fun D' σ H => ∃ t, PS X st t ∧ t D' σ H
theorem ps_any {X : Cx} {st : Stmt} : PS X st (tAny X st) := ⟨fun pins s σ H D I ⟨t, p, q⟩ => p.run pins s σ H D I q⟩
def tAnys (X : Cx) (st : List Stmt) : TS := fun D' σ H => ∃ t, PSs X st t ∧ t D' σ H
theorem pss_any {X : Cx} {st : List Stmt} : PSs X st (tAnys X st) := ⟨fun pins s σ H D I ⟨t, p, q⟩ => p.run pins s σ H D I q⟩
theorem DS.any {X : Cx} {dc : Option Addr} {st : Stmt} {s : DTS} (h : DS X dc st s) {F0 H0 F H : Hp} {ρ : SEnv} {σ : L2.St} {E : DEnds} {D' : Ends} (I : SInv dc F0 H0 ρ σ F H) (L : Link dc F0 H0 E D') (hs : s E ρ) : tAny X st D' σ H :=
  let ⟨_, t, p, r⟩ := h
  ⟨t, p, r _ _ _ _ _ _ _ _ I L hs⟩
theorem DSs.any {X : Cx} {dc : Option Addr} {st : List Stmt} {s : DTS} (h : DSs X dc st s) {F0 H0 F H : Hp} {ρ : SEnv} {σ : L2.St} {E : DEnds} {D' : Ends} (I : SInv dc F0 H0 ρ σ F H) (L : Link dc F0 H0 E D') (hs : s E ρ) : tAnys X st D' σ H :=
  let ⟨_, t, p, r⟩ := h
  ⟨t, p, r _ _ _ _ _ _ _ _ I L hs⟩
/-- nothing is frozen yet: the slots that are told -/
theorem SInv.bare {dc : Option Addr} {H : Hp} {ρ : SEnv} {σ : L2.St} (hd : ∀ d, dc = some d → DiceAt H d) (hl : ρ.length = σ.length) (hv : ∀ (i : Nat) (x : D), ρ[i]? = some (.val x) → ∃ v, σ[i]? = some (some v) ∧ Rep dc (fun _ => none) x v) (ho : ∀ (i : Nat) (x : D), ρ[i]? ≠ some (.own x)) : SInv dc (fun _ => none) H ρ σ (fun _ => none) H :=
  have p : Pre dc (fun _ => none) H := ⟨(fun _ _ h => nomatch h), fun d e => ⟨hd d e, rfl⟩⟩
  ⟨p, .refl p, hl, hv, fun i x h => absurd h (ho i x), fun i _ x _ _ h => absurd h (ho i x)⟩
/-! ### written nets: their lines -/
instance okStr_d (z : Str) : Decidable (okStr z) := inferInstanceAs (Decidable (z.length ≤ 1000 ∧ ∀ c ∈ z.cps.toList, c < 128))
def rowB (r : RowT) : Bool := decide (r.z.length ≤ 900) && (decide (Txt.split r.z " " = [r.a, r.b, r.c]) && (decide (okStr r.a) && (decide (okStr r.b) && (wordS r.a && (wordS r.b && (ltS r.a r.b && (decide (r.c ∈ numsS) && (decide (PySem.intText? r.c = some r.n) && decide (r.c.length ≤ 640)))))))))
theorem rowB_ok {r : RowT} (h : rowB r = true) : r.ok := by
  unfold rowB at h
  simp only [Bool.and_eq_true, decide_eq_true_eq] at h
  obtain ⟨h1, h2, h3, h4, h5, h6, h7, h8, h9, h10⟩ := h
  exact ⟨h1, h2, h3, h4, h5, h6, h7, h8, h9, h10⟩
def ascB : List Str → List RowT → Bool
  | _, [] => true
  | ahead, r :: rs => !leTS [r.a, r.b] ahead && ascB [r.a, r.b] rs
theorem ascB_ok : ∀ {ahead : List Str} {rs : List RowT}, ascB ahead rs = true → rowsAsc ahead rs
  | _, [], _ => trivial
  | ahead, r :: rs, h => by
    unfold ascB at h
    rw [Bool.and_eq_true] at h
    exact ⟨by simpa using h.1, ascB_ok h.2⟩
def readB (z0 : Str) (ps : List Str) (rs : List RowT) : Bool :=
  decide (z0.length ≤ 900) && (decide (Txt.split z0 " " = ps) && (decide (ps.length ≤ 9) && (decide (∀ x ∈ ps, okStr x) && (ps.all wordS && (ascS ps && (rs.all rowB && (ascB [] rs && (decide ((rowsTs rs).map (·.1)).Nodup && (decide (rs.length < 500) && (placesB ps && tiesB ps (rowsTs rs)))))))))))
theorem readB_ok {z0 : Str} {ps : List Str} {rs : List RowT} (h : readB z0 ps rs = true) : ReadOk z0 ps rs := by
  unfold readB at h
  simp only [Bool.and_eq_true, decide_eq_true_eq] at h
  obtain ⟨h1, h2, h3, h4, h5, h6, h7, h8, h9, h10, h11, h12⟩ := h
  have rk : ∀ r ∈ rs, r.ok := fun r hr => rowB_ok (List.all_eq_true.mp h7 r hr)
  refine ⟨h1, h2, by omega, h4, h5, h6, rk, ascB_ok h8, h9, h10, by unfold rowsTs; rw [List.length_map]; omega, h9, h4, fun e he => ?_, h11, h12⟩
  unfold rowsTs at he
  obtain ⟨r, hr, rfl⟩ := List.mem_map.mp he
  exact ⟨(rk r hr).oa, (rk r hr).ob⟩
theorem asc_uniq : ∀ {l m : List Str}, l.Perm m → (l.Pairwise fun a b => ltS a b = true) → (m.Pairwise fun a b => ltS a b = true) → l = m
  | [], m, h, _, _ => h.nil_eq
  | x :: l, [], h, _, _ => absurd h.length_eq (by simp)
  | x :: l, y :: m, h, h1, h2 => by
    have hx := List.pairwise_cons.mp h1
    have hy := List.pairwise_cons.mp h2
    have e : x = y := by
      rcases List.mem_cons.mp (h.mem_iff.mp (List.mem_cons_self (a := x) (l := l))) with z | z
      · exact z
      · rcases List.mem_cons.mp (h.mem_iff.mpr (List.mem_cons_self (a := y) (l := m))) with w | w
        · exact w.symm
        · have a := hy.1 x z
          have b := hx.1 y w
          rw [ltS_asymm a] at b
          cases b
    subst e
    rw [asc_uniq ((List.perm_cons x).mp h) hx.2 hy.2]
theorem sorted_eq {ps qs : List Str} (asc : ps.Pairwise fun a b => ltS a b = true) (pm : qs.Perm ps) (srt : sortedS qs = true) : qs = ps :=
  asc_uniq pm (sorted_asc srt (pm.nodup_iff.mpr (asc_nodup asc))) asc
theorem tbS_written {ps : List Str} {ts : Ties} (g : MG ps (sortTi ts)) (nd : (ts.map (·.1)).Nodup) {a b : List Str} (na : a.Nodup) (nb : b.Nodup) (hd : ∀ x ∈ a, x ∉ b) : tbS (sortTi ts) a b = sumT (joinI a b) ts := by
  rw [tbS_sum g na nb hd, sumT_perm (sortTi_perm nd)]
def ringR : List RowT := [⟨"a b 1", "a", "b", "1", 1⟩, ⟨"a e 1", "a", "e", "1", 1⟩, ⟨"b c 1", "b", "c", "1", 1⟩, ⟨"c d 1", "c", "d", "1", 1⟩, ⟨"d e 1", "d", "e", "1", 1⟩]
def hubR : List RowT := [⟨"a b 1", "a", "b", "1", 1⟩, ⟨"a c 1", "a", "c", "1", 1⟩, ⟨"a z 2", "a", "z", "2", 2⟩, ⟨"b c 1", "b", "c", "1", 1⟩, ⟨"b z 1", "b", "z", "1", 1⟩, ⟨"c z 1", "c", "z", "1", 1⟩]
theorem ring_read : ReadOk "a b c d e" ["a", "b", "c", "d", "e"] ringR := readB_ok (by decide +kernel)
theorem hub_read : ReadOk "a b c z" ["a", "b", "c", "z"] hubR := readB_ok (by decide +kernel)
theorem ring_goodB : GoodB 60 ["a", "b", "c", "d", "e"] (rowsTs ringR) := ⟨by decide +kernel, by decide +kernel, by decide +kernel, by decide +kernel⟩
theorem hub_goodB : GoodB 60 ["a", "b", "c", "z"] (rowsTs hubR) := ⟨by decide +kernel, by decide +kernel, by decide +kernel, by decide +kernel⟩
theorem ring_asc : (["a", "b", "c", "d", "e"] : List Str).Pairwise fun a b => ltS a b = true := by decide +kernel
theorem hub_asc : (["a", "b", "c", "z"] : List Str).Pairwise fun a b => ltS a b = true := by decide +kernel
instance lotOk_d (ps l : List Str) : Decidable (LotOk ps l) := decidable_of_iff ((∀ x ∈ l, x ∈ ps) ∧ l.Pairwise fun a b => ltS a b = true) ⟨fun ⟨a, b⟩ => ⟨a, b⟩, fun ⟨a, b⟩ => ⟨a, b⟩⟩
/-! ### bits, kept ranges, enumerate of a tuple, sorted lots -/
section
variable {X : Cx} {dc : Option Addr}
theorem opd_fdiv : OpD X dc (binaryOp .FloorDiv) (fun x y Q => asInt x fun i => asInt y fun j => CDiv i j ∧ Q (.int (i / j))) := .ints op_fdiv fun _ _ _ => .int _
theorem opd_shl : OpD X dc (binaryOp .LShift) (fun x y Q => asInt x fun i => asInt y fun j => CPow i j ∧ Q (.int (i * 2 ^ j.toNat))) := .ints op_shl fun _ _ _ => .int _
theorem opd_shr : OpD X dc (binaryOp .RShift) (fun x y Q => asInt x fun i => asInt y fun j => 0 ≤ j ∧ Q (.int (i / 2 ^ j.toNat))) := .ints op_shr fun _ _ _ => .int _
theorem opd_band : OpD X dc (binaryOp .BitAnd) (fun x y Q => asInt x fun i => asInt y fun j => Q (.int (Builtin.bitAnd i j))) := .ints0 op_and fun _ _ _ => .int _
theorem opd_bor : OpD X dc (binaryOp .BitOr) (fun x y Q => asInt x fun i => asInt y fun j => Q (.int (Builtin.bitOr i j))) := .ints0 op_or fun _ _ _ => .int _
/-- range(i, j), kept under a name -/
def intTwo (xs : List D) (Q : Int → Int → Prop) : Prop := match xs with | [.int i, .int j] => Q i j | _ => False
theorem intTwo.inv {xs : List D} {Q : Int → Int → Prop} (h : intTwo xs Q) : ∃ i j, xs = [.int i, .int j] ∧ Q i j := by
  unfold intTwo at h
  split at h
  · exact ⟨_, _, rfl, h⟩
  · exact h.elim
theorem cd_rangeV : CallD X dc (.type "range") (fun xs Q => intTwo xs fun i j => Q (.rng i j)) := by
  refine ⟨fun xs P P' hP h => ?_, _, cr_range2, fun F H xs vs Q p r h => ?_⟩
  · obtain ⟨i, j, rfl, q⟩ := h.inv
    exact hP _ q
  · obtain ⟨i, j, rfl, q⟩ := h.inv
    cases r with
    | cons a b =>
    cases b with
    | cons b c =>
    cases c
    cases a
    cases b
    refine ⟨i, j, rfl, fun t nt => ?_⟩
    have e := Ext.new p (o := .rng i j) nt upd_same
    exact q _ _ _ e (.rng upd_same)
/-- a kept range, walked -/
theorem pi_rng {tg e : Expr} {te : TE} (he : PE X e te) : PI X tg e (fun σ H R => te σ H fun v H1 => ∃ a lo hi, v = .ref a ∧ H1 a = some (.rng lo hi) ∧ (-(2 ^ 62) ≤ lo ∧ lo < 2 ^ 62 ∧ -(2 ^ 62) ≤ hi ∧ hi < 2 ^ 62) ∧ R (Itr lo (hi - lo).toNat) H1) := by
  refine ⟨fun pins s σ H R I h => thn (he.run pins s σ H _ I h) fun u s1 hu => ?_⟩
  obtain ⟨v, H1, I1, r1, a, lo, hi, ev, ea, hb, q⟩ := hu
  subst ev
  cases r1
  obtain ⟨t, y, z, eg⟩ : ∃ t y z, s1.heap.get? a = some { cls := .type "range", data := .fields #[.int lo t, .int hi y, .int 1 z] } := I1.hok a _ ea
  refine wpAny_pyIter_range (show IsRange s1.heap a lo hi 1 t y z from eg) (small_one hb.1 hb.2.1 hb.2.2.1 hb.2.2.2) ?_
  have hn : H1 s1.heap.objs.size = none := I1.hok.fresh (Nat.le_refl _)
  refine ⟨s1.heap.objs.size, [s1.heap.objs.size], _, _, H1, rfl, I1.kept (t' := s1.toks) fun b o g => Heap.get?_push_of_some _ g, turn_range _ lo (hi - lo).toNat, ?_, fun b hm => ?_, q⟩
  · have g1 : lo + ((0 : Nat) : Int) * 1 = lo := by omega
    have g2 : (((hi - lo).toNat : Nat) : Int) - ((0 : Nat) : Int) = Builtin.Range.rangeSize lo hi 1 := by
      rw [rangeSize_one]
      split <;> omega
    show IsRangeIter _ _ (lo + ((0 : Nat) : Int) * 1) ((((hi - lo).toNat : Nat) : Int) - 0) 1
    rw [g1]
    rw [show (((hi - lo).toNat : Nat) : Int) - 0 = _ from g2]
    exact Heap.get?_push_size _ rfl
  · rw [List.mem_singleton.mp hm]
    exact I1.fpOk (Nat.le_refl _) hn
def asRng (x : D) (Q : Int → Int → Prop) : Prop := match x with | .rng i j => Q i j | _ => False
theorem asRng.inv {x : D} {Q : Int → Int → Prop} (h : asRng x Q) : ∃ i j, x = .rng i j ∧ Q i j := by cases x <;> first | exact ⟨_, _, rfl, h⟩ | exact h.elim
def iRngV (d : DT) : DTI := fun ρ Q => d ρ fun x => asRng x fun i j => (-(2 ^ 62) ≤ i ∧ i < 2 ^ 62 ∧ -(2 ^ 62) ≤ j ∧ j < 2 ^ 62) ∧ Q ((List.range (j - i).toNat).map fun (k : Nat) => D.int (i + k))
theorem di_rng {tg e : Expr} {d : DT} (h : DE X dc e d) : DI X dc tg e (iRngV d) := by
  have m := h.mono
  obtain ⟨t, pt, rt⟩ := h.get
  refine DI.mk' (fun ρ P P' hP q => m _ _ _ (fun x q => ?_) q) (pi_rng pt) fun ρ σ F H R p s q => rt p s q fun x v F1 H1 h e1 r1 => ?_
  · obtain ⟨i, j, rfl, hb, hq⟩ := q.inv
    exact ⟨hb, hP _ hq⟩
  · obtain ⟨i, j, rfl, hb, hq⟩ := h.inv
    cases r1 with
    | @rng a _ _ ea => exact ⟨a, i, j, rfl, e1.pre.sub _ _ ea, hb, hq _ _ _ e1 iter_rg⟩
end
/-! enumerate(t) -/
section
variable {prog : Program} {w : World} {A : Around} {E : Value → Shared → Prop} {s : Shared}
set_option maxHeartbeats 1000000 in
theorem meets_enum1 {z : Value} {ob : Obj} {Hh : Heap → Prop} (bg : Begins z ob Hh) :
    Meets (Builtin.«enumerate.__new__» ⟨[.type "enumerate", z], []⟩) (fun _ R s => Hh s.heap ∧ R (.ok (.ret (.ref (s.heap.push ob).objs.size)))
      { s with heap := (s.heap.push ob).push ({ cls := .type "enumerate", data := .fields #[.none, .bool false, .ref s.heap.objs.size, rawInt 0, .none, .none] } : Obj) }) :=
  .of_wp fun prog w A R s hyp => by
    obtain ⟨hp, gg, dd, tt, oo⟩ := s
    obtain ⟨begun, hyp⟩ := hyp
    have hsub := sub_enumerate
    have iterq : ∀ {A' : Around} {E : Value → Shared → Prop} {Q : Value → Shared → Prop}, Q (.ref hp.objs.size) ⟨hp.push ob, gg, dd, tt, oo⟩ →
        wpAny (model prog w) A' (pyIter z) Q E ⟨hp, gg, dd, tt, oo⟩ := fun q => bg.iter prog w _ _ ⟨hp, gg, dd, tt, oo⟩ _ begun q
    wp_walk using iterq
    refine wpAny_stack_any fun _ => wpAny_pure ?_
    split
    · rename_i c _ _ _ _ _
      cases (c == Value.type "enumerate")
      · wp_walk using iterq
        exact ⟨_, rfl, hyp⟩
      · wp_walk using iterq
        exact ⟨_, rfl, hyp⟩
    · wp_walk using iterq
      exact ⟨_, rfl, hyp⟩
theorem enum1_begins {z : Value} {ob : Obj} {Hh : Heap → Prop} {Q : Value → Shared → Prop} (bg : Begins z ob Hh) (begun : Hh s.heap)
    (fin : ∀ h', IsEnum h' (s.heap.objs.size + 1) s.heap.objs.size 0 .none → h'.get? s.heap.objs.size = some ob → (∀ b o, s.heap.get? b = some o → h'.get? b = some o) → Q (.ref (s.heap.objs.size + 1)) { s with heap := h' }) :
    wpAny (model prog w) A (call (.type "enumerate") [z]) Q E s := by
  refine callType_new F.called_enumerate (by decide) (F.typeCall_enumerate_1 _) (F.newCall_enumerate_1 _)
    (fun obj => F.args_object_init_2 obj _) F.entry_enumerate_new (meets_enum1 bg) ⟨begun, ?_⟩
  have hz : (s.heap.push ob).objs.size = s.heap.objs.size + 1 := Heap.size_push ..
  show _ ∧ _
  rw [hz]
  have he : IsEnum ((s.heap.push ob).push { cls := .type "enumerate", data := .fields #[.none, .bool false, .ref s.heap.objs.size, rawInt 0, .none, .none] })
      (s.heap.objs.size + 1) s.heap.objs.size 0 .none := by
    have g := Heap.get?_push_size (s.heap.push ob)
      (o := { cls := .type "enumerate", data := .fields #[.none, .bool false, .ref s.heap.objs.size, rawInt 0, .none, .none] }) rfl
    rw [hz] at g
    exact g
  exact ⟨⟨_, he, rfl⟩, fin _ he (Heap.get?_push_of_some _ (Heap.get?_push_size _ bg.free)) fun b o x => Heap.get?_push_of_some _ (Heap.get?_push_of_some _ x)⟩
end

theorem pi_enum0 {X : Cx} {e : Expr} {ta : TA} {p pos tpos : Pos} {elts : List Expr} {kk : Nat} (hg : Gl X "enumerate") (hm : X.mg "enumerate" = none) (ha : PA X [e] ta)
    (hs : starEach [e] X.env = [(false, eval e X.env)] := by rfl) : PI X (.Tuple elts kk tpos) (.Call (.Name "enumerate" p) [e] [] pos) (fun σ H R => ta σ H fun vs H1 => ∃ a xs, vs = [.ref a] ∧ SqT X.K H1 a xs ∧ R (IteT X.K a 0) H1) := by
  refine ⟨fun pins s σ H R I h => Call_ (ld_blt I hg hm boot_enumerate (PyProof.Rows.callWith_type1 (thn (ha.run pos pins s σ H _ I h) fun us s2 ⟨vs, H2, I2, r2, q2⟩ => ?_) hs rfl))⟩
  obtain ⟨a, xs, ex, hq, q⟩ := q2
  subst ex
  cases r2 with
  | cons r rr =>
  cases rr
  cases r
  obtain ⟨its, rv, pl, hz⟩ := I2.tuple hq
  refine enum1_begins (begins_tuple a its.toArray) pl fun h' he hit hkk => wpAny_pyIter_enum he ?_
  have I3 : Inv X pins σ H2 { s2 with heap := h' } := I2.kept (t' := s2.toks) hkk
  refine ⟨s2.heap.objs.size + 1, [s2.heap.objs.size + 1, s2.heap.objs.size], _, _, H2, rfl, I3, turn_enumT a (s2.heap.objs.size + 1) s2.heap.objs.size 0, ⟨⟨.none, ?_⟩, ⟨_, hit, rfl, rfl⟩, Nat.succ_ne_self _⟩, fun b hb => ?_, q⟩
  · rw [show (0 : Int) + ((0 : Nat) : Int) = 0 by omega]
    exact he
  have e' : b = s2.heap.objs.size + 1 ∨ b = s2.heap.objs.size := by simpa using hb
  have hle : s2.heap.objs.size ≤ b := by
    rcases e' with z | z
    · rw [z]; exact Nat.le_add_right _ _
    · rw [z]; exact Nat.le_refl _
  exact I2.fpOk hle (I2.hok.fresh hle)
section
variable {X : Cx} {dc : Option Addr} {e : Expr} {d : DT} {pos : Pos}
theorem di_enum0 {p tpos : Pos} {elts : List Expr} {kk : Nat} (hg : Gl X "enumerate") (hm : X.mg "enumerate" = none) (ha : DE X dc e d) (hs : starEach [e] X.env = (false, eval e X.env) :: starEach [] X.env := by rfl) :
    DI X dc (.Tuple elts kk tpos) (.Call (.Name "enumerate" p) [e] [] pos) (iEnumD 0 d) := by
  have m := ha.mono
  obtain ⟨t, pt, rt⟩ := ha.get
  refine DI.mk' (fun ρ P P' hP q => m _ _ _ (fun x q => asTup.mono (fun xs q => hP _ q) q) q) (pi_enum0 hg hm (pa_cons pt pa_nil hs) hs) fun ρ σ F H R p s q => rt p s q fun x v F1 H1 h e1 r1 => ?_
  obtain ⟨xs, rfl, h⟩ := h.inv
  cases r1 with
  | @tup a _ vs ea ra =>
  have ha := e1.pre.sub _ _ ea
  have na : F1 a ≠ none := by rw [ea]; exact fun z => nomatch z
  refine ⟨a, vs, rfl, .of ha, h _ _ _ e1 ⟨fun i H' hi kp => ?_, fun H' kp => ?_, fun i F' H' v H'' hi pr fs kp yy => ?_⟩⟩
  · rw [enumD_len] at hi
    obtain ⟨v, hv, _⟩ := ra.get (List.getElem?_eq_getElem hi)
    exact ⟨vs, v, .of (kp _ _ na ha), hv⟩
  · rw [enumD_len, ra.length]
    exact ⟨vs, .of (kp _ _ na ha), Nat.le_refl _⟩
  · obtain ⟨T, v1, rfl, nT, rfl, h1⟩ := yy
    obtain ⟨x1, hx1, rx1⟩ := ra.get' (h1 _ (.of (kp _ _ na ha)))
    obtain ⟨e2, r2⟩ := Ext.tup2 pr nT (.int (0 + (i : Int))) (rx1.mono fs)
    exact ⟨_, _, enumD_get _ _ _ _ hx1, e2, r2⟩
end
/-! ### sorted(list) of tuples of texts, none of them empty -/
def lD (l : List Str) : PyData := .tuple (l.map PyData.str)
def ltL (x y : List Str) : Bool := PySem.W.dataLt (lD x) (lD y)
def leL (x y : List Str) : Bool := !ltL y x
theorem alikeStrs : ∀ (x y : List Str), PySem.W.alikeAll (x.map PyData.str) (y.map PyData.str) = true
  | [], _ => by simp [PySem.W.alikeAll]
  | _ :: _, [] => by simp [PySem.W.alikeAll]
  | a :: x, b :: y => by
    rw [List.map_cons, List.map_cons, PySem.W.alikeAll, alikeStrs x y]
    rfl
theorem alikeL (x y : List Str) : PySem.W.alike (lD x) (lD y) = true := by
  unfold lD
  rw [PySem.W.alike]
  exact alikeStrs x y
theorem depthStrs : ∀ (x : List Str), PyData.depthAll (x.map PyData.str) = 0
  | [] => by simp [PyData.depthAll]
  | a :: x => by
    rw [List.map_cons, PyData.depthAll, depthStrs x]
    simp [PyData.depth]
theorem depthL (x : List Str) : (lD x).depth ≤ 1 := by
  unfold lD
  rw [PyData.depth, depthStrs]
  omega
section
variable {prog : Program} {w : World} {A : Around} {s : Shared}
theorem sorts_lots {bs : List Addr} {ks : List (List Str)} (h : Paired (fun b k => ∃ as, Reads s.heap (.ref b) (lD k) as) bs ks) (hne : ∀ k ∈ ks, k ≠ []) (hu : A.units + 66 < cLine) :
    PySem.W.SortsAt prog w A s (PySem.W.dataKind s.heap (ks.map lD)) (bs.map Value.ref) ∧
    PySem.W.sortVals (PySem.W.dataKind s.heap (ks.map lD)) false (bs.map Value.ref) (bs.map Value.ref) = ((bs.zip ks).mergeSort fun x y => leL x.2 y.2).map fun x => Value.ref x.1 := by
  have hal : PySem.W.AllAlike (ks.map lD) := fun d hd d' hd' => by
    obtain ⟨x, _, rfl⟩ := List.mem_map.mp hd
    obtain ⟨y, _, rfl⟩ := List.mem_map.mp hd'
    exact alikeL x y
  have hso : PySem.W.Sortable (ks.map lD) := .inl fun d hd => by
    obtain ⟨x, hx, rfl⟩ := List.mem_map.mp hd
    cases x with
    | nil => exact absurd rfl (hne _ hx)
    | cons a r => exact ⟨.str a, r.map PyData.str, rfl⟩
  have gen1 : ∀ {bs' : List Addr} {ks' : List (List Str)}, Paired (fun b k => ∃ as, Reads s.heap (.ref b) (lD k) as) bs' ks' → PySem.W.EachIs (fun v d => ∃ as, Reads s.heap v d as) (bs'.map Value.ref) (ks'.map lD) := by
    intro bs' ks' h
    induction h with
    | nil => exact .nil
    | cons r _ ih => exact .cons r ih
  have e1 := gen1 h
  refine ⟨PySem.W.SortsAt.data e1 hal hso fun d hd => ?_, ?_⟩
  · obtain ⟨x, _, rfl⟩ := List.mem_map.mp hd
    have := depthL x
    omega
  · have hl : bs.length = ks.length := h.length
    have gen2 : ∀ {bs' : List Addr} {ks' : List (List Str)}, bs'.length = ks'.length → PySem.W.EachIs (fun (v : Value) (b : Addr × List Str) => v = Value.ref b.1) (bs'.map Value.ref) (bs'.zip ks') := by
      intro bs'
      induction bs' with
      | nil => intro ks' _; exact .nil
      | cons b r ih =>
        intro ks' hh
        cases ks' with
        | nil => simp at hh
        | cons k t => exact .cons rfl (ih (by simpa using hh))
    have e2 := gen2 hl
    have gen : ∀ {bs' : List Addr} {ks' : List (List Str)}, Paired (fun b k => ∃ as, Reads s.heap (.ref b) (lD k) as) bs' ks' → (∀ k ∈ ks', k ∈ ks) →
        PySem.W.EachIs (fun (v : Value) (b : Addr × List Str) => (PySem.W.dataKind s.heap (ks.map lD)).keyOf v = some (PySem.W.keyToks (lD b.2))) (bs'.map Value.ref) (bs'.zip ks') := by
      intro bs' ks' h hk
      induction h with
      | nil => exact .nil
      | cons r _ ih =>
        obtain ⟨as, r⟩ := r
        exact .cons (PySem.W.dataKind_some hal (List.mem_map_of_mem (hk _ (List.mem_cons_self ..))) r) (ih fun k hk' => hk k (List.mem_cons_of_mem _ hk'))
    have e4 := PySem.W.sortVals_each (κ := PySem.W.dataKind s.heap (ks.map lD)) (rev := false) (fun b : Addr × List Str => PySem.W.keyToks (lD b.2)) e2 (gen h fun _ h => h)
    have e5 : ((bs.zip ks).mergeSort fun x y => leL x.2 y.2) = (bs.zip ks).mergeSort (PySem.W.sortLe (PySem.W.dataKind s.heap (ks.map lD)).toKeyOrd false fun b : Addr × List Str => PySem.W.keyToks (lD b.2)) := rfl
    rw [e5]
    generalize (bs.zip ks).mergeSort (PySem.W.sortLe (PySem.W.dataKind s.heap (ks.map lD)).toKeyOrd false fun b : Addr × List Str => PySem.W.keyToks (lD b.2)) = L at e4
    clear e5 e2 e1 h hl
    generalize PySem.W.sortVals _ _ _ _ = M at e4
    induction e4 with
    | nil => rfl
    | cons r _ ih => rw [List.map_cons, ← ih, r]
end
theorem vals_refs : ∀ {bs : List Addr} {its : List Value}, Vals (bs.map V.ref) its → its = bs.map Value.ref
  | [], _, h => by cases h; rfl
  | b :: r, _, h => by
    cases h with
    | cons a t =>
      rw [vals_refs t, List.map_cons]
      rw [show _ = Value.ref b from a]
theorem dp_lot {K : PySem.W.Frag} {H : Hp} {b : Addr} {k : List Str} (e : H b = some (.tup (k.map V.str))) : Dp K H (.ref b) (lD k) := by
  have gen : ∀ k : List Str, DpAll K H (k.map V.str) (k.map PyData.str) := fun k => by
    induction k with
    | nil => exact .nil
    | cons a r ih => exact .cons (.str _) ih
  exact .tup (.inl (.inl e)) (gen k)
section
variable {X : Cx}
theorem call_sortedL (hu : X.A.units + 80 < cLine) : CallR X (.builtin "sorted") (fun xs H Q => ∃ (a : Addr) (bs : List Addr) (ks : List (List Str)), xs = [.ref a] ∧ SqL X.K H a (bs.map V.ref) ∧ Paired (fun b k => H b = some (.tup (k.map V.str))) bs ks ∧ (∀ k ∈ ks, k ≠ []) ∧
    ∀ (p : Addr) (L : List (Addr × List Str)), H p = none → (∀ x ∈ L, x ∈ bs.zip ks) → L.map (·.2) = ks.mergeSort leL → Q (.ref p) (upd H p (.lst ((L.map (·.1)).map V.ref)))) := by
  intro pins s σ H xs us Q I r h
  obtain ⟨a, bs, ks, rfl, hs, kat, hne, q⟩ := h
  obtain ⟨its, rv, ⟨o, n, ho, hcl, hdc, hd⟩, hz⟩ := I.list hs
  rw [List.length_map] at hz
  rw [Vals.ref1 r]
  have ei := vals_refs rv
  subst ei
  refine Calls.call_function_entry PyProof.Rows.kind_sorted PyProof.Rows.plain_sorted PyProof.Rows.entry_sorted (PyProof.Rows.args_sorted1 _) ?_
  unfold Builtin.«sorted»
  refine wpAny_bind (m := checkCount "sorted" 1 1 _) (wpAny_pure ?_)
  refine wpAny_bind (wpAny_collect_seq a (.inl rfl) ho hcl hd (fun h' hk => ?_) (by rw [List.size_toArray, List.length_map]; exact hz))
  have lb : bs.length = ks.length := kat.length
  have I1 : Inv X pins σ H { s with heap := h' } := I.kept (t' := s.toks) hk
  refine wpAny_bind (wpAny_newList ?_ (by show (bs.map Value.ref).length ≤ _; rw [List.length_map]; exact hz))
  have hoL : (h'.push (seqObj "list" (bs.map Value.ref).toArray 0)).get? h'.objs.size = some (seqObj "list" (bs.map Value.ref).toArray 0) := Heap.get?_push_size _ rfl
  show wpAny _ _ _ _ _ { s with heap := h'.push (seqObj "list" (bs.map Value.ref).toArray 0) }
  have far : ∀ b o, h'.get? b = some o → (PySem.W.sortingHeap (h'.push (seqObj "list" (bs.map Value.ref).toArray 0)) h'.objs.size (bs.map Value.ref)).get? b = some o := fun b o e =>
    PySem.W.sortingHeap_old (Nat.ne_of_lt (Heap.lt_size e)) (Heap.get?_push_of_some _ e)
  have rds : Paired (fun b (k : List Str) => ∃ as, Reads (PySem.W.sortingHeap (h'.push (seqObj "list" (bs.map Value.ref).toArray 0)) h'.objs.size (bs.map Value.ref)) (.ref b) (lD k) as) bs ks :=
    Paired.mapP kat fun b k e => by
      obtain ⟨as, rd⟩ := Dp.reads I1 (lD k) (.ref b) (.ref b) (dp_lot e) rfl
      exact ⟨as, Reads.keeps far rd⟩
  obtain ⟨S1, S2⟩ := sorts_lots (prog := X.prog) (w := X.w) (A := X.A.in1.in1) (s := { s with heap := PySem.W.sortingHeap (h'.push (seqObj "list" (bs.map Value.ref).toArray 0)) h'.objs.size (bs.map Value.ref) }) rds hne (by show X.A.units + 1 + 1 + 66 < cLine; omega)
  have hz2 : (bs.map Value.ref).length ≤ sizeLine := by rw [List.length_map]; omega
  refine wpAny_bind (wpAny_holding (wpAny_call_entry PyProof.Rows.slot_list_sort ⟨_, hoL, rfl⟩ PyProof.Rows.entry_list_sort
    (PySem.W.list_sort_vals (s := { s with heap := h'.push (seqObj "list" (bs.map Value.ref).toArray 0) }) hoL S1 hz2 ⟨_, rfl, ?_⟩) (PyProof.Rows.args_list_sort _)))
  rw [S2]
  have eL : ((bs.zip ks).mergeSort fun x y => leL x.2 y.2).map (·.2) = ks.mergeSort leL := by
    rw [PySem.W.sort_maps (s := leL) (fun x : Addr × List Str => x.2) (fun a _ b _ => rfl), zip_snd lb]
  have pL : ∀ x ∈ (bs.zip ks).mergeSort fun x y => leL x.2 y.2, x ∈ bs.zip ks := fun x hx => (List.mergeSort_perm _ _).subset hx
  have nL : ((bs.zip ks).mergeSort fun x y => leL x.2 y.2).length = ks.length := by
    rw [(List.mergeSort_perm _ _).length_eq, List.length_zip, lb, Nat.min_self]
  generalize ((bs.zip ks).mergeSort fun x y => leL x.2 y.2) = L at eL pL nL
  obtain ⟨e', he'⟩ := PyProof.Rows.sortedHeap_at (vs := bs.map Value.ref) (out := (L.map fun x => Value.ref x.1).toArray) hoL
  have new : H h'.objs.size = none := I1.hok.fresh (Nat.le_refl _)
  have rv2 : Vals ((L.map (·.1)).map V.ref) (L.map fun x => Value.ref x.1) := by
    clear pL eL nL he'
    induction L with
    | nil => exact .nil
    | cons x r ih => exact .cons rfl ih
  refine wpAny_pure ⟨_, rfl, .ref h'.objs.size, upd H h'.objs.size (.lst ((L.map (·.1)).map V.ref)), I1.laid (t' := s.toks) (fun b u e => ?_) (Nat.le_refl _)
    (show ObjOk X.prog X.w _ _ _ (.lst ((L.map (·.1)).map V.ref)) from ⟨by rw [List.length_map, List.length_map]; omega, L.map fun x => Value.ref x.1, e', rv2, he'⟩), rfl, q _ L new pL eL⟩
  have hb : b < h'.objs.size := Heap.lt_size e
  rw [PyProof.Rows.sortedHeap_old (Nat.ne_of_lt hb) (by rw [size_push']; exact Nat.lt_succ_of_lt hb)]
  exact Heap.get?_push_of_some _ e
end
section
variable {X : Cx} {dc : Option Addr}
theorem reps_lots {F : Hp} : ∀ {ks : List (List Str)} {vs : List V}, Reps dc F (ks.map lotD) vs → ∃ bs : List Addr, vs = bs.map V.ref ∧ Paired (fun b k => F b = some (.tup (k.map V.str))) bs ks
  | [], _, h => by cases h; exact ⟨[], rfl, .nil⟩
  | k :: r, _, h => by
    cases h with
    | cons a t =>
      obtain ⟨b, rfl, e⟩ := tup_strs a
      obtain ⟨bs, rfl, p⟩ := reps_lots t
      exact ⟨b :: bs, rfl, .cons e p⟩
theorem lots_reps {F : Hp} {ks : List (List Str)} {bs : List Addr} (h : Paired (fun b k => F b = some (.tup (k.map V.str))) bs ks) : Reps dc F (ks.map lotD) (bs.map V.ref) := by
  induction h with
  | nil => exact .nil
  | @cons b k _ _ r _ ih => exact .cons (.tup r (Reps.strs k)) ih
def asLots (x : D) (Q : List (List Str) → Prop) : Prop := ∃ ks : List (List Str), x = .lst (ks.map lotD) ∧ Q ks
theorem cd_sortedL (hu : X.A.units + 80 < cLine) : CallD X dc (.builtin "sorted") (arg1 fun x Q => asLots x fun ks => (∀ k ∈ ks, k ≠ []) ∧ Q (.lst ((ks.mergeSort leL).map lotD))) :=
  .one (fun x P P' hP ⟨ks, e, h, q⟩ => ⟨ks, e, h, hP _ q⟩) (call_sortedL hu) fun F H x v Q p rx h => by
    obtain ⟨ks, rfl, hne, q⟩ := h
    cases rx with
    | @lst a _ vs ef rr =>
    obtain ⟨bs, rfl, pr⟩ := reps_lots rr
    refine ⟨a, bs, ks, rfl, .of (p.sub _ _ ef), Paired.mapP pr fun b k e => p.sub _ _ e, hne, fun t L nt hL eL => ?_⟩
    have rp : Reps dc F ((ks.mergeSort leL).map lotD) ((L.map (·.1)).map V.ref) := by
      rw [← eL]
      exact lots_reps (paired_zip fun x hx => zip_mem pr x (hL x hx))
    obtain ⟨e, r⟩ := Ext.lst p nt rp
    exact q _ _ _ e r
end
/-! ### dict comprehensions: every key new -/
def dcL {κ : Type} (kf : D → Option κ) (f : D → (D → D → Prop) → Prop) : List D → List κ → List D → (List κ → List D → Prop) → Prop
  | [], ks, zs, Q => Q ks zs
  | x :: xs, ks, zs, Q => f x fun y z => ∃ k, kf y = some k ∧ k ∉ ks ∧ dcL kf f xs (ks ++ [k]) (zs ++ [z]) Q
theorem dcL_mono {κ : Type} {kf : D → Option κ} {f : D → (D → D → Prop) → Prop} (m : ∀ x P P', (∀ y z, P y z → P' y z) → f x P → f x P') : ∀ (xs : List D) (ks : List κ) (zs : List D) (P P' : List κ → List D → Prop), (∀ y z, P y z → P' y z) → dcL kf f xs ks zs P → dcL kf f xs ks zs P'
  | [], _, _, _, _, h, p => h _ _ p
  | x :: xs, _, _, _, _, h, p => m _ _ _ (fun y z ⟨k, a, b, c⟩ => ⟨k, a, b, dcL_mono m xs _ _ _ _ h c⟩) p
def dcF (is : List Nat) (g : DTG) (dk dv : DT) (vs : List Nat) (ρ : DEnv) : D → (D → D → Prop) → Prop := fun x K => g x fun ys => dk (setAllD (wipeD ρ vs) is ys) fun y => dv (setAllD (wipeD ρ vs) is ys) fun z => K y z
theorem dcF_mono {is : List Nat} {g : DTG} {dk dv : DT} {vs : List Nat} {ρ : DEnv} (mg : ∀ x P P', (∀ xs, P xs → P' xs) → g x P → g x P') (mk : ∀ ρ P P', (∀ x, P x → P' x) → dk ρ P → dk ρ P') (mv : ∀ ρ P P', (∀ x, P x → P' x) → dv ρ P → dv ρ P') :
    ∀ x P P', (∀ y z, P y z → P' y z) → dcF is g dk dv vs ρ x P → dcF is g dk dv vs ρ x P' := fun x P P' h p => mg _ _ _ (fun ys p => mk _ _ _ (fun y p => mv _ _ _ (fun z p => h _ _ p) p) p) p
def PutS (H : Hp) (a : Addr) (y v : V) (Nx : Hp → Prop) : Prop := ∃ kvs k, y = kV k ∧ H a = some (.dK kvs) ∧ kvs.length < sizeLine ∧ Nx (upd H a (.dK (putK kvs k v)))
def PutP (H : Hp) (a : Addr) (y v : V) (Nx : Hp → Prop) : Prop := ∃ H6, DPut H a y v H6 ∧ Nx H6
theorem yes_t {A N : Hp → Prop} {σ : L2.St} {H : Hp} (h : A H) : tYes σ H fun b H3 => if b = true then A H3 else N H3 := by
  show (if true = true then A H else N H)
  rw [if_pos rfl]
  exact h
/-- how the keys of a kind stand in a dict -/
structure KindOf (dc : Option Addr) (κ : Type) (kf : D → Option κ) (mk : List κ → List V → HO) (Put : Hp → Addr → V → V → (Hp → Prop) → Prop) : Prop where
  put : ∀ {F H : Hp} {D0 : Addr} {ks : List κ} {vs : List V} {y : D} {u z : V} {k : κ} {Nx : Hp → Prop}, Pre dc F H → H D0 = some (mk ks vs) → ks.length = vs.length → ks.length < sizeLine → Rep dc F y u → kf y = some k → k ∉ ks → Nx (upd H D0 (mk (ks ++ [k]) (vs ++ [z]))) → Put H D0 u z Nx
  notup : ∀ ks vs us, mk ks vs ≠ .tup us
theorem putK_zip {κ : Type} [DecidableEq κ] : ∀ {ks : List κ} {vs : List V} {k : κ} {z : V}, ks.length = vs.length → k ∉ ks → putK (ks.zip vs) k z = (ks ++ [k]).zip (vs ++ [z]) := by
  intro ks vs k z hl hn
  have h1 : ((ks.zip vs).any fun kv => decide (kv.1 = k)) = false := by
    rw [List.any_eq_false]
    intro x hx
    have : x.1 ∈ ks := (List.of_mem_zip (show (x.1, x.2) ∈ _ from hx)).1
    exact fun e => hn (of_decide_eq_true e ▸ this)
  unfold putK
  rw [if_neg (by rw [h1]; exact Bool.false_ne_true), List.zip_append hl]
  rfl
section
variable {dc : Option Addr}
def keyS : D → Option Key
  | .str s => some (.inr s)
  | _ => none
theorem kind_S : KindOf dc Key keyS (fun ks vs => .dK (ks.zip vs)) PutS := by
  refine ⟨fun {F H D0 ks vs y u z k Nx} p hD hl hz r hk hn nx => ?_, fun _ _ _ h => nomatch h⟩
  cases y with
  | str s =>
    cases hk
    cases r
    refine ⟨_, .inr s, rfl, hD, ?_, ?_⟩
    · rw [List.length_zip]
      omega
    · rw [putK_zip hl hn]
      exact nx
  | _ => cases hk
theorem kind_P : KindOf dc (List Key) keyT (fun ks vs => .dT (ks.zip vs)) PutP := by
  refine ⟨fun {F H D0 ks vs y u z k Nx} p hD hl hz r hk hn nx => ?_, fun _ _ _ h => nomatch h⟩
  cases y with
  | tup xs =>
    cases r with
    | @tup b _ us eb rb =>
    have hu := Reps.keysOf rb hk
    subst hu
    refine ⟨_, DPut.t hD (p.sub _ _ eb) ?_, ?_⟩
    · rw [List.length_zip]
      omega
    · rw [putK_zip hl hn]
      exact nx
  | _ => cases hk
theorem dcg_read {κ : Type} {kf : D → Option κ} {mk : List κ → List V → HO} {Put : Hp → Addr → V → V → (Hp → Prop) → Prop} (kd : KindOf dc κ kf mk Put) {J : It} {xs : List D} {ρ : DEnv} {σ : L2.St} {F1 H1 : Hp} {is vs : List Nat} {g : DTG} {dk dv : DT} {Qe : V → Hp → Prop} {Qf : List κ → List D → Prop}
    (mg : ∀ x P P', (∀ xs, P xs → P' xs) → g x P → g x P') (mk' : ∀ ρ P P', (∀ x, P x → P' x) → dk ρ P → dk ρ P') (mv : ∀ ρ P P', (∀ x, P x → P' x) → dv ρ P → dv ρ P') (his : ∀ i ∈ is, i ∈ vs) (p1 : Pre dc F1 H1) (s : Slots dc F1 ρ σ) (it : IterOf dc F1 H1 J xs) (hz : xs.length ≤ sizeLine)
    (hl : dcL kf (dcF is g dk dv vs ρ) xs [] [] Qf) (fin : ∀ (D0 : Addr) (F' H' : Hp) ks zs ws, H1 D0 = none → Qf ks zs → Ext dc F1 H1 F' H' → F' D0 = none → H' D0 = some (mk ks ws) → ks.length = ws.length → Reps dc F' zs ws → Qe (.ref D0) H') :
    ∀ D0, H1 D0 = none → ∃ W : Nat → Nat → Hp → Prop, (∃ m, W 0 m (upd H1 D0 (mk [] []))) ∧ ∀ i m H, W i m H →
      (J.stop i H ∧ Qe (.ref D0) H) ∨ (J.go i H ∧ ∃ Nx : Hp → Prop, (∀ H', Nx H' → ∃ m', m' < m ∧ W (i + 1) m' H') ∧ ∀ x H', J.yld i H x H' → gD dc is g x (L2.wipe σ vs) H' fun σ2 H2 => L2.wipe σ2 vs = L2.wipe σ vs ∧
        tYes σ2 H2 fun b H3 => if b = true then tD dc dk σ2 H3 fun y H4 => tD dc dv σ2 H4 fun z H5 => Put H5 D0 y z Nx else Nx H3) := by
  intro D0 nD
  have fD1 : F1 D0 = none := p1.nf nD
  have dD : dc ≠ some D0 := p1.nd nD
  refine ⟨fun i m H' => m = xs.length - i ∧ i ≤ xs.length ∧ ∃ F' ks ws zs, Ext dc F1 H1 F' H' ∧ F' D0 = none ∧ H' D0 = some (mk ks ws) ∧ ks.length = ws.length ∧ Reps dc F' zs ws ∧ ks.length = i ∧ dcL kf (dcF is g dk dv vs ρ) (xs.drop i) ks zs Qf,
    ⟨_, rfl, Nat.zero_le _, F1, [], [], [], (Ext.refl p1).put nD fD1 dD, fD1, upd_same, rfl, .nil, rfl, by rw [List.drop_zero]; exact hl⟩, fun i m H0 ⟨hm, hi, F', ks, ws, zs, e, fD, hD, hlen, rr, hki, hq⟩ => ?_⟩
  rcases Nat.lt_or_ge i xs.length with lt | ge
  · refine .inr ⟨it.goes i H0 lt (e.of p1), fun H' => i + 1 ≤ xs.length ∧ ∃ F' ks ws zs, Ext dc F1 H1 F' H' ∧ F' D0 = none ∧ H' D0 = some (mk ks ws) ∧ ks.length = ws.length ∧ Reps dc F' zs ws ∧ ks.length = i + 1 ∧ dcL kf (dcF is g dk dv vs ρ) (xs.drop (i + 1)) ks zs Qf,
      fun H' ⟨a, b⟩ => ⟨xs.length - (i + 1), by omega, rfl, a, b⟩, fun v H'' y => ?_⟩
    obtain ⟨x, F2, hx, e2, rx⟩ := it.yields i F' H0 v H'' lt e.pre e.fsub (e.of p1) y
    have hxe : x = xs[i] := by rw [List.getElem?_eq_getElem lt] at hx; exact (Option.some.inj hx).symm
    rw [List.drop_eq_getElem_cons lt, ← hxe] at hq
    have nt : ∀ us, mk ks ws ≠ .tup us := kd.notup ks ws
    have hD2 : H'' D0 = some (mk ks ws) := e2.keep _ _ dD hD
    have fD2 : F2 D0 = none := e2.out fD hD nt
    refine ⟨F2, x, e2.pre, rx, mg _ _ _ (fun ys hy wl rw' => ⟨wipe_setAll his, ?_⟩) hq⟩
    have sl : Slots dc F2 (setAllD (wipeD ρ vs) is ys) (setAll (L2.wipe σ vs) is wl) := ((s.mono fun a o q => e2.fsub _ _ (e.fsub _ _ q)).wipe _).setAll is rw'
    refine yes_t (A := fun H3 => tD dc dk (setAll (L2.wipe σ vs) is wl) H3 fun y H4 => tD dc dv (setAll (L2.wipe σ vs) is wl) H4 fun z H5 => Put H5 D0 y z _) ?_
    refine ⟨_, F2, e2.pre, sl, mk' _ _ _ (fun yk hk u F3 H3 e3 r3 => ?_) hy⟩
    have hD3 : H3 D0 = some (mk ks ws) := e3.keep _ _ dD hD2
    have fD3 : F3 D0 = none := e3.out fD2 hD2 nt
    refine ⟨_, F3, e3.pre, sl.mono e3.fsub, mv _ _ _ (fun zv hv w F4 H4 e4 r4 => ?_) hk⟩
    have hD4 : H4 D0 = some (mk ks ws) := e4.keep _ _ dD hD3
    have fD4 : F4 D0 = none := e4.out fD3 hD3 nt
    obtain ⟨k, k1, k2, k3⟩ := hv
    refine kd.put (z := w) e4.pre hD4 hlen (by omega) (e4.rep r3) k1 k2 ⟨by omega, F4, ks ++ [k], ws ++ [w], zs ++ [zv], (((e.trans p1 e2).trans p1 e3).trans p1 e4).put nD fD4 dD, fD4, upd_same, ?_, (e4.reps (e3.reps (e2.reps rr))).app (.cons r4 .nil), ?_, k3⟩
    · rw [List.length_append, List.length_append, hlen]; rfl
    · rw [List.length_append, hki]; rfl
  · obtain rfl : i = xs.length := by omega
    rw [List.drop_length] at hq
    exact .inl ⟨it.stops H0 (e.of p1), fin D0 F' H0 ks zs ws nD hq e fD hD hlen rr⟩
end
def dDcS (w : DTI) (is : List Nat) (g : DTG) (dk dv : DT) (vs : List Nat) : DT := fun ρ Q => w ρ fun xs => xs.length ≤ sizeLine ∧ dcL keyS (dcF is g dk dv vs ρ) xs [] [] fun ks zs => Q (.dK ks zs)
def dDcT (w : DT) (is : List Nat) (g : DTG) (dk dv : DT) (vs : List Nat) : DT := fun ρ Q => w ρ fun x => asDT x fun ks _ => ks.length ≤ sizeLine ∧ dcL keyT (dcF is g dk dv vs ρ) (keysD ks) [] [] fun ks zs => Q (.dT ks zs)
section
variable {X : Cx} {dc : Option Addr} {kx vx tg iter : Expr} {scope : Scope} {own : List (Str × Nat)} {is : List Nat} {pos : Pos} {g : DTG} {dk dv : DT}
/-- {k: v for t in it}, the keys texts -/
theorem de_dcS {w : DTI} (hc : X.calm = true) (hN : X.N.Nodup) (hi : DI X dc tg iter w) (ok : BlkOk X.N X.env.scope scope own)
    (hg : ∀ (s : Shared) (H : Hp) (C : Addr) (cl : List (Str × Addr)) (fp : List Addr), DG (X.blk s H scope (compEnvC scope cl C X.env) fp) dc tg is g)
    (hk : ∀ (s : Shared) (H : Hp) (C : Addr) (cl : List (Str × Addr)) (fp : List Addr), DE (X.blk s H scope (compEnvC scope cl C X.env) fp) dc kx dk)
    (hv : ∀ (s : Shared) (H : Hp) (C : Addr) (cl : List (Str × Addr)) (fp : List Addr), DE (X.blk s H scope (compEnvC scope cl C X.env) fp) dc vx dv) (his : ∀ i ∈ is, i ∈ own.map (·.2))
    (hs : ∀ x, foldedSetIterable iter X.env x = pure x := by intro _; rfl) : DE X dc (.DictComp kx vx [⟨tg, iter, [], 0⟩] scope pos) (dDcS w is g dk dv (own.map (·.2))) := by
  have mw := hi.mono
  have mg := (hg {} (fun _ => none) 0 [] []).mono
  have mk := (hk {} (fun _ => none) 0 [] []).mono
  have mv := (hv {} (fun _ => none) 0 [] []).mono
  refine ⟨fun ρ P P' hP h => mw _ _ _ (fun xs h => ⟨h.1, dcL_mono (dcF_mono mg mk mv) _ _ _ _ _ (fun ks zs q => hP _ q) h.2⟩) h, _, pe_dc hc hN hi.run ok (fun s H C cl fp => (hg s H C cl fp).run) (fun _ _ _ _ _ => pts_nil) (fun s H C cl fp => (hk s H C cl fp).pe) (fun s H C cl fp => (hv s H C cl fp).pe) hs, fun ρ σ F H Q p s h => ?_⟩
  refine ⟨ρ, F, p, s, mw _ _ _ (fun xs hx J F1 H1 e1 it => ?_) h⟩
  refine dcg_read kind_S mg mk mv his e1.pre (s.mono e1.fsub) it hx.1 hx.2 fun D0 F' H' ks zs ws n0 q e fD hD hl rr => ?_
  have ec := e.close n0 hD (.inl hD) (e1.pre.nd n0) fD
  exact q _ _ _ (e1.trans p ec) (.dK upd_same hl (rr.mono fun a o z => by rw [upd_ne (fun y => by rw [y, fD] at z; cases z)]; exact z))
/-- {k: v for k in d}, d a dict under tuples that is walked, and locked meanwhile -/
theorem de_dcT {w : DT} (hc : X.calm = true) (hu : X.A.units + 1 < cLine) (hN : X.N.Nodup) (hi : DP X dc iter w) (ok : BlkOk X.N X.env.scope scope own)
    (hg : ∀ (s : Shared) (H : Hp) (C : Addr) (cl : List (Str × Addr)) (fp : List Addr), DG (X.blk s H scope (compEnvC scope cl C X.env) fp) dc tg is g)
    (hk : ∀ (s : Shared) (H : Hp) (C : Addr) (cl : List (Str × Addr)) (fp : List Addr), DE (X.blk s H scope (compEnvC scope cl C X.env) fp) dc kx dk)
    (hv : ∀ (s : Shared) (H : Hp) (C : Addr) (cl : List (Str × Addr)) (fp : List Addr), DE (X.blk s H scope (compEnvC scope cl C X.env) fp) dc vx dv) (his : ∀ i ∈ is, i ∈ own.map (·.2))
    (hs : ∀ x, foldedSetIterable iter X.env x = pure x := by intro _; rfl) : DE X dc (.DictComp kx vx [⟨tg, iter, [], 0⟩] scope pos) (dDcT w is g dk dv (own.map (·.2))) := by
  obtain ⟨mw, tw, pw, rw'⟩ := hi
  have mg := (hg {} (fun _ => none) 0 [] []).mono
  have mk := (hk {} (fun _ => none) 0 [] []).mono
  have mv := (hv {} (fun _ => none) 0 [] []).mono
  have pl := pe_dcP hc hu hN (pi_keys (tg := tg) pw) ok (fun s H C cl fp => (hg s H C cl fp).run) (fun _ _ _ _ _ => pts_nil) (fun s H C cl fp => (hk s H C cl fp).pe) (fun s H C cl fp => (hv s H C cl fp).pe) hs (pos := pos)
  refine ⟨fun ρ P P' hP h => mw _ _ _ (fun x h => asDT.mono (fun ks vs h => ⟨h.1, dcL_mono (dcF_mono mg mk mv) _ _ _ _ _ (fun ks zs q => hP _ q) h.2⟩) h) h, _, pe_or2 (pe_lock pl) pl, fun ρ σ F H Q p s h => ?_⟩
  obtain ⟨x, v, hx, rx, gt⟩ := rw' ρ σ F _ s h
  obtain ⟨ks, vs, rfl, hz, hl⟩ := hx.inv
  have hl1 : (keysD ks).length ≤ sizeLine := by unfold keysD; rw [List.length_map]; exact hz
  cases rx with
  | @dT a _ _ ws ef l rr =>
    have aF : ∀ {F' : Hp} {D0 : Addr} {Hx : Hp}, F' D0 = none → (∀ b o, F b = some o → F' b = some o) → D0 ≠ a := fun fD fs z => by
      subst z
      rw [fs _ _ ef] at fD
      cases fD
    rcases p.sub _ _ ef with hd | ⟨o, hd⟩
    · refine .inl ⟨_, _, hd, trivial, fun od => gt _ _ (p.lock ef hd) ⟨_, od, rfl, .inr ⟨_, upd_same, ?_⟩⟩⟩
      refine dcg_read (Qe := fun v H' => H' a = some (.frz od (.dT (ks.zip ws))) ∧ Q v (upd H' a (.dT (ks.zip ws)))) kind_P mg mk mv his (p.lock ef hd) s (iter_keysT ef upd_same l) hl1 hl fun D0 F' H' ks' zs ws' n0 q e fD hD hl' rr' => ?_
      have ec := e.close n0 hD (.inl hD) ((p.lock ef hd).nd n0) fD
      refine ⟨e.of (p.lock ef hd) _ _ (by rw [ef]; exact fun z => nomatch z) upd_same, q _ _ _ (Ext.unlock p ef hd ec) (.dT upd_same hl' (rr'.mono fun b u z => by rw [upd_ne (fun y => by rw [y, fD] at z; cases z)]; exact z))⟩
    · refine .inr (gt _ _ p ⟨_, o, rfl, .inr ⟨_, hd, ?_⟩⟩)
      refine dcg_read (Qe := Q) kind_P mg mk mv his p s (iter_keysT ef hd l) hl1 hl fun D0 F' H' ks' zs ws' n0 q e fD hD hl' rr' => ?_
      have ec := e.close n0 hD (.inl hD) (p.nd n0) fD
      exact q _ _ _ ec (.dT upd_same hl' (rr'.mono fun b u z => by rw [upd_ne (fun y => by rw [y, fD] at z; cases z)]; exact z))
end
/-! ### equal lots; in a tuple of lots -/
theorem lay_strs : ∀ {l : List Str}, (∀ x ∈ l, PyData.strOk x = true) → PyData.canLayAll0 (l.map PyData.str) = true
  | [], _ => by simp [PyData.canLayAll0]
  | x :: r, h => by
    rw [List.map_cons, PyData.canLayAll0, lay_strs fun y hy => h y (List.mem_cons_of_mem _ hy), PyData.canLay0, h x (List.mem_cons_self ..)]
    rfl
theorem shaped_lot {l : List Str} (h : ∀ x ∈ l, PyData.strOk x = true) : SeqAt.shaped (lD l) = true := by
  unfold SeqAt.shaped
  rw [decide_eq_true (by have := depthL l; omega), Bool.and_true]
  unfold lD
  rw [PyData.canLay0]
  exact lay_strs h
theorem lay_lots : ∀ {ls : List (List Str)}, (∀ l ∈ ls, ∀ x ∈ l, PyData.strOk x = true) → PyData.canLayAll0 (ls.map lD) = true
  | [], _ => by simp [PyData.canLayAll0]
  | l :: r, h => by
    rw [List.map_cons, PyData.canLayAll0, lay_lots fun y hy => h y (List.mem_cons_of_mem _ hy)]
    have := shaped_lot (h l (List.mem_cons_self ..))
    rw [SeqAt.canLay_of_shaped this]
    rfl
theorem depth_lots : ∀ (ls : List (List Str)), PyData.depthAll (ls.map lD) ≤ 1
  | [] => by simp [PyData.depthAll]
  | l :: r => by
    rw [List.map_cons, PyData.depthAll]
    have := depthL l
    have := depth_lots r
    omega
theorem shaped_lotsL {ls : List (List Str)} (h : ∀ l ∈ ls, ∀ x ∈ l, PyData.strOk x = true) : SeqAt.shaped (.list (ls.map lD)) = true := by
  unfold SeqAt.shaped
  rw [PyData.canLay0, lay_lots h, Bool.true_and, PyData.depth]
  exact decide_eq_true (by have := depth_lots ls; omega)
theorem shaped_lotsT {ls : List (List Str)} (h : ∀ l ∈ ls, ∀ x ∈ l, PyData.strOk x = true) : SeqAt.shaped (.tuple (ls.map lD)) = true := by
  unfold SeqAt.shaped
  rw [PyData.canLay0, lay_lots h, Bool.true_and, PyData.depth]
  exact decide_eq_true (by have := depth_lots ls; omega)
theorem eqv_strs : ∀ (a b : List Str), PyData.eqvAll (a.map PyData.str) (b.map PyData.str) = decide (a = b)
  | [], [] => by simp [PyData.eqvAll]
  | [], _ :: _ => by simp [PyData.eqvAll]
  | _ :: _, [] => by simp [PyData.eqvAll]
  | x :: a, y :: b => by
    rw [List.map_cons, List.map_cons, PyData.eqvAll, eqv_strs a b, PyData.eqv]
    by_cases h : x = y
    · subst h
      by_cases g : a = b
      · subst g; simp
      · simp [g]
    · simp [h]
theorem eqv_lot (a b : List Str) : PyData.eqv (lD a) (lD b) = decide (a = b) := by
  unfold lD
  rw [PyData.eqv]
  exact eqv_strs a b
theorem eqv_lots : ∀ (a b : List (List Str)), PyData.eqvAll (a.map lD) (b.map lD) = decide (a = b)
  | [], [] => by simp [PyData.eqvAll]
  | [], _ :: _ => by simp [PyData.eqvAll]
  | _ :: _, [] => by simp [PyData.eqvAll]
  | x :: a, y :: b => by
    rw [List.map_cons, List.map_cons, PyData.eqvAll, eqv_lots a b, eqv_lot]
    by_cases h : x = y
    · subst h
      by_cases g : a = b
      · subst g; simp
      · simp [g]
    · simp [h]
theorem eqv_lotsL (a b : List (List Str)) : PyData.eqv (.list (a.map lD)) (.list (b.map lD)) = decide (a = b) := by
  rw [PyData.eqv]
  exact eqv_lots a b
theorem any_lots (l : List Str) : ∀ (ls : List (List Str)), ((ls.map lD).any fun z => PyData.eqv z (lD l)) = decide (l ∈ ls)
  | [] => by simp
  | x :: r => by
    rw [List.map_cons, List.any_cons, any_lots l r, eqv_lot]
    by_cases h : x = l
    · subst h; simp
    · have h2 : l ≠ x := fun e => h e.symm
      simp [h, h2]
theorem py_lot (l : List Str) : pyD (lotD l) = some (lD l) := by
  unfold lotD lD
  rw [pyD]
  have : ∀ l : List Str, pyDs (l.map D.str) = some (l.map PyData.str) := fun l => by
    induction l with
    | nil => rfl
    | cons x r ih =>
      rw [List.map_cons, pyDs, ih]
      rfl
  rw [this]
  rfl
theorem py_lots : ∀ (ls : List (List Str)), pyDs (ls.map lotD) = some (ls.map lD)
  | [] => rfl
  | l :: r => by
    rw [List.map_cons, pyDs, py_lot, py_lots r]
    rfl
section
variable {X : Cx} {dc : Option Addr}
def dNotInL (x y : D) (Q : D → Prop) : Prop := ∃ (l : List Str) (ls : List (List Str)), x = lotD l ∧ y = .tup (ls.map lotD) ∧ (∀ z ∈ l, PyData.strOk z = true) ∧ (∀ m ∈ ls, ∀ z ∈ m, PyData.strOk z = true) ∧ Q (.bl (!decide (l ∈ ls)))
theorem opd_notinL (hu : X.A.units + 65 < cLine) : OpD X dc (compareOp .NotIn) dNotInL := by
  have h1 : OpR X (compareOp .NotIn) (fun x y H Q => ∃ (l : List Str) (ls : List (List Str)), Dp X.K H x (lD l) ∧ Dp X.K H y (.tuple (ls.map lD)) ∧ (∀ z ∈ l, PyData.strOk z = true) ∧ (∀ m ∈ ls, ∀ z ∈ m, PyData.strOk z = true) ∧ Q (.bl (!decide (l ∈ ls))) H) := by
    intro pins s σ H x y v u Q I rx ry h
    obtain ⟨l, ls, hd, he, ol, os, q⟩ := h
    obtain ⟨as, r1⟩ := Dp.reads I (lD l) x v hd rx
    obtain ⟨bs, r2⟩ := Dp.reads I (.tuple (ls.map lD)) y u he ry
    have so := shaped_lot ol
    rw [← any_lots] at q
    exact SeqAt.notIn_tuple_reads r2 r1 (lay_lots os) (SeqAt.canLay_of_shaped so) (room_in_shaped so hu) ⟨.bl _, H, I, rfl, q⟩
  refine ⟨fun x y P P' hP ⟨l, ls, a, b, c, d, q⟩ => ⟨l, ls, a, b, c, d, hP _ q⟩, _, h1, fun F H x y v u Q p rx ry h => ?_⟩
  obtain ⟨l, ls, rfl, rfl, ol, os, q⟩ := h
  refine ⟨l, ls, Rep.py p rx (py_lot l), Rep.py p ry ?_, ol, os, q.now p (.bl _)⟩
  rw [pyD, py_lots]
  rfl
end
theorem asRng_rng {i j : Int} {Q : Int → Int → Prop} : asRng (.rng i j) Q = Q i j := rfl
theorem intTwo_two {i j : Int} {Q : Int → Int → Prop} : intTwo [.int i, .int j] Q = Q i j := rfl
/-! ### masks of lots -/
def allS (l : List Str) : List (List Str) := l.foldl (fun f p => f ++ f.map (· ++ [p])) [[]]
theorem allS_snoc (l : List Str) (p : Str) : allS (l ++ [p]) = allS l ++ (allS l).map (· ++ [p]) := by
  unfold allS
  rw [List.foldl_append]
  rfl
theorem snoc_ind {α : Type} {P : List α → Prop} (h0 : P []) (h1 : ∀ l p, P l → P (l ++ [p])) : ∀ l, P l := by
  intro l
  have : ∀ r : List α, P r.reverse := fun r => by
    induction r with
    | nil => exact h0
    | cons a r ih => rw [List.reverse_cons]; exact h1 _ _ ih
  have := this l.reverse
  rwa [List.reverse_reverse] at this
theorem allS_len : ∀ l : List Str, (allS l).length = 2 ^ l.length := snoc_ind rfl fun l p ih => by
  rw [allS_snoc, List.length_append, List.length_map, ih, List.length_append, List.length_singleton, Nat.pow_succ]
  omega
def lotA : List Str → Nat → Nat → List Str
  | [], _, _ => []
  | p :: r, k, m => if m.testBit k = true then p :: lotA r (k + 1) m else lotA r (k + 1) m
theorem lotA_snoc (p : Str) (m : Nat) : ∀ (l : List Str) (k : Nat), lotA (l ++ [p]) k m = lotA l k m ++ (if m.testBit (k + l.length) = true then [p] else [])
  | [], k => by simp [lotA]
  | q :: r, k => by
    have ih := lotA_snoc p m r (k + 1)
    rw [show k + 1 + r.length = k + (r.length + 1) by omega] at ih
    rw [List.cons_append, lotA, lotA, List.length_cons, ih]
    by_cases c : m.testBit k = true
    · rw [if_pos c, if_pos c, List.cons_append]
    · rw [if_neg c, if_neg c]
theorem lotA_congr {m n : Nat} : ∀ (l : List Str) (k : Nat), (∀ i, i < k + l.length → m.testBit i = n.testBit i) → lotA l k m = lotA l k n
  | [], _, _ => rfl
  | q :: r, k, h => by
    rw [List.length_cons] at h
    rw [lotA, lotA, h k (by omega), lotA_congr r (k + 1) fun i hi => h i (by omega)]
theorem lot_at : ∀ (l : List Str) (m : Nat), m < 2 ^ l.length → (allS l)[m]? = some (lotA l 0 m) := snoc_ind (fun m h => by
  obtain rfl : m = 0 := by simpa using h
  rfl) fun l p ih m h => by
  rw [allS_snoc, lotA_snoc, Nat.zero_add]
  rw [List.length_append, List.length_singleton, Nat.pow_succ] at h
  have hl := allS_len l
  by_cases c : m < 2 ^ l.length
  · rw [List.getElem?_append_left (by omega), ih m c, Nat.testBit_lt_two_pow c]
    simp
  · obtain ⟨j, rfl⟩ : ∃ j, m = 2 ^ l.length + j := ⟨m - 2 ^ l.length, by omega⟩
    rw [List.getElem?_append_right (by omega), hl, Nat.add_sub_cancel_left, List.getElem?_map, ih j (by omega), Nat.testBit_two_pow_add_eq, Nat.testBit_lt_two_pow (by omega)]
    have : lotA l 0 (2 ^ l.length + j) = lotA l 0 j := lotA_congr l 0 fun i hi => Nat.testBit_two_pow_add_gt (by omega) _
    rw [this]
    rfl
theorem mem_lotA {x : Str} {m : Nat} : ∀ {l : List Str} {k : Nat}, x ∈ lotA l k m ↔ ∃ i, l[i]? = some x ∧ m.testBit (k + i) = true
  | [], _ => by simp [lotA]
  | q :: r, k => by
    have ih := mem_lotA (x := x) (m := m) (l := r) (k := k + 1)
    have key : (x ∈ lotA r (k + 1) m) ↔ ∃ i, (q :: r)[i + 1]? = some x ∧ m.testBit (k + (i + 1)) = true := by
      rw [ih]
      constructor
      · rintro ⟨i, h1, h2⟩
        exact ⟨i, by simpa using h1, by rw [show k + (i + 1) = k + 1 + i by omega]; exact h2⟩
      · rintro ⟨i, h1, h2⟩
        exact ⟨i, by simpa using h1, by rw [show k + 1 + i = k + (i + 1) by omega]; exact h2⟩
    rw [lotA]
    by_cases c : m.testBit k = true
    · rw [if_pos c, List.mem_cons, key]
      constructor
      · rintro (h | ⟨i, h⟩)
        · exact ⟨0, by simp [h], c⟩
        · exact ⟨i + 1, h⟩
      · rintro ⟨i, h1, h2⟩
        cases i with
        | zero => left; simpa using h1.symm
        | succ i => right; exact ⟨i, h1, h2⟩
    · rw [if_neg c, key]
      constructor
      · rintro ⟨i, h⟩
        exact ⟨i + 1, h⟩
      · rintro ⟨i, h1, h2⟩
        cases i with
        | zero => exact absurd h2 c
        | succ i => exact ⟨i, h1, h2⟩
theorem lotA_sub (m : Nat) : ∀ (l : List Str) (k : Nat), (lotA l k m).Sublist l
  | [], _ => .slnil
  | q :: r, k => by
    rw [lotA]
    split
    · exact (lotA_sub m r (k + 1)).cons₂ q
    · exact (lotA_sub m r (k + 1)).cons q
/-- the lots of l: l's sublists -/
theorem mem_allS' : ∀ (l x : List Str), x ∈ allS l ↔ x.Sublist l := snoc_ind (fun x => by
  show x ∈ [[]] ↔ _
  simp) fun l p ih x => by
  rw [allS_snoc, List.mem_append, List.mem_map]
  constructor
  · rintro (h | ⟨y, h, rfl⟩)
    · exact ((ih x).mp h).trans (List.sublist_append_left _ _)
    · exact ((ih y).mp h).append (List.Sublist.refl _)
  · intro h
    obtain ⟨a, b, rfl, h1, h2⟩ := List.sublist_append_iff.mp h
    cases h2 with
    | cons _ h2 => cases h2; left; rw [List.append_nil]; exact (ih a).mpr h1
    | cons_cons _ h2 => cases h2; right; exact ⟨a, (ih a).mpr h1, rfl⟩
theorem mem_allS {l x : List Str} : x ∈ allS l ↔ x.Sublist l := mem_allS' l x
def mm : List Str → List Str → Nat
  | [], _ => 0
  | p :: r, l => (if p ∈ l then 1 else 0) + 2 * mm r l
theorem mm_bit (l : List Str) : ∀ (qs : List Str) (i : Nat), (mm qs l).testBit i = (qs[i]?.any fun x => decide (x ∈ l))
  | [], i => by simp [mm]
  | p :: r, 0 => by
    rw [mm, Nat.testBit_zero]
    by_cases c : p ∈ l
    · simp [c]
    · simp [c]
  | p :: r, i + 1 => by
    rw [mm, Nat.testBit_succ]
    have : ((if p ∈ l then 1 else 0) + 2 * mm r l) / 2 = mm r l := by split <;> omega
    rw [this, mm_bit l r i]
    simp
theorem mm_lt (l : List Str) : ∀ qs : List Str, mm qs l < 2 ^ qs.length
  | [] => by simp [mm]
  | p :: r => by
    have := mm_lt l r
    rw [mm, List.length_cons, Nat.pow_succ]
    split <;> omega

/-! whole numbers that are masks -/
theorem bit_ext {a b : Nat} (h : ∀ i, a.testBit i = b.testBit i) : a = b := Nat.eq_of_testBit_eq h
theorem mm_and {qs a b : List Str} (nd : qs.Nodup) : (mm qs a &&& mm qs b = 0) ↔ ∀ x ∈ qs, ¬ (x ∈ a ∧ x ∈ b) := by
  constructor
  · intro h x hx ⟨ha, hb⟩
    obtain ⟨i, hi⟩ := List.mem_iff_getElem?.mp hx
    have := congrArg (fun n : Nat => n.testBit i) h
    simp [Nat.testBit_and, mm_bit, hi, ha, hb] at this
  · intro h
    refine bit_ext fun i => ?_
    rw [Nat.testBit_and, mm_bit, mm_bit, Nat.zero_testBit]
    cases e : qs[i]? with
    | none => rfl
    | some x =>
      have := h x (List.mem_of_getElem? e)
      by_cases ha : x ∈ a
      · have hb : x ∉ b := fun z => this ⟨ha, z⟩
        simp [hb]
      · simp [ha]
theorem mm_sub {qs a b : List Str} : (mm qs a &&& mm qs b = mm qs a) ↔ ∀ x ∈ qs, x ∈ a → x ∈ b := by
  constructor
  · intro h x hx ha
    obtain ⟨i, hi⟩ := List.mem_iff_getElem?.mp hx
    have := congrArg (fun n : Nat => n.testBit i) h
    simpa [Nat.testBit_and, mm_bit, hi, ha] using this
  · intro h
    refine bit_ext fun i => ?_
    rw [Nat.testBit_and, mm_bit, mm_bit]
    cases e : qs[i]? with
    | none => rfl
    | some x =>
      have := h x (List.mem_of_getElem? e)
      by_cases ha : x ∈ a
      · simp [ha, this ha]
      · simp [ha]
theorem mm_or {qs a b : List Str} : (mm qs a ||| mm qs b = mm qs qs) ↔ ∀ x ∈ qs, x ∈ a ∨ x ∈ b := by
  constructor
  · intro h x hx
    obtain ⟨i, hi⟩ := List.mem_iff_getElem?.mp hx
    have := congrArg (fun n : Nat => n.testBit i) h
    simpa [Nat.testBit_or, mm_bit, hi, hx] using this
  · intro h
    refine bit_ext fun i => ?_
    rw [Nat.testBit_or, mm_bit, mm_bit, mm_bit]
    cases e : qs[i]? with
    | none => rfl
    | some x =>
      have hx := List.mem_of_getElem? e
      have := h x hx
      simpa [hx] using this
/-- the lot of a mask lies in a lot -/
theorem lot_in {qs l : List Str} {m : Nat} (hm : m < 2 ^ qs.length) : (m ||| mm qs l = mm qs l) ↔ ∀ x ∈ lotA qs 0 m, x ∈ l := by
  constructor
  · intro h x hx
    obtain ⟨i, hi, hb⟩ := mem_lotA.mp hx
    rw [Nat.zero_add] at hb
    have := congrArg (fun n : Nat => n.testBit i) h
    simpa [Nat.testBit_or, mm_bit, hi, hb] using this
  · intro h
    refine bit_ext fun i => ?_
    rw [Nat.testBit_or]
    by_cases hb : m.testBit i = true
    · rw [hb, Bool.true_or, mm_bit]
      have hi : i < qs.length := by
        rcases Nat.lt_or_ge i qs.length with z | z
        · exact z
        · rw [Nat.testBit_lt_two_pow (Nat.lt_of_lt_of_le hm (Nat.pow_le_pow_right (by omega) z))] at hb
          cases hb
      have := h _ (mem_lotA.mpr ⟨i, List.getElem?_eq_getElem hi, by rw [Nat.zero_add]; exact hb⟩)
      rw [List.getElem?_eq_getElem hi]
      simpa using this
    · rw [Bool.eq_false_iff.mpr hb, Bool.false_or]
local macro_rules | `(tactic| walk_at "dred3") => `(tactic| try simp only [eq_self, iEnumD, iRngV, asRng_rng, intTwo_two, dDcS, dDcT, sRet, sSet, sIf, sSeq, sExpr, sAsg, sPar2, dCall, dCons, dNil, dLc, dLcK, dLc2, iSeq, iZipD, dVar, dB, d2, dC, dTup, dLst, dAnd, dOr, dNot, dAndV, dOrV, dNotV, dIf, dYes, dFn, dPr, dMt, dFld, retE, visD, startS, Sl.seen, setAllS,
  lcF, lcF2, gN, gsN, gsC, setAllD, wipeD, arg1_one, arg2_two, asSeq_lst, asSeq_tup, asSeq_lot, asTup_tup, asTup_lot, asLst_lst, asInt_int, asStr_str, asBl_bl, asIns_ins, asIns_made, asDT_dT, asDT_ties, asD_dK, asD_dT, asD_ties, pr2_two, onSome_some, dSub_lst, dSub_tup, dSub_dT, dSub_dK, dSub_pair0, dSub_pair1, dSub_ties, dSub_netp, dSub_nett, dGetO_pair, dGet_ties,
  dEq_int, dEq_str, dEq_bl, dNe_int, dNe_str, dNe_bl, dLt_str, dLt_int, dAdd_int, dAdd_lst, dAdd_tup, onZip_tup, onZip_lst, atI_two0, atI_two1, gTupD_tup, fld_places, fld_ties, look_pl, look_ti, dInA_strT, dInA_strL, dInA_strTup,
  List.map_cons, List.map_nil, List.length_cons, List.length_nil, List.replicate, List.cons_append, List.nil_append, List.append_nil, List.getElem?_cons_zero, List.getElem?_cons_succ, List.set_cons_zero, List.set_cons_succ, Nat.reduceAdd, Nat.reduceSub, Bool.false_xor, Bool.true_xor, Nat.sub_self, Nat.add_one_sub_one, reduceIte, if_true, if_false, true_and, and_true])
/-! ### masks, by data -/
abbrev s_has_place : Stmt := topS 5
theorem sc_has_place : FnScope ["mask", "at"] ["mask", "at"] (defScope s_has_place) := ⟨rfl, rfl, rfl, by decide +kernel, rfl, by decide +kernel, by decide +kernel⟩
abbrev s_mask_of : Stmt := topS 2
theorem sc_mask_of : FnScope ["net", "lot", "at", "place"] ["net", "lot"] (defScope s_mask_of) := ⟨rfl, rfl, rfl, by decide +kernel, rfl, by decide +kernel, by decide +kernel⟩
abbrev s_lot_of : Stmt := topS 3
theorem sc_lot_of : FnScope ["net", "mask", "at", "place"] ["net", "mask"] (defScope s_lot_of) := ⟨rfl, rfl, rfl, by decide +kernel, rfl, by decide +kernel, by decide +kernel⟩
abbrev s_lots_of : Stmt := topS 4
theorem sc_lots_of : FnScope ["net", "masks", "mask"] ["net", "masks"] (defScope s_lots_of) := ⟨rfl, rfl, rfl, by decide +kernel, rfl, by decide +kernel, by decide +kernel⟩
abbrev s_do_masks_cross : Stmt := topS 6
theorem sc_do_masks_cross : FnScope ["one", "other", "full"] ["one", "other", "full"] (defScope s_do_masks_cross) := ⟨rfl, rfl, rfl, by decide +kernel, rfl, by decide +kernel, by decide +kernel⟩
abbrev s_do_cross : Stmt := topS 41
theorem sc_do_cross : FnScope ["net", "one", "other"] ["net", "one", "other"] (defScope s_do_cross) := ⟨rfl, rfl, rfl, by decide +kernel, rfl, by decide +kernel, by decide +kernel⟩
section
variable {P : Program} {w : World} {K : PySem.W.Frag} {mg : Str → Option Value} {base : Heap} {C : Addr}
def spHasPlace : DSp := fun xs Q => ∃ m a : Nat, xs = [.int m, .int a] ∧ Q (.bl (m.testBit a))
theorem has_bit (m a : Nat) : decide (Builtin.bitAnd ((m : Int) / 2 ^ (a : Int).toNat) 1 = 1) = m.testBit a := by
  rw [Int.toNat_natCast, bitAnd_m1, Nat.testBit_eq_decide_div_mod_eq]
  have e : (m : Int) / 2 ^ a % 2 = ((m / 2 ^ a % 2 : Nat) : Int) := by
    rw [Int.natCast_emod, Int.natCast_ediv, Int.natCast_pow]
    rfl
  rw [e]
  by_cases c : m / 2 ^ a % 2 = 1
  · rw [c]; rfl
  · rw [decide_eq_false c, decide_eq_false (by omega)]
theorem ok_has_place {f : Addr} {fd : FuncData} {k : Nat} (F : Fun K "has_place" "has_place" s_has_place f fd)  : FnOk P w K mg base CX0 (k + 1) f fd ["mask", "at"] (spD spHasPlace) := by
  refine fnD_ok F sc_has_place (fun xs Q h => ?_) (fun dc cdv A outer s0 H E hr =>
    (dss_one (ds_ret (de_cmp (opd_eq (hr.units)) (de_op opd_band (de_op opd_shr (de_var 0) (de_var 1)) de_int) de_int (nomark _))))) (fun xs Q h => ?_)
  · obtain ⟨m, a, rfl, _⟩ := h; rfl
  · obtain ⟨m, a, rfl, q⟩ := h
    walk_at "dred3"
    refine ⟨by omega, ?_⟩
    rw [has_bit]
    exact q
theorem enum_strs : ∀ (k : Nat) (l : List Str), enumD (k : Int) (l.map D.str) = (l.zipIdx k).map fun p => D.tup [.int (p.2 : Int), .str p.1]
  | _, [] => rfl
  | k, x :: r => by
    rw [List.map_cons, enumD, List.zipIdx_cons, List.map_cons, ← enum_strs (k + 1) r]
    rfl
theorem enum0_strs (l : List Str) : enumD 0 (l.map D.str) = (l.zipIdx).map fun p => D.tup [.int (p.2 : Int), .str p.1] := enum_strs 0 l
theorem zipIdx_lt {α : Type} {l : List α} {p : α × Nat} (h : p ∈ l.zipIdx) : p.2 < l.length := by
  have := (List.mem_zipIdx h).2.1
  omega
def spMaskOf (C : Addr) : DSp := fun xs Q => ∃ ps ts l, xs = [madeD C ps ts, lotD l] ∧ ps.length ≤ 1000 ∧ Q (.int (mm ps l : Nat))
theorem mm_sum (l : List Str) : ∀ (ps : List Str) (k : Nat), (((ps.zipIdx k).filter fun p => decide (p.1 ∈ l)).map fun p => (1 : Int) * 2 ^ (p.2 : Int).toNat).sum = ((2 ^ k * mm ps l : Nat) : Int)
  | [], _ => by simp [mm]
  | x :: r, k => by
    have ih := mm_sum l r (k + 1)
    rw [List.zipIdx_cons, List.filter_cons, mm]
    by_cases c : x ∈ l
    · rw [if_pos (by exact decide_eq_true c), List.map_cons, List.sum_cons, ih, if_pos c, Nat.mul_add, Nat.mul_one, Nat.pow_succ]
      push_cast
      rw [Int.toNat_natCast, Int.one_mul, Int.mul_assoc]
    · rw [if_neg (by simpa using c), ih, if_neg c, Nat.zero_add, Nat.pow_succ, Nat.mul_assoc]
theorem ok_mask_of {f : Addr} {fd : FuncData} {k : Nat} (F : Fun K "mask_of" "mask_of" s_mask_of f fd) (m_sum : mg "sum" = none) (m_enumerate : mg "enumerate" = none) (Pr_places : DPr P w K mg base k C "places" (spPlaces C)) : FnOk P w K mg base CX0 (k + 1 + 1) f fd ["net", "lot"] (spD (spMaskOf C)) := by
  refine fnD_ok F sc_mask_of (fun xs Q h => ?_) (fun dc cdv A outer s0 H E hr =>
    (dss_one (ds_ret (de_callB (cd_sum rfl) (by rfl) m_sum (by decide +kernel) (da_cons (de_lc (own := [("at", 2), ("place", 3)]) rfl sc_mask_of.nd (di_enum0 (by rfl) m_enumerate (de_prop Pr_places hr (Nat.le_refl _) (de_var 0))) (blkOk_by (N := ["net", "lot", "at", "place"]) (sc := defScope s_mask_of) (by decide +kernel)) (fun _ _ _ _ _ => (dg_tup (n := 2) rfl (dgs_cons (dg_name (i := 2) sc_mask_of.nd rfl (Or.inl rfl)) (dgs_cons (dg_name (i := 3) sc_mask_of.nd rfl (Or.inl rfl)) dgs_nil)))) (fun _ _ _ _ _ => (dts_one (dc_cmp (opd_inA (hu_of hr)) (de_var 3) (de_var 1) (by rfl)))) (fun _ _ _ _ _ => (de_op opd_shl de_int (de_var 2))) (by decide)) da_nil))))) (fun xs Q h => ?_)
  · obtain ⟨ps, ts, l, rfl, _⟩ := h; rfl
  · obtain ⟨ps, ts, l, rfl, hp, q⟩ := h
    walk_at "dred3"
    refine ⟨ps, ts, rfl, ?_⟩
    walk_at "dred3"
    rw [enum0_strs]
    refine ⟨by rw [List.length_map, List.length_zipIdx]; exact Nat.le_of_lt (small1000 (by omega)), ?_⟩
    refine lcL_filter (g := fun p => D.int (1 * 2 ^ (p.2 : Int).toNat)) (c := fun p : Str × Nat => decide (p.1 ∈ l)) (fun p hm K hk => ?_) ?_
    · have hi := zipIdx_lt hm
      walk_at "dred3"
      by_cases c : p.1 ∈ l
      · rw [decide_eq_true c] at hk ⊢
        refine iteT ⟨⟨by omega, by omega, by decide⟩, ?_⟩
        simpa using hk
      · rw [decide_eq_false c] at hk ⊢
        exact iteF (by simpa using hk)
    · have e : ((ps.zipIdx).filter fun p => decide (p.1 ∈ l)).map (fun p => D.int (1 * 2 ^ (p.2 : Int).toNat)) = (((ps.zipIdx).filter fun p => decide (p.1 ∈ l)).map fun p => (1 : Int) * 2 ^ (p.2 : Int).toNat).map D.int := by rw [List.map_map]; rfl
      rw [e]
      refine asInts.of ?_
      rw [mm_sum l ps 0, Nat.pow_zero, Nat.one_mul]
      exact q
def spLotOf (C : Addr) : DSp := fun xs Q => ∃ ps ts, ∃ m : Nat, xs = [madeD C ps ts, .int m] ∧ ps.length ≤ 1000 ∧ Q (lotD (lotA ps 0 m))
theorem lotA_zip (m : Nat) : ∀ (ps : List Str) (k : Nat), ((ps.zipIdx k).filter fun p => m.testBit p.2).map (fun p => D.str p.1) = (lotA ps k m).map D.str
  | [], _ => rfl
  | x :: r, k => by
    rw [List.zipIdx_cons, List.filter_cons, lotA]
    by_cases c : m.testBit k = true
    · rw [if_pos c, if_pos c, List.map_cons, List.map_cons, lotA_zip m r (k + 1)]
    · rw [if_neg c, if_neg c, lotA_zip m r (k + 1)]
theorem ok_lot_of {f : Addr} {fd : FuncData} {k : Nat} (F : Fun K "lot_of" "lot_of" s_lot_of f fd) (m_tuple : mg "tuple" = none) (m_enumerate : mg "enumerate" = none) (Pr_places : DPr P w K mg base k C "places" (spPlaces C)) (G_has_place : DFn P w K mg base (k + 1) "has_place" [] spHasPlace) : FnOk P w K mg base CX0 (k + 1 + 1) f fd ["net", "mask"] (spD (spLotOf C)) := by
  refine fnD_ok F sc_lot_of (fun xs Q h => ?_) (fun dc cdv A outer s0 H E hr =>
    (dss_one (ds_ret (de_callTy cd_tuple (by rfl) m_tuple (by decide +kernel) (da_cons (de_lc (own := [("at", 2), ("place", 3)]) rfl sc_lot_of.nd (di_enum0 (by rfl) m_enumerate (de_prop Pr_places hr (Nat.le_refl _) (de_var 0))) (blkOk_by (N := ["net", "mask", "at", "place"]) (sc := defScope s_lot_of) (by decide +kernel)) (fun _ _ _ _ _ => (dg_tup (n := 2) rfl (dgs_cons (dg_name (i := 2) sc_lot_of.nd rfl (Or.inl rfl)) (dgs_cons (dg_name (i := 3) sc_lot_of.nd rfl (Or.inl rfl)) dgs_nil)))) (fun _ _ _ _ _ => (dts_one (dc_val (de_fn G_has_place hr (Nat.le_refl _) (by rfl) (da_cons (de_var 1) (da_cons (de_var 2) da_nil)))))) (fun _ _ _ _ _ => (de_var 3)) (by decide)) da_nil))))) (fun xs Q h => ?_)
  · obtain ⟨ps, ts, m, rfl, _⟩ := h; rfl
  · obtain ⟨ps, ts, m, rfl, hp, q⟩ := h
    walk_at "dred3"
    refine ⟨ps, ts, rfl, ?_⟩
    walk_at "dred3"
    rw [enum0_strs]
    refine ⟨by rw [List.length_map, List.length_zipIdx]; exact Nat.le_of_lt (small1000 (by omega)), ?_⟩
    refine lcL_filter (g := fun p => D.str p.1) (c := fun p : Str × Nat => m.testBit p.2) (fun p hm K hk => ?_) ?_
    · walk_at "dred3"
      refine ⟨m, p.2, rfl, ?_⟩
      walk_at "dred3"
      exact hk
    · rw [lotA_zip]
      exact q

def spLotsOf (C : Addr) : DSp := fun xs Q => ∃ ps ts, ∃ ms : List Nat, xs = [madeD C ps ts, .lst (ms.map fun m : Nat => D.int m)] ∧ ps.length ≤ 1000 ∧ ms.length ≤ 1000 ∧ (∀ m ∈ ms, lotA ps 0 m ≠ []) ∧ Q (.tup (((ms.map (lotA ps 0)).mergeSort leL).map lotD))
theorem ok_lots_of {f : Addr} {fd : FuncData} {k : Nat} (F : Fun K "lots_of" "lots_of" s_lots_of f fd) (m_tuple : mg "tuple" = none) (m_sorted : mg "sorted" = none) (G_lot_of : DFn P w K mg base k "lot_of" [] (spLotOf C)) : FnOk P w K mg base CX0 (k + 1) f fd ["net", "masks"] (spD (spLotsOf C)) := by
  refine fnD_ok F sc_lots_of (fun xs Q h => ?_) (fun dc cdv A outer s0 H E hr =>
    (dss_one (ds_ret (de_callTy cd_tuple (by rfl) m_tuple (by decide +kernel) (da_cons (de_callB (cd_sortedL (room80 hr)) (by rfl) m_sorted (by decide +kernel) (da_cons (de_lc (own := [("mask", 2)]) rfl sc_lots_of.nd (di_seq (de_var 1)) (blkOk_by (N := ["net", "masks", "mask"]) (sc := defScope s_lots_of) (by decide +kernel)) (fun _ _ _ _ _ => (dg_name (i := 2) sc_lots_of.nd rfl (Or.inl rfl))) (fun _ _ _ _ _ => dts_nil) (fun _ _ _ _ _ => (de_fn G_lot_of hr (Nat.le_refl _) (by rfl) (da_cons (de_var 0) (da_cons (de_var 2) da_nil)))) (by decide)) da_nil)) da_nil))))) (fun xs Q h => ?_)
  · obtain ⟨ps, ts, ms, rfl, _⟩ := h; rfl
  · obtain ⟨ps, ts, ms, rfl, hp, hm, hne, q⟩ := h
    walk_at "dred3"
    refine ⟨by rw [List.length_map]; exact Nat.le_of_lt (small1000 (by omega)), ?_⟩
    refine lcL_all (g := fun m => lotD (lotA ps 0 m)) (fun m h1 K hk => ?_) ?_
    · walk_at "dred3"
      exact ⟨ps, ts, m, rfl, hp, hk⟩
    · have e : ms.map (fun m => lotD (lotA ps 0 m)) = (ms.map (lotA ps 0)).map lotD := by rw [List.map_map]; rfl
      rw [e]
      refine ⟨ms.map (lotA ps 0), rfl, fun l hl => ?_, ?_⟩
      · obtain ⟨m, h1, rfl⟩ := List.mem_map.mp hl
        exact hne m h1
      · walk_at "dred3"
        exact q
theorem inD_ints (a : Int) (l : List Int) : inD (.int a) (l.map D.int) = decide (a ∈ l) := by
  unfold inD inV
  induction l with
  | nil => rfl
  | cons b r ih =>
    rw [List.map_cons, List.map_cons, List.any_cons, ih]
    show (decide (b = a) || decide (a ∈ r)) = _
    by_cases c : b = a
    · subst c; simp
    · have c' : ¬ a = b := fun z => c z.symm
      simp [c, c']
theorem dInA_intT {neg : Bool} {a : Int} {l : List Int} {Q : D → Prop} : dInA neg (.int a) (.tup (l.map D.int)) Q = Q (.bl (neg ^^ decide (a ∈ l))) := by
  have f : (l.map D.int).all flatD = true := by
    rw [List.all_map]
    exact List.all_eq_true.mpr fun _ _ => rfl
  show (true = true ∧ (l.map D.int).all flatD = true ∧ Q (.bl (neg ^^ inD (.int a) (l.map D.int)))) = _
  rw [inD_ints, f]
  simp
theorem band_nat (a b : Nat) : Builtin.bitAnd (a : Int) (b : Int) = ((a &&& b : Nat) : Int) := by
  rw [bitAnd_pp (by omega) (by omega), Int.toNat_natCast, Int.toNat_natCast]
theorem bor_nat (a b : Nat) : Builtin.bitOr (a : Int) (b : Int) = ((a ||| b : Nat) : Int) := by
  have e := PyProof.Rows.nat_or_add_and a b
  rw [bitOr_and, band_nat]
  omega
def crossM (a b c : Nat) : Bool := decide (¬ (a &&& b = 0 ∨ a &&& b = a ∨ a &&& b = b)) && decide (¬ (a ||| b = c))
def spMasksCross : DSp := fun xs Q => ∃ a b c : Nat, xs = [.int a, .int b, .int c] ∧ Q (.bl (crossM a b c))
theorem ok_do_masks_cross {f : Addr} {fd : FuncData} {k : Nat} (F : Fun K "do_masks_cross" "do_masks_cross" s_do_masks_cross f fd)  : FnOk P w K mg base CX0 (k + 1) f fd ["one", "other", "full"] (spD spMasksCross) := by
  refine fnD_ok F sc_do_masks_cross (fun xs Q h => ?_) (fun dc cdv A outer s0 H E hr =>
    (dss_one (ds_ret (de_and (de_cmp (opd_notinA (hu_of hr)) (de_op opd_band (de_var 0) (de_var 1)) (de_tup (da_cons de_int (da_cons (de_var 0) (da_cons (de_var 1) da_nil)))) (by rfl)) (de_one (de_cmp (opd_ne (hr.units)) (de_op opd_bor (de_var 0) (de_var 1)) (de_var 2) (nomark _))))))) (fun xs Q h => ?_)
  · obtain ⟨a, b, c, rfl, _⟩ := h; rfl
  · obtain ⟨a, b, c, rfl, q⟩ := h
    walk_at "dred3"
    refine ⟨by decide, ?_⟩
    show dInA true (.int (Builtin.bitAnd a b)) (.tup ([(0 : Int), a, b].map D.int)) _
    rw [dInA_intT, band_nat, bor_nat]
    walk_at "dred3"
    have e1 : (((a &&& b : Nat) : Int) ∈ [(0 : Int), a, b]) ↔ (a &&& b = 0 ∨ a &&& b = a ∨ a &&& b = b) := by
      simp only [List.mem_cons, List.not_mem_nil, or_false]
      omega
    have e2 : (((a ||| b : Nat) : Int) = c) ↔ (a ||| b = c) := by omega
    unfold crossM at q
    by_cases h1 : a &&& b = 0 ∨ a &&& b = a ∨ a &&& b = b
    · rw [decide_eq_false (not_not_intro h1), Bool.false_and] at q
      rw [decide_eq_true (e1.mpr h1)]
      exact iteF q
    · rw [decide_eq_true h1, Bool.true_and] at q
      rw [decide_eq_false (fun z => h1 (e1.mp z))]
      refine iteT ?_
      by_cases h2 : a ||| b = c
      · rw [decide_eq_false (not_not_intro h2)] at q
        rw [decide_eq_true (e2.mpr h2)]
        exact q
      · rw [decide_eq_true h2] at q
        rw [decide_eq_false (fun z => h2 (e2.mp z))]
        exact q
/-- no corner is empty -/
def crossS (qs a b : List Str) : Bool := crossM (mm qs a) (mm qs b) (mm qs qs)
def spDoCross (C : Addr) : DSp := fun xs Q => ∃ ps ts a b, xs = [madeD C ps ts, lotD a, lotD b] ∧ isLot ps a = true ∧ isLot ps b = true ∧ a.length ≤ 1000 ∧ b.length ≤ 1000 ∧ ps.length ≤ 1000 ∧ Q (.bl (crossS ps a b))
theorem ok_do_cross {f : Addr} {fd : FuncData} {k : Nat} (F : Fun K "do_cross" "do_cross" s_do_cross f fd) (Pr_places : DPr P w K mg base k C "places" (spPlaces C)) (G__check_two : DFn P w K mg base (k + 1) "_check_two" [] (spCheckTwo C)) (G_mask_of : DFn P w K mg base (k + 1) "mask_of" [] (spMaskOf C)) (G_do_masks_cross : DFn P w K mg base (k + 1) "do_masks_cross" [] spMasksCross) : FnOk P w K mg base CX0 (k + 1 + 1) f fd ["net", "one", "other"] (spD (spDoCross C)) := by
  refine fnD_ok F sc_do_cross (fun xs Q h => ?_) (fun dc cdv A outer s0 H E hr =>
    (dss_cons (ds_expr (de_fn G__check_two hr (Nat.le_refl _) (by rfl) (da_cons (de_var 0) (da_cons (de_var 1) (da_cons (de_var 2) da_nil)))))
      (dss_one (ds_ret (de_fn G_do_masks_cross hr (Nat.le_refl _) (by rfl) (da_cons (de_fn G_mask_of hr (Nat.le_refl _) (by rfl) (da_cons (de_var 0) (da_cons (de_var 1) da_nil))) (da_cons (de_fn G_mask_of hr (Nat.le_refl _) (by rfl) (da_cons (de_var 0) (da_cons (de_var 2) da_nil))) (da_cons (de_fn G_mask_of hr (Nat.le_refl _) (by rfl) (da_cons (de_var 0) (da_cons (de_prop Pr_places hr (Nat.le_refl _) (de_var 0)) da_nil))) da_nil)))))))) (fun xs Q h => ?_)
  · obtain ⟨ps, ts, a, b, rfl, _⟩ := h; rfl
  · obtain ⟨ps, ts, a, b, rfl, ha, hb, la, lb, hp, q⟩ := h
    walk_at "dred3"
    refine ⟨ps, ts, a, b, rfl, ha, hb, la, lb, ?_⟩
    show spMaskOf C [madeD C ps ts, lotD a] _
    exact ⟨ps, ts, a, rfl, hp, ps, ts, b, rfl, hp, ps, ts, rfl, ps, ts, ps, rfl, hp, _, _, _, rfl, q⟩
end
/-! ### all cuts, by data -/
abbrev s_Net_degree : Stmt := inClass (topS 38) 11
theorem sc_Net_degree : FnScope ["self", "place", "pair"] ["self", "place"] (defScope s_Net_degree) := ⟨rfl, rfl, rfl, by decide +kernel, rfl, by decide +kernel, by decide +kernel⟩
abbrev s_Net_degrees : Stmt := inClass (topS 38) 5
theorem sc_Net_degrees : FnScope ["self", "place"] ["self"] (defScope s_Net_degrees) := ⟨rfl, rfl, rfl, by decide +kernel, rfl, by decide +kernel, by decide +kernel⟩
abbrev s_Net_ties : Stmt := inClass (topS 38) 3
theorem sc_Net_ties : FnScope ["self", "pair"] ["self"] (defScope s_Net_ties) := ⟨rfl, rfl, rfl, by decide +kernel, rfl, by decide +kernel, by decide +kernel⟩
abbrev s_all_cuts : Stmt := topS 7
theorem sc_all_cuts : FnScope ["net", "ties", "degrees", "cuts", "at", "place", "between", "other", "many", "ahead"] ["net"] (defScope s_all_cuts) := ⟨rfl, rfl, rfl, by decide +kernel, rfl, by decide +kernel, by decide +kernel⟩
section
variable {P : Program} {w : World} {K : PySem.W.Frag} {mg : Str → Option Value} {base : Heap} {C : Addr}
def touches (p : Str) (k : Str × Str) : Bool := decide (p ∈ [k.1, k.2])
def degT (ts : Ties) (p : Str) : Int := ((ts.filter fun e => touches p e.1).map (·.2)).sum
def spDegree (C : Addr) : DSp := fun xs Q => ∃ ps ts p, xs = [madeD C ps ts, .str p] ∧ p ∈ ps ∧ ts.length ≤ 1000 ∧ (ts.map (·.1)).Nodup ∧ Q (.int (degT ts p))
theorem ok_Net_degree {f : Addr} {fd : FuncData} {k : Nat} (F : Fun K "degree" "Net.degree" s_Net_degree f fd) (c0 : Cls K C) (n_ties : NoAttr K C "_ties") (m_sum : mg "sum" = none) (Mt__check_place : DMt P w K mg base k C "_check_place" [] (spCheckPlace C)) : FnOk P w K mg base CX0 (k + 1) f fd ["self", "place"] (spD (spDegree C)) := by
  refine fnD_ok F sc_Net_degree (fun xs Q h => ?_) (fun dc cdv A outer s0 H E hr =>
    (dss_cons (ds_expr (de_meth Mt__check_place hr (Nat.le_refl _) (de_var 0) (da_cons (de_var 1) da_nil)))
      (dss_one (ds_ret (de_callB (cd_sum rfl) (by rfl) m_sum (by decide +kernel) (da_cons (de_lcK (own := [("pair", 2)]) rfl sc_Net_degree.nd (dp_fld c0 n_ties (dp_var 0)) (blkOk_by (N := ["self", "place", "pair"]) (sc := defScope s_Net_degree) (by decide +kernel)) (fun _ _ _ _ _ => (dg_name (i := 2) sc_Net_degree.nd rfl (Or.inl rfl))) (fun _ _ _ _ _ => (dts_one (dc_cmp (opd_inA (hu_of hr)) (de_var 1) (de_var 2) (by rfl)))) (fun _ _ _ _ _ => (de_sub (hu_of hr) (dp_fld c0 n_ties (dp_var 0)).de (de_var 2))) (by decide)) da_nil)))))) (fun xs Q h => ?_)
  · obtain ⟨ps, ts, p, rfl, _⟩ := h; rfl
  · obtain ⟨ps, ts, p, rfl, hp, ht, nd, q⟩ := h
    walk_at "dred3"
    refine ⟨by decide, ⟨ps, ts, p, rfl, hp, ?_⟩⟩
    refine ⟨by rw [List.length_map]; exact Nat.le_of_lt (small1000 ht), ?_⟩
    rw [keysD_ties]
    refine lcL_filter (g := fun e => D.int e.2) (c := fun e => touches p e.1) (fun e he K hk => ?_) ?_
    · walk_at "dred3"
      show dInA false (.str p) (.tup ([e.1.1, e.1.2].map D.str)) _
      rw [dInA_strT]
      walk_at "dred3"
      rw [look_at nd he]
      exact hk
    · have e : (ts.filter fun e => touches p e.1).map (fun e => D.int e.2) = ((ts.filter fun e => touches p e.1).map (·.2)).map D.int := by rw [List.map_map]; rfl
      rw [e]
      exact asInts.of q
theorem dcL_each {α κ : Type} {kf : D → Option κ} {f : D → (D → D → Prop) → Prop} {h : α → D} {gk : α → D} {gv : α → D} {kk : α → κ} (hkf : ∀ a, kf (gk a) = some (kk a)) : ∀ {xs : List α} {ks : List κ} {zs : List D} {Q : List κ → List D → Prop},
    (∀ a ∈ xs, ∀ K : D → D → Prop, K (gk a) (gv a) → f (h a) K) → (ks ++ xs.map kk).Nodup → Q (ks ++ xs.map kk) (zs ++ xs.map gv) → dcL kf f (xs.map h) ks zs Q
  | [], ks, zs, Q, _, _, q => by
    simpa [dcL] using q
  | x :: r, ks, zs, Q, hf, nd, q => by
    rw [List.map_cons, dcL]
    refine hf x List.mem_cons_self _ ⟨kk x, hkf x, fun z => ?_, ?_⟩
    · rw [List.map_cons, List.nodup_append] at nd
      exact nd.2.2 _ z _ List.mem_cons_self rfl
    · refine dcL_each hkf (fun a ha => hf a (List.mem_cons_of_mem _ ha)) ?_ ?_
      · rw [List.append_assoc]
        exact nd
      · rw [List.append_assoc, List.append_assoc]
        exact q
def spTies (C : Addr) : DSp := fun xs Q => ∃ ps ts, xs = [madeD C ps ts] ∧ ts.length ≤ 1000 ∧ (ts.map (·.1)).Nodup ∧ Q (tiesD ts)
theorem ok_Net_ties {f : Addr} {fd : FuncData} {k : Nat} (F : Fun K "ties" "Net.ties" s_Net_ties f fd) (c0 : Cls K C) (n_ties : NoAttr K C "_ties") : FnOk P w K mg base CX0 (k + 1) f fd ["self"] (spD (spTies C)) := by
  refine fnD_ok F sc_Net_ties (fun xs Q h => ?_) (fun dc cdv A outer s0 H E hr =>
    (dss_one (ds_ret (de_dcT (own := [("pair", 1)]) rfl (hu_of hr) sc_Net_ties.nd (dp_fld c0 n_ties (dp_var 0)) (blkOk_by (N := ["self", "pair"]) (sc := defScope s_Net_ties) (by decide +kernel)) (fun _ _ _ _ _ => (dg_name (i := 1) sc_Net_ties.nd rfl (Or.inl rfl))) (fun _ _ _ _ _ => (de_var 1)) (fun _ _ _ _ _ => (de_sub (hu_of hr) (dp_fld c0 n_ties (dp_var 0)).de (de_var 1))) (by decide))))) (fun xs Q h => ?_)
  · obtain ⟨ps, ts, rfl, _⟩ := h; rfl
  · obtain ⟨ps, ts, rfl, ht, nd, q⟩ := h
    walk_at "dred3"
    refine ⟨by rw [List.length_map]; exact Nat.le_of_lt (small1000 ht), ?_⟩
    rw [keysD_ties]
    refine dcL_each (gk := fun e => pairD e.1) (gv := fun e => D.int e.2) (kk := fun e => kP e.1) (fun e => rfl) (fun e he K hk => ?_) ?_ ?_
    · unfold dcF
      walk_at "dred3"
      rw [look_at nd he]
      exact hk
    · rw [List.nil_append]
      have e : ts.map (fun e => kP e.1) = (ts.map (·.1)).map kP := by rw [List.map_map]; rfl
      rw [e]
      exact List.Pairwise.map _ (fun a b hab z => hab (kP_inj' z)) nd
    · rw [List.nil_append, List.nil_append]
      exact q
def degsD (ps : List Str) (ts : Ties) : D := .dK (ps.map Sum.inr) (ps.map fun p => .int (degT ts p))
def spDegrees (C : Addr) : DSp := fun xs Q => ∃ ps ts, xs = [madeD C ps ts] ∧ ps.length ≤ 1000 ∧ ps.Nodup ∧ ts.length ≤ 1000 ∧ (ts.map (·.1)).Nodup ∧ Q (degsD ps ts)
theorem ok_Net_degrees {f : Addr} {fd : FuncData} {k : Nat} (F : Fun K "degrees" "Net.degrees" s_Net_degrees f fd) (c0 : Cls K C) (n_places : NoAttr K C "_places") (Mt_degree : DMt P w K mg base k C "degree" [] (spDegree C)) : FnOk P w K mg base CX0 (k + 1) f fd ["self"] (spD (spDegrees C)) := by
  refine fnD_ok F sc_Net_degrees (fun xs Q h => ?_) (fun dc cdv A outer s0 H E hr =>
    (dss_one (ds_ret (de_dcS (own := [("place", 1)]) rfl sc_Net_degrees.nd (di_seq (dp_fld c0 n_places (dp_var 0)).de) (blkOk_by (N := ["self", "place"]) (sc := defScope s_Net_degrees) (by decide +kernel)) (fun _ _ _ _ _ => (dg_name (i := 1) sc_Net_degrees.nd rfl (Or.inl rfl))) (fun _ _ _ _ _ => (de_var 1)) (fun _ _ _ _ _ => (de_meth Mt_degree hr (Nat.le_refl _) (de_var 0) (da_cons (de_var 1) da_nil))) (by decide))))) (fun xs Q h => ?_)
  · obtain ⟨ps, ts, rfl, _⟩ := h; rfl
  · obtain ⟨ps, ts, rfl, hp, np, ht, nd, q⟩ := h
    walk_at "dred3"
    refine ⟨by rw [List.length_map]; exact Nat.le_of_lt (small1000 hp), ?_⟩
    refine dcL_each (gk := D.str) (gv := fun p => D.int (degT ts p)) (kk := fun p => (Sum.inr p : Key)) (fun e => rfl) (fun p hm K hk => ?_) ?_ ?_
    · unfold dcF
      walk_at "dred3"
      exact ⟨by decide, ⟨ps, ts, p, rfl, hm, ht, nd, hk⟩⟩
    · rw [List.nil_append]
      exact List.Pairwise.map _ (fun a b hab z => hab (Sum.inr.inj z)) np
    · rw [List.nil_append, List.nil_append]
      exact q
end
section
variable {P : Program} {w : World} {K : PySem.W.Frag} {mg : Str → Option Value} {base : Heap} {C : Addr}
theorem dFor_at {α : Type} {h : α → D} {is : List Nat} {g : DTG} {body : DTS} {E : DEnds} {xs : List α} (P : List α → SEnv → Prop)
    (st : ∀ d x r, xs = d ++ x :: r → ∀ ρ, P d ρ → ∀ E2 : DEnds, (∀ ρ, P (d ++ [x]) ρ → E2.nx ρ) → E2.rt = E.rt → g (h x) fun ys => body E2 (setAllS ρ is ys)) (q : ∀ ρ, P xs ρ → E.nx ρ) :
    ∀ (rest done : List α) (ρ : SEnv), xs = done ++ rest → P done ρ → dFor is g body E (rest.map h) ρ
  | [], done, ρ, e, hp => q ρ (by rw [e, List.append_nil]; exact hp)
  | x :: r, done, ρ, e, hp => st done x r e ρ hp _ (fun ρ' hp' => dFor_at P st q r (done ++ [x]) ρ' (by rw [e, List.append_assoc]; rfl) hp') rfl
theorem dFor_go {α : Type} {h : α → D} {is : List Nat} {g : DTG} {body : DTS} {E : DEnds} {xs : List α} {ρ : SEnv} (P : List α → SEnv → Prop) (h0 : P [] ρ)
    (st : ∀ d x r, xs = d ++ x :: r → ∀ ρ, P d ρ → ∀ E2 : DEnds, (∀ ρ, P (d ++ [x]) ρ → E2.nx ρ) → E2.rt = E.rt → g (h x) fun ys => body E2 (setAllS ρ is ys)) (q : ∀ ρ, P xs ρ → E.nx ρ) : dFor is g body E (xs.map h) ρ :=
  dFor_at P st q xs [] ρ rfl h0
theorem cut_take (xs : List D) (n : Nat) (h : n ≤ xs.length) : cutD xs none (some (n : Int)) = xs.take n := by
  unfold cutD
  rw [HT.sIx_none, HT.sIx_nat, Nat.min_eq_left h, List.drop_zero, Nat.sub_zero]
theorem cutT_touch {ps : List Str} {ts : Ties} (g : MG ps ts) (p : Str) : cutT ts [p] = degT ts p := by
  unfold cutT degT
  congr 1
  congr 1
  refine List.filter_congr fun e he => ?_
  have h := (g.keys e he).2.2
  have hne : e.1.1 ≠ e.1.2 := fun z => by rw [z] at h; have := ltS_asymm h; rw [h] at this; cases this
  unfold parts touches
  by_cases a : e.1.1 = p
  · have b : e.1.2 ≠ p := fun z => hne (a.trans z.symm)
    simp [a, b]
  · by_cases b : e.1.2 = p
    · have a' : ¬ p = e.1.1 := fun z => a z.symm
      simp [a, b]
    · have a' : ¬ p = e.1.1 := fun z => a z.symm
      have b' : ¬ p = e.1.2 := fun z => b z.symm
      simp [a, b, a', b']
def tp (ts : Ties) (p : Str) (l : List Str) : Int := (l.map fun o => getT ts (o, p)).sum
theorem cut_more {ps : List Str} {ts : Ties} (g : MG ps ts) {l : List Str} {p : Str} (hl : LotOk ps l) (hp : p ∈ ps) (hlt : ∀ x ∈ l, ltS x p = true) : cutT ts (l ++ [p]) = cutT ts l + degT ts p - 2 * tp ts p l := by
  have hb : LotOk ps [p] := ⟨fun x hx => by rw [List.mem_singleton.mp hx]; exact hp, List.pairwise_singleton _ _⟩
  have e := ex_sum (j := l ++ [p]) g hl hb (fun x hx z => by
    rw [List.mem_singleton.mp z] at hx
    have := hlt _ hx
    have h2 := ltS_asymm this
    rw [this] at h2
    cases h2) (fun x => List.mem_append)
  rw [← e, cutT_touch g]
  have e2 : tbS ts l [p] = tp ts p l := by
    unfold tbS tp
    rw [List.flatMap_def]
    have : l.map (fun x => [p].map fun y => getT ts (ordP x y)) = (l.map fun o => getT ts (o, p)).map fun z => [z] := by
      rw [List.map_map]
      refine List.map_congr_left fun x hx => ?_
      show [getT ts (ordP x p)] = [getT ts (x, p)]
      have : ordP x p = (x, p) := by
        unfold ordP
        rw [if_pos (hlt x hx)]
      rw [this]
    rw [this]
    generalize l.map (fun o => getT ts (o, p)) = zs
    induction zs with
    | nil => rfl
    | cons z r ih => simpa using ih
  rw [e2]

theorem look_deg (f : Str → D) {p : Str} : ∀ {ps : List Str}, p ∈ ps → lookD (ps.map fun p => (Sum.inr p : Key)) (ps.map f) (Sum.inr p) = some (f p)
  | x :: r, h => by
    show (if (Sum.inr x : Key) = Sum.inr p then some (f x) else lookD (r.map fun p => (Sum.inr p : Key)) (r.map f) (Sum.inr p)) = _
    by_cases c : x = p
    · rw [if_pos (by rw [c]), c]
    · rw [if_neg (fun z => c (Sum.inr.inj z))]
      exact look_deg f ((List.mem_cons.mp h).resolve_left fun z => c z.symm)
theorem dGet_tiesL {ts : Ties} {a b : Str} {Q : Option D → Prop} : dGetO (tiesD ts) (.tup [.str a, .str b]) Q = Q (lookD (ts.map fun e => kP e.1) (ts.map fun e => .int e.2) (kP (a, b))) := rfl
theorem asD_tiesD {ts : Ties} {Q : Prop} : asD (tiesD ts) Q = Q := rfl
theorem zip_maps {α : Type} (f g : α → D) : ∀ l : List α, zipD (l.map f) (l.map g) = l.map fun x => .tup [f x, g x]
  | [] => rfl
  | x :: r => by
    have := zip_maps f g r
    unfold zipD at this ⊢
    rw [List.map_cons, List.map_cons, List.zip_cons_cons, List.map_cons, this]
    rfl
def cutsD (ps : List Str) (ts : Ties) : D := .lst ((allS ps).map fun l => .int (cutT ts l))
def spAllCuts (C : Addr) : DSp := fun xs Q => ∃ ps ts, xs = [madeD C ps ts] ∧ MG ps ts ∧ ps.length ≤ 9 ∧ ts.length ≤ 900 ∧ Q (cutsD ps ts)
theorem allS_small {l : List Str} (h : l.length ≤ 9) : (allS l).length ≤ 1000 := by
  rw [allS_len]
  have : 2 ^ l.length ≤ 2 ^ 9 := Nat.pow_le_pow_right (by omega) h
  omega
theorem cuts_nil {ts : Ties} {C : Addr} {ps : List Str} : [Sl.val (madeD C ps ts), Sl.val (tiesD ts), Sl.val (degsD ps ts), Sl.val (D.lst [D.int 0]), Sl.emp, Sl.emp, Sl.emp, Sl.emp, Sl.emp, Sl.emp] = [Sl.val (madeD C ps ts), .val (tiesD ts), .val (degsD ps ts), .val (.lst ((allS []).map fun l => D.int (cutT ts l))), .emp, .emp, .emp, .emp, .emp, .emp] := by
  have e : cutT ts [] = 0 := by
    unfold cutT
    rw [List.filter_eq_nil_iff.mpr fun e _ => by simp [parts]]
    rfl
  show _ = [Sl.val (madeD C ps ts), Sl.val (tiesD ts), Sl.val (degsD ps ts), Sl.val (D.lst [D.int (cutT ts [])]), _, _, _, _, _, _]
  rw [e]
theorem zipIdx_fst {α : Type} : ∀ (l : List α) (k : Nat), (l.zipIdx k).map (·.1) = l
  | [], _ => rfl
  | x :: r, k => by rw [List.zipIdx_cons, List.map_cons, zipIdx_fst r]
theorem zipIdx_split {α : Type} {l : List α} {k : Nat} {d r : List (α × Nat)} {x : α × Nat} (e : l.zipIdx k = d ++ x :: r) : l = d.map (·.1) ++ x.1 :: r.map (·.1) ∧ x.2 = k + d.length := by
  refine ⟨?_, ?_⟩
  · have := congrArg (List.map (·.1)) e
    rw [zipIdx_fst, List.map_append, List.map_cons] at this
    exact this
  · have := congrArg (fun z : List (α × Nat) => z[d.length]?) e
    simp only [List.getElem?_zipIdx, List.getElem?_append_right (Nat.le_refl _), Nat.sub_self, List.getElem?_cons_zero] at this
    obtain ⟨y, _, rfl⟩ := Option.map_eq_some_iff.mp this
    rfl
theorem tp_more {ts : Ties} {p o : Str} {c : List Str} : (allS c).map (fun l => D.int (tp ts p l)) ++ (allS c).map (fun l => D.int (tp ts p l + getT ts (o, p))) = (allS (c ++ [o])).map fun l => D.int (tp ts p l) := by
  rw [allS_snoc, List.map_append, List.map_map]
  congr 1
  refine List.map_congr_left fun l hl => ?_
  show D.int _ = D.int (tp ts p (l ++ [o]))
  unfold tp
  rw [List.map_append, List.sum_append]
  simp
theorem ok_all_cuts {f : Addr} {fd : FuncData} {k : Nat} (F : Fun K "all_cuts" "all_cuts" s_all_cuts f fd) (m_enumerate : mg "enumerate" = none) (m_zip : mg "zip" = none) (Pr_places : DPr P w K mg base k C "places" (spPlaces C)) (Pr_ties : DPr P w K mg base k C "ties" (spTies C)) (Pr_degrees : DPr P w K mg base k C "degrees" (spDegrees C)) : FnOk P w K mg base CX0 (k + 1 + 1) f fd ["net"] (spD (spAllCuts C)) := by
  refine fnD_ok F sc_all_cuts (fun xs Q h => ?_) (fun dc cdv A outer s0 H E hr =>
    (dss_cons (ds_set (i := 1) sc_all_cuts.nd rfl (by first | exact Or.inl rfl | exact Or.inr rfl) (de_prop Pr_ties hr (Nat.le_refl _) (de_var 0)))
      (dss_cons (ds_set (i := 2) sc_all_cuts.nd rfl (by first | exact Or.inl rfl | exact Or.inr rfl) (de_prop Pr_degrees hr (Nat.le_refl _) (de_var 0)))
      (dss_cons (ds_set (i := 3) sc_all_cuts.nd rfl (by first | exact Or.inl rfl | exact Or.inr rfl) (de_lst (da_cons de_int da_nil)))
      (dss_cons (ds_for PassesOwn.never rfl (di_enum0 (by rfl) m_enumerate (de_prop Pr_places hr (Nat.le_refl _) (de_var 0))) (dg_tup (n := 2) rfl (dgs_cons (dg_name (i := 4) sc_all_cuts.nd rfl (by first | exact Or.inl rfl | exact Or.inr rfl)) (dgs_cons (dg_name (i := 5) sc_all_cuts.nd rfl (by first | exact Or.inl rfl | exact Or.inr rfl)) dgs_nil))) (dss_cons (ds_set (i := 6) sc_all_cuts.nd rfl (by first | exact Or.inl rfl | exact Or.inr rfl) (de_lst (da_cons de_int da_nil)))
      (dss_cons (ds_for PassesOwn.never rfl (di_seq (de_slice (de_prop Pr_places hr (Nat.le_refl _) (de_var 0)) do_none (do_some (de_var 4)))) (dg_name (i := 7) sc_all_cuts.nd rfl (by first | exact Or.inl rfl | exact Or.inr rfl)) (dss_cons (ds_set (i := 8) sc_all_cuts.nd rfl (by first | exact Or.inl rfl | exact Or.inr rfl) (de_get2 (hu_of hr) (de_var 1) (de_tup (da_cons (de_var 7) (da_cons (de_var 5) da_nil))) de_int ⟨by rfl, by rfl, by rfl, by rfl⟩))
      (dss_one (ds_set (i := 6) sc_all_cuts.nd rfl (by first | exact Or.inl rfl | exact Or.inr rfl) (de_op opd_add (de_var 6) (de_lc (own := [("ahead", 9)]) rfl sc_all_cuts.nd (di_seq (de_var 6)) (blkOk_by (N := ["net", "ties", "degrees", "cuts", "at", "place", "between", "other", "many", "ahead"]) (sc := defScope s_all_cuts) (by decide +kernel)) (fun _ _ _ _ _ => (dg_name (i := 9) sc_all_cuts.nd rfl (Or.inl rfl))) (fun _ _ _ _ _ => dts_nil) (fun _ _ _ _ _ => (de_op opd_add (de_var 9) (de_var 8))) (by decide)))))))
      (dss_one (ds_set (i := 3) sc_all_cuts.nd rfl (by first | exact Or.inl rfl | exact Or.inr rfl) (de_op opd_add (de_var 3) (de_lc (own := [("ahead", 9), ("many", 8)]) rfl sc_all_cuts.nd (di_zip (by rfl) m_zip (da_cons (de_var 3) (da_cons (de_var 6) da_nil))) (blkOk_by (N := ["net", "ties", "degrees", "cuts", "at", "place", "between", "other", "many", "ahead"]) (sc := defScope s_all_cuts) (by decide +kernel)) (fun _ _ _ _ _ => (dg_tup (n := 2) rfl (dgs_cons (dg_name (i := 9) sc_all_cuts.nd rfl (Or.inl rfl)) (dgs_cons (dg_name (i := 8) sc_all_cuts.nd rfl (Or.inl rfl)) dgs_nil)))) (fun _ _ _ _ _ => dts_nil) (fun _ _ _ _ _ => (de_op opd_sub (de_op opd_add (de_var 9) (de_sub (hu_of hr) (de_var 2) (de_var 5))) (de_op opd_mul de_int (de_var 8)))) (by decide))))))))
      (dss_one (ds_ret (de_var 3)))))))) (fun xs Q h => ?_)
  · obtain ⟨ps, ts, rfl, _⟩ := h; rfl
  · obtain ⟨ps, ts, rfl, g, hp, ht, q⟩ := h
    walk_at "dred3"
    refine ⟨ps, ts, rfl, by omega, g.nodup, ?_⟩
    walk_at "dred3"
    refine ⟨ps, ts, rfl, by omega, asc_nodup g.asc, by omega, g.nodup, ?_⟩
    walk_at "dred3"
    refine ⟨by decide, ?_⟩
    unfold sFor
    walk_at "dred3"
    refine ⟨ps, ts, rfl, ?_⟩
    walk_at "dred3"
    rw [enum0_strs]
    refine dFor_go (fun d ρ => ∃ s4 s5 s6 s7 s8 s9, ρ = [Sl.val (madeD C ps ts), .val (tiesD ts), .val (degsD ps ts), .val (.lst ((allS (d.map (·.1))).map fun l => D.int (cutT ts l))), s4, s5, s6, s7, s8, s9]) ⟨_, _, _, _, _, _, by rw [show ([] : List (Str × Nat)).map (·.1) = [] from rfl]; exact cuts_nil⟩ (fun d x r e ρ ⟨s4, s5, s6, s7, s8, s9, hρ⟩ E2 hE hrt => ?_) (fun ρ ⟨s4, s5, s6, s7, s8, s9, hρ⟩ => ?_)
    · subst hρ
      walk_at "dred3"
      refine ⟨by decide, ⟨ps, ts, rfl, ?_⟩⟩
      obtain ⟨e1, e2⟩ := zipIdx_split e
      rw [Nat.zero_add] at e2
      show dFor _ _ _ _ (cutD (ps.map D.str) none (some (x.2 : Int))) _
      have hdl : d.length < ps.length := by
        have := congrArg List.length e1
        rw [List.length_append, List.length_map, List.length_cons] at this
        omega
      rw [e2, cut_take _ _ (by rw [List.length_map]; omega), ← List.map_take]
      have e3 : ps.take d.length = d.map (·.1) := by
        conv => lhs; rw [e1]
        rw [List.take_append_of_le_length (by rw [List.length_map]; omega), List.take_of_length_le (by rw [List.length_map]; omega)]
      rw [e3]
      have hA : (d.map (·.1)).length = d.length := List.length_map ..
      generalize hAe : d.map (·.1) = A at e1 e3 hA ⊢
      have hlt : ∀ y ∈ A, ltS y x.1 = true := by
        have := g.asc
        rw [e1, List.pairwise_append] at this
        exact fun y hy => this.2.2 y hy _ List.mem_cons_self
      have hxp : x.1 ∈ ps := by rw [e1]; exact List.mem_append_right _ List.mem_cons_self
      refine dFor_go (fun c ρ => ∃ s7 s8, ρ = [Sl.val (madeD C ps ts), .val (tiesD ts), .val (degsD ps ts), .val (.lst ((allS A).map fun l => D.int (cutT ts l))), .val (.int (d.length : Nat)), .val (.str x.1), .val (.lst ((allS c).map fun l => D.int (tp ts x.1 l))), s7, s8, s9]) ⟨_, _, rfl⟩ (fun c o r2 ec ρ ⟨s7, s8, hρ⟩ E3 hE3 hrt3 => ?_) (fun ρ ⟨s7, s8, hρ⟩ => ?_)
      · subst hρ
        have hcl : c.length ≤ 9 := by
          have := congrArg List.length ec
          rw [List.length_append, List.length_cons] at this
          omega
        have hsm := allS_small hcl
        walk_at "dred3"
        refine ⟨by decide, ?_⟩
        rw [dGet_tiesL, look_getD]
        walk_at "dred3"
        refine ⟨by rw [List.length_map]; exact Nat.le_of_lt (small1000 hsm), lcL_all (g := fun l => D.int (tp ts x.1 l + getT ts (o, x.1))) (fun l hl K hk => ?_) ?_⟩
        · walk_at "dred3"
          exact hk
        · have hsz : (allS c).length + (allS c).length ≤ sizeLine := Nat.le_trans (show _ ≤ 2000 by omega) (by decide)
          rw [List.length_map, List.length_map]
          rw [tp_more]
          exact ⟨hsz, hE3 _ ⟨_, _, rfl⟩⟩
      · subst hρ
        have hAl : A.length ≤ 9 := by omega
        have hsm := allS_small hAl
        walk_at "dred3"
        rw [zip_maps]
        refine ⟨by rw [List.length_map]; exact Nat.le_of_lt (small1000 hsm), lcL_all (g := fun l => D.int (cutT ts l + degT ts x.1 - 2 * tp ts x.1 l)) (fun l hl K hk => ?_) ?_⟩
        · walk_at "dred3"
          show onSome (lookD (ps.map fun p => (Sum.inr p : Key)) (ps.map fun p => D.int (degT ts p)) (Sum.inr x.1)) _
          rw [look_deg (fun p => D.int (degT ts p)) hxp]
          exact ⟨.inl ⟨by decide, by decide⟩, hk⟩
        · have hsz : (allS A).length + (allS A).length ≤ sizeLine := Nat.le_trans (show _ ≤ 2000 by omega) (by decide)
          walk_at "dred3"
          rw [List.length_map, List.length_map]
          have key : (allS A).map (fun l => D.int (cutT ts l)) ++ (allS A).map (fun l => D.int (cutT ts l + degT ts x.1 - 2 * tp ts x.1 l)) = (allS ((d ++ [x]).map (·.1))).map fun l => D.int (cutT ts l) := by
            rw [List.map_append, hAe]
            show _ = (allS (A ++ [x.1])).map _
            rw [allS_snoc, List.map_append, List.map_map]
            congr 1
            refine List.map_congr_left fun l hl => ?_
            show D.int _ = D.int (cutT ts (l ++ [x.1]))
            have hs := mem_allS.mp hl
            rw [cut_more g (p := x.1) ⟨fun y hy => by rw [e1]; exact List.mem_append_left _ (hs.subset hy), (show A.Pairwise _ from by have := g.asc; rw [e1, List.pairwise_append] at this; exact this.1).sublist hs⟩ hxp (fun y hy => hlt y (hs.subset hy))]
          rw [key]
          exact ⟨hsz, hE _ ⟨_, _, _, _, _, _, rfl⟩⟩
    · subst hρ
      walk_at "dred3"
      rw [zipIdx_fst]
      exact q
end
/-! ### weakest, lifted -/
abbrev s_weakest : Stmt := topS 42
theorem sc_weakest : FnScope ["net", "cuts", "half", "least", "mask"] ["net"] (defScope s_weakest) := ⟨rfl, rfl, rfl, by decide +kernel, rfl, by decide +kernel, by decide +kernel⟩
abbrev s_lifted : Stmt := topS 43
theorem sc_lifted : FnScope ["net", "lot", "most", "cuts", "whole", "mask"] ["net", "lot", "most"] (defScope s_lifted) := ⟨rfl, rfl, rfl, by decide +kernel, rfl, by decide +kernel, by decide +kernel⟩
section
variable {P : Program} {w : World} {K : PySem.W.Frag} {mg : Str → Option Value} {base : Heap} {C : Addr}
theorem lot_ne {qs : List Str} {m : Nat} (h0 : m ≠ 0) (h : m < 2 ^ qs.length) : lotA qs 0 m ≠ [] := fun z => by
  obtain ⟨i, hi⟩ := Nat.exists_testBit_of_ne_zero h0
  have hl : i < qs.length := by
    rcases Nat.lt_or_ge i qs.length with c | c
    · exact c
    · rw [Nat.testBit_lt_two_pow (Nat.lt_of_lt_of_le h (Nat.pow_le_pow_right (by omega) c))] at hi
      cases hi
  have : qs[i] ∈ lotA qs 0 m := mem_lotA.mpr ⟨i, List.getElem?_eq_getElem hl, by rw [Nat.zero_add]; exact hi⟩
  rw [z] at this
  cases this
def rowL (ps : List Str) (n : Nat) : List (List Str) := (List.range n).map fun k => lotA ps 0 (1 + k)
def halfN (ps : List Str) : Nat := 2 ^ (ps.length - 1) - 1
theorem cuts_at {ps : List Str} {ts : Ties} {m : Nat} (h : m < 2 ^ ps.length) : ((allS ps).map fun l => D.int (cutT ts l))[m]? = some (.int (cutT ts (lotA ps 0 m))) := by
  rw [List.getElem?_map, lot_at ps m h]
  rfl
theorem atI_one {xs : List D} {k : Nat} {x : D} (h : xs[1 + k]? = some x) : atI xs (1 + (k : Int)) = some x := by
  have := atI_nat h
  rw [show ((1 + k : Nat) : Int) = 1 + (k : Int) by omega] at this
  exact this
def spWeakest (C : Addr) : DSp := fun xs Q => ∃ ps ts, xs = [madeD C ps ts] ∧ MG ps ts ∧ 2 ≤ ps.length ∧ ps.length ≤ 9 ∧ ts.length ≤ 900 ∧
  ∀ m, m ∈ (rowL ps (halfN ps)).map (cutT ts) → (∀ l ∈ rowL ps (halfN ps), m ≤ cutT ts l) → Q (.tup [.int m, .tup ((((rowL ps (halfN ps)).filter fun l => decide (cutT ts l = m)).mergeSort leL).map lotD)])
theorem ok_weakest {f : Addr} {fd : FuncData} {k : Nat} (F : Fun K "weakest" "weakest" s_weakest f fd) (m_len : mg "len" = none) (m_min : mg "min" = none) (m_range : mg "range" = none) (Pr_places : DPr P w K mg base k C "places" (spPlaces C)) (G_check_net : DFn P w K mg base (k + 1) "check_net" [] (spCheckNet C)) (G_all_cuts : DFn P w K mg base (k + 1) "all_cuts" [] (spAllCuts C)) (G_lots_of : DFn P w K mg base (k + 1) "lots_of" [] (spLotsOf C)) : FnOk P w K mg base CX0 (k + 1 + 1) f fd ["net"] (spD (spWeakest C)) := by
  refine fnD_ok F sc_weakest (fun xs Q h => ?_) (fun dc cdv A outer s0 H E hr =>
    (dss_cons (ds_expr (de_fn G_check_net hr (Nat.le_refl _) (by rfl) (da_cons (de_var 0) da_nil)))
      (dss_cons (ds_if (dc_cmp (opd_eq (hr.units)) (de_callB cd_len (by rfl) m_len (by decide +kernel) (da_cons (de_prop Pr_places hr (Nat.le_refl _) (de_var 0)) da_nil)) de_int (nomark _)) (dss_one ds_never) dss_nil)
      (dss_cons (ds_set (i := 1) sc_weakest.nd rfl (by first | exact Or.inl rfl | exact Or.inr rfl) (de_fn G_all_cuts hr (Nat.le_refl _) (by rfl) (da_cons (de_var 0) da_nil)))
      (dss_cons (ds_set (i := 2) sc_weakest.nd rfl (by first | exact Or.inl rfl | exact Or.inr rfl) (de_callTy cd_rangeV (by rfl) m_range (by decide +kernel) (da_cons de_int (da_cons (de_op opd_fdiv (de_callB cd_len (by rfl) m_len (by decide +kernel) (da_cons (de_var 1) da_nil)) de_int) da_nil))))
      (dss_cons (ds_set (i := 3) sc_weakest.nd rfl (by first | exact Or.inl rfl | exact Or.inr rfl) (de_callB (cd_min rfl) (by rfl) m_min (by decide +kernel) (da_cons (de_lc (own := [("mask", 4)]) rfl sc_weakest.nd (di_rng (de_var 2)) (blkOk_by (N := ["net", "cuts", "half", "least", "mask"]) (sc := defScope s_weakest) (by decide +kernel)) (fun _ _ _ _ _ => (dg_name (i := 4) sc_weakest.nd rfl (Or.inl rfl))) (fun _ _ _ _ _ => dts_nil) (fun _ _ _ _ _ => (de_sub (hu_of hr) (de_var 1) (de_var 4))) (by decide)) da_nil)))
      (dss_one (ds_ret (de_tup (da_cons (de_var 3) (da_cons (de_fn G_lots_of hr (Nat.le_refl _) (by rfl) (da_cons (de_var 0) (da_cons (de_lc (own := [("mask", 4)]) rfl sc_weakest.nd (di_rng (de_var 2)) (blkOk_by (N := ["net", "cuts", "half", "least", "mask"]) (sc := defScope s_weakest) (by decide +kernel)) (fun _ _ _ _ _ => (dg_name (i := 4) sc_weakest.nd rfl (Or.inl rfl))) (fun _ _ _ _ _ => (dts_one (dc_cmp (opd_eq (hr.units)) (de_sub (hu_of hr) (de_var 1) (de_var 4)) (de_var 3) (nomark _)))) (fun _ _ _ _ _ => (de_var 4)) (by decide)) da_nil))) da_nil))))))))))) (fun xs Q h => ?_)
  · obtain ⟨ps, ts, rfl, _⟩ := h; rfl
  · obtain ⟨ps, ts, rfl, g, h2, h9, ht, q⟩ := h
    walk_at "dred3"
    have hN : ((2 ^ ps.length : Nat) : Int) / 2 = ((2 ^ (ps.length - 1) : Nat) : Int) := by
      have : 2 ^ ps.length = 2 ^ (ps.length - 1) * 2 := by rw [← Nat.pow_succ]; congr 1; omega
      omega
    have hS : 2 ^ (ps.length - 1) ≤ 256 := by
      have : 2 ^ (ps.length - 1) ≤ 2 ^ 8 := Nat.pow_le_pow_right (by omega) (by omega)
      omega
    have hM : (((2 ^ (ps.length - 1) : Nat) : Int) - 1).toNat = halfN ps := by unfold halfN; omega
    have hP : 2 ^ ps.length = 2 ^ (ps.length - 1) * 2 := by rw [← Nat.pow_succ]; congr 1; omega
    have h1 : 2 ≤ 2 ^ (ps.length - 1) := by
      have : 2 ^ 1 ≤ 2 ^ (ps.length - 1) := Nat.pow_le_pow_right (by omega) (by omega)
      omega
    have hk : ∀ k ∈ List.range (halfN ps), 1 + k < 2 ^ ps.length := fun k hk => by
      have := List.mem_range.mp hk
      unfold halfN at this
      omega
    refine ⟨ps, ts, rfl, ps, ts, rfl, ?_⟩
    walk_at "dred3"
    rw [List.length_map, decide_eq_false (by omega)]
    refine iteF ⟨ps, ts, rfl, g, h9, ht, ?_⟩
    unfold cutsD
    walk_at "dred3"
    rw [List.length_map, allS_len, hN, hM]
    have hl : ((List.range (halfN ps)).map fun k : Nat => D.int (1 + (k : Int))).length ≤ sizeLine := by
      rw [List.length_map, List.length_range]
      unfold halfN
      exact Nat.le_of_lt (small1000 (by omega))
    have hr : -(2 ^ 62 : Int) ≤ 1 ∧ (1 : Int) < 2 ^ 62 ∧ -(2 ^ 62 : Int) ≤ ((2 ^ (ps.length - 1) : Nat) : Int) ∧ ((2 ^ (ps.length - 1) : Nat) : Int) < 2 ^ 62 := by omega
    refine ⟨⟨by decide, by decide⟩, hr, hl, ?_⟩
    refine lcL_all (g := fun k : Nat => D.int (cutT ts (lotA ps 0 (1 + k)))) (fun k hm K hK => ?_) ?_
    · walk_at "dred3"
      rw [atI_one (cuts_at (hk k hm))]
      exact hK
    · have e : (List.range (halfN ps)).map (fun k : Nat => D.int (cutT ts (lotA ps 0 (1 + k)))) = ((rowL ps (halfN ps)).map (cutT ts)).map D.int := by
        unfold rowL
        rw [List.map_map, List.map_map]
        rfl
      rw [e]
      refine asInts.of ⟨?_, fun m h3 h4 => ⟨hr, hl, ?_⟩⟩
      · unfold rowL
        rw [List.length_map, List.length_map, List.length_range]
        unfold halfN
        omega
      refine lcL_filter (g := fun k : Nat => D.int (1 + (k : Int))) (c := fun k : Nat => decide (cutT ts (lotA ps 0 (1 + k)) = m)) (fun k hm K hK => ?_) ?_
      · walk_at "dred3"
        rw [atI_one (cuts_at (hk k hm))]
        walk_at "dred3"
        exact hK
      · refine ⟨ps, ts, ((List.range (halfN ps)).filter fun k : Nat => decide (cutT ts (lotA ps 0 (1 + k)) = m)).map (1 + ·), ?_, by omega, ?_, fun j hj => ?_, by decide, ?_⟩
        · rw [List.map_map]
          rfl
        · rw [List.length_map]
          have := List.length_filter_le (fun k : Nat => decide (cutT ts (lotA ps 0 (1 + k)) = m)) (List.range (halfN ps))
          rw [List.length_range] at this
          have hh : halfN ps ≤ 255 := by unfold halfN; omega
          omega
        · obtain ⟨k, hk1, rfl⟩ := List.mem_map.mp hj
          exact lot_ne (by omega) (hk k (List.mem_filter.mp hk1).1)
        · have e2 : (((List.range (halfN ps)).filter fun k : Nat => decide (cutT ts (lotA ps 0 (1 + k)) = m)).map (1 + ·)).map (lotA ps 0) = (rowL ps (halfN ps)).filter fun l => decide (cutT ts l = m) := by
            unfold rowL
            rw [List.filter_map, List.map_map]
            rfl
          rw [e2]
          exact q m h3 fun l hl => h4 _ (List.mem_map_of_mem hl)

def spIntD : DSp := fun xs Q => ∃ i : Int, xs = [.int i] ∧ -1000 ≤ i ∧ i ≤ 1000 ∧ Q (.bl true)
theorem int_imp : ∀ vs H Q E, spD spIntD vs H Q E → spInt vs H Q E := fun vs H Q E ⟨dc, F, xs, p, r, i, e, h1, h2, q⟩ => by
  subst e
  cases r with
  | cons a b =>
  cases b
  cases a
  have hb : intB (.int i) = true := by
    show decide ((if i < 0 then -i else i) < topInt) = true
    have ht : (1001 : Int) < topInt := by decide +kernel
    refine decide_eq_true ?_
    split <;> omega
  refine ⟨.int i, rfl, .int i, ?_⟩
  rw [hb]
  exact q _ F H (.refl p) (.bl _)
def fullN (ps : List Str) : Nat := 2 ^ ps.length - 1
def partsM (ps l : List Str) : List (List Str) := (rowL ps (fullN ps)).filter fun m => m.all fun x => decide (x ∈ l)
def spLifted (C : Addr) : DSp := fun xs Q => ∃ ps ts l, ∃ many : Int, xs = [madeD C ps ts, lotD l, .int many] ∧ MG ps ts ∧ isLot ps l = true ∧ l.length ≤ 1000 ∧ ps.length ≤ 9 ∧ ts.length ≤ 900 ∧ 0 ≤ many ∧ many ≤ 1000 ∧ Q (.bl ((partsM ps l).all fun m => decide (many ≤ cutT ts m)))
theorem ok_lifted {f : Addr} {fd : FuncData} {k : Nat} (F : Fun K "lifted" "lifted" s_lifted f fd) (m_len : mg "len" = none) (m_all : mg "all" = none) (m_range : mg "range" = none) (G_is_integer : DFn P w K mg base k "is_integer" [] spIntD) (G_check_net : DFn P w K mg base k "check_net" [] (spCheckNet C)) (G_check_lot : DFn P w K mg base k "check_lot" [] (spCheckLot C)) (G_all_cuts : DFn P w K mg base k "all_cuts" [] (spAllCuts C)) (G_mask_of : DFn P w K mg base k "mask_of" [] (spMaskOf C)) : FnOk P w K mg base CX0 (k + 1) f fd ["net", "lot", "most"] (spD (spLifted C)) := by
  refine fnD_ok F sc_lifted (fun xs Q h => ?_) (fun dc cdv A outer s0 H E hr =>
    (dss_cons (ds_expr (de_fn G_check_net hr (Nat.le_refl _) (by rfl) (da_cons (de_var 0) da_nil)))
      (dss_cons (ds_expr (de_fn G_check_lot hr (Nat.le_refl _) (by rfl) (da_cons (de_var 0) (da_cons (de_var 1) da_nil))))
      (dss_cons (ds_if ((dw_or (dc_not (dc_val (de_fn G_is_integer hr (Nat.le_refl _) (by rfl) (da_cons (de_var 2) da_nil)))) (dw_or1 (dc_cmp opd_lt (de_var 2) de_int (nomark _))))).toC (dss_one ds_never) dss_nil)
      (dss_cons (ds_set (i := 3) sc_lifted.nd rfl (by first | exact Or.inl rfl | exact Or.inr rfl) (de_fn G_all_cuts hr (Nat.le_refl _) (by rfl) (da_cons (de_var 0) da_nil)))
      (dss_cons (ds_set (i := 4) sc_lifted.nd rfl (by first | exact Or.inl rfl | exact Or.inr rfl) (de_fn G_mask_of hr (Nat.le_refl _) (by rfl) (da_cons (de_var 0) (da_cons (de_var 1) da_nil))))
      (dss_one (ds_ret (de_callB (cd_all rfl) (by rfl) m_all (by decide +kernel) (da_cons (de_lc (own := [("mask", 5)]) rfl sc_lifted.nd (di_range2 (by rfl) m_range (da_cons de_int (da_cons (de_callB cd_len (by rfl) m_len (by decide +kernel) (da_cons (de_var 3) da_nil)) da_nil))) (blkOk_by (N := ["net", "lot", "most", "cuts", "whole", "mask"]) (sc := defScope s_lifted) (by decide +kernel)) (fun _ _ _ _ _ => (dg_name (i := 5) sc_lifted.nd rfl (Or.inl rfl))) (fun _ _ _ _ _ => (dts_one (dc_cmp (opd_eq (hr.units)) (de_op opd_bor (de_var 5) (de_var 4)) (de_var 4) (nomark _)))) (fun _ _ _ _ _ => (de_cmp opd_ge (de_sub (hu_of hr) (de_var 3) (de_var 5)) (de_var 2) (nomark _))) (by decide)) da_nil)))))))))) (fun xs Q h => ?_)
  · obtain ⟨ps, ts, l, many, rfl, _⟩ := h; rfl
  · obtain ⟨ps, ts, l, many, rfl, g, hl, hll, h9, ht, m0, m1, q⟩ := h
    walk_at "dred3"
    refine ⟨ps, ts, rfl, ps, ts, l, rfl, hl, hll, many, rfl, by omega, by omega, ?_⟩
    show (if decide (many < 0) = true then False else _)
    rw [decide_eq_false (by omega)]
    refine iteF ⟨ps, ts, rfl, g, h9, ht, ps, ts, l, rfl, by omega, ?_⟩
    have hS : 2 ^ ps.length ≤ 512 := by
      have : 2 ^ ps.length ≤ 2 ^ 9 := Nat.pow_le_pow_right (by omega) h9
      omega
    have hM : (((2 ^ ps.length : Nat) : Int) - 1).toNat = fullN ps := by unfold fullN; omega
    have hk : ∀ k ∈ List.range (fullN ps), 1 + k < 2 ^ ps.length := fun k hk => by
      have := List.mem_range.mp hk
      unfold fullN at this
      omega
    unfold iRg2 cutsD
    walk_at "dred3"
    rw [List.length_map, allS_len, hM]
    have h0 : (0 : Int) ≤ ((2 ^ ps.length : Nat) : Int) := Int.natCast_nonneg _
    refine ⟨by omega, ?_, ?_⟩
    · rw [List.length_map, List.length_range]
      unfold fullN
      exact Nat.le_of_lt (small1000 (by omega))
    refine lcL_filter (g := fun k : Nat => D.bl (decide (many ≤ cutT ts (lotA ps 0 (1 + k))))) (c := fun k : Nat => (lotA ps 0 (1 + k)).all fun x => decide (x ∈ l)) (fun k hm K hK => ?_) ?_
    · walk_at "dred3"
      have e1 : (1 : Int) + (k : Int) = ((1 + k : Nat) : Int) := by omega
      rw [e1, bor_nat]
      have e2 : decide (((1 + k ||| mm ps l : Nat) : Int) = ((mm ps l : Nat) : Int)) = (lotA ps 0 (1 + k)).all fun x => decide (x ∈ l) := by
        have h := lot_in (l := l) (hk k hm)
        by_cases c : (1 + k ||| mm ps l) = mm ps l
        · rw [decide_eq_true (by omega)]
          symm
          rw [List.all_eq_true]
          exact fun x hx => decide_eq_true (h.mp c x hx)
        · rw [decide_eq_false (by omega)]
          symm
          rw [← Bool.not_eq_true, List.all_eq_true]
          exact fun z => c (h.mpr fun x hx => of_decide_eq_true (z x hx))
      rw [e2]
      rw [← e1, atI_one (cuts_at (hk k hm))]
      walk_at "dred3"
      exact hK
    · have e : ((List.range (fullN ps)).filter fun k : Nat => (lotA ps 0 (1 + k)).all fun x => decide (x ∈ l)).map (fun k : Nat => D.bl (decide (many ≤ cutT ts (lotA ps 0 (1 + k))))) = ((partsM ps l).map fun m => decide (many ≤ cutT ts m)).map D.bl := by
        unfold partsM rowL
        rw [List.filter_map, List.map_map, List.map_map]
        rfl
      rw [e]
      refine asBls.of ?_
      rw [List.all_map]
      exact q
end
/-! ### a < b < c as a test -/
section
variable {X : Cx} {dc : Option Addr} {a b c : Expr} {da db d3 : DT} {pos : Pos}
theorem dc_chain {op op' : CmpOp} {g h : D → D → (D → Prop) → Prop} (h1 : OpD X dc (compareOp op) g) (h2 : OpD X dc (compareOp op') h) (ha : DE X dc a da) (hb : DE X dc b db) (hc : DE X dc c d3)
    (hm : lastMarks [op, op'] [b, c] = false := by with_unfolding_all rfl) : DC X dc (.Compare a [op, op'] [b, c] pos) (dB (dChain g h da db d3)) := by
  have mm := (de_chain (pos := pos) h1 h2 ha hb hc hm).mono
  obtain ⟨mg, r, o, q⟩ := h1
  obtain ⟨mg', r', o', q'⟩ := h2
  have m1 := ha.mono
  have m2 := hb.mono
  have m3 := hc.mono
  obtain ⟨t1, p1, r1⟩ := ha.get
  obtain ⟨t2, p2, r2⟩ := hb.get
  obtain ⟨t3, p3, r3⟩ := hc.get
  refine ⟨dB_mono mm, _, pt_chain o o' p1 p2 p3 hm, fun ρ σ F H Q p s hh => ?_⟩
  refine r1 p s hh fun x v F1 H1 hh e1 q1 => r2 e1.pre (s.mono e1.fsub) hh fun y u F2 H2 hh e2 q2 => ?_
  refine q F2 H2 x y v u _ e2.pre (e2.rep q1) q2 (mg _ _ _ _ (fun z hz w F3 H3 e3 q3 => ?_) hh)
  obtain ⟨k, rfl, hk⟩ := hz.inv
  cases q3
  have e13 := (e1.trans p e2).trans p e3
  cases k with
  | true =>
    have hk2 : d3 ρ fun w => h y w fun x => asBl x (KB dc F H Q) := by simpa using hk
    refine ⟨true, rfl, iteT (r3 e3.pre (((s.mono e1.fsub).mono e2.fsub).mono e3.fsub) hk2 fun w v4 F4 H4 hw e4 q4 => ?_)⟩
    refine q' _ _ _ _ _ _ _ e4.pre (e4.rep (e3.rep q2)) q4 (mg' _ _ _ _ (fun z hz w5 F5 H5 e5 r5 => ?_) hw)
    obtain ⟨b5, rfl, hz⟩ := hz.inv
    cases r5
    exact ⟨b5, rfl, hz _ _ ((e13.trans p e4).trans p e5)⟩
  | false =>
    have hk2 : KB dc F H Q false := by
      have : asBl (.bl false) (KB dc F H Q) := by simpa using hk
      exact this
    exact ⟨false, rfl, iteF ⟨false, rfl, hk2 _ _ e13⟩⟩
end
theorem dAdd_lot {a b : List Str} {Q : D → Prop} : dAdd (lotD a) (lotD b) Q = (a.length + b.length ≤ sizeLine ∧ Q (lotD (a ++ b))) := by
  unfold lotD
  rw [dAdd_tup, List.length_map, List.length_map, List.map_append]
/-! ### x = [.. for ..], on one line -/
section
variable {X : Cx} {dc : Option Addr} {pos spos py : Pos}
theorem ds_setLc {i : Nat} {x : Str} {elt tg iter : Expr} {ifs : List Expr} {scope : Scope} {own : List (Str × Nat)} {is : List Nat} {w : DTI} {g : DTG} {dt : DTB} {de : DT} (hc : X.calm = true) (hN : X.N.Nodup) (hx : X.N[i]? = some x) (hl : X.env.scope.names.lookup x = some .local)
    (hsw : swapsWith (.ListComp elt [⟨tg, iter, ifs, 0⟩] scope pos) (some (.Name x py)) spos.line X.env = pure true) (hi : DI X dc tg iter w) (ok : BlkOk X.N X.env.scope scope own)
    (hg : ∀ (s : Shared) (H : Hp) (C : Addr) (cl : List (Str × Addr)) (fp : List Addr), DG (X.blk s H scope (compEnvC scope cl C X.env) fp) dc tg is g) (ht : ∀ (s : Shared) (H : Hp) (C : Addr) (cl : List (Str × Addr)) (fp : List Addr), DTs (X.blk s H scope (compEnvC scope cl C X.env) fp) dc ifs dt)
    (he : ∀ (s : Shared) (H : Hp) (C : Addr) (cl : List (Str × Addr)) (fp : List Addr), DE (X.blk s H scope (compEnvC scope cl C X.env) fp) dc elt de) (his : ∀ i ∈ is, i ∈ own.map (·.2)) (hs : ∀ x, foldedSetIterable iter X.env x = pure x := by intro _; rfl) :
    DS X dc (.Assign [.Name x py] (.ListComp elt [⟨tg, iter, ifs, 0⟩] scope pos) spos) (sSet i (dLc w is g dt de (own.map (·.2)))) := by
  have mw := hi.mono
  have mg := (hg {} (fun _ => none) 0 [] []).mono
  have mt := (ht {} (fun _ => none) 0 [] []).mono
  have me := (he {} (fun _ => none) 0 [] []).mono
  have m : ∀ ρ P P', (∀ x, P x → P' x) → dLc w is g dt de (own.map (·.2)) ρ P → dLc w is g dt de (own.map (·.2)) ρ P' := fun ρ P P' hP h => mw _ _ _ (fun xs h => ⟨h.1, lcL_mono (lcF_mono mg mt me) _ _ _ (fun ys q => hP _ q) h.2⟩) h
  refine ⟨fun E E' ρ l h => m _ _ _ (fun x h => l.nx _ h) h, _, ps_setLc hc hN hx hl hsw hi.run ok (fun s H C cl fp => (hg s H C cl fp).run) (fun s H C cl fp => (ht s H C cl fp).run) (fun s H C cl fp => (he s H C cl fp).pe) hs, fun F0 H0 ρ σ F H E D' I L h => ?_⟩
  have p := I.ext.pre
  have s := I.slots
  have h2 := m _ _ (KV' dc F H fun v H1 => gName i v σ H1 D'.nx) (fun x h v F1 H1 e1 r1 => L.nx _ _ _ _ ((I.step e1).set i r1) h) h
  refine ⟨visD ρ, F, p, s, mw _ _ _ (fun xs hx J F1 H1 e1 it => ?_) h2⟩
  exact lc_read mg mt me his e1.pre (s.mono e1.fsub) it hx.1 (lcL_mono (lcF_mono mg mt me) _ _ _ (fun ys q => q.on p e1) hx.2)
theorem room65 {k : Nat} {A : Around} (r : Room k A) : A.units + 65 < cLine := by
  have := room80 r
  omega
end
/-! ### the law's lots and parts -/
abbrev s__law_lots : Stmt := topS 56
theorem sc__law_lots : FnScope ["net", "found", "place", "lot"] ["net"] (defScope s__law_lots) := ⟨rfl, rfl, rfl, by decide +kernel, rfl, by decide +kernel, by decide +kernel⟩
abbrev s__law_parts : Stmt := topS 58
theorem sc__law_parts : FnScope ["lot", "found", "place", "one"] ["lot"] (defScope s__law_parts) := ⟨rfl, rfl, rfl, by decide +kernel, rfl, by decide +kernel, by decide +kernel⟩
section
variable {P : Program} {w : World} {K : PySem.W.Frag} {mg : Str → Option Value} {base : Heap} {C : Addr}
theorem lots_more {c : List Str} {p : Str} : (allS c).map lotD ++ (allS c).map (fun l => lotD (l ++ [p])) = (allS (c ++ [p])).map lotD := by
  rw [allS_snoc, List.map_append, List.map_map]
  rfl
theorem dAdd_lotone {l : List Str} {p : Str} {Q : D → Prop} (h : l.length ≤ 1000) (q : Q (lotD (l ++ [p]))) : dAdd (lotD l) (.tup [.str p]) Q := by
  have e : dAdd (lotD l) (.tup [.str p]) Q = dAdd (lotD l) (lotD [p]) Q := rfl
  rw [e, dAdd_lot]
  exact ⟨Nat.le_trans (show l.length + [p].length ≤ 2000 by simp; omega) (by decide), q⟩
def properB (ps l : List Str) : Bool := decide (0 < l.length) && decide (l.length < ps.length)
def lotsS (ps : List Str) : List (List Str) := ((allS ps).filter (properB ps)).mergeSort leL
def spLawLots : DSp := fun xs Q => ∃ ps ts, xs = [netD ps ts] ∧ ps.length ≤ 9 ∧ Q (.lst ((lotsS ps).map lotD))
theorem sub_len {x l : List Str} (h : x ∈ allS l) : x.length ≤ l.length := (mem_allS.mp h).length_le
theorem ok__law_lots {f : Addr} {fd : FuncData} {k : Nat} (F : Fun K "_law_lots" "_law_lots" s__law_lots f fd) (m_len : mg "len" = none) (m_sorted : mg "sorted" = none) : FnOk P w K mg base CX0 (k + 1) f fd ["net"] (spD spLawLots) := by
  refine fnD_ok F sc__law_lots (fun xs Q h => ?_) (fun dc cdv A outer s0 H E hr =>
    (dss_cons (ds_set (i := 1) sc__law_lots.nd rfl (by first | exact Or.inl rfl | exact Or.inr rfl) (de_lst (da_cons (de_tup da_nil) da_nil)))
      (dss_cons (ds_for PassesOwn.never rfl (di_seq (de_sub (hu_of hr) (de_var 0) de_str)) (dg_name (i := 2) sc__law_lots.nd rfl (by first | exact Or.inl rfl | exact Or.inr rfl)) (dss_one (ds_set (i := 1) sc__law_lots.nd rfl (by first | exact Or.inl rfl | exact Or.inr rfl) (de_op opd_add (de_var 1) (de_lc (own := [("lot", 3)]) rfl sc__law_lots.nd (di_seq (de_var 1)) (blkOk_by (N := ["net", "found", "place", "lot"]) (sc := defScope s__law_lots) (by decide +kernel)) (fun _ _ _ _ _ => (dg_name (i := 3) sc__law_lots.nd rfl (Or.inl rfl))) (fun _ _ _ _ _ => dts_nil) (fun _ _ _ _ _ => (de_op opd_add (de_var 3) (de_tup (da_cons (de_var 2) da_nil)))) (by decide))))))
      (dss_one (ds_ret (de_callB (cd_sortedL (room80 hr)) (by rfl) m_sorted (by decide +kernel) (da_cons (de_lc (own := [("lot", 3)]) rfl sc__law_lots.nd (di_seq (de_var 1)) (blkOk_by (N := ["net", "found", "place", "lot"]) (sc := defScope s__law_lots) (by decide +kernel)) (fun _ _ _ _ _ => (dg_name (i := 3) sc__law_lots.nd rfl (Or.inl rfl))) (fun _ _ _ _ _ => (dts_one (dc_chain opd_lt opd_lt de_int (de_callB cd_len (by rfl) m_len (by decide +kernel) (da_cons (de_var 3) da_nil)) (de_callB cd_len (by rfl) m_len (by decide +kernel) (da_cons (de_sub (hu_of hr) (de_var 0) de_str) da_nil))))) (fun _ _ _ _ _ => (de_var 3)) (by decide)) da_nil))))))) (fun xs Q h => ?_)
  · obtain ⟨ps, ts, rfl, _⟩ := h; rfl
  · obtain ⟨ps, ts, rfl, hp, q⟩ := h
    walk_at "dred3"
    refine ⟨by decide, by decide, ?_⟩
    unfold sFor
    walk_at "dred3"
    refine dFor_go (fun d ρ => ∃ s2 s3, ρ = [Sl.val (netD ps ts), .val (.lst ((allS d).map lotD)), s2, s3]) ⟨_, _, rfl⟩ (fun d x r e ρ ⟨s2, s3, hρ⟩ E2 hE hrt => ?_) (fun ρ ⟨s2, s3, hρ⟩ => ?_)
    · subst hρ
      have hd : d.length ≤ 9 := by
        have := congrArg List.length e
        rw [List.length_append, List.length_cons] at this
        omega
      have hsm := allS_small hd
      walk_at "dred3"
      refine ⟨by rw [List.length_map]; exact Nat.le_of_lt (small1000 hsm), lcL_all (g := fun l => lotD (l ++ [x])) (fun l hl K hk => ?_) ?_⟩
      · have := sub_len hl
        walk_at "dred3"
        exact ⟨by decide, dAdd_lotone (by omega) hk⟩
      · walk_at "dred3"
        rw [List.length_map, List.length_map, lots_more]
        exact ⟨Nat.le_trans (show _ ≤ 2000 by omega) (by decide), hE _ ⟨_, _, rfl⟩⟩
    · subst hρ
      have hsm := allS_small hp
      walk_at "dred3"
      refine ⟨by rw [List.length_map]; exact Nat.le_of_lt (small1000 hsm), lcL_filter (g := lotD) (c := properB ps) (fun l hl K hk => ?_) ?_⟩
      · walk_at "dred3"
        unfold dChain
        walk_at "dred3"
        rw [List.length_map, List.length_map]
        unfold properB at hk
        by_cases c1 : 0 < l.length
        · rw [decide_eq_true c1, Bool.true_and] at hk
          rw [decide_eq_true (by omega)]
          refine iteT ?_
          by_cases c2 : l.length < ps.length
          · rw [decide_eq_true c2] at hk
            rw [decide_eq_true (by omega)]
            exact iteT (by simpa using hk)
          · rw [decide_eq_false c2] at hk
            rw [decide_eq_false (by omega)]
            exact iteF (by simpa using hk)
        · rw [decide_eq_false c1, Bool.false_and] at hk
          rw [decide_eq_false (by omega)]
          exact iteF (iteF (by simpa using hk))
      · refine ⟨_, rfl, fun l hl z => ?_, q⟩
        have := (List.mem_filter.mp hl).2
        rw [z] at this
        exact absurd this (by simp [properB])
def spLawParts : DSp := fun xs Q => ∃ l, xs = [lotD l] ∧ l.length ≤ 9 ∧ Q (.lst ((allS l).tail.map lotD))
theorem ok__law_parts {f : Addr} {fd : FuncData} {k : Nat} (F : Fun K "_law_parts" "_law_parts" s__law_parts f fd)  : FnOk P w K mg base CX0 (k + 1) f fd ["lot"] (spD spLawParts) := by
  refine fnD_ok F sc__law_parts (fun xs Q h => ?_) (fun dc cdv A outer s0 H E hr =>
    (dss_cons (ds_set (i := 1) sc__law_parts.nd rfl (by first | exact Or.inl rfl | exact Or.inr rfl) (de_lst (da_cons (de_tup da_nil) da_nil)))
      (dss_cons (ds_for PassesOwn.never rfl (di_seq (de_var 0)) (dg_name (i := 2) sc__law_parts.nd rfl (by first | exact Or.inl rfl | exact Or.inr rfl)) (dss_one (ds_set (i := 1) sc__law_parts.nd rfl (by first | exact Or.inl rfl | exact Or.inr rfl) (de_op opd_add (de_var 1) (de_lc (own := [("one", 3)]) rfl sc__law_parts.nd (di_seq (de_var 1)) (blkOk_by (N := ["lot", "found", "place", "one"]) (sc := defScope s__law_parts) (by decide +kernel)) (fun _ _ _ _ _ => (dg_name (i := 3) sc__law_parts.nd rfl (Or.inl rfl))) (fun _ _ _ _ _ => dts_nil) (fun _ _ _ _ _ => (de_op opd_add (de_var 3) (de_tup (da_cons (de_var 2) da_nil)))) (by decide))))))
      (dss_one (ds_ret (de_slice (de_var 1) (do_some de_int) do_none)))))) (fun xs Q h => ?_)
  · obtain ⟨ps, rfl, _⟩ := h; rfl
  · obtain ⟨ps, rfl, hp, q⟩ := h
    walk_at "dred3"
    refine ⟨by decide, by decide, ?_⟩
    unfold sFor
    walk_at "dred3"
    refine dFor_go (fun d ρ => ∃ s2 s3, ρ = [Sl.val (lotD ps), .val (.lst ((allS d).map lotD)), s2, s3]) ⟨_, _, rfl⟩ (fun d x r e ρ ⟨s2, s3, hρ⟩ E2 hE hrt => ?_) (fun ρ ⟨s2, s3, hρ⟩ => ?_)
    · subst hρ
      have hd : d.length ≤ 9 := by
        have := congrArg List.length e
        rw [List.length_append, List.length_cons] at this
        omega
      have hsm := allS_small hd
      walk_at "dred3"
      refine ⟨by rw [List.length_map]; exact Nat.le_of_lt (small1000 hsm), lcL_all (g := fun l => lotD (l ++ [x])) (fun l hl K hk => ?_) ?_⟩
      · have := sub_len hl
        walk_at "dred3"
        exact ⟨by decide, dAdd_lotone (by omega) hk⟩
      · walk_at "dred3"
        rw [List.length_map, List.length_map, lots_more]
        exact ⟨Nat.le_trans (show _ ≤ 2000 by omega) (by decide), hE _ ⟨_, _, rfl⟩⟩
    · subst hρ
      walk_at "dred3"
      rw [cut_tail, ← List.map_tail]
      exact q
end
/-! ### lots in order -/
def ordL (l : List Str) : List (Int ⊕ List Nat) := PySem.W.keyToks (lD l)
theorem leL_sort : leL = PySem.W.sortLe (PyProof.Rows.listOrd PyProof.Rows.itemOrd) false ordL := rfl
theorem ordL_inj {x y : List Str} (h : ordL x = ordL y) : x = y := by
  have t := (PySem.W.toks_eqv (lD x) (lD y) (alikeL x y)).2
  by_cases c : PyData.eqv (lD x) (lD y) = true
  · rw [eqv_lot] at c
    exact of_decide_eq_true c
  · have c' : PyData.eqv (lD x) (lD y) = false := Bool.eq_false_iff.mpr c
    have e := t c' [] [Sum.inl 0]
    have h' : PySem.W.keyToks (lD x) = PySem.W.keyToks (lD y) := h
    rw [h'] at e
    have e1 := PySem.W.lex_pre (PySem.W.keyToks (lD y)) [] [Sum.inl 0]
    have e2 := PySem.W.lex_pre (PySem.W.keyToks (lD y)) [] []
    rw [List.append_nil] at e e1 e2
    rw [e1, e2] at e
    cases e
theorem leL_total : PySem.W.TotalLe leL := by rw [leL_sort]; exact PySem.W.sortLe_total _ _ _
theorem leL_anti {x y : List Str} (h1 : leL x y = true) (h2 : leL y x = true) : x = y := by
  refine ordL_inj ((PyProof.Rows.listOrd PyProof.Rows.itemOrd).total _ _ ?_ ?_)
  · have : (!ltL x y) = true := h2
    rw [Bool.not_eq_true'] at this
    exact this
  · have : (!ltL y x) = true := h1
    rw [Bool.not_eq_true'] at this
    exact this
theorem sort_perm {a b : List (List Str)} (h : a.Perm b) : a.mergeSort leL = b.mergeSort leL := by
  have p1 := PySem.W.sort_pairwise leL_total a
  have p2 := PySem.W.sort_pairwise leL_total b
  exact List.Perm.eq_of_pairwise (fun x y _ _ h1 h2 => leL_anti h1 h2) p1 p2 (((List.mergeSort_perm _ _).trans h).trans (List.mergeSort_perm _ _).symm)
theorem sort_asc {a : List (List Str)} (h : a.Pairwise fun x y => leL x y = true) : a.mergeSort leL = a :=
  List.Perm.eq_of_pairwise (fun x y _ _ h1 h2 => leL_anti h1 h2) (PySem.W.sort_pairwise leL_total a) h (List.mergeSort_perm _ _)
theorem asc_eq {a b : List Str} (h1 : a.Pairwise fun a b => ltS a b = true) (h2 : b.Pairwise fun a b => ltS a b = true) (p : a.Perm b) : a = b :=
  List.Perm.eq_of_pairwise (fun x y _ _ h3 h4 => by
    have := ltS_asymm h3
    rw [h4] at this
    cases this) h1 h2 p
theorem asc_sub : ∀ {x l : List Str}, x.Pairwise (fun a b => ltS a b = true) → l.Pairwise (fun a b => ltS a b = true) → (∀ y ∈ x, y ∈ l) → x.Sublist l
  | [], _, _, _, _ => List.nil_sublist _
  | a :: t, [], _, _, h => by
    have := h a List.mem_cons_self
    cases this
  | a :: t, b :: r, hx, hl, h => by
    have irr : ∀ z, ¬ ltS z z = true := fun z h => by
      have := ltS_asymm h
      rw [h] at this
      cases this
    have hxa : ∀ {y}, y ∈ t → ltS a y = true := fun hy => List.rel_of_pairwise_cons hx hy
    have hlb : ∀ {y}, y ∈ r → ltS b y = true := fun hy => List.rel_of_pairwise_cons hl hy
    by_cases c : a = b
    · subst c
      refine (asc_sub (List.Pairwise.of_cons hx) (List.Pairwise.of_cons hl) fun y hy => ?_).cons_cons a
      rcases List.mem_cons.mp (h y (List.mem_cons_of_mem _ hy)) with z | z
      · subst z
        exact absurd (hxa hy) (irr _)
      · exact z
    · have har : a ∈ r := (List.mem_cons.mp (h a List.mem_cons_self)).resolve_left c
      refine (asc_sub hx (List.Pairwise.of_cons hl) fun y hy => ?_).cons b
      rcases List.mem_cons.mp (h y hy) with z | z
      · subst z
        rcases List.mem_cons.mp hy with z | z
        · exact absurd z.symm c
        · exact absurd (ltS_trans (hlb har) (hxa z)) (irr _)
      · exact z
theorem allS_head : ∀ l : List Str, ∃ r, allS l = [] :: r ∧ ∀ x ∈ r, x ≠ [] := snoc_ind ⟨[], rfl, fun _ h => by cases h⟩ fun l p ⟨r, e, h⟩ => by
  refine ⟨r ++ (allS l).map (· ++ [p]), by rw [allS_snoc, e]; rfl, fun x hx => ?_⟩
  rcases List.mem_append.mp hx with hx | hx
  · exact h x hx
  · obtain ⟨y, _, rfl⟩ := List.mem_map.mp hx
    simp
theorem mem_tail {x l : List Str} : x ∈ (allS l).tail ↔ x ≠ [] ∧ x.Sublist l := by
  obtain ⟨r, e, h⟩ := allS_head l
  rw [← mem_allS, e, List.tail_cons]
  constructor
  · exact fun hx => ⟨h x hx, List.mem_cons_of_mem _ hx⟩
  · rintro ⟨h1, h2⟩
    exact (List.mem_cons.mp h2).resolve_left h1
/-- the first masks are those of the first places -/
theorem row_first {ps l r : List Str} (e : ps = l ++ r) : rowL ps (2 ^ l.length - 1) = (allS l).tail := by
  have pre : ∀ r : List Str, ∃ t, allS (l ++ r) = allS l ++ t := snoc_ind ⟨[], by rw [List.append_nil, List.append_nil]⟩ fun r p ⟨t, h⟩ => by
    refine ⟨t ++ (allS (l ++ r)).map (· ++ [p]), ?_⟩
    rw [← List.append_assoc, allS_snoc, h, List.append_assoc]
  obtain ⟨t, ht⟩ := pre r
  have hl := allS_len l
  refine List.ext_getElem? fun k => ?_
  unfold rowL
  rw [List.getElem?_map, ← List.drop_one, List.getElem?_drop]
  by_cases c : k < 2 ^ l.length - 1
  · have hk : 1 + k < 2 ^ ps.length := by
      have : 2 ^ l.length ≤ 2 ^ ps.length := Nat.pow_le_pow_right (by omega) (by rw [e, List.length_append]; omega)
      omega
    have h := lot_at ps (1 + k) hk
    rw [e, ht, List.getElem?_append_left (by omega)] at h
    rw [List.getElem?_range c, h, e]
    rfl
  · rw [List.getElem?_eq_none (by rw [List.length_range]; omega), List.getElem?_eq_none (by omega)]
    rfl
theorem row_full (ps : List Str) : rowL ps (fullN ps) = (allS ps).tail := row_first (l := ps) (r := []) (by simp)
theorem row_half {ini : List Str} {p : Str} : rowL (ini ++ [p]) (halfN (ini ++ [p])) = (allS ini).tail := by
  have : halfN (ini ++ [p]) = 2 ^ ini.length - 1 := by
    unfold halfN
    rw [List.length_append, List.length_singleton, Nat.add_sub_cancel]
  rw [this]
  exact row_first rfl
/-- the law's lots without the last place -/
theorem rows_perm {ini : List Str} {p : Str} (hp : p ∉ ini) : ((lotsS (ini ++ [p])).filter fun l => !decide (p ∈ l)).Perm (allS ini).tail := by
  unfold lotsS
  refine ((List.mergeSort_perm _ _).filter _).trans ?_
  obtain ⟨r, e, h⟩ := allS_head ini
  rw [allS_snoc, List.filter_append, List.filter_append]
  have z2 : (((allS ini).map (· ++ [p])).filter (properB (ini ++ [p]))).filter (fun l => !decide (p ∈ l)) = [] := by
    refine List.filter_eq_nil_iff.mpr fun x hx => ?_
    obtain ⟨y, _, rfl⟩ := List.mem_map.mp (List.mem_filter.mp hx).1
    simp
  have z1 : ((allS ini).filter (properB (ini ++ [p]))).filter (fun l => !decide (p ∈ l)) = (allS ini).tail := by
    rw [e, List.tail_cons, List.filter_cons, if_neg (by simp [properB])]
    have a1 : r.filter (properB (ini ++ [p])) = r := List.filter_eq_self.mpr fun x hx => by
      have h1 := h x hx
      have h2 := sub_len (l := ini) (x := x) (by rw [e]; exact List.mem_cons_of_mem _ hx)
      unfold properB
      rw [List.length_append, List.length_singleton, decide_eq_true (List.length_pos_iff.mpr h1), decide_eq_true (by omega)]
      rfl
    rw [a1]
    refine List.filter_eq_self.mpr fun x hx => ?_
    have h3 : x.Sublist ini := mem_allS.mp (by rw [e]; exact List.mem_cons_of_mem _ hx)
    rw [decide_eq_false (fun z => hp (h3.subset z))]
    rfl
  rw [z1, z2, List.append_nil]
/-! ### the law -/
abbrev s__law_right : Stmt := topS 59
theorem sc__law_right : FnScope ["dice", "net", "made", "rows", "least", "due", "one", "turn", "told", "some", "other", "lot", "many", "row", "both", "place"] ["dice"] (defScope s__law_right) := ⟨rfl, rfl, rfl, by decide +kernel, rfl, by decide +kernel, by decide +kernel⟩
theorem atI_last {l : List D} {x : D} : atI (l ++ [x]) (-1) = some x := by
  unfold atI ixN
  rw [if_neg (by decide), if_pos (by rw [List.length_append, List.length_singleton]; omega)]
  show (l ++ [x])[((-1 : Int) + ((l ++ [x]).length : Nat)).toNat]? = some x
  have : ((-1 : Int) + ((l ++ [x]).length : Nat)).toNat = l.length := by rw [List.length_append, List.length_singleton]; omega
  rw [this, List.getElem?_append_right (Nat.le_refl _), Nat.sub_self]
  rfl
theorem strOk_of {z : Str} (h : ∀ c ∈ z.cps.toList, c < 128) : PyData.strOk z = true := by
  unfold PyData.strOk
  rw [← Array.all_toList, List.all_eq_true]
  intro c hc
  have := h c hc
  exact decide_eq_true (by omega)
theorem dNe_lots {a b : List (List Str)} {Q : D → Prop} (e : a = b) (ok : ∀ l ∈ b, ∀ x ∈ l, PyData.strOk x = true) (q : Q (.bl false)) : dNe (.lst (a.map lotD)) (.lst (b.map lotD)) Q := by
  subst e
  show dPy true _ _ Q
  unfold dPy
  have h1 : pyD (.lst (a.map lotD)) = some (.list (a.map lD)) := by
    rw [pyD, py_lots]
    rfl
  rw [h1]
  refine ⟨shaped_lotsL ok, shaped_lotsL ok, ?_⟩
  rw [eqv_lotsL, decide_eq_true rfl]
  exact q
theorem cross_meet {qs a b : List Str} (nd : qs.Nodup) (h : crossS qs a b = true) : ∃ x, x ∈ a ∧ x ∈ b := by
  unfold crossS crossM at h
  rw [Bool.and_eq_true] at h
  have h1 := of_decide_eq_true h.1
  have h2 : ¬ (mm qs a &&& mm qs b = 0) := fun z => h1 (.inl z)
  rw [mm_and nd] at h2
  refine Classical.byContradiction fun z => h2 fun x _ hx => z ⟨x, hx⟩
/-- the corners of two weakest lots that meet are weakest -/
theorem weak_two {ps ini : List Str} {ts : Ties} {m : Int} (g : MG ps ts) (hi : ini.Sublist ps) {a b j : List Str} (ha : a.Sublist ini) (hb : b.Sublist ini) (ca : cutT ts a = m) (cb : cutT ts b = m) (hm : ∀ l : List Str, l ≠ [] → l.Sublist ini → m ≤ cutT ts l)
    (hx : ∃ x, x ∈ a ∧ x ∈ b) (hj : j.Pairwise fun a b => ltS a b = true) (mj : ∀ x, x ∈ j ↔ x ∈ a ∨ x ∈ b) :
    (inS a b ≠ [] ∧ (inS a b).Sublist ini ∧ cutT ts (inS a b) = m) ∧ (j ≠ [] ∧ j.Sublist ini ∧ cutT ts j = m) := by
  have la : LotOk ps a := ⟨fun x h => (ha.trans hi).subset h, g.asc.sublist (ha.trans hi)⟩
  have lb : LotOk ps b := ⟨fun x h => (hb.trans hi).subset h, g.asc.sublist (hb.trans hi)⟩
  obtain ⟨x, xa, xb⟩ := hx
  have n1 : inS a b ≠ [] := fun z => by
    have : x ∈ inS a b := mem_inS.mpr ⟨xa, xb⟩
    rw [z] at this
    cases this
  have n2 : j ≠ [] := fun z => by
    have : x ∈ j := (mj x).mpr (.inl xa)
    rw [z] at this
    cases this
  have s1 : (inS a b).Sublist ini := (List.filter_sublist).trans ha
  have s2 : j.Sublist ini := asc_sub hj (g.asc.sublist hi) fun y hy => ((mj y).mp hy).elim (fun h => ha.subset h) fun h => hb.subset h
  have e := ex_one g la lb mj
  have t := tbS_nn g (la.out b).nd (lb.out a).nd (fun x hx z => (mem_outS.mp hx).2 (mem_outS.mp z).1)
  have c1 := hm _ n1 s1
  have c2 := hm _ n2 s2
  exact ⟨⟨n1, s1, by omega⟩, n2, s2, by omega⟩
theorem cut_bounds {ps : List Str} {ts : Ties} (g : GoodN ps ts) (l : List Str) : 0 ≤ cutT ts l ∧ cutT ts l ≤ 22 := by
  rw [cutT_sum]
  refine ⟨sumT_nn fun e he => ?_, ?_⟩
  · have := g.pos e he
    unfold cutI
    split <;> omega
  · have h : 0 ≤ sumT (fun e => e.2 - cutI l e) ts := sumT_nn fun e he => by
      have := g.pos e he
      unfold cutI
      split <;> omega
    rw [sumT_sub] at h
    have := g.sum
    have e2 : sumT Prod.snd ts = (ts.map (·.2)).sum := rfl
    omega
theorem dEq_nil {a : List (List Str)} {Q : D → Prop} (ok : ∀ l ∈ a, ∀ x ∈ l, PyData.strOk x = true) (q : Q (.bl (decide (a = [])))) : dEq (.lst (a.map lotD)) (.lst []) Q := by
  show dPy false _ _ Q
  unfold dPy
  have h1 : pyD (.lst (a.map lotD)) = some (.list (a.map lD)) := by
    rw [pyD, py_lots]
    rfl
  have h2 : pyD (.lst []) = some (.list (([] : List (List Str)).map lD)) := rfl
  rw [h1, h2]
  refine ⟨shaped_lotsL ok, shaped_lotsL (fun l h => by cases h), ?_⟩
  rw [eqv_lotsL, Bool.false_xor]
  exact q
theorem lift_eq {ps l : List Str} {T ts : Ties} (g : ps.Pairwise fun a b => ltS a b = true) (hl : l.Sublist ps) (hc : ∀ l, cutT T l = cutT ts l) (v : Int) :
    ((partsM ps l).all fun m => decide (v ≤ cutT T m)) = decide (((allS l).tail.filter fun x => decide (cutT ts x < v)) = []) := by
  have mem : ∀ x, x ∈ partsM ps l ↔ x ∈ (allS l).tail := fun x => by
    unfold partsM
    rw [row_full, List.mem_filter, mem_tail, mem_tail, List.all_eq_true]
    constructor
    · rintro ⟨⟨h1, h2⟩, h3⟩
      exact ⟨h1, asc_sub (g.sublist h2) (g.sublist hl) fun y hy => of_decide_eq_true (h3 y hy)⟩
    · rintro ⟨h1, h2⟩
      exact ⟨⟨h1, h2.trans hl⟩, fun y hy => decide_eq_true (h2.subset hy)⟩
  by_cases c : ((allS l).tail.filter fun x => decide (cutT ts x < v)) = []
  · rw [decide_eq_true c, List.all_eq_true]
    rw [List.filter_eq_nil_iff] at c
    intro x hx
    have := c x ((mem x).mp hx)
    rw [hc]
    exact decide_eq_true (by simpa using this)
  · rw [decide_eq_false c, ← Bool.not_eq_true, List.all_eq_true]
    intro z
    refine c (List.filter_eq_nil_iff.mpr fun x hx => ?_)
    have := of_decide_eq_true (z x ((mem x).mpr hx))
    rw [hc] at this
    simpa using this
section
variable {P : Program} {w : World} {K : PySem.W.Frag} {mg : Str → Option Value} {base : Heap} {C : Addr}
def spLawRight : DSp := fun xs Q => xs = [.cell] ∧ Q (.bl true)
theorem ok__law_right {f : Addr} {fd : FuncData} {k : Nat} (F : Fun K "_law_right" "_law_right" s__law_right f fd) (m_list : mg "list" = none) (m_min : mg "min" = none) (m_range : mg "range" = none) (m_set : mg "set" = none) (m_sorted : mg "sorted" = none) (m_tuple : mg "tuple" = none) (G__law_net : DFn P w K mg base k "_law_net" [] spNetD) (G__law_made : DFn P w K mg base k "_law_made" [] (spLawMade C)) (G__law_lots : DFn P w K mg base k "_law_lots" [] spLawLots) (G__law_cut : DFn P w K mg base k "_law_cut" [] spLawCut) (G_weakest : DFn P w K mg base k "weakest" [] (spWeakest C)) (G_do_cross : DFn P w K mg base k "do_cross" [] (spDoCross C)) (G__law_lot : DFn P w K mg base k "_law_lot" [] spLawLot) (G__law_pick : DFn P w K mg base k "_law_pick" [] spPickD) (G_lifted : DFn P w K mg base k "lifted" [] (spLifted C)) (G__law_parts : DFn P w K mg base k "_law_parts" [] spLawParts) : FnOk P w K mg base CX0 (k + 1) f fd ["dice"] (spD spLawRight) := by
  refine fnD_ok F sc__law_right (fun xs Q h => ?_) (fun dc cdv A outer s0 H E hr =>
    (dss_cons (ds_set (i := 1) sc__law_right.nd rfl (by first | exact Or.inl rfl | exact Or.inr rfl) (de_fn G__law_net hr (Nat.le_refl _) (by rfl) (da_cons (de_var 0) da_nil)))
      (dss_cons (ds_set (i := 2) sc__law_right.nd rfl (by first | exact Or.inl rfl | exact Or.inr rfl) (de_fn G__law_made hr (Nat.le_refl _) (by rfl) (da_cons (de_var 1) da_nil)))
      (dss_cons (ds_setLc (i := 3) (own := [("lot", 11)]) rfl sc__law_right.nd rfl rfl (sw_true rfl rfl (by decide +kernel) (by decide +kernel)) (di_seq (de_fn G__law_lots hr (Nat.le_refl _) (by rfl) (da_cons (de_var 1) da_nil))) (blkOk_by (N := ["dice", "net", "made", "rows", "least", "due", "one", "turn", "told", "some", "other", "lot", "many", "row", "both", "place"]) (sc := defScope s__law_right) (by decide +kernel)) (fun _ _ _ _ _ => (dg_name (i := 11) sc__law_right.nd rfl (Or.inl rfl))) (fun _ _ _ _ _ => (dts_one (dc_cmp (opd_notinA (hu_of hr)) (de_sub (hu_of hr) (de_sub (hu_of hr) (de_var 1) de_str) (de_neg de_int)) (de_var 11) (by rfl)))) (fun _ _ _ _ _ => (de_tup (da_cons (de_fn G__law_cut hr (Nat.le_refl _) (by rfl) (da_cons (de_var 1) (da_cons (de_var 11) da_nil))) (da_cons (de_var 11) da_nil)))) (by decide))
      (dss_cons (ds_set (i := 4) sc__law_right.nd rfl (by first | exact Or.inl rfl | exact Or.inr rfl) (de_callB (cd_min rfl) (by rfl) m_min (by decide +kernel) (da_cons (de_lc (own := [("many", 12), ("lot", 11)]) rfl sc__law_right.nd (di_seq (de_var 3)) (blkOk_by (N := ["dice", "net", "made", "rows", "least", "due", "one", "turn", "told", "some", "other", "lot", "many", "row", "both", "place"]) (sc := defScope s__law_right) (by decide +kernel)) (fun _ _ _ _ _ => (dg_tup (n := 2) rfl (dgs_cons (dg_name (i := 12) sc__law_right.nd rfl (Or.inl rfl)) (dgs_cons (dg_name (i := 11) sc__law_right.nd rfl (Or.inl rfl)) dgs_nil)))) (fun _ _ _ _ _ => dts_nil) (fun _ _ _ _ _ => (de_var 12)) (by decide)) da_nil)))
      (dss_cons (ds_asg (de_fn G_weakest hr (Nat.le_refl _) (by rfl) (da_cons (de_var 2) da_nil)) (dg_tup (n := 2) rfl (dgs_cons (dg_name (i := 8) sc__law_right.nd rfl (by first | exact Or.inl rfl | exact Or.inr rfl)) (dgs_cons (dg_name (i := 9) sc__law_right.nd rfl (by first | exact Or.inl rfl | exact Or.inr rfl)) dgs_nil))))
      (dss_cons (ds_set (i := 5) sc__law_right.nd rfl (by first | exact Or.inl rfl | exact Or.inr rfl) (de_callB (cd_sortedL (room80 hr)) (by rfl) m_sorted (by decide +kernel) (da_cons (de_lc (own := [("row", 13)]) rfl sc__law_right.nd (di_seq (de_var 3)) (blkOk_by (N := ["dice", "net", "made", "rows", "least", "due", "one", "turn", "told", "some", "other", "lot", "many", "row", "both", "place"]) (sc := defScope s__law_right) (by decide +kernel)) (fun _ _ _ _ _ => (dg_name (i := 13) sc__law_right.nd rfl (Or.inl rfl))) (fun _ _ _ _ _ => (dts_one (dc_cmp (opd_eq (hr.units)) (de_sub (hu_of hr) (de_var 13) de_int) (de_var 4) (nomark _)))) (fun _ _ _ _ _ => (de_sub (hu_of hr) (de_var 13) de_int)) (by decide)) da_nil)))
      (dss_cons (ds_if ((dw_or (dc_cmp (opd_ne (hr.units)) (de_var 8) (de_var 4) (nomark _)) (dw_or1 (dc_cmp (opd_ne (hr.units)) (de_callTy cd_list (by rfl) m_list (by decide +kernel) (da_cons (de_var 9) da_nil)) (de_var 5) (nomark _))))).toC (dss_one (ds_ret de_bl)) dss_nil)
      (dss_cons (ds_for PassesOwn.never rfl (di_seq (de_var 9)) (dg_name (i := 6) sc__law_right.nd rfl (by first | exact Or.inl rfl | exact Or.inr rfl)) (dss_one (ds_for PassesOwn.never rfl (di_seq (de_var 9)) (dg_name (i := 10) sc__law_right.nd rfl (by first | exact Or.inl rfl | exact Or.inr rfl)) (dss_one (ds_if (dc_val (de_fn G_do_cross hr (Nat.le_refl _) (by rfl) (da_cons (de_var 2) (da_cons (de_var 6) (da_cons (de_var 10) da_nil))))) (dss_cons (ds_set (i := 14) sc__law_right.nd rfl (by first | exact Or.inl rfl | exact Or.inr rfl) (de_callTy cd_tuple (by rfl) m_tuple (by decide +kernel) (da_cons (de_lc (own := [("place", 15)]) rfl sc__law_right.nd (di_seq (de_var 6)) (blkOk_by (N := ["dice", "net", "made", "rows", "least", "due", "one", "turn", "told", "some", "other", "lot", "many", "row", "both", "place"]) (sc := defScope s__law_right) (by decide +kernel)) (fun _ _ _ _ _ => (dg_name (i := 15) sc__law_right.nd rfl (Or.inl rfl))) (fun _ _ _ _ _ => (dts_one (dc_cmp (opd_inA (hu_of hr)) (de_var 15) (de_var 10) (by rfl)))) (fun _ _ _ _ _ => (de_var 15)) (by decide)) da_nil)))
      (dss_one (ds_if ((dw_or (dc_cmp (opd_notinL (room65 hr)) (de_var 14) (de_var 9) (by rfl)) (dw_or1 (dc_cmp (opd_notinL (room65 hr)) (de_callTy cd_tuple (by rfl) m_tuple (by decide +kernel) (da_cons (de_sortedSet rfl (de_op opd_add (de_var 6) (de_var 10)) (by rfl) m_sorted (by rfl) m_set) da_nil)) (de_var 9) (by rfl))))).toC (dss_one (ds_ret de_bl)) dss_nil))) dss_nil)))))
      (dss_cons (ds_for PassesOwn.never rfl (di_range1 (by rfl) m_range (da_cons de_int da_nil)) (dg_name (i := 7) sc__law_right.nd rfl (by first | exact Or.inl rfl | exact Or.inr rfl)) (dss_cons (ds_asg (de_tup (da_cons (de_fn G__law_lot hr (Nat.le_refl _) (by rfl) (da_cons (de_var 0) (da_cons (de_var 1) da_nil))) (da_cons (de_fn G__law_pick hr (Nat.le_refl _) (by rfl) (da_cons (de_var 0) (da_cons (de_lst (da_cons de_int (da_cons de_int (da_cons de_int (da_cons de_int (da_cons de_int (da_cons (de_var 4) (da_cons (de_op opd_add (de_var 4) de_int) da_nil)))))))) da_nil))) da_nil))) (dg_tup (n := 2) rfl (dgs_cons (dg_name (i := 11) sc__law_right.nd rfl (by first | exact Or.inl rfl | exact Or.inr rfl)) (dgs_cons (dg_name (i := 12) sc__law_right.nd rfl (by first | exact Or.inl rfl | exact Or.inr rfl)) dgs_nil))))
      (dss_one (ds_if (dc_cmp (opd_ne (hr.units)) (de_fn G_lifted hr (Nat.le_refl _) (by rfl) (da_cons (de_var 2) (da_cons (de_var 11) (da_cons (de_var 12) da_nil)))) (de_cmp (opd_eq (hr.units)) (de_lc (own := [("one", 6)]) rfl sc__law_right.nd (di_seq (de_fn G__law_parts hr (Nat.le_refl _) (by rfl) (da_cons (de_var 11) da_nil))) (blkOk_by (N := ["dice", "net", "made", "rows", "least", "due", "one", "turn", "told", "some", "other", "lot", "many", "row", "both", "place"]) (sc := defScope s__law_right) (by decide +kernel)) (fun _ _ _ _ _ => (dg_name (i := 6) sc__law_right.nd rfl (Or.inl rfl))) (fun _ _ _ _ _ => (dts_one (dc_cmp opd_lt (de_fn G__law_cut hr (Nat.le_refl _) (by rfl) (da_cons (de_var 1) (da_cons (de_var 6) da_nil))) (de_var 12) (nomark _)))) (fun _ _ _ _ _ => (de_var 6)) (by decide)) (de_lst da_nil) (nomark _)) (nomark _)) (dss_one (ds_ret de_bl)) dss_nil))))
      (dss_one (ds_ret de_bl)))))))))))) (fun xs Q h => ?_)
  · obtain ⟨rfl, _⟩ := h; rfl
  · obtain ⟨rfl, q⟩ := h
    walk_at "dred3"
    refine ⟨rfl, fun ps ts gN => ?_⟩
    walk_at "dred3"
    refine ⟨ps, ts, rfl, gN.made, fun qs pm srt => ?_⟩
    walk_at "dred3"
    have mg' := made_mg gN.asc gN.b pm srt
    obtain rfl := asc_eq mg'.asc gN.asc pm
    have h2 := gN.two
    have h6 := gN.six
    obtain ⟨ini, p, rfl⟩ : ∃ ini p, qs = ini ++ [p] := by
      have : qs ≠ [] := fun z => by rw [z] at h2; simp at h2
      exact ⟨qs.dropLast, qs.getLast this, (List.dropLast_concat_getLast this).symm⟩
    have hc : ∀ l, cutT (sortTi ts) l = cutT ts l := fun l => by rw [cutT_sum, cutT_sum, sumT_perm (sortTi_perm gN.nodup)]
    have hnd := asc_nodup gN.asc
    have hp : p ∉ ini := fun z => by
      rw [List.nodup_append] at hnd
      exact hnd.2.2 _ z _ (List.mem_singleton.mpr rfl) rfl
    have hil : 1 ≤ ini.length ∧ ini.length ≤ 5 := by rw [List.length_append, List.length_singleton] at h2 h6; omega
    have tl := gN.made.len
    have hok : ∀ l : List Str, l.Sublist (ini ++ [p]) → ∀ x ∈ l, PyData.strOk x = true := fun l hl x hx => strOk_of (gN.words x (hl.subset hx)).2.2
    have hrp := rows_perm hp
    have hz : (lotsS (ini ++ [p])).length ≤ 1000 := by
      unfold lotsS
      rw [List.length_mergeSort]
      exact Nat.le_trans (List.length_filter_le _ _) (allS_small (by omega))
    refine ⟨ini ++ [p], ts, rfl, by omega, ?_⟩
    walk_at "dred3"
    refine ⟨by rw [List.length_map]; exact Nat.le_of_lt (small1000 hz), ?_⟩
    refine lcL_filter (g := fun l => D.tup [.int (cutT ts l), lotD l]) (c := fun l => !decide (p ∈ l)) (fun l hl K hK => ?_) ?_
    · walk_at "dred3"
      unfold dNeg
      walk_at "dred3"
      rw [List.map_append]
      show onSome (atI (ini.map D.str ++ [.str p]) (-1)) _
      rw [atI_last]
      walk_at "dred3"
      by_cases c : p ∈ l
      · rw [decide_eq_true c] at hK ⊢
        exact iteF (by simpa using hK)
      · rw [decide_eq_false c] at hK ⊢
        refine iteT ⟨_, ts, l, rfl, by omega, gN.nodup, ?_⟩
        exact ⟨by decide, by simpa using hK⟩
    generalize hR : (lotsS (ini ++ [p])).filter (fun l => !decide (p ∈ l)) = R at hrp
    have hRl : R.length ≤ 1000 := by
      rw [← hR]
      exact Nat.le_trans (List.length_filter_le _ _) hz
    have hmem : ∀ {l}, l ∈ R ↔ l ≠ [] ∧ l.Sublist ini := fun {l} => hrp.mem_iff.trans mem_tail
    have hsz : (R.map fun l => D.tup [.int (cutT ts l), lotD l]).length ≤ sizeLine := by
      rw [List.length_map]
      exact Nat.le_of_lt (small1000 hRl)
    refine ⟨hsz, ?_⟩
    refine lcL_all (g := fun l => D.int (cutT ts l)) (fun l hl K hK => ?_) ?_
    · walk_at "dred3"
      exact hK
    have eR : R.map (fun l => D.int (cutT ts l)) = (R.map (cutT ts)).map D.int := by rw [List.map_map]; rfl
    rw [eR]
    refine asInts.of ⟨?_, fun m hm hmin => ?_⟩
    · rw [List.length_map, hrp.length_eq]
      have := allS_len ini
      rw [List.length_tail, this]
      have : 2 ^ 1 ≤ 2 ^ ini.length := Nat.pow_le_pow_right (by omega) (by omega)
      omega
    refine ⟨_, _, rfl, mg', h2, by omega, by rw [(sortTi_perm gN.nodup).length_eq]; omega, fun m' h5 h6' => ?_⟩
    rw [row_half] at h5 h6' ⊢
    have hmm : m' = m := by
      obtain ⟨l1, a1, rfl⟩ := List.mem_map.mp h5
      obtain ⟨l2, a2, rfl⟩ := List.mem_map.mp hm
      have b1 := h6' l2 (hrp.mem_iff.mp a2)
      have b2 := hmin (cutT ts l1) (List.mem_map_of_mem (hrp.mem_iff.mpr a1))
      rw [hc] at b1 ⊢
      rw [hc] at b1
      omega
    subst hmm
    have eL : (((allS ini).tail.filter fun l => decide (cutT (sortTi ts) l = m')).mergeSort leL) = (R.filter fun l => decide (cutT ts l = m')).mergeSort leL := by
      refine sort_perm ?_
      have : (fun l => decide (cutT (sortTi ts) l = m')) = fun l => decide (cutT ts l = m') := by
        funext l
        rw [hc]
      rw [this]
      exact (hrp.filter _).symm
    rw [eL]
    walk_at "dred3"
    refine ⟨hsz, ?_⟩
    refine lcL_filter (g := lotD) (c := fun l => decide (cutT ts l = m')) (fun l hl K hK => ?_) ?_
    · walk_at "dred3"
      exact hK
    generalize hL : R.filter (fun l => decide (cutT ts l = m')) = L0
    have hL0 : ∀ {l}, l ∈ L0.mergeSort leL ↔ (l ≠ [] ∧ l.Sublist ini) ∧ cutT ts l = m' := fun {l} => by
      rw [List.mem_mergeSort, ← hL, List.mem_filter, hmem, decide_eq_true_eq]
    have hLz : (L0.mergeSort leL).length ≤ 1000 := by
      rw [List.length_mergeSort, ← hL]
      exact Nat.le_trans (List.length_filter_le _ _) hRl
    refine ⟨L0, rfl, fun l hl => (hL0.mp (List.mem_mergeSort.mpr hl)).1.1, ?_⟩
    rw [decide_eq_true trivial]
    refine iteF (dNe_lots rfl (fun l hl x hx => hok l ((hL0.mp hl).1.2.trans (List.sublist_append_left _ _)) x hx) ?_)
    walk_at "dred3"
    generalize L0.mergeSort leL = L at hL0 hLz ⊢
    unfold sFor
    walk_at "dred3"
    refine dFor_go (fun d ρ => ∃ s6 s10 s14 s15, ρ = [Sl.val .cell, .val (netD (ini ++ [p]) ts), .val (madeD C (ini ++ [p]) (sortTi ts)), .val (.lst (R.map fun l => D.tup [.int (cutT ts l), lotD l])), .val (.int m'), .val (.lst (L.map lotD)), s6, .emp, .val (.int m'), .val (.tup (L.map lotD)), s10, .emp, .emp, .emp, s14, s15]) ⟨_, _, _, _, rfl⟩ (fun d a r e ρ ⟨s6, s10, s14, s15, hρ⟩ E2 hE hrt => ?_) (fun ρ ⟨s6, s10, s14, s15, hρ⟩ => ?_)
    · subst hρ
      have haL : a ∈ L := by rw [e]; exact List.mem_append_right _ List.mem_cons_self
      walk_at "dred3"
      refine dFor_go (fun d ρ => ∃ s10 s14 s15, ρ = [Sl.val .cell, .val (netD (ini ++ [p]) ts), .val (madeD C (ini ++ [p]) (sortTi ts)), .val (.lst (R.map fun l => D.tup [.int (cutT ts l), lotD l])), .val (.int m'), .val (.lst (L.map lotD)), .val (lotD a), .emp, .val (.int m'), .val (.tup (L.map lotD)), s10, .emp, .emp, .emp, s14, s15]) ⟨_, _, _, rfl⟩ (fun d2 b r2 e2 ρ ⟨s10, s14, s15, hρ⟩ E3 hE3 hrt3 => ?_) (fun ρ ⟨s10, s14, s15, hρ⟩ => hE ρ ⟨_, _, _, _, hρ⟩)
      subst hρ
      have hbL : b ∈ L := by rw [e2]; exact List.mem_append_right _ List.mem_cons_self
      walk_at "dred3"
      have ha := hL0.mp haL
      have hb := hL0.mp hbL
      have hin : ini.Sublist (ini ++ [p]) := List.sublist_append_left _ _
      have la : LotOk (ini ++ [p]) a := ⟨fun x h => (ha.1.2.trans hin).subset h, gN.asc.sublist (ha.1.2.trans hin)⟩
      have lb : LotOk (ini ++ [p]) b := ⟨fun x h => (hb.1.2.trans hin).subset h, gN.asc.sublist (hb.1.2.trans hin)⟩
      have lla := la.len
      have llb := lb.len
      refine ⟨ini ++ [p], sortTi ts, a, b, rfl, la.is, lb.is, by omega, by omega, by omega, ?_⟩
      walk_at "dred3"
      by_cases c : crossS (ini ++ [p]) a b = true
      · rw [c]
        refine iteT ⟨by rw [List.length_map]; exact Nat.le_of_lt (small1000 (by omega)), ?_⟩
        refine lcL_filter (g := D.str) (c := fun x => decide (x ∈ b)) (fun x hx K hK => ?_) ?_
        · walk_at "dred3"
          exact hK
        have hw := fun (j : List Str) hj mj => weak_two (ini := ini) (m := m') (j := j) mg' hin ha.1.2 hb.1.2 (by rw [hc]; exact ha.2) (by rw [hc]; exact hb.2) (fun l h1 h2 => h6' l (mem_tail.mpr ⟨h1, h2⟩)) (cross_meet hnd c) hj mj
        have hLok : ∀ l ∈ L, ∀ x ∈ l, PyData.strOk x = true := fun l hl x hx => hok l ((hL0.mp hl).1.2.trans hin) x hx
        refine ⟨inS a b, L, rfl, rfl, fun x hx => hok a (ha.1.2.trans hin) x (mem_inS.mp hx).1, hLok, ?_⟩
        have m0 : inS a b ∈ L := by
          have h8 := (hw ((ini ++ [p]).filter fun x => decide (x ∈ a ∨ x ∈ b)) (gN.asc.filter _) fun x => by
            rw [List.mem_filter, decide_eq_true_eq]
            exact ⟨fun h => h.2, fun h => ⟨h.elim (fun z => la.mem x z) fun z => lb.mem x z, h⟩⟩).1
          exact hL0.mpr ⟨⟨h8.1, h8.2.1⟩, by rw [← hc]; exact h8.2.2⟩
        rw [decide_eq_true m0]
        walk_at "dred3"
        rw [Bool.not_true, if_neg Bool.false_ne_true, dAdd_lot]
        refine ⟨Nat.le_trans (show _ ≤ 2000 by omega) (by decide), a ++ b, rfl, by rw [List.length_append]; omega, fun ys s1 n1 m1 => ?_⟩
        have mj : ∀ x, x ∈ ys ↔ x ∈ a ∨ x ∈ b := fun x => (m1 x).trans List.mem_append
        have asc : ys.Pairwise fun a b => ltS a b = true := sorted_asc s1 n1
        have h7 := (hw ys asc mj).2
        refine ⟨ys, L, rfl, rfl, fun x hx => ?_, hLok, ?_⟩
        · rcases (mj x).mp hx with z | z
          · exact hok a (ha.1.2.trans hin) x z
          · exact hok b (hb.1.2.trans hin) x z
        rw [decide_eq_true (hL0.mpr ⟨⟨h7.1, h7.2.1⟩, by rw [← hc]; exact h7.2.2⟩)]
        walk_at "dred3"
        rw [Bool.not_true, if_neg Bool.false_ne_true]
        exact hE3 _ ⟨_, _, _, rfl⟩
      · rw [Bool.eq_false_iff.mpr c]
        exact iteF (hE3 _ ⟨_, _, _, rfl⟩)
    · subst hρ
      walk_at "dred3"
      unfold iRg1
      walk_at "dred3"
      refine ⟨by decide, by decide, ?_⟩
      refine dFor_go (h := fun i : Nat => D.int (i : Int)) (fun d ρ => ∃ s6 s7 s10 s11 s12 s14 s15, ρ = [Sl.val .cell, .val (netD (ini ++ [p]) ts), .val (madeD C (ini ++ [p]) (sortTi ts)), .val (.lst (R.map fun l => D.tup [.int (cutT ts l), lotD l])), .val (.int m'), .val (.lst (L.map lotD)), s6, s7, .val (.int m'), .val (.tup (L.map lotD)), s10, s11, s12, .emp, s14, s15]) ⟨_, _, _, _, _, _, _, rfl⟩ (fun d a r e ρ ⟨s6, s7, s10, s11, s12, s14, s15, hρ⟩ E2 hE hrt => ?_) (fun ρ ⟨s6, s7, s10, s11, s12, s14, s15, hρ⟩ => ?_)
      · subst hρ
        walk_at "dred3"
        refine ⟨ini ++ [p], ts, rfl, by omega, fun l hl => ?_⟩
        walk_at "dred3"
        have hmb : 0 ≤ m' ∧ m' ≤ 22 := by
          obtain ⟨l0, _, rfl⟩ := List.mem_map.mp hm
          exact cut_bounds gN l0
        have ll : l.length ≤ 6 := Nat.le_trans hl.length_le h6
        have lok : LotOk (ini ++ [p]) l := ⟨fun x h => hl.subset h, gN.asc.sublist hl⟩
        refine ⟨by decide, _, rfl, by show 0 < 7; decide, by show 7 < 1073741824; decide, fun x hx => ⟨by decide, ?_⟩⟩
        obtain ⟨v, rfl, v0, v1⟩ : ∃ v : Int, x = .int v ∧ 0 ≤ v ∧ v ≤ 1000 := by
          simp only [List.mem_cons, List.not_mem_nil, or_false] at hx
          rcases hx with rfl | rfl | rfl | rfl | rfl | rfl | rfl <;> exact ⟨_, rfl, by omega, by omega⟩
        refine ⟨_, _, l, v, rfl, mg', lok.is, by omega, by omega, by rw [(sortTi_perm gN.nodup).length_eq]; omega, v0, v1, ?_⟩
        refine ⟨l, rfl, by omega, ?_⟩
        have hsm := allS_small (l := l) (by omega)
        walk_at "dred3"
        refine ⟨by rw [List.length_map, List.length_tail]; exact Nat.le_of_lt (small1000 (by omega)), ?_⟩
        refine lcL_filter (g := lotD) (c := fun x => decide (cutT ts x < v)) (fun x hx K hK => ?_) ?_
        · walk_at "dred3"
          refine ⟨_, ts, x, rfl, by omega, gN.nodup, ?_⟩
          walk_at "dred3"
          exact hK
        refine ⟨by decide, dEq_nil (fun y hy z hz => hok l hl z ((mem_tail.mp (List.mem_filter.mp hy).1).2.subset hz)) ?_⟩
        rw [lift_eq gN.asc hl hc v]
        walk_at "dred3"
        rw [decide_eq_true trivial]
        exact iteF (hE _ ⟨_, _, _, _, _, _, _, rfl⟩)
      · subst hρ
        walk_at "dred3"
        exact q
end
abbrev s_law : Stmt := topS 60
theorem sc_law : FnScope ["script", "spot", "hub", "full", "dice", "turn"] ["script"] (defScope s_law) := ⟨rfl, rfl, rfl, by decide +kernel, rfl, by decide +kernel, by decide +kernel⟩
def fullR : List RowT := [⟨"a b 1", "a", "b", "1", 1⟩, ⟨"a c 1", "a", "c", "1", 1⟩, ⟨"a d 1", "a", "d", "1", 1⟩, ⟨"b c 1", "b", "c", "1", 1⟩, ⟨"b d 1", "b", "d", "1", 1⟩, ⟨"c d 1", "c", "d", "1", 1⟩]
theorem full_read : ReadOk "a b c d" ["a", "b", "c", "d"] fullR := readB_ok (by decide +kernel)
theorem full_goodB : GoodB 60 ["a", "b", "c", "d"] (rowsTs fullR) := ⟨by decide +kernel, by decide +kernel, by decide +kernel, by decide +kernel⟩
theorem full_asc : (["a", "b", "c", "d"] : List Str).Pairwise fun a b => ltS a b = true := by decide +kernel
theorem hub_mg : MG ["a", "b", "c", "z"] (sortTi (rowsTs hubR)) := made_mg hub_asc hub_goodB (List.Perm.refl _) (by decide +kernel)
theorem full_mg : MG ["a", "b", "c", "d"] (sortTi (rowsTs fullR)) := made_mg full_asc full_goodB (List.Perm.refl _) (by decide +kernel)
theorem cut_sorted {ts : Ties} (nd : (ts.map (·.1)).Nodup) (l : List Str) : cutT (sortTi ts) l = cutT ts l := by rw [cutT_sum, cutT_sum, sumT_perm (sortTi_perm nd)]
theorem hub_cut (l : List Str) : cutT (sortTi (rowsTs hubR)) l = cutT (rowsTs hubR) l := cut_sorted hub_goodB.nodup l
theorem full_cut (l : List Str) : cutT (sortTi (rowsTs fullR)) l = cutT (rowsTs fullR) l := cut_sorted full_goodB.nodup l
theorem hub_least : ∀ l ∈ rowL ["a", "b", "c", "z"] (halfN ["a", "b", "c", "z"]), 3 ≤ cutT (rowsTs hubR) l := by decide +kernel
theorem hub_b : (["b"] : List Str) ∈ rowL ["a", "b", "c", "z"] (halfN ["a", "b", "c", "z"]) := by decide +kernel
theorem hub_bc : cutT (rowsTs hubR) ["b"] = 3 := by decide +kernel
abbrev bcL : List (List Str) := [[("b" : Str)], [("c" : Str)]]
theorem hub_some : ((rowL ["a", "b", "c", "z"] (halfN ["a", "b", "c", "z"])).filter fun l => decide (cutT (rowsTs hubR) l = 3)) = bcL := by decide +kernel
theorem bc_sort : bcL.mergeSort leL = bcL := sort_asc (by
  refine List.Pairwise.cons (fun x hx => ?_) (List.pairwise_singleton _ _)
  rw [List.mem_singleton.mp hx]
  decide +kernel)
abbrev abL : List Str := [("a" : Str), ("b" : Str)]
theorem ab_sub : abL.Sublist ["a", "b", "c", "d"] := by decide +kernel
theorem ab_three : decide (((allS abL).tail.filter fun x => decide (cutT (rowsTs fullR) x < 3)) = []) = true := by decide +kernel
theorem ab_four : decide (((allS abL).tail.filter fun x => decide (cutT (rowsTs fullR) x < 4)) = []) = false := by decide +kernel
theorem list5 {α : Type} {r : List α} (h : r.length = 5) : ∃ a b c d e, r = [a, b, c, d, e] := by
  match r, h with
  | [a, b, c, d, e], _ => exact ⟨a, b, c, d, e, rfl⟩
def spLaw (K : PySem.W.Frag) : Sp := fun vs H Q _ => ∃ (a : Addr) (ns : List Int), vs = [.ref a] ∧ SqL K H a (ns.map V.int) ∧ ns.length ≤ 63 ∧ ∀ H', Q (.bl true) H'
section
variable {P : Program} {w : World} {K : PySem.W.Frag} {mg : Str → Option Value} {base : Heap} {C : Addr}
theorem ok_law {f g1 : Addr} {fd gd1 : FuncData} {k : Nat} (F : Fun K "law" "law" s_law f fd)
    (G1 : FnOk P w K mg base CX0 k g1 gd1 ["script", "spot"] (spDice K)) (gk1 : PySem.W.keepIn K (.ref g1) = true) (gb1 : Binds K gd1 ["script", "spot"] []) (mg1 : mg "_law_dice" = some (.ref g1))
    (G__law_right : DFn P w K mg base k "_law_right" [] spLawRight) (G_weakest : DFn P w K mg base k "weakest" [] (spWeakest C)) (G_lifted : DFn P w K mg base k "lifted" [] (spLifted C))
    (Cm_read : DCm P w K mg base k C "read" (fun xs Q => ∃ c r, xs = c :: r ∧ spReadC C c r Q)) (m_Net : mg "Net" = some (.ref C))
    (m_len : mg "len" = none) (m_range : mg "range" = none) (m_min : mg "min" = none) (m_max : mg "max" = none) :
    FnOk P w K mg base CX0 (k + 1) f fd ["script"] (spLaw K) := by
  refine F.ok sc_law (fun vs H Q E h => ?_) (fun cdv A outer s H vs Q E hr h => ?_)
  · obtain ⟨a, ns, rfl, _⟩ := h
    rfl
  · obtain ⟨a, ns, rfl, hS, hlen, q⟩ := h
    refine ⟨_, pss_cons (ps_for PassesOwn.never rfl (pi_range1 (by rfl) m_range (pa_cons (pe_callB (call_max2 rfl) (by rfl) m_max (by decide +kernel) (pa_cons pe_int (pa_cons (pe_callB (call_min2 rfl) (by rfl) m_min (by decide +kernel) (pa_cons pe_int (pa_cons (pe_callB call_len_seq (by rfl) m_len PySem.boot_len (pa_cons (pv 0) pa_nil)) pa_nil))) pa_nil))) pa_nil))
        (pg_name (i := 1) sc_law.nd rfl (.inl rfl))
        (pss_cons (ps_set (i := 4) sc_law.nd rfl (by first | exact Or.inl rfl | exact Or.inr rfl) (pe_call G1 hr (by rfl) mg1 gk1 gb1 .nil pass0 (pa_cons (pv 0) (pa_cons (pv 1) pa_nil))))
        (pss_one ps_any)))
      pss_any, ?_⟩
    refine ⟨.ref a, rfl, a, _, rfl, .inl hS, 6, _, rfl, 1, _, rfl, ?_⟩
    rw [List.length_map]
    obtain ⟨c, hc, c1⟩ : ∃ c : Nat, (if (if (ns.length : Int) < 6 then (ns.length : Int) else 6) > 1 then (if (ns.length : Int) < 6 then (ns.length : Int) else 6) else 1) = (c : Int) ∧ c ≤ 8 := by
      refine ⟨(if (if (ns.length : Int) < 6 then (ns.length : Int) else 6) > 1 then (if (ns.length : Int) < 6 then (ns.length : Int) else 6) else 1).toNat, ?_, ?_⟩ <;> split <;> split <;> omega
    refine ⟨(c : Int), congrArg (fun z => [V.int z]) hc, by omega, by omega, for_range (lo := 0) (n := (c : Int).toNat) (fun i σ H' => (∃ r : L2.St, σ = some (.ref a) :: r ∧ r.length = 5) ∧ Same H H')
      ⟨⟨_, rfl, rfl⟩, Same.refl H⟩ (fun i σ H' hi hP => ?_) (fun σ H' hP => ?_)⟩
    · obtain ⟨⟨r, rfl, hr12⟩, sm⟩ := hP
      obtain ⟨y1, y2, y3, y4, y5, rfl⟩ := list5 hr12
      refine ⟨.ref a, rfl, .int (0 + (i : Int)), rfl, a, ns, _, rfl, sm.seq hS, hlen, by omega, fun D x y z nD => ?_⟩
      have hd0 : DiceAt (upd H' D (.lst [.int x, .int y, .int z])) D := ⟨x, y, z, upd_same⟩
      have sm0 : Same H' (upd H' D (.lst [.int x, .int y, .int z])) := same_upd nD
      generalize upd H' D (.lst [.int x, .int y, .int z]) = Hd at hd0 sm0 ⊢
      refine DS.any (dc := some D) ((ds_for PassesOwn.never rfl (di_range1 (by rfl) m_range (da_cons de_int da_nil)) (dg_name (i := 5) sc_law.nd rfl (by first | exact Or.inl rfl | exact Or.inr rfl)) (dss_one (ds_if (dc_not (dc_val (de_fn G__law_right hr (Nat.le_refl _) (by rfl) (da_cons (de_var 4) da_nil)))) (dss_one (ds_ret de_bl)) dss_nil)))) (E := { nx := fun ρ => ∃ s1 s2 s3 s5, ρ = [.val (.raw (.ref a)), s1, s2, s3, .val .cell, s5], rt := fun _ => False })
        (SInv.bare (ρ := [.val (.raw (.ref a)), .emp, .emp, .emp, .val .cell, .emp]) (fun d e => by cases e; exact hd0) rfl (fun j x hx => ?_) (fun j x hx => ?_)) ⟨fun ρ σ F1 H1 I1 ⟨s1, s2, s3, s5, e⟩ => ?_, fun _ _ _ _ _ _ z => z.elim, fun _ _ _ _ _ z => z.elim, fun _ _ _ _ _ z => z.elim⟩ ?_
      · match j, hx with
        | 0, hx => cases hx; exact ⟨_, rfl, .raw _⟩
        | 4, hx => cases hx; exact ⟨_, rfl, .cell rfl⟩
        | 1, hx | 2, hx | 3, hx | 5, hx => cases hx
      · match j, hx with
        | 0, hx | 1, hx | 2, hx | 3, hx | 4, hx | 5, hx => cases hx
      · subst e
        obtain ⟨v, hv, rv⟩ := I1.vals 0 _ rfl
        cases rv
        have hl := I1.len
        cases σ with
        | nil => cases hv
        | cons y r =>
          cases hv
          refine ⟨⟨r, rfl, by simpa using hl.symm⟩, fun b o e => ?_⟩
          have h1 := sm b o e
          exact I1.ext.keep b o (fun z => by cases z; rw [nD] at h1; cases h1) (sm0 b o h1)
      · walk_at "dred3"
        unfold sFor
        refine ⟨by decide, by decide, ?_⟩
        refine dFor_inv (fun ρ => ∃ s1 s2 s3 s5, ρ = [.val (.raw (.ref a)), s1, s2, s3, .val .cell, s5]) _ _ (fun x _ ρ ⟨s1, s2, s3, s5, e⟩ E2 hE hrt => ?_) ⟨_, _, _, _, rfl⟩ (fun ρ h => h)
        subst e
        walk_at "dred3"
        refine ⟨rfl, ?_⟩
        walk_at "dred3"
        exact iteF (hE _ ⟨_, _, _, _, rfl⟩)
    · obtain ⟨⟨r, rfl, hr12⟩, sm⟩ := hP
      refine DSs.any (dc := none) ((dss_cons (ds_set (i := 2) sc_law.nd rfl (by first | exact Or.inl rfl | exact Or.inr rfl) (de_cmeth Cm_read hr (Nat.le_refl _) (de_globR (by rfl) m_Net) (da_cons de_str (da_cons de_str (da_cons de_str (da_cons de_str (da_cons de_str (da_cons de_str (da_cons de_str da_nil)))))))))
      (dss_cons (ds_set (i := 3) sc_law.nd rfl (by first | exact Or.inl rfl | exact Or.inr rfl) (de_cmeth Cm_read hr (Nat.le_refl _) (de_globR (by rfl) m_Net) (da_cons de_str (da_cons de_str (da_cons de_str (da_cons de_str (da_cons de_str (da_cons de_str (da_cons de_str da_nil)))))))))
      (dss_one (ds_ret (de_cmp (opd_eq (hr.units)) (de_lst (da_cons (de_fn G_weakest hr (Nat.le_refl _) (by rfl) (da_cons (de_var 2) da_nil)) (da_cons (de_fn G_lifted hr (Nat.le_refl _) (by rfl) (da_cons (de_var 3) (da_cons (de_tup (da_cons de_str (da_cons de_str da_nil))) (da_cons de_int da_nil)))) (da_cons (de_fn G_lifted hr (Nat.le_refl _) (by rfl) (da_cons (de_var 3) (da_cons (de_tup (da_cons de_str (da_cons de_str da_nil))) (da_cons de_int da_nil)))) da_nil)))) (de_lst (da_cons (de_tup (da_cons de_int (da_cons (de_tup (da_cons (de_tup (da_cons de_str da_nil)) (da_cons (de_tup (da_cons de_str da_nil)) da_nil))) da_nil))) (da_cons de_bl (da_cons de_bl da_nil)))) (nomark _))))))) (E := { nx := fun _ => False, rt := fun x => x = .bl true }) (SInv.bare (ρ := .val (.raw (.ref a)) :: List.replicate 5 .emp) (fun _ z => nomatch z) ?_ ?_ ?_) ⟨fun _ _ _ _ _ z => z.elim, fun x v F' H'' _ rx e => ?_, fun _ _ _ _ _ z => z.elim, fun _ _ _ _ _ z => z.elim⟩ ?_
      · rw [List.length_cons, List.length_cons, hr12]; rfl
      · intro i x hx
        cases i with
        | zero => cases hx; exact ⟨_, rfl, .raw _⟩
        | succ i => cases (List.mem_replicate.mp (List.mem_of_getElem? (show (List.replicate 5 Sl.emp)[i]? = _ from hx))).2
      · intro i x hx
        cases i with
        | zero => cases hx
        | succ i => cases (List.mem_replicate.mp (List.mem_of_getElem? (show (List.replicate 5 Sl.emp)[i]? = _ from hx))).2
      · subst e
        cases rx
        exact q _
      · walk_at "dred3"
        unfold dCm
        walk_at "dred3"
        refine ⟨_, _, rfl, rfl, "a b c z", _, hubR, rfl, hub_read, fun qs pm srt => ?_⟩
        obtain rfl := sorted_eq hub_asc pm srt
        walk_at "dred3"
        refine ⟨_, _, rfl, rfl, "a b c d", _, fullR, rfl, full_read, fun qs pm srt => ?_⟩
        obtain rfl := sorted_eq full_asc pm srt
        walk_at "dred3"
        refine ⟨_, _, rfl, hub_mg, by decide, by decide, by rw [(sortTi_perm hub_goodB.nodup).length_eq]; decide, fun m h1 h2 => ?_⟩
        have hm : m = 3 := by
          obtain ⟨l, hl, rfl⟩ := List.mem_map.mp h1
          have a1 := h2 _ hub_b
          have a2 := hub_least l hl
          rw [hub_cut] at a1 ⊢
          rw [hub_cut, hub_bc] at a1
          omega
        subst hm
        have e1 : ((rowL ["a", "b", "c", "z"] (halfN ["a", "b", "c", "z"])).filter fun l => decide (cutT (sortTi (rowsTs hubR)) l = 3)) = bcL := by
          rw [← hub_some]
          congr 1
          funext l
          rw [hub_cut]
        rw [e1, bc_sort]
        refine ⟨by decide, ⟨_, _, abL, 3, rfl, full_mg, by decide +kernel, by decide, by decide, by rw [(sortTi_perm full_goodB.nodup).length_eq]; decide, by decide, by decide, ?_⟩⟩
        rw [lift_eq full_asc ab_sub full_cut 3, ab_three]
        refine ⟨by decide, ⟨_, _, abL, 4, rfl, full_mg, by decide +kernel, by decide, by decide, by rw [(sortTi_perm full_goodB.nodup).length_eq]; decide, by decide, by decide, ?_⟩⟩
        rw [lift_eq full_asc ab_sub full_cut 4, ab_four]
        refine ⟨by decide, by decide, by decide, by decide, by decide, by decide, ?_⟩
        exact ⟨by decide +kernel, by decide +kernel, congrArg D.bl (by decide +kernel)⟩
end
/-! ### what is promised of less -/
variable {C : Addr}
theorem mo_ascends : Mono spAscends := fun _ _ _ hP ⟨a, e, f, q⟩ => ⟨a, e, f, hP _ q⟩
theorem mo_ascendsL : Mono spAscendsL := fun _ _ _ hP ⟨a, e, f, q⟩ => ⟨a, e, f, hP _ q⟩
theorem mo_makes_lot : Mono spMakesLot := fun _ _ _ hP ⟨a, b, e, f, q⟩ => ⟨a, b, e, f, hP _ q⟩
theorem mo_places : Mono (spPlaces C) := fun _ _ _ hP ⟨a, b, e, q⟩ => ⟨a, b, e, hP _ q⟩
theorem mo_check_place : Mono (spCheckPlace C) := fun _ _ _ hP ⟨a, b, c, e, f, q⟩ => ⟨a, b, c, e, f, hP _ q⟩
theorem mo_check_net : Mono (spCheckNet C) := fun _ _ _ hP ⟨a, b, e, q⟩ => ⟨a, b, e, hP _ q⟩
theorem mo_check_lot : Mono (spCheckLot C) := fun _ _ _ hP ⟨a, b, c, e, f, g, q⟩ => ⟨a, b, c, e, f, g, hP _ q⟩
theorem mo_check_two : Mono (spCheckTwo C) := fun _ _ _ hP ⟨a, b, c, d, e, f, g, h, i, q⟩ => ⟨a, b, c, d, e, f, g, h, i, hP _ q⟩
theorem mo_roll : Mono spRollD := fun _ _ _ hP ⟨n, e, a, b, q⟩ => ⟨n, e, a, b, fun r x y => hP _ (q r x y)⟩
theorem mo_net : Mono spNetD := fun _ _ _ hP ⟨e, q⟩ => ⟨e, fun ps ts g => hP _ (q ps ts g)⟩
theorem mo_law_cut : Mono spLawCut := fun _ _ _ hP ⟨a, b, c, e, f, g, q⟩ => ⟨a, b, c, e, f, g, hP _ q⟩
theorem mo_law_lot : Mono spLawLot := fun _ _ _ hP ⟨a, b, e, f, q⟩ => ⟨a, b, e, f, fun l h => hP _ (q l h)⟩
theorem mo_word : Mono spWordD := fun _ _ _ hP ⟨a, e, f, q⟩ => ⟨a, e, f, hP _ q⟩
theorem mo_pair : Mono spPairD := fun _ _ _ hP ⟨a, b, e, f, g, q⟩ => ⟨a, b, e, f, g, hP _ q⟩
theorem mo_tellsP : Mono spTellsP := fun _ _ _ hP ⟨a, e, f, g, h, q⟩ => ⟨a, e, f, g, h, hP _ q⟩
theorem mo_tellsT : Mono spTellsT := fun _ _ _ hP ⟨a, b, c, d, n, e, f, q⟩ => ⟨a, b, c, d, n, e, f, hP _ q⟩
theorem mo_read : Mono (fun xs Q => ∃ c r, xs = c :: r ∧ spReadC C c r Q) := fun _ _ _ hP ⟨c, r, e, f, z, ps, rs, g, h, q⟩ => ⟨c, r, e, f, z, ps, rs, g, h, fun qs a b => hP _ (q qs a b)⟩
theorem mo_made : Mono (spLawMade C) := fun _ _ _ hP ⟨a, b, e, f, q⟩ => ⟨a, b, e, f, fun qs x y => hP _ (q qs x y)⟩
theorem mo_has_place : Mono spHasPlace := fun _ _ _ hP ⟨m, a, e, q⟩ => ⟨m, a, e, hP _ q⟩
theorem mo_mask_of : Mono (spMaskOf C) := fun _ _ _ hP ⟨a, b, l, e, f, q⟩ => ⟨a, b, l, e, f, hP _ q⟩
theorem mo_lot_of : Mono (spLotOf C) := fun _ _ _ hP ⟨a, b, m, e, f, q⟩ => ⟨a, b, m, e, f, hP _ q⟩
theorem mo_lots_of : Mono (spLotsOf C) := fun _ _ _ hP ⟨a, b, m, e, f, g, h, q⟩ => ⟨a, b, m, e, f, g, h, hP _ q⟩
theorem mo_masks_cross : Mono spMasksCross := fun _ _ _ hP ⟨a, b, c, e, q⟩ => ⟨a, b, c, e, hP _ q⟩
theorem mo_do_cross : Mono (spDoCross C) := fun _ _ _ hP ⟨a, b, c, d, e, f, g, h, i, j, q⟩ => ⟨a, b, c, d, e, f, g, h, i, j, hP _ q⟩
theorem mo_degree : Mono (spDegree C) := fun _ _ _ hP ⟨a, b, c, e, f, g, h, q⟩ => ⟨a, b, c, e, f, g, h, hP _ q⟩
theorem mo_ties : Mono (spTies C) := fun _ _ _ hP ⟨a, b, e, f, g, q⟩ => ⟨a, b, e, f, g, hP _ q⟩
theorem mo_degrees : Mono (spDegrees C) := fun _ _ _ hP ⟨a, b, e, f, g, h, i, q⟩ => ⟨a, b, e, f, g, h, i, hP _ q⟩
theorem mo_all_cuts : Mono (spAllCuts C) := fun _ _ _ hP ⟨a, b, e, f, g, h, q⟩ => ⟨a, b, e, f, g, h, hP _ q⟩
theorem mo_weakest : Mono (spWeakest C) := fun _ _ _ hP ⟨a, b, e, f, g, h, i, q⟩ => ⟨a, b, e, f, g, h, i, fun m x y => hP _ (q m x y)⟩
theorem mo_intD : Mono spIntD := fun _ _ _ hP ⟨i, e, f, g, q⟩ => ⟨i, e, f, g, hP _ q⟩
theorem mo_lifted : Mono (spLifted C) := fun _ _ _ hP ⟨a, b, c, d, e, f, g, h, i, j, k, l, q⟩ => ⟨a, b, c, d, e, f, g, h, i, j, k, l, hP _ q⟩
theorem mo_law_lots : Mono spLawLots := fun _ _ _ hP ⟨a, b, e, f, q⟩ => ⟨a, b, e, f, hP _ q⟩
theorem mo_law_parts : Mono spLawParts := fun _ _ _ hP ⟨a, e, f, q⟩ => ⟨a, e, f, hP _ q⟩
theorem mo_law_right : Mono spLawRight := fun _ _ _ hP ⟨e, q⟩ => ⟨e, hP _ q⟩
theorem mo_pickD : Mono spPickD := fun _ _ _ hP ⟨a, e, f, g, q⟩ => ⟨a, e, f, g, fun x h => hP _ (q x h)⟩
/-! ### what the top has written -/
set_option maxHeartbeats 0 in
theorem all_mk {l : PySem.W.OpenLaw} {w : World} {K : PySem.W.Frag} {h : Heap} {mg : Str → Option Value} {fa C f0 f1 f2 f3 f4 f5 f6 f7 f8 f9 f10 f11 f12 f13 f14 f15 f16 f17 f18 f19 f20 f21 f22 f23 f24 f25 f26 f27 f28 f29 f30 f31 f32 f33 f34 f35 f36 h0 h1 h2 h3 h4 h5 h6 p1 p2 p3 p4 : Addr} (X : K.In h) (G : h.Ns mainGlobals mg) (hfa : mg "law" = some (.ref fa))
    {t1 t2 t3 t4 : Tok} {od0 an0 od1 an1 od2 an2 od3 an3 od4 an4 od5 an5 od6 an6 od7 an7 od8 an8 od9 an9 od10 an10 od11 an11 od12 an12 od13 an13 od14 an14 od15 an15 od16 an16 od17 an17 od18 an18 od19 an19 od20 an20 od21 an21 od22 an22 od23 an23 od24 an24 od25 an25 od26 an26 od27 an27 od28 an28 od29 an29 od30 an30 od31 an31 od32 an32 od33 an33 od34 an34 od35 an35 od36 an36 odm0 anm0 odm1 anm1 odm2 anm2 odm3 anm3 odm4 anm4 odm5 anm5 odm6 anm6 : Option Addr} {sl0 sl1 sl2 sl3 sl4 sl5 sl6 sl7 sl8 sl9 sl10 sl11 sl12 sl13 sl14 sl15 sl16 sl17 sl18 sl19 sl20 sl21 sl22 sl23 sl24 sl25 sl26 sl27 sl28 sl29 sl30 sl31 sl32 sl33 sl34 sl35 sl36 slm0 slm1 slm2 slm3 slm4 slm5 slm6 : Array (Option Value)} {oc0 kV0 dc0 pm0 cd0 ct0 oc1 kV1 dc1 pm1 cd1 ct1 oc2 kV2 dc2 pm2 cd2 ct2 oc3 kV3 dc3 pm3 cd3 ct3 oc4 kV4 dc4 pm4 cd4 ct4 oc5 kV5 dc5 pm5 cd5 ct5 oc6 kV6 dc6 pm6 cd6 ct6 oc7 kV7 dc7 pm7 cd7 ct7 oc8 kV8 dc8 pm8 cd8 ct8 oc9 kV9 dc9 pm9 cd9 ct9 oc10 kV10 dc10 pm10 cd10 ct10 oc11 kV11 dc11 pm11 cd11 ct11 oc12 kV12 dc12 pm12 cd12 ct12 oc13 kV13 dc13 pm13 cd13 ct13 oc14 kV14 dc14 pm14 cd14 ct14 oc15 kV15 dc15 pm15 cd15 ct15 oc16 kV16 dc16 pm16 cd16 ct16 oc17 kV17 dc17 pm17 cd17 ct17 oc18 kV18 dc18 pm18 cd18 ct18 oc19 kV19 dc19 pm19 cd19 ct19 oc20 kV20 dc20 pm20 cd20 ct20 oc21 kV21 dc21 pm21 cd21 ct21 oc22 kV22 dc22 pm22 cd22 ct22 oc23 kV23 dc23 pm23 cd23 ct23 oc24 kV24 dc24 pm24 cd24 ct24 oc25 kV25 dc25 pm25 cd25 ct25 oc26 kV26 dc26 pm26 cd26 ct26 oc27 kV27 dc27 pm27 cd27 ct27 oc28 kV28 dc28 pm28 cd28 ct28 oc29 kV29 dc29 pm29 cd29 ct29 oc30 kV30 dc30 pm30 cd30 ct30 oc31 kV31 dc31 pm31 cd31 ct31 oc32 kV32 dc32 pm32 cd32 ct32 oc33 kV33 dc33 pm33 cd33 ct33 oc34 kV34 dc34 pm34 cd34 ct34 oc35 kV35 dc35 pm35 cd35 ct35 oc36 kV36 dc36 pm36 cd36 ct36 ocm0 kVm0 dcm0 pmm0 cdm0 ctm0 ocm1 kVm1 dcm1 pmm1 cdm1 ctm1 ocm2 kVm2 dcm2 pmm2 cdm2 ctm2 ocm3 kVm3 dcm3 pmm3 cdm3 ctm3 ocm4 kVm4 dcm4 pmm4 cdm4 ctm4 ocm5 kVm5 dcm5 pmm5 cdm5 ctm5 ocm6 kVm6 dcm6 pmm6 cdm6 ctm6 : Value}
    {T0 : Addr} {ocT : Value} {odT : Option Addr} {nT : Nat} {slT : Array (Option Value)} {rs1 rs2 rs3 rs4 : List Value}
    (a0 : PySem.W.nsIn K mainGlobals "is_integer" = some (some (.ref f0)))
    (l0 : K.lookup f0 = some ⟨oc0, od0, .func (PySem.W.fnOf "is_integer" "is_integer" (defArgs sIsInt) (defBody sIsInt) (defScope sIsInt) .none kV0 dc0 pm0 an0 cd0 ct0), sl0⟩)
    (c0 : PySem.W.codeIn K cd0 "is_integer" = true)
    (k0 : PySem.W.keepIn K (.ref f0) = true)
    (a1 : PySem.W.nsIn K mainGlobals "is_word" = some (some (.ref f1)))
    (l1 : K.lookup f1 = some ⟨oc1, od1, .func (PySem.W.fnOf "is_word" "is_word" (defArgs sIsWord) (defBody sIsWord) (defScope sIsWord) .none kV1 dc1 pm1 an1 cd1 ct1), sl1⟩)
    (c1 : PySem.W.codeIn K cd1 "is_word" = true)
    (k1 : PySem.W.keepIn K (.ref f1) = true)
    (a2 : PySem.W.nsIn K mainGlobals "is_pair" = some (some (.ref f2)))
    (l2 : K.lookup f2 = some ⟨oc2, od2, .func (PySem.W.fnOf "is_pair" "is_pair" (defArgs sIsPair) (defBody sIsPair) (defScope sIsPair) .none kV2 dc2 pm2 an2 cd2 ct2), sl2⟩)
    (c2 : PySem.W.codeIn K cd2 "is_pair" = true)
    (k2 : PySem.W.keepIn K (.ref f2) = true)
    (a3 : PySem.W.nsIn K mainGlobals "ascends" = some (some (.ref f3)))
    (l3 : K.lookup f3 = some ⟨oc3, od3, .func (PySem.W.fnOf "ascends" "ascends" (defArgs s_ascends) (defBody s_ascends) (defScope s_ascends) .none kV3 dc3 pm3 an3 cd3 ct3), sl3⟩)
    (c3 : PySem.W.codeIn K cd3 "ascends" = true)
    (k3 : PySem.W.keepIn K (.ref f3) = true)
    (a4 : PySem.W.nsIn K mainGlobals "makes_lot" = some (some (.ref f4)))
    (l4 : K.lookup f4 = some ⟨oc4, od4, .func (PySem.W.fnOf "makes_lot" "makes_lot" (defArgs s_makes_lot) (defBody s_makes_lot) (defScope s_makes_lot) .none kV4 dc4 pm4 an4 cd4 ct4), sl4⟩)
    (c4 : PySem.W.codeIn K cd4 "makes_lot" = true)
    (k4 : PySem.W.keepIn K (.ref f4) = true)
    (a5 : PySem.W.nsIn K mainGlobals "_are_places" = some (some (.ref f5)))
    (l5 : K.lookup f5 = some ⟨oc5, od5, .func (PySem.W.fnOf "_are_places" "_are_places" (defArgs sArePlaces) (defBody sArePlaces) (defScope sArePlaces) .none kV5 dc5 pm5 an5 cd5 ct5), sl5⟩)
    (c5 : PySem.W.codeIn K cd5 "_are_places" = true)
    (k5 : PySem.W.keepIn K (.ref f5) = true)
    (a6 : PySem.W.nsIn K mainGlobals "_are_ties" = some (some (.ref f6)))
    (l6 : K.lookup f6 = some ⟨oc6, od6, .func (PySem.W.fnOf "_are_ties" "_are_ties" (defArgs sAreTies) (defBody sAreTies) (defScope sAreTies) .none kV6 dc6 pm6 an6 cd6 ct6), sl6⟩)
    (c6 : PySem.W.codeIn K cd6 "_are_ties" = true)
    (k6 : PySem.W.keepIn K (.ref f6) = true)
    (a7 : PySem.W.nsIn K mainGlobals "_tells_places" = some (some (.ref f7)))
    (l7 : K.lookup f7 = some ⟨oc7, od7, .func (PySem.W.fnOf "_tells_places" "_tells_places" (defArgs s__tells_places) (defBody s__tells_places) (defScope s__tells_places) .none kV7 dc7 pm7 an7 cd7 ct7), sl7⟩)
    (c7 : PySem.W.codeIn K cd7 "_tells_places" = true)
    (k7 : PySem.W.keepIn K (.ref f7) = true)
    (a8 : PySem.W.nsIn K mainGlobals "_tells_ties" = some (some (.ref f8)))
    (l8 : K.lookup f8 = some ⟨oc8, od8, .func (PySem.W.fnOf "_tells_ties" "_tells_ties" (defArgs s__tells_ties) (defBody s__tells_ties) (defScope s__tells_ties) .none kV8 dc8 pm8 an8 cd8 ct8), sl8⟩)
    (c8 : PySem.W.codeIn K cd8 "_tells_ties" = true)
    (k8 : PySem.W.keepIn K (.ref f8) = true)
    (a9 : PySem.W.nsIn K mainGlobals "check_net" = some (some (.ref f9)))
    (l9 : K.lookup f9 = some ⟨oc9, od9, .func (PySem.W.fnOf "check_net" "check_net" (defArgs s_check_net) (defBody s_check_net) (defScope s_check_net) .none kV9 dc9 pm9 an9 cd9 ct9), sl9⟩)
    (c9 : PySem.W.codeIn K cd9 "check_net" = true)
    (k9 : PySem.W.keepIn K (.ref f9) = true)
    (a10 : PySem.W.nsIn K mainGlobals "check_lot" = some (some (.ref f10)))
    (l10 : K.lookup f10 = some ⟨oc10, od10, .func (PySem.W.fnOf "check_lot" "check_lot" (defArgs s_check_lot) (defBody s_check_lot) (defScope s_check_lot) .none kV10 dc10 pm10 an10 cd10 ct10), sl10⟩)
    (c10 : PySem.W.codeIn K cd10 "check_lot" = true)
    (k10 : PySem.W.keepIn K (.ref f10) = true)
    (a11 : PySem.W.nsIn K mainGlobals "has_place" = some (some (.ref f11)))
    (l11 : K.lookup f11 = some ⟨oc11, od11, .func (PySem.W.fnOf "has_place" "has_place" (defArgs s_has_place) (defBody s_has_place) (defScope s_has_place) .none kV11 dc11 pm11 an11 cd11 ct11), sl11⟩)
    (c11 : PySem.W.codeIn K cd11 "has_place" = true)
    (k11 : PySem.W.keepIn K (.ref f11) = true)
    (a12 : PySem.W.nsIn K mainGlobals "mask_of" = some (some (.ref f12)))
    (l12 : K.lookup f12 = some ⟨oc12, od12, .func (PySem.W.fnOf "mask_of" "mask_of" (defArgs s_mask_of) (defBody s_mask_of) (defScope s_mask_of) .none kV12 dc12 pm12 an12 cd12 ct12), sl12⟩)
    (c12 : PySem.W.codeIn K cd12 "mask_of" = true)
    (k12 : PySem.W.keepIn K (.ref f12) = true)
    (a13 : PySem.W.nsIn K mainGlobals "lot_of" = some (some (.ref f13)))
    (l13 : K.lookup f13 = some ⟨oc13, od13, .func (PySem.W.fnOf "lot_of" "lot_of" (defArgs s_lot_of) (defBody s_lot_of) (defScope s_lot_of) .none kV13 dc13 pm13 an13 cd13 ct13), sl13⟩)
    (c13 : PySem.W.codeIn K cd13 "lot_of" = true)
    (k13 : PySem.W.keepIn K (.ref f13) = true)
    (a14 : PySem.W.nsIn K mainGlobals "lots_of" = some (some (.ref f14)))
    (l14 : K.lookup f14 = some ⟨oc14, od14, .func (PySem.W.fnOf "lots_of" "lots_of" (defArgs s_lots_of) (defBody s_lots_of) (defScope s_lots_of) .none kV14 dc14 pm14 an14 cd14 ct14), sl14⟩)
    (c14 : PySem.W.codeIn K cd14 "lots_of" = true)
    (k14 : PySem.W.keepIn K (.ref f14) = true)
    (a15 : PySem.W.nsIn K mainGlobals "do_masks_cross" = some (some (.ref f15)))
    (l15 : K.lookup f15 = some ⟨oc15, od15, .func (PySem.W.fnOf "do_masks_cross" "do_masks_cross" (defArgs s_do_masks_cross) (defBody s_do_masks_cross) (defScope s_do_masks_cross) .none kV15 dc15 pm15 an15 cd15 ct15), sl15⟩)
    (c15 : PySem.W.codeIn K cd15 "do_masks_cross" = true)
    (k15 : PySem.W.keepIn K (.ref f15) = true)
    (a16 : PySem.W.nsIn K mainGlobals "all_cuts" = some (some (.ref f16)))
    (l16 : K.lookup f16 = some ⟨oc16, od16, .func (PySem.W.fnOf "all_cuts" "all_cuts" (defArgs s_all_cuts) (defBody s_all_cuts) (defScope s_all_cuts) .none kV16 dc16 pm16 an16 cd16 ct16), sl16⟩)
    (c16 : PySem.W.codeIn K cd16 "all_cuts" = true)
    (k16 : PySem.W.keepIn K (.ref f16) = true)
    (a17 : PySem.W.nsIn K mainGlobals "_check_two" = some (some (.ref f17)))
    (l17 : K.lookup f17 = some ⟨oc17, od17, .func (PySem.W.fnOf "_check_two" "_check_two" (defArgs s__check_two) (defBody s__check_two) (defScope s__check_two) .none kV17 dc17 pm17 an17 cd17 ct17), sl17⟩)
    (c17 : PySem.W.codeIn K cd17 "_check_two" = true)
    (k17 : PySem.W.keepIn K (.ref f17) = true)
    (a18 : PySem.W.nsIn K mainGlobals "do_cross" = some (some (.ref f18)))
    (l18 : K.lookup f18 = some ⟨oc18, od18, .func (PySem.W.fnOf "do_cross" "do_cross" (defArgs s_do_cross) (defBody s_do_cross) (defScope s_do_cross) .none kV18 dc18 pm18 an18 cd18 ct18), sl18⟩)
    (c18 : PySem.W.codeIn K cd18 "do_cross" = true)
    (k18 : PySem.W.keepIn K (.ref f18) = true)
    (a19 : PySem.W.nsIn K mainGlobals "weakest" = some (some (.ref f19)))
    (l19 : K.lookup f19 = some ⟨oc19, od19, .func (PySem.W.fnOf "weakest" "weakest" (defArgs s_weakest) (defBody s_weakest) (defScope s_weakest) .none kV19 dc19 pm19 an19 cd19 ct19), sl19⟩)
    (c19 : PySem.W.codeIn K cd19 "weakest" = true)
    (k19 : PySem.W.keepIn K (.ref f19) = true)
    (a20 : PySem.W.nsIn K mainGlobals "lifted" = some (some (.ref f20)))
    (l20 : K.lookup f20 = some ⟨oc20, od20, .func (PySem.W.fnOf "lifted" "lifted" (defArgs s_lifted) (defBody s_lifted) (defScope s_lifted) .none kV20 dc20 pm20 an20 cd20 ct20), sl20⟩)
    (c20 : PySem.W.codeIn K cd20 "lifted" = true)
    (k20 : PySem.W.keepIn K (.ref f20) = true)
    (a21 : PySem.W.nsIn K mainGlobals "_law_dice" = some (some (.ref f21)))
    (l21 : K.lookup f21 = some ⟨oc21, od21, .func (PySem.W.fnOf "_law_dice" "_law_dice" (defArgs sDice) (defBody sDice) (defScope sDice) .none kV21 dc21 pm21 an21 cd21 ct21), sl21⟩)
    (c21 : PySem.W.codeIn K cd21 "_law_dice" = true)
    (k21 : PySem.W.keepIn K (.ref f21) = true)
    (a22 : PySem.W.nsIn K mainGlobals "_law_roll" = some (some (.ref f22)))
    (l22 : K.lookup f22 = some ⟨oc22, od22, .func (PySem.W.fnOf "_law_roll" "_law_roll" (defArgs sRoll) (defBody sRoll) (defScope sRoll) .none kV22 dc22 pm22 an22 cd22 ct22), sl22⟩)
    (c22 : PySem.W.codeIn K cd22 "_law_roll" = true)
    (k22 : PySem.W.keepIn K (.ref f22) = true)
    (a23 : PySem.W.nsIn K mainGlobals "_law_pick" = some (some (.ref f23)))
    (l23 : K.lookup f23 = some ⟨oc23, od23, .func (PySem.W.fnOf "_law_pick" "_law_pick" (defArgs sPick) (defBody sPick) (defScope sPick) .none kV23 dc23 pm23 an23 cd23 ct23), sl23⟩)
    (c23 : PySem.W.codeIn K cd23 "_law_pick" = true)
    (k23 : PySem.W.keepIn K (.ref f23) = true)
    (a24 : PySem.W.nsIn K mainGlobals "_law_some" = some (some (.ref f24)))
    (l24 : K.lookup f24 = some ⟨oc24, od24, .func (PySem.W.fnOf "_law_some" "_law_some" (defArgs sSome) (defBody sSome) (defScope sSome) .none kV24 dc24 pm24 an24 cd24 ct24), sl24⟩)
    (c24 : PySem.W.codeIn K cd24 "_law_some" = true)
    (k24 : PySem.W.keepIn K (.ref f24) = true)
    (a25 : PySem.W.nsIn K mainGlobals "_law_pair" = some (some (.ref f25)))
    (l25 : K.lookup f25 = some ⟨oc25, od25, .func (PySem.W.fnOf "_law_pair" "_law_pair" (defArgs sPairL) (defBody sPairL) (defScope sPairL) .none kV25 dc25 pm25 an25 cd25 ct25), sl25⟩)
    (c25 : PySem.W.codeIn K cd25 "_law_pair" = true)
    (k25 : PySem.W.keepIn K (.ref f25) = true)
    (a26 : PySem.W.nsIn K mainGlobals "_law_pairs" = some (some (.ref f26)))
    (l26 : K.lookup f26 = some ⟨oc26, od26, .func (PySem.W.fnOf "_law_pairs" "_law_pairs" (defArgs sPairsL) (defBody sPairsL) (defScope sPairsL) .none kV26 dc26 pm26 an26 cd26 ct26), sl26⟩)
    (c26 : PySem.W.codeIn K cd26 "_law_pairs" = true)
    (k26 : PySem.W.keepIn K (.ref f26) = true)
    (a27 : PySem.W.nsIn K mainGlobals "_law_with" = some (some (.ref f27)))
    (l27 : K.lookup f27 = some ⟨oc27, od27, .func (PySem.W.fnOf "_law_with" "_law_with" (defArgs sWith) (defBody sWith) (defScope sWith) .none kV27 dc27 pm27 an27 cd27 ct27), sl27⟩)
    (c27 : PySem.W.codeIn K cd27 "_law_with" = true)
    (k27 : PySem.W.keepIn K (.ref f27) = true)
    (a28 : PySem.W.nsIn K mainGlobals "_law_net" = some (some (.ref f28)))
    (l28 : K.lookup f28 = some ⟨oc28, od28, .func (PySem.W.fnOf "_law_net" "_law_net" (defArgs sNetL) (defBody sNetL) (defScope sNetL) .none kV28 dc28 pm28 an28 cd28 ct28), sl28⟩)
    (c28 : PySem.W.codeIn K cd28 "_law_net" = true)
    (k28 : PySem.W.keepIn K (.ref f28) = true)
    (a29 : PySem.W.nsIn K mainGlobals "_law_known_net" = some (some (.ref f29)))
    (l29 : K.lookup f29 = some ⟨oc29, od29, .func (PySem.W.fnOf "_law_known_net" "_law_known_net" (defArgs sKnown) (defBody sKnown) (defScope sKnown) .none kV29 dc29 pm29 an29 cd29 ct29), sl29⟩)
    (c29 : PySem.W.codeIn K cd29 "_law_known_net" = true)
    (k29 : PySem.W.keepIn K (.ref f29) = true)
    (a30 : PySem.W.nsIn K mainGlobals "_law_made" = some (some (.ref f30)))
    (l30 : K.lookup f30 = some ⟨oc30, od30, .func (PySem.W.fnOf "_law_made" "_law_made" (defArgs s__law_made) (defBody s__law_made) (defScope s__law_made) .none kV30 dc30 pm30 an30 cd30 ct30), sl30⟩)
    (c30 : PySem.W.codeIn K cd30 "_law_made" = true)
    (k30 : PySem.W.keepIn K (.ref f30) = true)
    (a31 : PySem.W.nsIn K mainGlobals "_law_cut" = some (some (.ref f31)))
    (l31 : K.lookup f31 = some ⟨oc31, od31, .func (PySem.W.fnOf "_law_cut" "_law_cut" (defArgs s__law_cut) (defBody s__law_cut) (defScope s__law_cut) .none kV31 dc31 pm31 an31 cd31 ct31), sl31⟩)
    (c31 : PySem.W.codeIn K cd31 "_law_cut" = true)
    (k31 : PySem.W.keepIn K (.ref f31) = true)
    (a32 : PySem.W.nsIn K mainGlobals "_law_lots" = some (some (.ref f32)))
    (l32 : K.lookup f32 = some ⟨oc32, od32, .func (PySem.W.fnOf "_law_lots" "_law_lots" (defArgs s__law_lots) (defBody s__law_lots) (defScope s__law_lots) .none kV32 dc32 pm32 an32 cd32 ct32), sl32⟩)
    (c32 : PySem.W.codeIn K cd32 "_law_lots" = true)
    (k32 : PySem.W.keepIn K (.ref f32) = true)
    (a33 : PySem.W.nsIn K mainGlobals "_law_lot" = some (some (.ref f33)))
    (l33 : K.lookup f33 = some ⟨oc33, od33, .func (PySem.W.fnOf "_law_lot" "_law_lot" (defArgs s__law_lot) (defBody s__law_lot) (defScope s__law_lot) .none kV33 dc33 pm33 an33 cd33 ct33), sl33⟩)
    (c33 : PySem.W.codeIn K cd33 "_law_lot" = true)
    (k33 : PySem.W.keepIn K (.ref f33) = true)
    (a34 : PySem.W.nsIn K mainGlobals "_law_parts" = some (some (.ref f34)))
    (l34 : K.lookup f34 = some ⟨oc34, od34, .func (PySem.W.fnOf "_law_parts" "_law_parts" (defArgs s__law_parts) (defBody s__law_parts) (defScope s__law_parts) .none kV34 dc34 pm34 an34 cd34 ct34), sl34⟩)
    (c34 : PySem.W.codeIn K cd34 "_law_parts" = true)
    (k34 : PySem.W.keepIn K (.ref f34) = true)
    (a35 : PySem.W.nsIn K mainGlobals "_law_right" = some (some (.ref f35)))
    (l35 : K.lookup f35 = some ⟨oc35, od35, .func (PySem.W.fnOf "_law_right" "_law_right" (defArgs s__law_right) (defBody s__law_right) (defScope s__law_right) .none kV35 dc35 pm35 an35 cd35 ct35), sl35⟩)
    (c35 : PySem.W.codeIn K cd35 "_law_right" = true)
    (k35 : PySem.W.keepIn K (.ref f35) = true)
    (a36 : PySem.W.nsIn K mainGlobals "law" = some (some (.ref f36)))
    (l36 : K.lookup f36 = some ⟨oc36, od36, .func (PySem.W.fnOf "law" "law" (defArgs s_law) (defBody s_law) (defScope s_law) .none kV36 dc36 pm36 an36 cd36 ct36), sl36⟩)
    (c36 : PySem.W.codeIn K cd36 "law" = true)
    (k36 : PySem.W.keepIn K (.ref f36) = true)
    (aC : PySem.W.nsIn K mainGlobals "Net" = some (some (.ref C)))
    (cpg : PySem.W.plainGet K C Str.empty = true)
    (chd : PySem.W.hasDictIn K C = true)
    (cpo : PySem.W.plainOver K C = true)
    (csa : PySem.W.findIn K (.ref C) "__setattr__" = some (some (.builtin "object.__setattr__")))
    (cmk : PySem.W.makesIn K C = true)
    (ckc : PySem.W.keepIn K (.ref C) = true)
    (iha : PySem.W.findIn K (.ref C) "__class__" = some (some (.builtin "object.__class__")))
    (ihn : PySem.W.specialIn K (.builtin "object.__class__") "__get__" = some (some (.builtin "getset_descriptor.__get__")))
    (itk : PySem.W.takesIn K (.builtin "object.__class__") = some true)
    (ihm : PySem.W.mroIn K C (.type "object") = some true)
    (n_places : PySem.W.findIn K (.ref C) "_places" = some none)
    (n_ties : PySem.W.findIn K (.ref C) "_ties" = some none)
    (crd : PySem.W.readsIn K C (.type "type") = true)
    (cga : PySem.W.specialIn K (.ref C) "__getattribute__" = some (some (.builtin "type.__getattribute__")))
    (x0 : PySem.W.findIn K (.ref C) "__init__" = some (some (.ref h0)))
    (y0 : PySem.W.isFn K (.ref h0) = true)
    (lm0 : K.lookup h0 = some ⟨ocm0, odm0, .func (PySem.W.fnOf "__init__" "Net.__init__" (C8.fnArgs sInit) (C8.fnBody sInit) (C8.fnScope sInit) (.ref T0) kVm0 dcm0 pmm0 anm0 cdm0 ctm0), slm0⟩)
    (lT0 : K.lookup T0 = some ⟨ocT, odT, .seq #[Value.none] nT, slT⟩)
    (cm0 : PySem.W.codeIn K cdm0 "Net.__init__" = true)
    (km0 : PySem.W.keepIn K (.ref h0) = true)
    (x1 : PySem.W.findCls K (.ref C) (.type "type") "read" = some (.get (.builtin "classmethod.__get__") (.ref p1) .none (.ref C)))
    (r1 : PySem.W.recIn K p1 "classmethod" = some (.ref h1 :: rs1))
    (y1 : PySem.W.fnIn K h1 = true)
    (lm1 : K.lookup h1 = some ⟨ocm1, odm1, .func (PySem.W.fnOf "read" "Net.read" (defArgs s_Net_read) (defBody s_Net_read) (defScope s_Net_read) .none kVm1 dcm1 pmm1 anm1 cdm1 ctm1), slm1⟩)
    (cm1 : PySem.W.codeIn K cdm1 "Net.read" = true)
    (km1 : PySem.W.keepIn K (.ref h1) = true)
    (x2 : PySem.W.findIn K (.ref C) "places" = some (some (.ref p2)))
    (y2 : PySem.W.specialIn K (.ref p2) "__get__" = some (some (.builtin "property.__get__")))
    (w2 : PySem.W.takesIn K (.ref p2) = some true)
    (r2 : PySem.W.recIn K p2 "property" = some (.ref h2 :: rs2))
    (lm2 : K.lookup h2 = some ⟨ocm2, odm2, .func (PySem.W.fnOf "places" "Net.places" (defArgs s_Net_places) (defBody s_Net_places) (defScope s_Net_places) .none kVm2 dcm2 pmm2 anm2 cdm2 ctm2), slm2⟩)
    (cm2 : PySem.W.codeIn K cdm2 "Net.places" = true)
    (km2 : PySem.W.keepIn K (.ref h2) = true)
    (x3 : PySem.W.findIn K (.ref C) "ties" = some (some (.ref p3)))
    (y3 : PySem.W.specialIn K (.ref p3) "__get__" = some (some (.builtin "property.__get__")))
    (w3 : PySem.W.takesIn K (.ref p3) = some true)
    (r3 : PySem.W.recIn K p3 "property" = some (.ref h3 :: rs3))
    (lm3 : K.lookup h3 = some ⟨ocm3, odm3, .func (PySem.W.fnOf "ties" "Net.ties" (defArgs s_Net_ties) (defBody s_Net_ties) (defScope s_Net_ties) .none kVm3 dcm3 pmm3 anm3 cdm3 ctm3), slm3⟩)
    (cm3 : PySem.W.codeIn K cdm3 "Net.ties" = true)
    (km3 : PySem.W.keepIn K (.ref h3) = true)
    (x4 : PySem.W.findIn K (.ref C) "degrees" = some (some (.ref p4)))
    (y4 : PySem.W.specialIn K (.ref p4) "__get__" = some (some (.builtin "property.__get__")))
    (w4 : PySem.W.takesIn K (.ref p4) = some true)
    (r4 : PySem.W.recIn K p4 "property" = some (.ref h4 :: rs4))
    (lm4 : K.lookup h4 = some ⟨ocm4, odm4, .func (PySem.W.fnOf "degrees" "Net.degrees" (defArgs s_Net_degrees) (defBody s_Net_degrees) (defScope s_Net_degrees) .none kVm4 dcm4 pmm4 anm4 cdm4 ctm4), slm4⟩)
    (cm4 : PySem.W.codeIn K cdm4 "Net.degrees" = true)
    (km4 : PySem.W.keepIn K (.ref h4) = true)
    (x5 : PySem.W.findIn K (.ref C) "degree" = some (some (.ref h5)))
    (y5 : PySem.W.isFn K (.ref h5) = true)
    (lm5 : K.lookup h5 = some ⟨ocm5, odm5, .func (PySem.W.fnOf "degree" "Net.degree" (defArgs s_Net_degree) (defBody s_Net_degree) (defScope s_Net_degree) .none kVm5 dcm5 pmm5 anm5 cdm5 ctm5), slm5⟩)
    (cm5 : PySem.W.codeIn K cdm5 "Net.degree" = true)
    (km5 : PySem.W.keepIn K (.ref h5) = true)
    (x6 : PySem.W.findIn K (.ref C) "_check_place" = some (some (.ref h6)))
    (y6 : PySem.W.isFn K (.ref h6) = true)
    (lm6 : K.lookup h6 = some ⟨ocm6, odm6, .func (PySem.W.fnOf "_check_place" "Net._check_place" (defArgs s_Net__check_place) (defBody s_Net__check_place) (defScope s_Net__check_place) .none kVm6 dcm6 pmm6 anm6 cdm6 ctm6), slm6⟩)
    (cm6 : PySem.W.codeIn K cdm6 "Net._check_place" = true)
    (km6 : PySem.W.keepIn K (.ref h6) = true)
    (z0 : PySem.W.nsIn K mainGlobals "len" = some none)
    (z1 : PySem.W.nsIn K mainGlobals "isinstance" = some none)
    (z2 : PySem.W.nsIn K mainGlobals "str" = some none)
    (z3 : PySem.W.nsIn K mainGlobals "all" = some none)
    (z4 : PySem.W.nsIn K mainGlobals "int" = some none)
    (z5 : PySem.W.nsIn K mainGlobals "bool" = some none)
    (z6 : PySem.W.nsIn K mainGlobals "abs" = some none)
    (z7 : PySem.W.nsIn K mainGlobals "tuple" = some none)
    (z8 : PySem.W.nsIn K mainGlobals "set" = some none)
    (z9 : PySem.W.nsIn K mainGlobals "dict" = some none)
    (z10 : PySem.W.nsIn K mainGlobals "sum" = some none)
    (z11 : PySem.W.nsIn K mainGlobals "sorted" = some none)
    (z12 : PySem.W.nsIn K mainGlobals "max" = some none)
    (z13 : PySem.W.nsIn K mainGlobals "min" = some none)
    (z14 : PySem.W.nsIn K mainGlobals "list" = some none)
    (z15 : PySem.W.nsIn K mainGlobals "range" = some none)
    (z16 : PySem.W.nsIn K mainGlobals "zip" = some none)
    (z17 : PySem.W.nsIn K mainGlobals "enumerate" = some none)
    (v0 : PySem.W.nsIn K mainGlobals "MAX_LETTERS" = some (some (.int 8 t1)))
    (v1 : PySem.W.nsIn K mainGlobals "_LETTERS" = some (some (.str letters t2)))
    (v2 : PySem.W.nsIn K mainGlobals "MAX_PLACES" = some (some (.int 9 t3)))
    (v3 : PySem.W.nsIn K mainGlobals "MAX_TIES" = some (some (.int 60 t4)))
    : ∃ fd : FuncData, (∀ (s : Shared) (v : Value), BindsTo s fd ⟨[v], []⟩ [("script", v)]) ∧ ∀ base : Heap, K.In base → base.Ns mainGlobals mg → FnOk l.prog w K mg base CX0 8 fa fd ["script"] (spLaw K) := by
  have e := hfa.symm.trans (PySem.W.mg_of X G a36)
  cases e
  have F_is_integer := fun_mk (st := sIsInt) l0 c0 k0
  have b_is_integer := F_is_integer.binds (ps := ["value"]) fun _ _ _ _ _ _ us hl => match us, hl with | [_], _ => rfl
  have g_is_integer := PySem.W.mg_of X G a0
  have F_is_word := fun_mk (st := sIsWord) l1 c1 k1
  have b_is_word := F_is_word.binds (ps := ["value"]) fun _ _ _ _ _ _ us hl => match us, hl with | [_], _ => rfl
  have g_is_word := PySem.W.mg_of X G a1
  have F_is_pair := fun_mk (st := sIsPair) l2 c2 k2
  have b_is_pair := F_is_pair.binds (ps := ["value"]) fun _ _ _ _ _ _ us hl => match us, hl with | [_], _ => rfl
  have g_is_pair := PySem.W.mg_of X G a2
  have F_ascends := fun_mk (st := s_ascends) l3 c3 k3
  have b_ascends := F_ascends.binds (ps := ["items"]) fun _ _ _ _ _ _ us hl => match us, hl with | [_], _ => rfl
  have g_ascends := PySem.W.mg_of X G a3
  have F_makes_lot := fun_mk (st := s_makes_lot) l4 c4 k4
  have b_makes_lot := F_makes_lot.binds (ps := ["places", "value"]) fun _ _ _ _ _ _ us hl => match us, hl with | [_, _], _ => rfl
  have g_makes_lot := PySem.W.mg_of X G a4
  have F__are_places := fun_mk (st := sArePlaces) l5 c5 k5
  have b__are_places := F__are_places.binds (ps := ["value"]) fun _ _ _ _ _ _ us hl => match us, hl with | [_], _ => rfl
  have g__are_places := PySem.W.mg_of X G a5
  have F__are_ties := fun_mk (st := sAreTies) l6 c6 k6
  have b__are_ties := F__are_ties.binds (ps := ["places", "value"]) fun _ _ _ _ _ _ us hl => match us, hl with | [_, _], _ => rfl
  have g__are_ties := PySem.W.mg_of X G a6
  have F__tells_places := fun_mk (st := s__tells_places) l7 c7 k7
  have b__tells_places := F__tells_places.binds (ps := ["line"]) fun _ _ _ _ _ _ us hl => match us, hl with | [_], _ => rfl
  have g__tells_places := PySem.W.mg_of X G a7
  have F__tells_ties := fun_mk (st := s__tells_ties) l8 c8 k8
  have b__tells_ties := F__tells_ties.binds (ps := ["line"]) fun _ _ _ _ _ _ us hl => match us, hl with | [_], _ => rfl
  have g__tells_ties := PySem.W.mg_of X G a8
  have F_check_net := fun_mk (st := s_check_net) l9 c9 k9
  have b_check_net := F_check_net.binds (ps := ["value"]) fun _ _ _ _ _ _ us hl => match us, hl with | [_], _ => rfl
  have g_check_net := PySem.W.mg_of X G a9
  have F_check_lot := fun_mk (st := s_check_lot) l10 c10 k10
  have b_check_lot := F_check_lot.binds (ps := ["net", "lot"]) fun _ _ _ _ _ _ us hl => match us, hl with | [_, _], _ => rfl
  have g_check_lot := PySem.W.mg_of X G a10
  have F_has_place := fun_mk (st := s_has_place) l11 c11 k11
  have b_has_place := F_has_place.binds (ps := ["mask", "at"]) fun _ _ _ _ _ _ us hl => match us, hl with | [_, _], _ => rfl
  have g_has_place := PySem.W.mg_of X G a11
  have F_mask_of := fun_mk (st := s_mask_of) l12 c12 k12
  have b_mask_of := F_mask_of.binds (ps := ["net", "lot"]) fun _ _ _ _ _ _ us hl => match us, hl with | [_, _], _ => rfl
  have g_mask_of := PySem.W.mg_of X G a12
  have F_lot_of := fun_mk (st := s_lot_of) l13 c13 k13
  have b_lot_of := F_lot_of.binds (ps := ["net", "mask"]) fun _ _ _ _ _ _ us hl => match us, hl with | [_, _], _ => rfl
  have g_lot_of := PySem.W.mg_of X G a13
  have F_lots_of := fun_mk (st := s_lots_of) l14 c14 k14
  have b_lots_of := F_lots_of.binds (ps := ["net", "masks"]) fun _ _ _ _ _ _ us hl => match us, hl with | [_, _], _ => rfl
  have g_lots_of := PySem.W.mg_of X G a14
  have F_do_masks_cross := fun_mk (st := s_do_masks_cross) l15 c15 k15
  have b_do_masks_cross := F_do_masks_cross.binds (ps := ["one", "other", "full"]) fun _ _ _ _ _ _ us hl => match us, hl with | [_, _, _], _ => rfl
  have g_do_masks_cross := PySem.W.mg_of X G a15
  have F_all_cuts := fun_mk (st := s_all_cuts) l16 c16 k16
  have b_all_cuts := F_all_cuts.binds (ps := ["net"]) fun _ _ _ _ _ _ us hl => match us, hl with | [_], _ => rfl
  have g_all_cuts := PySem.W.mg_of X G a16
  have F__check_two := fun_mk (st := s__check_two) l17 c17 k17
  have b__check_two := F__check_two.binds (ps := ["net", "one", "other"]) fun _ _ _ _ _ _ us hl => match us, hl with | [_, _, _], _ => rfl
  have g__check_two := PySem.W.mg_of X G a17
  have F_do_cross := fun_mk (st := s_do_cross) l18 c18 k18
  have b_do_cross := F_do_cross.binds (ps := ["net", "one", "other"]) fun _ _ _ _ _ _ us hl => match us, hl with | [_, _, _], _ => rfl
  have g_do_cross := PySem.W.mg_of X G a18
  have F_weakest := fun_mk (st := s_weakest) l19 c19 k19
  have b_weakest := F_weakest.binds (ps := ["net"]) fun _ _ _ _ _ _ us hl => match us, hl with | [_], _ => rfl
  have g_weakest := PySem.W.mg_of X G a19
  have F_lifted := fun_mk (st := s_lifted) l20 c20 k20
  have b_lifted := F_lifted.binds (ps := ["net", "lot", "most"]) fun _ _ _ _ _ _ us hl => match us, hl with | [_, _, _], _ => rfl
  have g_lifted := PySem.W.mg_of X G a20
  have F__law_dice := fun_mk (st := sDice) l21 c21 k21
  have b__law_dice := F__law_dice.binds (ps := ["script", "spot"]) fun _ _ _ _ _ _ us hl => match us, hl with | [_, _], _ => rfl
  have g__law_dice := PySem.W.mg_of X G a21
  have F__law_roll := fun_mk (st := sRoll) l22 c22 k22
  have b__law_roll := F__law_roll.binds (ps := ["dice", "total"]) fun _ _ _ _ _ _ us hl => match us, hl with | [_, _], _ => rfl
  have g__law_roll := PySem.W.mg_of X G a22
  have F__law_pick := fun_mk (st := sPick) l23 c23 k23
  have b__law_pick := F__law_pick.binds (ps := ["dice", "items"]) fun _ _ _ _ _ _ us hl => match us, hl with | [_, _], _ => rfl
  have g__law_pick := PySem.W.mg_of X G a23
  have F__law_some := fun_mk (st := sSome) l24 c24 k24
  have b__law_some := F__law_some.binds (ps := ["dice", "items", "size"]) fun _ _ _ _ _ _ us hl => match us, hl with | [_, _, _], _ => rfl
  have g__law_some := PySem.W.mg_of X G a24
  have F__law_pair := fun_mk (st := sPairL) l25 c25 k25
  have b__law_pair := F__law_pair.binds (ps := ["one", "other"]) fun _ _ _ _ _ _ us hl => match us, hl with | [_, _], _ => rfl
  have g__law_pair := PySem.W.mg_of X G a25
  have F__law_pairs := fun_mk (st := sPairsL) l26 c26 k26
  have b__law_pairs := F__law_pairs.binds (ps := ["places"]) fun _ _ _ _ _ _ us hl => match us, hl with | [_], _ => rfl
  have g__law_pairs := PySem.W.mg_of X G a26
  have F__law_with := fun_mk (st := sWith) l27 c27 k27
  have b__law_with := F__law_with.binds (ps := ["net", "pair", "more"]) fun _ _ _ _ _ _ us hl => match us, hl with | [_, _, _], _ => rfl
  have g__law_with := PySem.W.mg_of X G a27
  have F__law_net := fun_mk (st := sNetL) l28 c28 k28
  have b__law_net := F__law_net.binds (ps := ["dice"]) fun _ _ _ _ _ _ us hl => match us, hl with | [_], _ => rfl
  have g__law_net := PySem.W.mg_of X G a28
  have F__law_known_net := fun_mk (st := sKnown) l29 c29 k29
  have b__law_known_net := F__law_known_net.binds (ps := ["dice"]) fun _ _ _ _ _ _ us hl => match us, hl with | [_], _ => rfl
  have g__law_known_net := PySem.W.mg_of X G a29
  have F__law_made := fun_mk (st := s__law_made) l30 c30 k30
  have b__law_made := F__law_made.binds (ps := ["net"]) fun _ _ _ _ _ _ us hl => match us, hl with | [_], _ => rfl
  have g__law_made := PySem.W.mg_of X G a30
  have F__law_cut := fun_mk (st := s__law_cut) l31 c31 k31
  have b__law_cut := F__law_cut.binds (ps := ["net", "lot"]) fun _ _ _ _ _ _ us hl => match us, hl with | [_, _], _ => rfl
  have g__law_cut := PySem.W.mg_of X G a31
  have F__law_lots := fun_mk (st := s__law_lots) l32 c32 k32
  have b__law_lots := F__law_lots.binds (ps := ["net"]) fun _ _ _ _ _ _ us hl => match us, hl with | [_], _ => rfl
  have g__law_lots := PySem.W.mg_of X G a32
  have F__law_lot := fun_mk (st := s__law_lot) l33 c33 k33
  have b__law_lot := F__law_lot.binds (ps := ["dice", "net"]) fun _ _ _ _ _ _ us hl => match us, hl with | [_, _], _ => rfl
  have g__law_lot := PySem.W.mg_of X G a33
  have F__law_parts := fun_mk (st := s__law_parts) l34 c34 k34
  have b__law_parts := F__law_parts.binds (ps := ["lot"]) fun _ _ _ _ _ _ us hl => match us, hl with | [_], _ => rfl
  have g__law_parts := PySem.W.mg_of X G a34
  have F__law_right := fun_mk (st := s__law_right) l35 c35 k35
  have b__law_right := F__law_right.binds (ps := ["dice"]) fun _ _ _ _ _ _ us hl => match us, hl with | [_], _ => rfl
  have g__law_right := PySem.W.mg_of X G a35
  have F_law := fun_mk (st := s_law) l36 c36 k36
  have n_len := PySem.W.mg_none_of X G z0
  have n_isinstance := PySem.W.mg_none_of X G z1
  have n_str := PySem.W.mg_none_of X G z2
  have n_all := PySem.W.mg_none_of X G z3
  have n_int := PySem.W.mg_none_of X G z4
  have n_bool := PySem.W.mg_none_of X G z5
  have n_abs := PySem.W.mg_none_of X G z6
  have n_tuple := PySem.W.mg_none_of X G z7
  have n_set := PySem.W.mg_none_of X G z8
  have n_dict := PySem.W.mg_none_of X G z9
  have n_sum := PySem.W.mg_none_of X G z10
  have n_sorted := PySem.W.mg_none_of X G z11
  have n_max := PySem.W.mg_none_of X G z12
  have n_min := PySem.W.mg_none_of X G z13
  have n_list := PySem.W.mg_none_of X G z14
  have n_range := PySem.W.mg_none_of X G z15
  have n_zip := PySem.W.mg_none_of X G z16
  have n_enumerate := PySem.W.mg_none_of X G z17
  have gM := PySem.W.mg_of X G v0
  have gL := PySem.W.mg_of X G v1
  have gP := PySem.W.mg_of X G v2
  have gT := PySem.W.mg_of X G v3
  have m_Net := PySem.W.mg_of X G aC
  have c0 : Cls K C := ⟨cpg, chd, cpo, csa⟩
  have cI : C8.InsC K C := ⟨c0, iha, ihn, itk, ihm, if_pos (beq_self_eq_true _)⟩
  have F__init : C8.Fun K "__init__" "Net.__init__" sInit h0 _ := ⟨⟨_, _, _, _, _, _, _, _, _, _, rfl, lm0, cm0⟩⟩
  have FD__init : FunD K "__init__" "Net.__init__" (C8.fnArgs sInit) (C8.fnBody sInit) (C8.fnScope sInit) [.non] [] h0 _ := ⟨⟨_, _, _, _, _, _, _, _, _, _, rfl, lm0, cm0, .inr ⟨by simp, T0, _, [Value.none], _, rfl, lT0, rfl, .cons rfl .nil⟩, .inl rfl⟩, km0⟩
  have b__init : Binds K (PySem.W.fnOf "__init__" "Net.__init__" (C8.fnArgs sInit) (C8.fnBody sInit) (C8.fnScope sInit) (.ref T0) kVm0 dcm0 pmm0 anm0 cdm0 ctm0) ["self", "places", "ties"] [] := by
    obtain ⟨ds, hv, hb⟩ := FD__init.binds1 (ps := ["self", "places", "ties"]) 3 1 (by simp) rfl (fun T kV doc pm an cdv ct us its hu hi => match us, hu, its, hi with | [_, _, _], _, [_], _ => ⟨_, rfl, rfl⟩)
    cases hv
    exact hb
  have mk_Net : Mk K C h0 := ⟨cmk, x0, y0, ckc⟩
  have M_read := fun_mk (st := s_Net_read) lm1 cm1 km1
  have cr_read : ClX.CRead K C (.type "type") := ⟨crd, cga⟩
  have cm_read : ClX.CMet K C (.type "type") "read" p1 h1 := ⟨x1, ⟨_, r1⟩, y1⟩
  have M_places := fun_mk (st := s_Net_places) lm2 cm2 km2
  have bm_places := M_places.binds (ps := ["self"]) fun _ _ _ _ _ _ us hl => match us, hl with | [_], _ => rfl
  have po_places : PropOf K C "places" p2 h2 := ⟨x2, y2, w2, ⟨_, r2⟩⟩
  have M_ties := fun_mk (st := s_Net_ties) lm3 cm3 km3
  have bm_ties := M_ties.binds (ps := ["self"]) fun _ _ _ _ _ _ us hl => match us, hl with | [_], _ => rfl
  have po_ties : PropOf K C "ties" p3 h3 := ⟨x3, y3, w3, ⟨_, r3⟩⟩
  have M_degrees := fun_mk (st := s_Net_degrees) lm4 cm4 km4
  have bm_degrees := M_degrees.binds (ps := ["self"]) fun _ _ _ _ _ _ us hl => match us, hl with | [_], _ => rfl
  have po_degrees : PropOf K C "degrees" p4 h4 := ⟨x4, y4, w4, ⟨_, r4⟩⟩
  have M_degree := fun_mk (st := s_Net_degree) lm5 cm5 km5
  have bm_degree := M_degree.binds (ps := ["self", "place"]) fun _ _ _ _ _ _ us hl => match us, hl with | [_, _], _ => rfl
  have me_degree : Meth K C "degree" h5 := ⟨x5, y5, km5⟩
  have M__check_place := fun_mk (st := s_Net__check_place) lm6 cm6 km6
  have bm__check_place := M__check_place.binds (ps := ["self", "place"]) fun _ _ _ _ _ _ us hl => match us, hl with | [_, _], _ => rfl
  have me__check_place : Meth K C "_check_place" h6 := ⟨x6, y6, km6⟩
  refine ⟨PySem.W.fnOf "law" "law" (defArgs s_law) (defBody s_law) (defScope s_law) .none kV36 dc36 pm36 an36 cd36 ct36, fun s v => .of_eq rfl, fun base _ _ => ?_⟩
  have G_ascends : DFn l.prog w K mg base 1 "ascends" [] spAscends := .of mo_ascends (ok_ascends F_ascends n_all n_zip) g_ascends F_ascends.kp b_ascends
  have G_ascendsL : DFn l.prog w K mg base 1 "ascends" [] spAscendsL := .of mo_ascendsL (ok2_ascends F_ascends n_all n_zip) g_ascends F_ascends.kp b_ascends
  have G_makes_lot : DFn l.prog w K mg base 2 "makes_lot" [] spMakesLot := .of mo_makes_lot (ok_makes_lot F_makes_lot n_all n_isinstance n_tuple G_ascends) g_makes_lot F_makes_lot.kp b_makes_lot
  have Pr_places : DPr l.prog w K mg base 1 C "places" (spPlaces C) := .of mo_places (ok_Net_places M_places c0 n_places) c0 po_places bm_places
  have Mt__check_place : DMt l.prog w K mg base 1 C "_check_place" [] (spCheckPlace C) := .of mo_check_place (ok_Net__check_place M__check_place c0 n_places) c0 me__check_place bm__check_place
  have Mt_degree : DMt l.prog w K mg base 2 C "degree" [] (spDegree C) := .of mo_degree (ok_Net_degree M_degree c0 n_ties n_sum Mt__check_place) c0 me_degree bm_degree
  have Pr_ties : DPr l.prog w K mg base 1 C "ties" (spTies C) := .of mo_ties (ok_Net_ties M_ties c0 n_ties) c0 po_ties bm_ties
  have Pr_degrees : DPr l.prog w K mg base 3 C "degrees" (spDegrees C) := .of mo_degrees (ok_Net_degrees M_degrees c0 n_places Mt_degree) c0 po_degrees bm_degrees
  have G_check_net : DFn l.prog w K mg base 1 "check_net" [] (spCheckNet C) := .of mo_check_net (ok_check_net F_check_net cI n_isinstance m_Net) g_check_net F_check_net.kp b_check_net
  have G_check_lot : DFn l.prog w K mg base 3 "check_lot" [] (spCheckLot C) := .of mo_check_lot (ok_check_lot F_check_lot Pr_places G_makes_lot) g_check_lot F_check_lot.kp b_check_lot
  have G__check_two : DFn l.prog w K mg base 4 "_check_two" [] (spCheckTwo C) := .of mo_check_two (ok__check_two F__check_two (G_check_net.up (by decide)) G_check_lot) g__check_two F__check_two.kp b__check_two
  have G_has_place : DFn l.prog w K mg base 1 "has_place" [] spHasPlace := .of mo_has_place (ok_has_place F_has_place) g_has_place F_has_place.kp b_has_place
  have G_mask_of : DFn l.prog w K mg base 3 "mask_of" [] (spMaskOf C) := .of mo_mask_of (ok_mask_of F_mask_of n_sum n_enumerate Pr_places) g_mask_of F_mask_of.kp b_mask_of
  have G_lot_of : DFn l.prog w K mg base 3 "lot_of" [] (spLotOf C) := .of mo_lot_of (ok_lot_of F_lot_of n_tuple n_enumerate Pr_places (G_has_place.up (by decide))) g_lot_of F_lot_of.kp b_lot_of
  have G_lots_of : DFn l.prog w K mg base 4 "lots_of" [] (spLotsOf C) := .of mo_lots_of (ok_lots_of F_lots_of n_tuple n_sorted G_lot_of) g_lots_of F_lots_of.kp b_lots_of
  have G_do_masks_cross : DFn l.prog w K mg base 1 "do_masks_cross" [] spMasksCross := .of mo_masks_cross (ok_do_masks_cross F_do_masks_cross) g_do_masks_cross F_do_masks_cross.kp b_do_masks_cross
  have G_do_cross : DFn l.prog w K mg base 5 "do_cross" [] (spDoCross C) := .of mo_do_cross (ok_do_cross F_do_cross (Pr_places.up (j := 3) (by decide)) G__check_two (G_mask_of.up (by decide)) (G_do_masks_cross.up (by decide))) g_do_cross F_do_cross.kp b_do_cross
  have G_all_cuts : DFn l.prog w K mg base 5 "all_cuts" [] (spAllCuts C) := .of mo_all_cuts (ok_all_cuts F_all_cuts n_enumerate n_zip (Pr_places.up (j := 3) (by decide)) (Pr_ties.up (by decide)) Pr_degrees) g_all_cuts F_all_cuts.kp b_all_cuts
  have G_weakest : DFn l.prog w K mg base 6 "weakest" [] (spWeakest C) := .of mo_weakest (ok_weakest F_weakest n_len n_min n_range (Pr_places.up (j := 4) (by decide)) (G_check_net.up (by decide)) G_all_cuts (G_lots_of.up (by decide))) g_weakest F_weakest.kp b_weakest
  have OW : ∀ k, FnOk l.prog w K mg base CX0 (k + 1) _ _ ["value"] (spWord K) := fun k => ok_word F_is_word n_len n_isinstance n_str n_all gM gL
  have OI : ∀ k, FnOk l.prog w K mg base CX0 (k + 1) _ _ ["value"] spInt := fun k => ok_int F_is_integer n_isinstance n_int n_bool n_abs
  have OP : ∀ k, FnOk l.prog w K mg base CX0 (k + 2) _ _ ["value"] spPair := fun k => ok_pair F_is_pair (OW k) F_is_word.kp b_is_word g_is_word n_len n_isinstance n_tuple
  have OA := ok_arePl (base := base) (P := l.prog) (w := w) F__are_places (OW 1) F_is_word.kp b_is_word g_is_word n_len n_isinstance n_tuple n_all n_set gP
  have OT := ok_areTi (k := 1) (base := base) (P := l.prog) (w := w) F__are_ties (OP 0) F_is_pair.kp b_is_pair g_is_pair (OI 1) F_is_integer.kp b_is_integer g_is_integer n_isinstance n_dict n_all n_sum gT
  have OInit := ok_init (k := 0) (base := base) (P := l.prog) (w := w) F__init c0 n_places n_ties OA F__are_places.kp b__are_places g__are_places OT F__are_ties.kp b__are_ties g__are_ties n_sorted n_tuple
  have OR : ∀ k, FnOk l.prog w K mg base CX0 (k + 1) _ _ ["dice", "total"] spRoll := fun k => ok_roll F__law_roll n_int
  have OPk : ∀ k, FnOk l.prog w K mg base CX0 (k + 2) _ _ ["dice", "items"] spPick := fun k => ok_pick (k := k + 1) F__law_pick (OR k) F__law_roll.kp b__law_roll g__law_roll n_len
  have OS : ∀ k, FnOk l.prog w K mg base CX0 (k + 2) _ _ ["dice", "items", "size"] (spSome K) := fun k => ok_some (k := k + 1) F__law_some (OR k) F__law_roll.kp b__law_roll g__law_roll n_len n_list n_range n_min
  have OPL : ∀ k, FnOk l.prog w K mg base CX0 (k + 1) _ _ ["one", "other"] spPairL := fun k => ok_pairL F__law_pair
  have OPS : ∀ k, FnOk l.prog w K mg base CX0 (k + 1) _ _ ["places"] (spPairsL K) := fun k => ok_pairsL F__law_pairs
  have OWi : ∀ k, FnOk l.prog w K mg base CX0 (k + 1) _ _ ["net", "pair", "more"] spWith := fun k => ok_with F__law_with n_list n_dict
  have OK1 : FnOk l.prog w K mg base CX0 3 _ _ ["dice"] spNet := ok_known (k := 1) F__law_known_net (OPL 1) F__law_pair.kp b__law_pair g__law_pair (OPS 1) F__law_pairs.kp b__law_pairs g__law_pairs (OPk 0) F__law_pick.kp b__law_pick g__law_pick n_list n_dict n_range
  have ON : FnOk l.prog w K mg base CX0 4 _ _ ["dice"] spNet := ok_net (k := 1) F__law_net (OR 2) F__law_roll.kp b__law_roll g__law_roll (OPL 2) F__law_pair.kp b__law_pair g__law_pair (OPS 2) F__law_pairs.kp b__law_pairs g__law_pairs (OPk 1) F__law_pick.kp b__law_pick g__law_pick (OS 1) F__law_some.kp b__law_some g__law_some (OWi 2) F__law_with.kp b__law_with g__law_with OK1 F__law_known_net.kp b__law_known_net g__law_known_net n_sorted n_range n_len
  have G_is_integer : DFn l.prog w K mg base 1 "is_integer" [] spIntD := .of mo_intD ((OI 0).imp int_imp) g_is_integer F_is_integer.kp b_is_integer
  have G_lifted : DFn l.prog w K mg base 6 "lifted" [] (spLifted C) := .of mo_lifted (ok_lifted F_lifted n_len n_all n_range (G_is_integer.up (by decide)) (G_check_net.up (by decide)) (G_check_lot.up (by decide)) G_all_cuts (G_mask_of.up (by decide))) g_lifted F_lifted.kp b_lifted
  have G__law_roll : DFn l.prog w K mg base 1 "_law_roll" [] spRollD := .of mo_roll ((OR 0).imp roll_imp) g__law_roll F__law_roll.kp b__law_roll
  have G__law_net : DFn l.prog w K mg base 4 "_law_net" [] spNetD := .of mo_net (ON.imp net_imp) g__law_net F__law_net.kp b__law_net
  have G__law_cut : DFn l.prog w K mg base 1 "_law_cut" [] spLawCut := .of mo_law_cut (ok__law_cut F__law_cut n_sum) g__law_cut F__law_cut.kp b__law_cut
  have G__law_lot : DFn l.prog w K mg base 2 "_law_lot" [] spLawLot := .of mo_law_lot (ok__law_lot F__law_lot n_tuple G__law_roll) g__law_lot F__law_lot.kp b__law_lot
  have G__law_pick : DFn l.prog w K mg base 2 "_law_pick" [] spPickD := .of mo_pickD ((OPk 0).imp pick_imp) g__law_pick F__law_pick.kp b__law_pick
  have G__law_lots : DFn l.prog w K mg base 1 "_law_lots" [] spLawLots := .of mo_law_lots (ok__law_lots F__law_lots n_len n_sorted) g__law_lots F__law_lots.kp b__law_lots
  have G__law_parts : DFn l.prog w K mg base 1 "_law_parts" [] spLawParts := .of mo_law_parts (ok__law_parts F__law_parts) g__law_parts F__law_parts.kp b__law_parts
  have G_is_word : DFn l.prog w K mg base 1 "is_word" [] spWordD := .of mo_word ((OW 0).imp word_imp) g_is_word F_is_word.kp b_is_word
  have G_is_pair : DFn l.prog w K mg base 2 "is_pair" [] spPairD := .of mo_pair ((OP 0).imp pair_imp) g_is_pair F_is_pair.kp b_is_pair
  have G__tells_places : DFn l.prog w K mg base 2 "_tells_places" [] spTellsP := .of mo_tellsP (ok__tells_places F__tells_places n_all n_isinstance n_str G_is_word G_ascendsL) g__tells_places F__tells_places.kp b__tells_places
  have G__tells_ties : DFn l.prog w K mg base 3 "_tells_ties" [] spTellsT := .of mo_tellsT (ok__tells_ties F__tells_ties n_len n_range n_isinstance n_str G_is_pair) g__tells_ties F__tells_ties.kp b__tells_ties
  have Cm_read : DCm l.prog w K mg base 6 C "read" (fun xs Q => ∃ c r, xs = c :: r ∧ spReadC C c r Q) := ⟨mo_read, _, _, _, cr_read, cm_read, ok_read (k := 4) M_read mk_Net OInit b__init n_enumerate n_int n_tuple (G__tells_places.up (by decide)) (G__tells_ties.up (by decide))⟩
  have G__law_made : DFn l.prog w K mg base 6 "_law_made" [] (spLawMade C) := .of mo_made (ok__law_made (k := 4) F__law_made mk_Net OInit m_Net b__init n_dict n_list n_tuple) g__law_made F__law_made.kp b__law_made
  have G__law_right : DFn l.prog w K mg base 7 "_law_right" [] spLawRight := .of mo_law_right (ok__law_right (C := C) F__law_right n_list n_min n_range n_set n_sorted n_tuple (G__law_net.up (by decide)) G__law_made (G__law_lots.up (by decide)) (G__law_cut.up (by decide)) G_weakest (G_do_cross.up (by decide)) (G__law_lot.up (by decide)) (G__law_pick.up (by decide)) G_lifted (G__law_parts.up (by decide))) g__law_right F__law_right.kp b__law_right
  exact ok_law (k := 7) F_law (ok_dice (k := 6) F__law_dice n_len n_int n_abs n_max) F__law_dice.kp b__law_dice g__law_dice G__law_right (G_weakest.up (by decide)) (G_lifted.up (by decide)) ⟨Cm_read.mono, let ⟨a, b, c, d, e, f⟩ := Cm_read.ex; ⟨a, b, c, d, e, f.mono (by decide)⟩⟩ m_Net n_len n_range n_min n_max
end KP
open PySem PySem.W PyProof.Rows
set_option maxHeartbeats 0 in
theorem PySem.Challenge.cw_keptways_k13_whole_weakest_and_lifted_lo_holds : PySem.Challenge.rw_keptways_k13_whole_weakest_and_lifted_lo.Holds := by
  w_on; o_law; k_head; (case hw => w_witness2)
  k_fill
  refine L2.walk_of (l := PySem.Challenge.rw_keptways_k13_whole_weakest_and_lifted_lo) (n := 63) (k := 8) (x := "script") (CX := fun _ => L2.CX0) (sp := fun w => KP.spLaw _) rfl (by decide) rfl ⟨rfl, by decide, by decide⟩ (fun w h Y => PySem.W.kIn_of Y) ?F (fun _ _ a ns hl _ hS => ⟨a, ns, rfl, hS, hl, fun _ => rfl⟩) (fun _ _ _ _ _ h => h)
  case F =>
    intro w mg fa h KX G hmg
    refine' KP.all_mk KX G hmg ?a0 ?l0 ?c0 ?k0 ?a1 ?l1 ?c1 ?k1 ?a2 ?l2 ?c2 ?k2 ?a3 ?l3 ?c3 ?k3 ?a4 ?l4 ?c4 ?k4 ?a5 ?l5 ?c5 ?k5 ?a6 ?l6 ?c6 ?k6 ?a7 ?l7 ?c7 ?k7 ?a8 ?l8 ?c8 ?k8 ?a9 ?l9 ?c9 ?k9 ?a10 ?l10 ?c10 ?k10 ?a11 ?l11 ?c11 ?k11 ?a12 ?l12 ?c12 ?k12 ?a13 ?l13 ?c13 ?k13 ?a14 ?l14 ?c14 ?k14 ?a15 ?l15 ?c15 ?k15 ?a16 ?l16 ?c16 ?k16 ?a17 ?l17 ?c17 ?k17 ?a18 ?l18 ?c18 ?k18 ?a19 ?l19 ?c19 ?k19 ?a20 ?l20 ?c20 ?k20 ?a21 ?l21 ?c21 ?k21 ?a22 ?l22 ?c22 ?k22 ?a23 ?l23 ?c23 ?k23 ?a24 ?l24 ?c24 ?k24 ?a25 ?l25 ?c25 ?k25 ?a26 ?l26 ?c26 ?k26 ?a27 ?l27 ?c27 ?k27 ?a28 ?l28 ?c28 ?k28 ?a29 ?l29 ?c29 ?k29 ?a30 ?l30 ?c30 ?k30 ?a31 ?l31 ?c31 ?k31 ?a32 ?l32 ?c32 ?k32 ?a33 ?l33 ?c33 ?k33 ?a34 ?l34 ?c34 ?k34 ?a35 ?l35 ?c35 ?k35 ?a36 ?l36 ?c36 ?k36 ?aC ?cpg ?chd ?cpo ?csa ?cmk ?ckc ?iha ?ihn ?itk ?ihm ?n_places ?n_ties ?crd ?cga ?x0 ?y0 ?lm0 ?lT0 ?cm0 ?km0 ?x1 ?r1 ?y1 ?lm1 ?cm1 ?km1 ?x2 ?y2 ?w2 ?r2 ?lm2 ?cm2 ?km2 ?x3 ?y3 ?w3 ?r3 ?lm3 ?cm3 ?km3 ?x4 ?y4 ?w4 ?r4 ?lm4 ?cm4 ?km4 ?x5 ?y5 ?lm5 ?cm5 ?km5 ?x6 ?y6 ?lm6 ?cm6 ?km6 ?z0 ?z1 ?z2 ?z3 ?z4 ?z5 ?z6 ?z7 ?z8 ?z9 ?z10 ?z11 ?z12 ?z13 ?z14 ?z15 ?z16 ?z17 ?v0 ?v1 ?v2 ?v3
    (case a0 => k_is); (case l0 => k_is); (case c0 => k_is); (case k0 => k_is); (case a1 => k_is); (case l1 => k_is); (case c1 => k_is); (case k1 => k_is); (case a2 => k_is); (case l2 => k_is); (case c2 => k_is); (case k2 => k_is); (case a3 => k_is); (case l3 => k_is); (case c3 => k_is); (case k3 => k_is); (case a4 => k_is); (case l4 => k_is); (case c4 => k_is); (case k4 => k_is); (case a5 => k_is); (case l5 => k_is); (case c5 => k_is); (case k5 => k_is); (case a6 => k_is); (case l6 => k_is); (case c6 => k_is); (case k6 => k_is); (case a7 => k_is); (case l7 => k_is); (case c7 => k_is); (case k7 => k_is); (case a8 => k_is); (case l8 => k_is); (case c8 => k_is); (case k8 => k_is); (case a9 => k_is); (case l9 => k_is); (case c9 => k_is); (case k9 => k_is); (case a10 => k_is); (case l10 => k_is); (case c10 => k_is); (case k10 => k_is); (case a11 => k_is); (case l11 => k_is); (case c11 => k_is); (case k11 => k_is); (case a12 => k_is); (case l12 => k_is); (case c12 => k_is); (case k12 => k_is); (case a13 => k_is); (case l13 => k_is); (case c13 => k_is); (case k13 => k_is); (case a14 => k_is); (case l14 => k_is); (case c14 => k_is); (case k14 => k_is); (case a15 => k_is); (case l15 => k_is); (case c15 => k_is); (case k15 => k_is); (case a16 => k_is); (case l16 => k_is); (case c16 => k_is); (case k16 => k_is); (case a17 => k_is); (case l17 => k_is); (case c17 => k_is); (case k17 => k_is); (case a18 => k_is); (case l18 => k_is); (case c18 => k_is); (case k18 => k_is); (case a19 => k_is); (case l19 => k_is); (case c19 => k_is); (case k19 => k_is); (case a20 => k_is); (case l20 => k_is); (case c20 => k_is); (case k20 => k_is); (case a21 => k_is); (case l21 => k_is); (case c21 => k_is); (case k21 => k_is); (case a22 => k_is); (case l22 => k_is); (case c22 => k_is); (case k22 => k_is); (case a23 => k_is); (case l23 => k_is); (case c23 => k_is); (case k23 => k_is); (case a24 => k_is); (case l24 => k_is); (case c24 => k_is); (case k24 => k_is); (case a25 => k_is); (case l25 => k_is); (case c25 => k_is); (case k25 => k_is); (case a26 => k_is); (case l26 => k_is); (case c26 => k_is); (case k26 => k_is); (case a27 => k_is); (case l27 => k_is); (case c27 => k_is); (case k27 => k_is); (case a28 => k_is); (case l28 => k_is); (case c28 => k_is); (case k28 => k_is); (case a29 => k_is); (case l29 => k_is); (case c29 => k_is); (case k29 => k_is); (case a30 => k_is); (case l30 => k_is); (case c30 => k_is); (case k30 => k_is); (case a31 => k_is); (case l31 => k_is); (case c31 => k_is); (case k31 => k_is); (case a32 => k_is); (case l32 => k_is); (case c32 => k_is); (case k32 => k_is); (case a33 => k_is); (case l33 => k_is); (case c33 => k_is); (case k33 => k_is); (case a34 => k_is); (case l34 => k_is); (case c34 => k_is); (case k34 => k_is); (case a35 => k_is); (case l35 => k_is); (case c35 => k_is); (case k35 => k_is); (case a36 => k_is); (case l36 => k_is); (case c36 => k_is); (case k36 => k_is); (case aC => k_is); (case cpg => k_is); (case chd => k_is); (case cpo => k_is); (case csa => k_is); (case cmk => k_is); (case ckc => k_is); (case iha => k_is); (case ihn => k_is); (case itk => k_is); (case ihm => k_is); (case n_places => k_is); (case n_ties => k_is); (case crd => k_is); (case cga => k_is); (case x0 => k_is); (case y0 => k_is); (case lm0 => k_is); (case lT0 => k_is); (case cm0 => k_is); (case km0 => k_is); (case x1 => k_is); (case r1 => k_is); (case y1 => k_is); (case lm1 => k_is); (case cm1 => k_is); (case km1 => k_is); (case x2 => k_is); (case y2 => k_is); (case w2 => k_is); (case r2 => k_is); (case lm2 => k_is); (case cm2 => k_is); (case km2 => k_is); (case x3 => k_is); (case y3 => k_is); (case w3 => k_is); (case r3 => k_is); (case lm3 => k_is); (case cm3 => k_is); (case km3 => k_is); (case x4 => k_is); (case y4 => k_is); (case w4 => k_is); (case r4 => k_is); (case lm4 => k_is); (case cm4 => k_is); (case km4 => k_is); (case x5 => k_is); (case y5 => k_is); (case lm5 => k_is); (case cm5 => k_is); (case km5 => k_is); (case x6 => k_is); (case y6 => k_is); (case lm6 => k_is); (case cm6 => k_is); (case km6 => k_is); (case z0 => k_is); (case z1 => k_is); (case z2 => k_is); (case z3 => k_is); (case z4 => k_is); (case z5 => k_is); (case z6 => k_is); (case z7 => k_is); (case z8 => k_is); (case z9 => k_is); (case z10 => k_is); (case z11 => k_is); (case z12 => k_is); (case z13 => k_is); (case z14 => k_is); (case z15 => k_is); (case z16 => k_is); (case z17 => k_is); (case v0 => k_is); (case v1 => k_is); (case v2 => k_is); (case v3 => k_is)
