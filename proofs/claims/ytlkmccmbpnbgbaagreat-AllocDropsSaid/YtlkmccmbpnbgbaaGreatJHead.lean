/-
 WORDS of a house, with Lent, Same, Kept.
-/
import Derived.Test.YtlkmccmbpnbgbaaGreatHKept
