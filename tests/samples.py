"""Values that several tests use."""

from endsahead import errors

SPOTS = ["", " ", "\n", "Name", "a b", "a\n", "_", "-1", "1.5", "x" * 20, "x" * 21, "1" * 9, "1" * 10, "0", "00", "07", "1x"]


def odd_values():
    """Return values of many sorts, none of them a tree, a row of words or a stock, but for ()."""
    plain = [None, True, False, 0, 1, -1, 10 ** 39, -(10 ** 39), [], {}, (), [[]], ((),), {"a": 1}, {"a": []}]
    members = [("a", 1, "b"), (None,), ("a", None), ((("a",),),), [("a",)], (("a", []),), ({},), ["a"]]
    made = [errors.NoWord(3), errors.Nothing(), errors.Wrong([1])]
    deep = ()
    for _ in range(39):
        deep = (deep,)
    return [*plain, *SPOTS, *members, *made, deep, [deep], "let" * 1000]
