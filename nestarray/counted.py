"""Lists of numbers told by one list: each with its count before it."""


def counted_lists(numbers):
    """The lists in order, None if there are other numbers than theirs."""
    lists = []
    start = 0
    while start < len(numbers):
        end = start + 1 + numbers[start]
        if numbers[start] < 0 or end > len(numbers):
            return None
        lists.append(numbers[start + 1:end])
        start = end
    return lists


def with_counts(lists):
    """The one list that tells the lists."""
    numbers = []
    for one in lists:
        numbers.extend([len(one)] + one)
    return numbers
