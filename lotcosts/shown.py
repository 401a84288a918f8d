"""What shown costs tell to a reader who knows no price."""

from lotcosts.errors import NotTold, Unfit
from lotcosts.forms import Form
from lotcosts.known import never_more
from lotcosts.ratios import Ratio
from lotcosts.span import Span


def _choices(many):
    """Return all ascending lists of numbers below this one, the shorter ones first."""
    choices = [[]]
    for number in range(many):
        choices = choices + [chosen + [number] for chosen in choices]
    return sorted(choices, key=len)


def _sum_of_products(numbers, others):
    return Ratio.sum_of([number * other for number, other in zip(numbers, others)])


class Shown:
    """Forms whose values are known, although no price is."""

    def __init__(self, forms):
        self._forms = list(forms)
        self._span = Span(self._forms)

    def weights(self, asked):
        """Return a weight for each shown form with which they add up to the asked one, or None."""
        return self._span.weights(asked)

    def unseen(self, asked):
        """Return a change of prices that changes the asked form and no shown one, or None if there is none."""
        change = self._span.change(asked)
        if change is None:
            return None
        names = [name for form in self._forms + [asked] for name in form.names()]
        return {name: change.get(name, Ratio(0)) for name in names}

    def needless(self):
        """Return the numbers of the shown forms that could be worked out from all others."""
        ties = self._span.ties()
        return [at for at in range(len(self._forms)) if any([not tie[at].same(0) for tie in ties])]

    def prices_told(self):
        """Return the ascending list of the names whose prices can be worked out."""
        return self._span.single_names()

    def value(self, asked, values):
        """Return the value of the asked form at these values of the shown ones; may raise Unfit or NotTold."""
        for factors in self._span.ties():
            if not _sum_of_products(factors, values).same(0):
                raise Unfit(factors)
        weights = self.weights(asked)
        if weights is None:
            raise NotTold()
        return _sum_of_products(weights, values)

    def fewest_more(self, asked, further):
        """Return the numbers of as few further forms as tell the asked one if they are shown, too, or None."""
        wanted = Form(self._span.rest(asked))
        rests = [Form(self._span.rest(form)) for form in further]
        for numbers in _choices(len(rests)):
            if not Span([rests[number] for number in numbers]).rest(wanted):
                return numbers
        return None

    def fewest_hidden(self, asked):
        """Return the numbers of as few shown forms as leave the asked one untold if they are hidden, or None."""
        for numbers in _choices(len(self._forms)):
            left = [form for number, form in enumerate(self._forms) if number not in numbers]
            if Span(left).rest(asked):
                return numbers
        return None


def fewest_comparisons(one, other, known, further):
    """Return the numbers of as few further comparisons as make one never greater than other, or None."""
    for numbers in _choices(len(further)):
        if never_more(one, other, known.extended([further[number] for number in numbers])) is None:
            return numbers
    return None
