"""Query languages, rules, queries, answers and closed trees."""
